/-
  Contracts: what can be seen of a walk that went into no other one; New, Give, Break, Hold.
-/
import Derived.Test.YtihlfcggggloaaaWalk
namespace Go.Proofs.Ytihlfcggggloaaa
set_option maxRecDepth 100000
open Go.ChangeShapes Go.WideShapes Go.ChangeAt Go.RowKit

theorem nextIsThere' (fn : Fn) (fi ca : Array Value) (w : World) : (binOp .eql 96 (.func fn fi ca) .nilFunc).run Try.prog w = .ok (.bool false) w := by kernel_rfl

set_option maxHeartbeats 800000 in
theorem wAsker (m : Nat) (s : WSt) (w : World) (h : Wk w m s) (hs : s.sub = none) (fn : Fn) (fi ca : Array Value) (hn : s.nxt = .func fn fi ca) :
    Calls Try.prog 60 #[.pointer (some ⟨m, 0, none⟩)] w fun e w' => e = .returned (.pointer (some ⟨m, 0, none⟩)) ∧ w = w' := by
  obtain ⟨-, -, -, -, -, h5, h6, -, -, -, h10, -, -, -⟩ := h.at
  rw [hs] at h6
  rw [hn] at h5
  have hfn := nextIsThere'
  clear h hs hn
  cases ho : s.over
  all_goals
    rw [ho] at h10
    clear ho
    go_enter Try.func60, Try.ntmps60
    go_wp2
    refine wp_loop_rounds 1 ?_
    rw [rounds_succ]
    go_wp2
    go_ret
    exact ⟨rfl, rfl⟩
set_option maxHeartbeats 800000 in
theorem wAskerNone (m : Nat) (s : WSt) (w : World) (h : Wk w m s) (hs : s.sub = none) (hn : s.nxt = .nilFunc) :
    Calls Try.prog 60 #[.pointer (some ⟨m, 0, none⟩)] w fun e w' => e = .returned (.pointer none) ∧ w = w' := by
  obtain ⟨-, -, -, -, -, h5, h6, -, -, -, h10, -, -, -⟩ := h.at
  rw [hs] at h6
  rw [hn] at h5
  have hfn := nextIsNot
  clear h hs hn
  cases ho : s.over
  all_goals
    rw [ho] at h10
    clear ho
    go_enter Try.func60, Try.ntmps60
    go_wp2
    refine wp_loop_rounds 1 ?_
    rw [rounds_succ]
    go_wp2
    go_ret
    exact ⟨rfl, rfl⟩
theorem wAskerNil (w : World) :
    Calls Try.prog 60 #[.pointer none] w fun e w' => e = .returned (.pointer none) ∧ w = w' := by
  go_enter Try.func60, Try.ntmps60
  go_wp2
  refine wp_loop_rounds 1 ?_
  rw [rounds_succ]
  go_wp2
  go_ret
  exact ⟨rfl, rfl⟩

set_option maxHeartbeats 800000 in
theorem wWant (m : Nat) (s : WSt) (w : World) (h : Wk w m s) (hs : s.sub = none) (fn : Fn) (fi ca : Array Value) (hn : s.nxt = .func fn fi ca) :
    Calls Try.prog 48 #[.pointer (some ⟨m, 0, none⟩)] w fun e w' => e = .returned (.tuple #[s.x.val, .bool true]) ∧ Keeps [] w w' := by
  have HA := Lib.hid (fun W h => wAsker m s W h hs fn fi ca hn)
  obtain ⟨-, h1, h2, h3, h4, -⟩ := h.at
  have hlt := h.lt
  have HW := Lib.hid h
  clear h hs hn
  go_enter Try.func48, Try.ntmps48
  go_wp2_with fail
  refine (HA.out _ (HW.out.alloc _)).mono ?_
  rintro e w1 ⟨rfl, rfl⟩
  go_wp2
  refine bodyPost_ret (v := .tuple #[s.x.val, .bool true]) (by simp [results, Try.results48, go_sem]) rfl ⟨rfl, ?_⟩
  exact (Keeps.refl _ _).alloc _
theorem wWantNone (m : Nat) (s : WSt) (w : World) (h : Wk w m s) (hs : s.sub = none) (hn : s.nxt = .nilFunc) :
    Calls Try.prog 48 #[.pointer (some ⟨m, 0, none⟩)] w fun e w' => e = .returned (.tuple #[(⟨0, 0, 0, 0⟩ : C.Acc).val, .bool false]) ∧ Keeps [] w w' := by
  have HA := Lib.hid (fun W h => wAskerNone m s W h hs hn)
  have HW := Lib.hid h
  clear h hs hn
  go_enter Try.func48, Try.ntmps48
  go_wp2_with fail
  refine (HA.out _ (HW.out.alloc _)).mono ?_
  rintro e w1 ⟨rfl, rfl⟩
  go_wp2
  refine bodyPost_ret (v := .tuple #[(⟨0, 0, 0, 0⟩ : C.Acc).val, .bool false]) (by simp [results, Try.results48, go_sem]) rfl ⟨rfl, ?_⟩
  exact (Keeps.refl _ _).alloc _
theorem wWantNil (w : World) :
    Calls Try.prog 48 #[.pointer none] w fun e w' => e = .returned (.tuple #[(⟨0, 0, 0, 0⟩ : C.Acc).val, .bool false]) ∧ Keeps [] w w' := by
  have HA := Lib.hid (fun W => wAskerNil W)
  go_enter Try.func48, Try.ntmps48
  go_wp2_with fail
  refine (HA.out _).mono ?_
  rintro e w1 ⟨rfl, rfl⟩
  go_wp2
  refine bodyPost_ret (v := .tuple #[(⟨0, 0, 0, 0⟩ : C.Acc).val, .bool false]) (by simp [results, Try.results48, go_sem]) rfl ⟨rfl, ?_⟩
  exact (Keeps.refl _ _).alloc _

set_option maxHeartbeats 800000 in
theorem wResult (m : Nat) (s : WSt) (n : Nat) (us : List Int) (w : World) (h : Wk w m s) (ho : s.over = true) (hl : Sl w 1 s.l n (ints .u64 us)) (hn : n ≤ 10000000) :
    Calls Try.prog 36 #[.pointer (some ⟨m, 0, none⟩)] w fun e w' => ∃ l', e = .returned (.tuple #[.agg #[.int .i64 s.code, .int .u64 s.v, l'], .bool true]) ∧ w'.ownsRow w.heap.size 38 1 l' n (ints .u64 us) ∧ Keeps [] w w' := by
  have HC := Lib.hid (fun W h => wCopied s.code s.v s.l n us W h hn)
  obtain ⟨-, -, -, -, -, -, -, -, -, -, h10, h11, h12, h13⟩ := h.at
  rw [ho] at h10
  have hlt := h.lt
  have HL := Lib.hid hl
  clear h hl ho
  go_enter Try.func36, Try.ntmps36
  go_wp2_with fail
  have hR := Row.new w #[.int .i64 0, .int .u64 0, .slice none 0 0] 50
  refine (HC.out _ (HL.out.keeps ((Keeps.refl [] _).alloc _) (by simp))).mono ?_
  rintro e w1 ⟨l', rfl, ho, k1⟩
  obtain ⟨q, c', rfl⟩ := (Sl.of_owns ho).len
  have hR1 := hR.keeps k1 (by simp)
  have r0 := hR1.cell (j := 0) rfl
  have r1 := hR1.cell (j := 1) rfl
  have r2 := hR1.cell (j := 2) rfl
  have g0 := hR1.frozen 0
  have g1 := hR1.frozen 1
  have g2 := hR1.frozen 2
  have hsz : w.heap.size < w1.heap.size := hR1.lt
  have HO := Lib.hid ho
  have HK := Lib.hid (((Keeps.refl [] w).alloc _).trans k1)
  have HZ := Lib.hid (show ∀ g, (Value.slice q n c').ownBlock = some g → g ≠ w.heap.size from fun g hg => by have := (ho.lt g hg).1; simp at this; omega)
  clear hR hR1 ho k1
  go_wp2
  refine bodyPost_ret (v := .tuple #[.agg #[.int .i64 s.code, .int .u64 s.v, .slice q n c'], .bool true]) (by simp [results, Try.results36, go_sem, r0, r1, r2]) rfl ⟨_, rfl, ?_, ?_⟩
  · refine owns_base (owns_keeps (S := [w.heap.size]) HO.out ?_ ?_) (by simp)
    · exact (((Keeps.refl _ _).set (by simp) _ _).set (by simp) _ _).set (by simp) _ _
    · intro g hg
      simpa using HZ.out g hg
  · refine HK.out.step (S := [w.heap.size]) ?_ (by simp)
    exact (((Keeps.refl _ _).set (by simp) _ _).set (by simp) _ _).set (by simp) _ _
theorem wResultNot (m : Nat) (s : WSt) (w : World) (h : Wk w m s) (ho : s.over = false) :
    Calls Try.prog 36 #[.pointer (some ⟨m, 0, none⟩)] w fun e w' => e = .returned (.tuple #[.agg #[.int .i64 0, .int .u64 0, .slice none 0 0], .bool false]) ∧ Keeps [] w w' := by
  obtain ⟨-, -, -, -, -, -, -, -, -, -, h10, -, -, -⟩ := h.at
  rw [ho] at h10
  have hlt := h.lt
  clear h ho
  go_enter Try.func36, Try.ntmps36
  go_wp2
  refine bodyPost_ret (v := .tuple #[.agg #[.int .i64 0, .int .u64 0, .slice none 0 0], .bool false]) (by simp [results, Try.results36, go_sem]) rfl ⟨rfl, ?_⟩
  exact (Keeps.refl _ _).alloc _
theorem wResultNil (w : World) :
    Calls Try.prog 36 #[.pointer none] w fun e w' => e = .returned (.tuple #[.agg #[.int .i64 0, .int .u64 0, .slice none 0 0], .bool false]) ∧ Keeps [] w w' := by
  go_enter Try.func36, Try.ntmps36
  go_wp2
  refine bodyPost_ret (v := .tuple #[.agg #[.int .i64 0, .int .u64 0, .slice none 0 0], .bool false]) (by simp [results, Try.results36, go_sem]) rfl ⟨rfl, ?_⟩
  exact (Keeps.refl _ _).alloc _

theorem Wk.held {w : World} {m : Nat} {s : WSt} (h : Wk w m s) (t : Value) : Wk (w.setCell ⟨m, 0, none⟩ t) m { s with tasks := t } := Row.set h 0 _
theorem wHold (m : Nat) (s : WSt) (l : Value) (n : Nat) (us : List Int) (w : World) (h : Wk w m s) (hl : Sl w 1 l n (ints .u64 us)) (hn : n ≤ 10000000) :
    Calls Try.prog 67 #[.pointer (some ⟨m, 0, none⟩), l] w fun e w' => e = .returned (.tuple #[]) ∧ ∃ t, Wk w' m { s with tasks := t } ∧ w'.ownsRow w.heap.size 38 1 t n (ints .u64 us) ∧ Keeps [m] w w' := by
  have HC := Lib.hid (fun W h => cloneWords_sl l n us W h hn)
  have HL := Lib.hid hl
  have HW := Lib.hid h
  have hlt := h.lt
  clear h hl
  go_enter Try.func67, Try.ntmps67
  go_wp2_with fail
  refine (HC.out _ HL.out).mono ?_
  rintro e w1 ⟨t, rfl, ho, k1⟩
  obtain ⟨q, c', rfl⟩ := (Sl.of_owns ho).len
  have w1k := HW.out.keeps k1 (by simp)
  obtain ⟨a0, -⟩ := w1k.at
  have f0 := w1k.fr 0
  have HO := Lib.hid ho
  have HK := Lib.hid k1
  have HW1 := Lib.hid w1k
  have HZ := Lib.hid (show ∀ g, (Value.slice q n c').ownBlock = some g → g ≠ m from fun g hg => by have := (ho.lt g hg).1; omega)
  clear ho k1 w1k
  go_wp2
  first | go_end0 | refine bodyPost_ret (results_none rfl _ _ _) rfl ?_
  have k2 := (Keeps.refl [m] w1).set (m := m) (by simp) 0 (.slice q n c')
  exact ⟨rfl, _, HW1.out.held _, owns_keeps HO.out k2 (fun g hg => by simpa using HZ.out g hg), HK.out.nil.trans k2⟩
theorem wHoldNil (l : Value) (w : World) :
    Calls Try.prog 67 #[.pointer none, l] w fun e w' => e = .returned (.tuple #[]) ∧ w = w' := by
  go_enter Try.func67, Try.ntmps67
  go_wp2
  first | go_end0 | refine bodyPost_ret (results_none rfl _ _ _) rfl ?_
  exact ⟨rfl, rfl⟩

end Go.Proofs.Ytihlfcggggloaaa
