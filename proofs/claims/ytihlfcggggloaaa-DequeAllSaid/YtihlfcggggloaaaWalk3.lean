/-
  Contracts: Give, Break and New at walks that went into no other one.
-/
import Derived.Test.YtihlfcggggloaaaWalk2
namespace Go.Proofs.Ytihlfcggggloaaa
set_option maxRecDepth 100000
open Go.ChangeShapes Go.WideShapes Go.ChangeAt Go.RowKit

theorem wGive1 (F : FuncId) (fi ca : Array Value) (v : Int) (won : Bool) (b0 b1 b2 : Nat) (w : World) (Q : Ending → World → Prop) (hQ : ∀ e w', Q e w' → e = .returned (.tuple #[])) (hcf : ∀ args w, (callFunc F args).run Try.prog w = .ok (.enter F args) w)
    (h2 : w.cell? ⟨b2, 0, none⟩ = some (.func (.func F) fi ca)) (h0 : w.cell? ⟨b0, 0, none⟩ = some (.int .u64 v)) (h1 : w.cell? ⟨b1, 0, none⟩ = some (.bool won))
    (hF : Calls Try.prog F (fi ++ (#[.int .u64 v, .bool won] ++ ca)) w Q) :
    Calls Try.prog 64 #[.pointer (some ⟨b2, 0, none⟩), .pointer (some ⟨b0, 0, none⟩), .pointer (some ⟨b1, 0, none⟩)] w Q := by
  have HF := Lib.hid hF
  have HQ := Lib.hid hQ
  clear hF hQ
  go_enter Try.func64, Try.ntmps64
  go_wp2_with fail
  refine HF.out.mono ?_
  intro e w1 hq
  obtain rfl := HQ.out _ _ hq
  have HQ1 := Lib.hid hq
  clear hq
  go_wp2
  go_end0
  exact HQ1.out

set_option maxHeartbeats 1600000 in
theorem wGive (m : Nat) (s : WSt) (F : FuncId) (fi ca : Array Value) (v : Int) (won : Bool) (w : World) (R : World → WSt → Prop) (h : Wk w m s) (hs : s.sub = none) (hn : s.nxt = .func (.func F) fi ca) (hu : s.under = 0)
    (hcf : ∀ args w, (callFunc F args).run Try.prog w = .ok (.enter F args) w)
    (hF : ∀ w1, Wk w1 m { s with nxt := .nilFunc, sub := none, after := .nilFunc, under := 1 } → Keeps [m] w w1 → Calls Try.prog F (fi ++ (#[.int .u64 v, .bool won] ++ ca)) w1 fun e w2 => e = .returned (.tuple #[]) ∧ ∃ s2, Wk w2 m s2 ∧ s2.under = 1 ∧ (s2.over = false ∨ s2.outer = .slice none 0 0) ∧ R w2 s2) :
    Calls Try.prog 50 #[.pointer (some ⟨m, 0, none⟩), .int .u64 v, .bool won] w fun e w' => e = .returned (.tuple #[]) ∧ ∃ w2 s2, R w2 s2 ∧ Keeps [m] w2 w' ∧ Wk w' m { s2 with under := 0 } := by
  have HA := Lib.hid (fun W h => wAsker m s W h hs (.func F) fi ca hn)
  have HL := Lib.hid (fun W h => wLeave m s W h hs)
  have HF := Lib.hid hF
  have HCF := Lib.hid hcf
  have HU := Lib.hid hu
  have HW := Lib.hid h
  have hlt := h.lt
  have h5 := h.at.2.2.2.2.2.1
  rw [hn] at h5
  clear hF hcf hu h hs hn
  go_enter Try.func50, Try.ntmps50
  go_wp2_with fail
  refine (HA.out _ ((HW.out.alloc _).alloc _)).mono ?_
  rintro e w0 ⟨rfl, rfl⟩
  go_wp2_with fail
  generalize hW : World.alloc _ _ = W1
  have k1 : Keeps [] w W1 := by rw [← hW]; exact (((Keeps.refl _ _).alloc _).alloc _).alloc _
  have w1 : Wk W1 m s := HW.out.keeps k1 (by simp)
  have b0 : Box W1 w.heap.size #[.int .u64 v] := by rw [← hW]; exact ((Box.new _ _ _).alloc _).alloc _
  have b1 : Box W1 (w.heap.size + 1) #[.bool won] := by rw [← hW]; have := (Box.new (w.alloc (.cells #[.int .u64 v] 38)) #[.bool won] 4).alloc (.cells #[.func (.func F) fi ca] 96); simpa using this
  have b2 : Box W1 (w.heap.size + 2) #[.func (.func F) fi ca] := by rw [← hW]; have := (Box.new ((w.alloc (.cells #[.int .u64 v] 38)).alloc (.cells #[.bool won] 4)) #[.func (.func F) fi ca] 96); simpa using this
  clear hW
  refine (HL.out _ w1).mono ?_
  rintro e w2 ⟨rfl, w2k, k2⟩
  have HK := Lib.hid (k1.nil.trans k2)
  have c0 := (b0.keeps k2 (by simp; omega))
  have c1 := (b1.keeps k2 (by simp; omega))
  have c2 := (b2.keeps k2 (by simp; omega))
  have HC0 := Lib.hid c0
  have HC1 := Lib.hid c1
  have HC2 := Lib.hid c2
  have HW2 := Lib.hid w2k
  clear k1 k2 w1 b0 b1 b2 c0 c1 c2 w2k h5
  have D := wDo m _ 64 #[.pointer (some ⟨w.heap.size + 2, 0, none⟩), .pointer (some ⟨w.heap.size, 0, none⟩), .pointer (some ⟨w.heap.size + 1, 0, none⟩)] w2 R HW2.out (by show 0 ≤ s.under; rw [HU.out]; exact Int.le_refl 0) (by show s.under ≤ 1000; rw [HU.out]; decide) (fun _ _ => by kernel_rfl) (fun w3 h3 k3 => wGive1 F fi ca v won _ _ _ w3 _ (fun _ _ h => h.1) HCF.out ((HC2.out.keeps k3 (by simp; omega)).cells 0) ((HC0.out.keeps k3 (by simp; omega)).cells 0) ((HC1.out.keeps k3 (by simp; omega)).cells 0)
    ((HF.out w3 (by have := h3; simpa [HU.out] using this) (HK.out.trans k3)).mono fun e w4 ⟨he, s2, a, b, c, d⟩ => ⟨he, s2, a, by simpa [HU.out] using b, by rcases c with c | c; exact .inl c; exact .inr (.inr c), d⟩))
  have HD := Lib.hid D
  clear D
  go_wp2_with fail
  refine HD.out.mono ?_
  rintro e w5 ⟨rfl, w4, s2, hR, k4, w5k⟩
  have HP := Lib.hid (show R w4 s2 ∧ Keeps [m] w4 w5 ∧ Wk w5 m { s2 with under := 0 } from ⟨hR, k4, by simpa [HU.out] using w5k⟩)
  clear hR k4 w5k
  go_wp2
  first | go_end0 | refine bodyPost_ret (results_none rfl _ _ _) rfl ?_
  exact ⟨rfl, _, _, HP.out⟩

theorem wGiveNone (m : Nat) (s : WSt) (v : Int) (won : Bool) (w : World) (h : Wk w m s) (hs : s.sub = none) (hn : s.nxt = .nilFunc) :
    Calls Try.prog 50 #[.pointer (some ⟨m, 0, none⟩), .int .u64 v, .bool won] w fun e w' => e = .returned (.tuple #[]) ∧ Keeps [] w w' := by
  have HA := Lib.hid (fun W h => wAskerNone m s W h hs hn)
  have HW := Lib.hid h
  clear h hs hn
  go_enter Try.func50, Try.ntmps50
  go_wp2_with fail
  refine (HA.out _ ((HW.out.alloc _).alloc _)).mono ?_
  rintro e w0 ⟨rfl, rfl⟩
  go_wp2
  first | go_end0 | refine bodyPost_ret (results_none rfl _ _ _) rfl ?_
  exact ⟨rfl, ((Keeps.refl _ _).alloc _).alloc _⟩
theorem wGiveNil (v : Int) (won : Bool) (w : World) :
    Calls Try.prog 50 #[.pointer none, .int .u64 v, .bool won] w fun e w' => e = .returned (.tuple #[]) ∧ Keeps [] w w' := by
  have HA := Lib.hid (fun W => wAskerNil W)
  go_enter Try.func50, Try.ntmps50
  go_wp2_with fail
  refine (HA.out _).mono ?_
  rintro e w0 ⟨rfl, rfl⟩
  go_wp2
  first | go_end0 | refine bodyPost_ret (results_none rfl _ _ _) rfl ?_
  exact ⟨rfl, ((Keeps.refl _ _).alloc _).alloc _⟩

theorem wEndOver (m : Nat) (s : WSt) (code v : Int) (l : Value) (w : World) (h : Wk w m s) (ho : s.over = true) :
    Calls Try.prog 61 #[.pointer (some ⟨m, 0, none⟩), .agg #[.int .i64 code, .int .u64 v, l]] w fun e w' => e = .returned (.tuple #[]) ∧ Keeps [] w w' := by
  obtain ⟨-, -, -, -, -, -, -, -, -, -, h10, -, -, -⟩ := h.at
  rw [ho] at h10
  have hlt := h.lt
  clear h ho
  go_enter Try.func61, Try.ntmps61
  go_wp2
  first | go_end0 | refine bodyPost_ret (results_none rfl _ _ _) rfl ?_
  exact ⟨rfl, (Keeps.refl _ _).alloc _⟩
theorem wEndNil (code v : Int) (l : Value) (w : World) :
    Calls Try.prog 61 #[.pointer none, .agg #[.int .i64 code, .int .u64 v, l]] w fun e w' => e = .returned (.tuple #[]) ∧ Keeps [] w w' := by
  go_enter Try.func61, Try.ntmps61
  go_wp2
  first | go_end0 | refine bodyPost_ret (results_none rfl _ _ _) rfl ?_
  exact ⟨rfl, (Keeps.refl _ _).alloc _⟩
theorem wBreak (m : Nat) (s : WSt) (code : Int) (w : World) (h : Wk w m s) (ho : s.over = false) (hc : 0 < s.under ∨ (s.under = 0 ∧ s.outer = .slice none 0 0)) :
    Calls Try.prog 49 #[.pointer (some ⟨m, 0, none⟩), .int .i64 code] w fun e w' => e = .returned (.tuple #[]) ∧ ∃ l',
      Wk w' m { s with nxt := .nilFunc, after := .nilFunc, over := true, code := code, v := 0, l := l' } ∧ w'.ownsRow w.heap.size 38 1 l' 0 [] ∧ Keeps [m] w w' := by
  have HE := Lib.hid (wEnd m s code 0 (.slice none 0 0) 0 [] w h ho hc ⟨rfl, .inl ⟨_, _, rfl, rfl⟩⟩ (fun g hg => by cases hg) (by omega))
  clear h ho hc
  go_enter Try.func49, Try.ntmps49
  go_wp2_with fail
  refine HE.out.mono ?_
  rintro e w1 ⟨rfl, l', hw, ho, hk⟩
  have HP := Lib.hid (⟨hw, ho, hk⟩ : _ ∧ _ ∧ _)
  clear hw ho hk
  go_wp2
  go_end0
  exact ⟨rfl, _, HP.out⟩
theorem wBreakOver (m : Nat) (s : WSt) (code : Int) (w : World) (h : Wk w m s) (ho : s.over = true) :
    Calls Try.prog 49 #[.pointer (some ⟨m, 0, none⟩), .int .i64 code] w fun e w' => e = .returned (.tuple #[]) ∧ Keeps [] w w' := by
  have HE := Lib.hid (wEndOver m s code 0 (.slice none 0 0) w h ho)
  clear h ho
  go_enter Try.func49, Try.ntmps49
  go_wp2_with fail
  refine HE.out.mono ?_
  rintro e w1 ⟨rfl, hk⟩
  go_wp2
  go_end0
  exact ⟨rfl, hk⟩
theorem wBreakNil (code : Int) (w : World) :
    Calls Try.prog 49 #[.pointer none, .int .i64 code] w fun e w' => e = .returned (.tuple #[]) ∧ Keeps [] w w' := by
  have HE := Lib.hid (wEndNil code 0 (.slice none 0 0) w)
  go_enter Try.func49, Try.ntmps49
  go_wp2_with fail
  refine HE.out.mono ?_
  rintro e w1 ⟨rfl, hk⟩
  go_wp2
  go_end0
  exact ⟨rfl, hk⟩

@[reducible] def WSt.zero : WSt := ⟨.slice none 0 0, ⟨0, 0, 0, 0⟩, .nilFunc, none, .nilFunc, .slice none 0 0, 0, false, 0, 0, .slice none 0 0⟩
theorem wNew1 (F : FuncId) (ca : Array Value) (m b0 b1 : Nat) (w : World) (Q : Ending → World → Prop) (hQ : ∀ e w', Q e w' → e = .returned (.tuple #[])) (hcf : ∀ args w, (callFunc F args).run Try.prog w = .ok (.enter F args) w)
    (h0 : w.cell? ⟨b0, 0, none⟩ = some (.func (.func F) #[] ca)) (h1 : w.cell? ⟨b1, 0, none⟩ = some (.pointer (some ⟨m, 0, none⟩)))
    (hF : Calls Try.prog F (#[.pointer (some ⟨m, 0, none⟩)] ++ ca) w Q) :
    Calls Try.prog 66 #[.pointer (some ⟨b0, 0, none⟩), .pointer (some ⟨b1, 0, none⟩)] w Q := by
  have HF := Lib.hid hF
  have HQ := Lib.hid hQ
  clear hF hQ
  go_enter Try.func66, Try.ntmps66
  go_wp2_with fail
  refine HF.out.mono ?_
  intro e w1 hq
  obtain rfl := HQ.out _ _ hq
  have HQ1 := Lib.hid hq
  clear hq
  go_wp2
  go_end0
  exact HQ1.out
theorem beginIsThere (fn : Fn) (fi ca : Array Value) (w : World) : (binOp .neq 102 (.func fn fi ca) .nilFunc).run Try.prog w = .ok (.bool true) w := by kernel_rfl

set_option maxHeartbeats 1600000 in
theorem wNew (F : FuncId) (ca : Array Value) (S : List Nat) (w : World) (R : World → WSt → Prop) (hS : ∀ k ∈ S, k < w.heap.size) (hcf : ∀ args w, (callFunc F args).run Try.prog w = .ok (.enter F args) w)
    (hF : ∀ w1, Wk w1 (w.heap.size + 1) { WSt.zero with under := 1 } → Keeps [] w w1 → Calls Try.prog F (#[.pointer (some ⟨w.heap.size + 1, 0, none⟩)] ++ ca) w1 fun e w2 => e = .returned (.tuple #[]) ∧ ∃ s2, Wk w2 (w.heap.size + 1) s2 ∧ s2.under = 1 ∧ (s2.over = false ∨ s2.outer = .slice none 0 0) ∧ Keeps ((w.heap.size + 1) :: S) w1 w2 ∧ R w2 s2) :
    Calls Try.prog 52 #[.func (.func F) #[] ca] w fun e w' => e = .returned (.pointer (some ⟨w.heap.size + 1, 0, none⟩)) ∧ ∃ w2 s2, R w2 s2 ∧ Keeps [w.heap.size + 1] w2 w' ∧ Keeps S w w2 ∧ Wk w' (w.heap.size + 1) { s2 with under := 0 } := by
  have HF := Lib.hid hF
  have HCF := Lib.hid hcf
  have HS := Lib.hid hS
  have hbn := beginIsThere
  clear hF hcf hS
  go_enter Try.func52, Try.ntmps52
  go_wp2_with fail
  generalize hW : World.alloc _ _ = W1
  have k1 : Keeps [] w W1 := by rw [← hW]; exact (((Keeps.refl _ _).alloc _).alloc _).alloc _
  have b0 : Box W1 w.heap.size #[.func (.func F) #[] ca] := by rw [← hW]; exact ((Box.new _ _ _).alloc _).alloc _
  have w1 : Wk W1 (w.heap.size + 1) WSt.zero := by
    rw [← hW]; have := (Row.new (w.alloc (.cells #[.func (.func F) #[] ca] 102)) WSt.zero.cells.toArray 99).alloc (.cells #[.pointer (some ⟨w.heap.size + 1, 0, none⟩)] 46); simpa [Wk] using this
  have b2 : Box W1 (w.heap.size + 2) #[.pointer (some ⟨w.heap.size + 1, 0, none⟩)] := by
    rw [← hW]; have := Box.new ((w.alloc (.cells #[.func (.func F) #[] ca] 102)).alloc (.cells WSt.zero.cells.toArray 99)) #[.pointer (some ⟨w.heap.size + 1, 0, none⟩)] 46; simpa using this
  have z1 : W1.heap.size = w.heap.size + 3 := by rw [← hW]; simp
  clear hW
  have D := wDo (w.heap.size + 1) WSt.zero 66 #[.pointer (some ⟨w.heap.size, 0, none⟩), .pointer (some ⟨w.heap.size + 2, 0, none⟩)] W1 (fun w2 s2 => R w2 s2 ∧ ∃ w1, Keeps [w.heap.size + 1] W1 w1 ∧ Keeps ((w.heap.size + 1) :: S) w1 w2) w1 (by decide) (by decide) (fun _ _ => by kernel_rfl)
    (fun w3 h3 k3 => wNew1 F ca (w.heap.size + 1) _ _ w3 _ (fun _ _ h => h.1) HCF.out ((b0.keeps k3 (by simp)).cells 0) ((b2.keeps k3 (by simp)).cells 0)
      ((HF.out w3 h3 ((k1.step k3 (by simp)))).mono fun e w4 ⟨he, s2, a, b, c, d, f⟩ => ⟨he, s2, a, b, by rcases c with c | c; exact .inl c; exact .inr (.inr c), f, w3, k3, d⟩))
  have HD := Lib.hid D
  have HB := Lib.hid b2
  have HK := Lib.hid k1
  clear D b0 b2 w1 k1
  refine HD.out.mono ?_
  rintro e w5 ⟨rfl, w4, s2, ⟨hR, w3, k3, k4⟩, k5, w5k⟩
  have kk : Keeps ((w.heap.size + 1) :: S) W1 w5 := ((k3.mono (by simp)).trans k4).trans (k5.mono (by simp))
  have hb := HB.out.keeps kk (by simp; intro hm; have := HS.out _ hm; omega)
  have hb0 := hb.cells 0
  have ks : Keeps S w w4 := by
    have h1 : Keeps ((w.heap.size + 1) :: S) w w4 := (HK.out.mono (by simp)).trans ((k3.mono (by simp)).trans k4)
    exact h1.mono (by intro k hk hl; simp at hk; rcases hk with rfl | hk; omega; exact hk)
  have HP := Lib.hid (show R w4 s2 ∧ Keeps [w.heap.size + 1] w4 w5 ∧ Keeps S w w4 ∧ Wk w5 (w.heap.size + 1) { s2 with under := 0 } from ⟨hR, k5, ks, w5k⟩)
  clear hR k3 k4 k5 ks w5k hb kk
  have hb1 : w5.cell? ⟨w.heap.size + 1 + 1, 0, none⟩ = some (.pointer (some ⟨w.heap.size + 1, 0, none⟩)) := hb0
  clear hb0
  go_wp2
  go_ret
  exact ⟨rfl, _, _, HP.out⟩
end Go.Proofs.Ytihlfcggggloaaa
