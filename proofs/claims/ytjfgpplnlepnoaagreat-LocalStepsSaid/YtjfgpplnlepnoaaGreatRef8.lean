import Derived.Test.YtjfgpplnlepnoaaGreatSeen
import Derived.Test.YtjfgpplnlepnoaaGreatRgP
import Derived.Test.YtjfgpplnlepnoaaGreatDraw
import Derived.Test.YtjfgpplnlepnoaaGreatFresh
import Derived.IntWalk
import Derived.Deep.RegionLaw
/-
  Contracts: the parts of the document's frames of a ring.
-/
namespace Go.Proofs.YtjfgpplnlepnoaaGreat
set_option maxRecDepth 100000
set_option linter.unusedSimpArgs false
set_option linter.unusedVariables false
open Go.ChangeShapes Go.WideShapes Go.ChangeAt Go.RowKit

/-- A frame of the document's: the state, and where its lists lie. -/
def rfCells (s : RgS) (tk : Value) (dn : Bool) (c v : Int) (l : Value) : List Value := [.int .i64 s.at_, .int .i64 s.size, .int .i64 s.kind, .int .u64 s.task, .int .i64 s.target, .int .i64 s.step, .int .u64 s.h, .int .u32 s.t, .int .u32 s.u, .int .i64 s.n, .int .i64 s.k, tk, .bool dn, .int .i64 c, .int .u64 v, l]

theorem rfLoad_any (x : Int) (w : World) : Calls Tryz.prog 185 #[.int .i64 x] w fun e w' => e = .returned (.agg #[.int .i64 1, .int .i64 x, .int .u64 0, .int .u64 0]) ∧ Keeps [] w w' := by
  go_enter Tryz.func185, Tryz.ntmps185
  go_wp2
  refine bodyPost_ret (v := .agg #[.int .i64 1, .int .i64 x, .int .u64 0, .int .u64 0]) (by simp [results, Tryz.results185, go_sem]) rfl ⟨rfl, (Keeps.refl _ _).alloc _⟩
theorem rfStore_any (x v : Int) (w : World) : Calls Tryz.prog 186 #[.int .i64 x, .int .u64 v] w fun e w' => e = .returned (.agg #[.int .i64 2, .int .i64 x, .int .u64 v, .int .u64 0]) ∧ Keeps [] w w' := by
  go_enter Tryz.func186, Tryz.ntmps186
  go_wp2
  refine bodyPost_ret (v := .agg #[.int .i64 2, .int .i64 x, .int .u64 v, .int .u64 0]) (by simp [results, Tryz.results186, go_sem]) rfl ⟨rfl, (Keeps.refl _ _).alloc _⟩
theorem rfSlot_any (q : Nat) (s : RgS) (tk l : Value) (dn : Bool) (c v a n : Int) (w : World) (h : Row w q 155 (rfCells s tk dn c v l)) (hr : dqRight a s.size) (hn : W32 n) :
    Calls Tryz.prog 187 #[.pointer (some ⟨q, 0, none⟩), .int .i64 a, .int .u32 n] w fun e w' => e = .returned (.int .i64 (dqSlot a s.size n)) ∧ w = w' := by
  obtain ⟨hs, a0, a1⟩ := hr
  obtain ⟨n0, n1⟩ := hn
  have c1 := h.cell (j := 1) rfl
  obtain ⟨size, hz⟩ : ∃ z, s.size = z := ⟨_, rfl⟩
  rw [hz] at c1 hs a1 ⊢
  have hs0 : 0 < size ∧ size ≤ 256 := by omega
  obtain ⟨r, hq⟩ : ∃ r, n % size = r := ⟨_, rfl⟩
  have q0 : 0 ≤ r := by rw [← hq]; exact Int.emod_nonneg n (by omega)
  have q1 : r < size := by rw [← hq]; exact Int.emod_lt_of_pos n (by omega)
  have HS : Hid (dqSlot a size n = a + 2 + r) := Lib.hid (by unfold dqSlot; rw [hq])
  rw [HS.out]
  have hw32 : IntKind.u32.wrap size = size := by show size % 4294967296 = size; omega
  clear hs h hz
  go_enter Tryz.func187, Tryz.ntmps187
  go_wp2
  go_ret
  exact ⟨rfl, rfl⟩
theorem rfS_any (q : Nat) (s : RgS) (tk l : Value) (dn : Bool) (c v : Int) (w : World) (h : Row w q 155 (rfCells s tk dn c v l)) (hu : M.U s.h) :
    Calls Tryz.prog 190 #[.pointer (some ⟨q, 0, none⟩)] w fun e w' => e = .returned (.int .u32 (rgHi s.h)) ∧ w = w' := by
  have c6 := h.cell (j := 6) rfl
  have HH := Lib.hid (fun W => refHi_any s.h W hu.nn hu)
  clear h
  go_enter Tryz.func190, Tryz.ntmps190
  go_wp2_with fail
  refine (HH.out w).mono ?_
  rintro e w1 ⟨rfl, rfl⟩
  go_wp2
  go_ret
  exact ⟨rfl, rfl⟩
theorem rfAt_any (q : Nat) (s : RgS) (tk l : Value) (dn : Bool) (c v : Int) (w : World) (h : Row w q 155 (rfCells s tk dn c v l)) (hu : M.U s.h) :
    Calls Tryz.prog 189 #[.pointer (some ⟨q, 0, none⟩)] w fun e w' => e = .returned (.int .u32 (rgLo s.h)) ∧ w = w' := by
  have c6 := h.cell (j := 6) rfl
  have HH := Lib.hid (fun W => refLo_any s.h W hu.nn)
  clear h
  go_enter Tryz.func189, Tryz.ntmps189
  go_wp2_with fail
  refine (HH.out w).mono ?_
  rintro e w1 ⟨rfl, rfl⟩
  go_wp2
  go_ret
  exact ⟨rfl, rfl⟩
set_option maxHeartbeats 1600000 in
theorem rfCas_any (q : Nat) (s : RgS) (tk l : Value) (dn : Bool) (c v x y : Int) (w : World) (h : Row w q 155 (rfCells s tk dn c v l)) (hx : W32 x) (hy : W32 y) :
    Calls Tryz.prog 188 #[.pointer (some ⟨q, 0, none⟩), .int .u32 x, .int .u32 y] w fun e w' => e = .returned (.agg #[.int .i64 3, .int .i64 s.at_, .int .u64 s.h, .int .u64 (rgPair x y)]) ∧ Keeps [] w w' := by
  have c0 := h.cell (j := 0) rfl
  have c6 := h.cell (j := 6) rfl
  obtain ⟨x0, x1⟩ := hx
  obtain ⟨y0, y1⟩ := hy
  have HH : Hid (∀ W, Calls Tryz.prog 202 #[.int .u32 x, .int .u32 y] W fun e w' => e = .returned (.int .u64 (rgPair x y)) ∧ W = w') := Lib.hid (fun W => refPair_any x y W x0 x1 y0 y1)
  have hlt := h.lt
  obtain ⟨W0, hW0⟩ : ∃ W0, w.alloc (.cells #[.int .i64 0, .int .i64 0, .int .u64 0, .int .u64 0] 107) = W0 := ⟨_, rfl⟩
  have k0 : Keeps [] w W0 := by rw [← hW0]; exact (Keeps.refl _ _).alloc _
  have r0 : Row W0 w.heap.size 107 [.int .i64 0, .int .i64 0, .int .u64 0, .int .u64 0] := by rw [← hW0]; exact Row.new _ _ _
  have d0 := (k0.cell (p := ⟨q, 0, none⟩) hlt (by simp)).trans c0
  have d6 := (k0.cell (p := ⟨q, 6, none⟩) hlt (by simp)).trans c6
  have q0 := r0.cell (j := 0) rfl
  have q1 := r0.cell (j := 1) rfl
  have q2 := r0.cell (j := 2) rfl
  have q3 := r0.cell (j := 3) rfl
  have e0 := r0.frozen 0
  have e1 := r0.frozen 1
  have e2 := r0.frozen 2
  have e3 := r0.frozen 3
  have hl0 := r0.lt
  have HK := Lib.hid k0
  clear h k0 r0
  go_enter Tryz.func188, Tryz.ntmps188
  go_wp2
  refine wp_region_mid 12 (by kernel_rfl) (by kernel_rfl) ?_
  simp only [List.take_succ_cons, List.take_zero, List.drop_succ_cons, List.drop_zero]
  repeat still_step
  still_call (stillOf (HH.out _))
  repeat still_step
  refine wpStill_nil ?_
  go_wp2
  show wpStill _ _ _ _ _ _
  repeat still_step
  refine wpStill_nil ?_
  go_wp2
  refine bodyPost_ret (v := .agg #[.int .i64 3, .int .i64 s.at_, .int .u64 s.h, .int .u64 (rgPair x y)]) (by simp [results, Tryz.results188, go_sem, q0, q1, q2, q3]) rfl ⟨rfl, ?_⟩
  exact HK.out.step (S := [w.heap.size]) (((((Keeps.refl _ _).set (by simp) _ _).set (by simp) _ _).set (by simp) _ _).set (by simp) _ _).drew (by simp)
theorem rfEnd_any (q : Nat) (s : RgS) (tk l : Value) (dn : Bool) (c v x : Int) (w : World) (h : Row w q 155 (rfCells s tk dn c v l)) :
    Calls Tryz.prog 88 #[.pointer (some ⟨q, 0, none⟩), .int .i64 x] w fun e w' => e = .returned (.tuple #[]) ∧ Row w' q 155 (rfCells s tk true x 0 (.slice none 0 0)) ∧ Keeps [q] w w' := by
  have h9 := h.cell (j := 12) rfl
  have h10 := h.cell (j := 13) rfl
  have h11 := h.cell (j := 14) rfl
  have h12 := h.cell (j := 15) rfl
  have f9 := h.frozen 12
  have f10 := h.frozen 13
  have f11 := h.frozen 14
  have f12 := h.frozen 15
  have HR := Lib.hid h
  clear h
  go_enter Tryz.func88, Tryz.ntmps88
  go_wp2
  first | go_end0 | refine bodyPost_ret (results_none rfl _ _ _) rfl ?_
  exact ⟨rfl, (((HR.out.set 12 (.bool true)).set 13 (.int .i64 x)).set 14 (.int .u64 0)).set 15 (.slice none 0 0), (((((Keeps.refl [q] w).set (by simp) _ _).set (by simp) _ _).set (by simp) _ _).set (by simp) _ _)⟩
end Go.Proofs.YtjfgpplnlepnoaaGreat

/-
  Contracts: what a document's frame of a ring is told (Push and Pop).
-/
namespace Go.Proofs.YtjfgpplnlepnoaaGreat
set_option maxRecDepth 100000
set_option linter.unusedSimpArgs false
set_option linter.unusedVariables false
open Go.ChangeShapes Go.WideShapes Go.ChangeAt Go.RowKit

/-- Where a frame leads. -/
def RfGoes (q : Nat) (w : World) (s : RgS) (tk : Value) (w' : World) : Prop := ∃ dn c v l, Row w' q 155 (rfCells s tk dn c v l) ∧ Keeps [q] w w' ∧ (s.over = none → dn = false ∧ c = 0 ∧ v = 0 ∧ l = .slice none 0 0) ∧ ∀ r, s.over = some r → r.l = [] → dn = true ∧ c = r.code ∧ v = r.v ∧ l = .slice none 0 0
set_option maxHeartbeats 6400000 in
theorem rfPopGive (q : Nat) (s : RgS) (tk : Value) (x : Int) (won : Bool) (w : World) (h : Row w q 155 (rfCells s tk false 0 0 (.slice none 0 0))) (ho : s.over = none) (hst : s.step = 1 ∨ s.step = 2 ∨ s.step = 3 ∨ s.step = 4) (hu : M.U s.h) (hx : M.U x) :
    Calls Tryz.prog 157 #[.pointer (some ⟨q, 0, none⟩), .int .u64 x, .bool won] w fun e w' => e = .returned (.tuple #[]) ∧ RfGoes q w (rgPopGive s x won) tk w' := by
  obtain ⟨at_, size, kind, task, target, step, hd, t, u, n, k, took, over⟩ := s
  simp only at ho hst hu
  subst ho
  have c5 := h.cell (j := 5) rfl
  have c6 := h.cell (j := 6) rfl
  have f5 := h.frozen 5
  have f6 := h.frozen 6
  simp only at c5 c6
  have HR := Lib.hid h
  have hlx := rgLo_range x
  have hlh := rgLo_range hd
  have HE := Lib.hid (fun s dn c v l y W h => rfEnd_any q s tk l dn c v y W h)
  rcases hst with rfl | rfl | rfl | rfl
  · have hrow := (h.set 6 (.int .u64 x)).set 5 (.int .i64 2)
    have HRow : Hid (Row ((w.setCell ⟨q, 6, none⟩ (.int .u64 x)).setCell ⟨q, 5, none⟩ (.int .i64 2)) q 155 (rfCells ⟨at_, size, kind, task, target, 2, x, t, u, n, k, took, none⟩ tk false 0 0 (.slice none 0 0))) := Lib.hid hrow
    have HG : Hid (rgPopGive ⟨at_, size, kind, task, target, 1, hd, t, u, n, k, took, none⟩ x won = ⟨at_, size, kind, task, target, 2, x, t, u, n, k, took, none⟩) := Lib.hid (by simp [rgPopGive])
    rw [HG.out]
    clear h hrow
    go_enter Tryz.func157, Tryz.ntmps157
    go_wp2
    first | go_end0 | refine bodyPost_ret (results_none rfl _ _ _) rfl ?_
    exact ⟨rfl, _, _, _, _, HRow.out, ((Keeps.refl [q] w).set (by simp) _ _).set (by simp) _ _, fun _ => ⟨rfl, rfl, rfl, rfl⟩, fun r h => by cases h⟩
  · obtain ⟨W1, hW1⟩ : ∃ W1, w.setCell ⟨q, 5, none⟩ (.int .i64 3) = W1 := ⟨_, rfl⟩
    have k1 : Keeps [q] w W1 := by rw [← hW1]; exact (Keeps.refl _ _).set (by simp) _ _
    have r1 : Row W1 q 155 (rfCells ⟨at_, size, kind, task, target, 3, hd, t, u, n, k, took, none⟩ tk false 0 0 (.slice none 0 0)) := by rw [← hW1]; exact h.set 5 _
    have HRow := Lib.hid r1
    have HK := Lib.hid k1
    have HA := Lib.hid (rfAt_any q _ _ _ _ _ _ W1 r1 hu)
    have HLo : Hid (∀ W, Calls Tryz.prog 117 #[.int .u64 x] W fun e w' => e = .returned (.int .u32 (rgLo x)) ∧ W = w') := Lib.hid (fun W => refLo_any x W hx.nn)
    have HAh := Lib.hid (fun W => refAhead_any (rgLo x) (rgLo hd) W hlx.1 hlx.2 hlh.1 hlh.2)
    by_cases hA : M.aheadI (rgLo x) (rgLo hd) < 1
    · have HG : Hid (rgPopGive ⟨at_, size, kind, task, target, 2, hd, t, u, n, k, took, none⟩ x won = ⟨at_, size, kind, task, target, 3, hd, t, u, n, k, took, some ⟨5, 0, []⟩⟩) := Lib.hid (by simp [rgPopGive, hA])
      rw [HG.out]
      have dA : decide (M.aheadI (rgLo x) (rgLo hd) < 1) = true := decide_eq_true hA
      have HN := Lib.hid (HE.out _ _ _ _ _ 5 W1 r1)
      clear h k1 r1
      go_enter Tryz.func157, Tryz.ntmps157
      go_wp2_with (first | (go_at_call 117; refine (HLo.out _).mono ?_; rintro e w2 ⟨rfl, rfl⟩) | (go_at_call 189; refine (HA.out).mono ?_; rintro e w2 ⟨rfl, rfl⟩) | (go_at_call 118; refine (HAh.out _).mono ?_; rintro e w2 ⟨rfl, rfl⟩) | fail)
      refine HN.out.mono ?_
      rintro e w2 ⟨rfl, r2, k2⟩
      have HQ := Lib.hid (⟨r2, k2⟩ : _ ∧ _)
      clear r2 k2
      go_wp2
      first | go_end0 | refine bodyPost_ret (results_none rfl _ _ _) rfl ?_
      exact ⟨rfl, _, _, _, _, HQ.out.1, HK.out.trans HQ.out.2, fun h => (by cases h), fun r h _ => (by cases h; exact ⟨rfl, rfl, rfl, rfl⟩)⟩
    · have HG : Hid (rgPopGive ⟨at_, size, kind, task, target, 2, hd, t, u, n, k, took, none⟩ x won = ⟨at_, size, kind, task, target, 3, hd, t, u, n, k, took, none⟩) := Lib.hid (by simp [rgPopGive, hA])
      rw [HG.out]
      have dA : decide (M.aheadI (rgLo x) (rgLo hd) < 1) = false := decide_eq_false hA
      clear h k1 r1
      go_enter Tryz.func157, Tryz.ntmps157
      go_wp2_with (first | (go_at_call 117; refine (HLo.out _).mono ?_; rintro e w2 ⟨rfl, rfl⟩) | (go_at_call 189; refine (HA.out).mono ?_; rintro e w2 ⟨rfl, rfl⟩) | (go_at_call 118; refine (HAh.out _).mono ?_; rintro e w2 ⟨rfl, rfl⟩) | fail)
      first | go_end0 | refine bodyPost_ret (results_none rfl _ _ _) rfl ?_
      exact ⟨rfl, _, _, _, _, HRow.out, HK.out, fun _ => ⟨rfl, rfl, rfl, rfl⟩, fun r h => by cases h⟩
  · cases won with
    | true =>
      have HRow : Hid (Row (w.setCell ⟨q, 5, none⟩ (.int .i64 4)) q 155 (rfCells ⟨at_, size, kind, task, target, 4, hd, t, u, n, k, took, none⟩ tk false 0 0 (.slice none 0 0))) := Lib.hid (h.set 5 _)
      have HG : Hid (rgPopGive ⟨at_, size, kind, task, target, 3, hd, t, u, n, k, took, none⟩ x true = ⟨at_, size, kind, task, target, 4, hd, t, u, n, k, took, none⟩) := Lib.hid (by simp [rgPopGive])
      rw [HG.out]
      clear h
      go_enter Tryz.func157, Tryz.ntmps157
      go_wp2
      first | go_end0 | refine bodyPost_ret (results_none rfl _ _ _) rfl ?_
      exact ⟨rfl, _, _, _, _, HRow.out, (Keeps.refl [q] w).set (by simp) _ _, fun _ => ⟨rfl, rfl, rfl, rfl⟩, fun r h => by cases h⟩
    | false =>
      have HRow : Hid (Row (((w.setCell ⟨q, 5, none⟩ (.int .i64 4)).setCell ⟨q, 6, none⟩ (.int .u64 x)).setCell ⟨q, 5, none⟩ (.int .i64 2)) q 155 (rfCells ⟨at_, size, kind, task, target, 2, x, t, u, n, k, took, none⟩ tk false 0 0 (.slice none 0 0))) := Lib.hid (((h.set 5 _).set 6 _).set 5 _)
      have HG : Hid (rgPopGive ⟨at_, size, kind, task, target, 3, hd, t, u, n, k, took, none⟩ x false = ⟨at_, size, kind, task, target, 2, x, t, u, n, k, took, none⟩) := Lib.hid (by simp [rgPopGive])
      rw [HG.out]
      clear h
      go_enter Tryz.func157, Tryz.ntmps157
      go_wp2
      first | go_end0 | refine bodyPost_ret (results_none rfl _ _ _) rfl ?_
      exact ⟨rfl, _, _, _, _, HRow.out, ((((Keeps.refl [q] w).set (by simp) _ _).set (by simp) _ _).set (by simp) _ _), fun _ => ⟨rfl, rfl, rfl, rfl⟩, fun r h => by cases h⟩
  · have HG : Hid (rgPopGive ⟨at_, size, kind, task, target, 4, hd, t, u, n, k, took, none⟩ x won = ⟨at_, size, kind, task, target, 4, hd, t, u, n, k, took, some ⟨0, x, []⟩⟩) := Lib.hid (by simp [rgPopGive])
    rw [HG.out]
    have HN := Lib.hid (HE.out _ _ _ _ _ 0 w h)
    clear h
    go_enter Tryz.func157, Tryz.ntmps157
    go_wp2_with fail
    refine HN.out.mono ?_
    rintro e w2 ⟨rfl, r2, k2⟩
    have c14 := r2.cell (j := 14) rfl
    have f14 := r2.frozen 14
    have HQ := Lib.hid (⟨r2.set 14 (.int .u64 x), k2⟩ : _ ∧ _)
    clear r2 k2
    go_wp2
    first | go_end0 | refine bodyPost_ret (results_none rfl _ _ _) rfl ?_
    exact ⟨rfl, _, _, _, _, HQ.out.1, HQ.out.2.set (by simp) _ _, fun h => (by cases h), fun r h _ => (by cases h; exact ⟨rfl, rfl, rfl, rfl⟩)⟩
end Go.Proofs.YtjfgpplnlepnoaaGreat
