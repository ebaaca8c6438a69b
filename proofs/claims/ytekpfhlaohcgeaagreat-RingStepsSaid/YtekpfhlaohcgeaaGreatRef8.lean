/-
  Contracts: the parts of the document's frames of a ring.
-/
import Derived.Test.YtekpfhlaohcgeaaGreatSeen
import Derived.Test.YtekpfhlaohcgeaaGreatRgP
import Derived.Test.YtekpfhlaohcgeaaGreatDraw
import Derived.Test.YtekpfhlaohcgeaaGreatFresh
import Derived.IntWalk
import Derived.Deep.RegionLaw
namespace Go.Proofs.YtekpfhlaohcgeaaGreat
set_option maxRecDepth 100000
set_option linter.unusedSimpArgs false
set_option linter.unusedVariables false
open Go.ChangeShapes Go.WideShapes Go.ChangeAt Go.RowKit

/-- A frame of the document's: the state, and where its lists lie. -/
def rfCells (s : RgS) (tk : Value) (dn : Bool) (c v : Int) (l : Value) : List Value := [.int .i64 s.at_, .int .i64 s.size, .int .i64 s.kind, .int .u64 s.task, .int .i64 s.target, .int .i64 s.step, .int .u64 s.h, .int .u32 s.t, .int .u32 s.u, .int .i64 s.n, .int .i64 s.k, tk, .bool dn, .int .i64 c, .int .u64 v, l]

theorem rfLoad_any (x : Int) (w : World) : Calls Tryz.prog 119 #[.int .i64 x] w fun e w' => e = .returned (.agg #[.int .i64 1, .int .i64 x, .int .u64 0, .int .u64 0]) ∧ Keeps [] w w' := by
  go_enter Tryz.func119, Tryz.ntmps119
  go_wp2
  refine bodyPost_ret (v := .agg #[.int .i64 1, .int .i64 x, .int .u64 0, .int .u64 0]) (by simp [results, Tryz.results119, go_sem]) rfl ⟨rfl, (Keeps.refl _ _).alloc _⟩
theorem rfStore_any (x v : Int) (w : World) : Calls Tryz.prog 120 #[.int .i64 x, .int .u64 v] w fun e w' => e = .returned (.agg #[.int .i64 2, .int .i64 x, .int .u64 v, .int .u64 0]) ∧ Keeps [] w w' := by
  go_enter Tryz.func120, Tryz.ntmps120
  go_wp2
  refine bodyPost_ret (v := .agg #[.int .i64 2, .int .i64 x, .int .u64 v, .int .u64 0]) (by simp [results, Tryz.results120, go_sem]) rfl ⟨rfl, (Keeps.refl _ _).alloc _⟩
theorem rfSlot_any (q : Nat) (s : RgS) (tk l : Value) (dn : Bool) (c v a n : Int) (w : World) (h : Row w q 97 (rfCells s tk dn c v l)) (hr : dqRight a s.size) (hn : W32 n) :
    Calls Tryz.prog 121 #[.pointer (some ⟨q, 0, none⟩), .int .i64 a, .int .u32 n] w fun e w' => e = .returned (.int .i64 (dqSlot a s.size n)) ∧ w = w' := by
  obtain ⟨hs, a0, a1⟩ := hr
  obtain ⟨n0, n1⟩ := hn
  have c1 := h.cell (j := 1) rfl
  obtain ⟨size, hz⟩ : ∃ z, s.size = z := ⟨_, rfl⟩
  rw [hz] at c1 hs a1 ⊢
  have hs0 : 0 < size ∧ size ≤ 256 := by omega
  obtain ⟨r, hq⟩ : ∃ r, n % size = r := ⟨_, rfl⟩
  have q0 : 0 ≤ r := by rw [← hq]; exact Int.emod_nonneg n (by omega)
  have q1 : r < size := by rw [← hq]; exact Int.emod_lt_of_pos n (by omega)
  have HS : Hid (dqSlot a size n = a + 2 + r) := Lib.hid (by unfold dqSlot; rw [hq])
  rw [HS.out]
  have hw32 : IntKind.u32.wrap size = size := by show size % 4294967296 = size; omega
  clear hs h hz
  go_enter Tryz.func121, Tryz.ntmps121
  go_wp2
  go_ret
  exact ⟨rfl, rfl⟩
theorem rfS_any (q : Nat) (s : RgS) (tk l : Value) (dn : Bool) (c v : Int) (w : World) (h : Row w q 97 (rfCells s tk dn c v l)) (hu : M.U s.h) :
    Calls Tryz.prog 124 #[.pointer (some ⟨q, 0, none⟩)] w fun e w' => e = .returned (.int .u32 (rgHi s.h)) ∧ w = w' := by
  have c6 := h.cell (j := 6) rfl
  have HH := Lib.hid (fun W => refHi_any s.h W hu.nn hu)
  clear h
  go_enter Tryz.func124, Tryz.ntmps124
  go_wp2_with fail
  refine (HH.out w).mono ?_
  rintro e w1 ⟨rfl, rfl⟩
  go_wp2
  go_ret
  exact ⟨rfl, rfl⟩
theorem rfAt_any (q : Nat) (s : RgS) (tk l : Value) (dn : Bool) (c v : Int) (w : World) (h : Row w q 97 (rfCells s tk dn c v l)) (hu : M.U s.h) :
    Calls Tryz.prog 123 #[.pointer (some ⟨q, 0, none⟩)] w fun e w' => e = .returned (.int .u32 (rgLo s.h)) ∧ w = w' := by
  have c6 := h.cell (j := 6) rfl
  have HH := Lib.hid (fun W => refLo_any s.h W hu.nn)
  clear h
  go_enter Tryz.func123, Tryz.ntmps123
  go_wp2_with fail
  refine (HH.out w).mono ?_
  rintro e w1 ⟨rfl, rfl⟩
  go_wp2
  go_ret
  exact ⟨rfl, rfl⟩
set_option maxHeartbeats 1600000 in
theorem rfCas_any (q : Nat) (s : RgS) (tk l : Value) (dn : Bool) (c v x y : Int) (w : World) (h : Row w q 97 (rfCells s tk dn c v l)) (hx : W32 x) (hy : W32 y) :
    Calls Tryz.prog 122 #[.pointer (some ⟨q, 0, none⟩), .int .u32 x, .int .u32 y] w fun e w' => e = .returned (.agg #[.int .i64 3, .int .i64 s.at_, .int .u64 s.h, .int .u64 (rgPair x y)]) ∧ Keeps [] w w' := by
  have c0 := h.cell (j := 0) rfl
  have c6 := h.cell (j := 6) rfl
  obtain ⟨x0, x1⟩ := hx
  obtain ⟨y0, y1⟩ := hy
  have HH : Hid (∀ W, Calls Tryz.prog 22 #[.int .u32 x, .int .u32 y] W fun e w' => e = .returned (.int .u64 (rgPair x y)) ∧ W = w') := Lib.hid (fun W => refPair_any x y W x0 x1 y0 y1)
  have hlt := h.lt
  obtain ⟨W0, hW0⟩ : ∃ W0, w.alloc (.cells #[.int .i64 0, .int .i64 0, .int .u64 0, .int .u64 0] 78) = W0 := ⟨_, rfl⟩
  have k0 : Keeps [] w W0 := by rw [← hW0]; exact (Keeps.refl _ _).alloc _
  have r0 : Row W0 w.heap.size 78 [.int .i64 0, .int .i64 0, .int .u64 0, .int .u64 0] := by rw [← hW0]; exact Row.new _ _ _
  have d0 := (k0.cell (p := ⟨q, 0, none⟩) hlt (by simp)).trans c0
  have d6 := (k0.cell (p := ⟨q, 6, none⟩) hlt (by simp)).trans c6
  have q0 := r0.cell (j := 0) rfl
  have q1 := r0.cell (j := 1) rfl
  have q2 := r0.cell (j := 2) rfl
  have q3 := r0.cell (j := 3) rfl
  have e0 := r0.frozen 0
  have e1 := r0.frozen 1
  have e2 := r0.frozen 2
  have e3 := r0.frozen 3
  have hl0 := r0.lt
  have HK := Lib.hid k0
  clear h k0 r0
  go_enter Tryz.func122, Tryz.ntmps122
  go_wp2
  refine wp_region_mid 12 (by kernel_rfl) (by kernel_rfl) ?_
  simp only [List.take_succ_cons, List.take_zero, List.drop_succ_cons, List.drop_zero]
  repeat still_step
  still_call (stillOf (HH.out _))
  repeat still_step
  refine wpStill_nil ?_
  go_wp2
  show wpStill _ _ _ _ _ _
  repeat still_step
  refine wpStill_nil ?_
  go_wp2
  refine bodyPost_ret (v := .agg #[.int .i64 3, .int .i64 s.at_, .int .u64 s.h, .int .u64 (rgPair x y)]) (by simp [results, Tryz.results122, go_sem, q0, q1, q2, q3]) rfl ⟨rfl, ?_⟩
  exact HK.out.step (S := [w.heap.size]) (((((Keeps.refl _ _).set (by simp) _ _).set (by simp) _ _).set (by simp) _ _).set (by simp) _ _).drew (by simp)
theorem rfEnd_any (q : Nat) (s : RgS) (tk l : Value) (dn : Bool) (c v x : Int) (w : World) (h : Row w q 97 (rfCells s tk dn c v l)) :
    Calls Tryz.prog 43 #[.pointer (some ⟨q, 0, none⟩), .int .i64 x] w fun e w' => e = .returned (.tuple #[]) ∧ Row w' q 97 (rfCells s tk true x 0 (.slice none 0 0)) ∧ Keeps [q] w w' := by
  have h9 := h.cell (j := 12) rfl
  have h10 := h.cell (j := 13) rfl
  have h11 := h.cell (j := 14) rfl
  have h12 := h.cell (j := 15) rfl
  have f9 := h.frozen 12
  have f10 := h.frozen 13
  have f11 := h.frozen 14
  have f12 := h.frozen 15
  have HR := Lib.hid h
  clear h
  go_enter Tryz.func43, Tryz.ntmps43
  go_wp2
  first | go_end0 | refine bodyPost_ret (results_none rfl _ _ _) rfl ?_
  exact ⟨rfl, (((HR.out.set 12 (.bool true)).set 13 (.int .i64 x)).set 14 (.int .u64 0)).set 15 (.slice none 0 0), (((((Keeps.refl [q] w).set (by simp) _ _).set (by simp) _ _).set (by simp) _ _).set (by simp) _ _)⟩
end Go.Proofs.YtekpfhlaohcgeaaGreat
