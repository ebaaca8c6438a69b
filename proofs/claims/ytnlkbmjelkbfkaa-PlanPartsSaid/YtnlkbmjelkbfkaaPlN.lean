import Derived.Test.YtnlkbmjelkbfkaaPlM
import Derived.Test.YtnlkbmjelkbfkaaRef9z
/-
  Contracts: where all parts of a pool stand (the exported ones that call others).
-/
namespace Go.Proofs.Ytnlkbmjelkbfkaa
set_option maxRecDepth 100000
set_option linter.unusedSimpArgs false
set_option linter.unusedVariables false
open Go.ChangeShapes Go.WideShapes Go.ChangeAt Go.RowKit

set_option maxHeartbeats 1600000 in
theorem plNew_fine (W K S N : Int) (w : World) (hS : -9223372036854775808 ≤ S) (h : plRight W K S N) :
    Calls Try.prog 7 #[plV W K S N] w fun e w' => e = .returned (.tuple #[plV W K S N, .int .i64 0]) ∧ Keeps [] w w' := by
  have HR := Lib.hid (fun Wx => plRight_any W K S N Wx hS)
  rw [decide_eq_true h] at HR
  clear h hS
  obtain ⟨W1, hW1⟩ : ∃ W1, w.alloc (.cells #[.int .i64 W, .int .i64 K, .int .i64 S, .int .i64 N] 23) = W1 := ⟨_, rfl⟩
  have hb : Box W1 w.heap.size #[.int .i64 W, .int .i64 K, .int .i64 S, .int .i64 N] := by rw [← hW1]; exact Box.new _ _ _
  have hk1 : Keeps [] w W1 := by rw [← hW1]; exact (Keeps.refl _ _).alloc _
  have HX := Lib.hid (fun Wx (k : Keeps [] W1 Wx) => show Wx.cell? ⟨w.heap.size, 0, none⟩ = some (.int .i64 W) ∧ Wx.cell? ⟨w.heap.size, 1, none⟩ = some (.int .i64 K) ∧ Wx.cell? ⟨w.heap.size, 2, none⟩ = some (.int .i64 S) ∧ Wx.cell? ⟨w.heap.size, 3, none⟩ = some (.int .i64 N) from ⟨(hb.keeps k (by simp)).cells 0, (hb.keeps k (by simp)).cells 1, (hb.keeps k (by simp)).cells 2, (hb.keeps k (by simp)).cells 3⟩)
  obtain ⟨c0, c1, c2, c3⟩ := HX.out W1 (Keeps.refl _ _)
  have HK1 := Lib.hid hk1
  clear hb hk1
  have hzz : w.heap.size + 1 = W1.heap.size := by rw [← hW1]; simp
  obtain ⟨W2, hW2⟩ : ∃ X, W1.alloc (.cells #[.int .i64 0, .int .i64 0, .int .i64 0, .int .i64 0] 26) = X := ⟨_, rfl⟩
  have hrW2 : Row W2 W1.heap.size 26 [.int .i64 0, .int .i64 0, .int .i64 0, .int .i64 0] := by rw [← hW2]; have := Row.new W1 #[.int .i64 0, .int .i64 0, .int .i64 0, .int .i64 0] 26; simpa using this
  have hkW2 : Keeps [] W1 W2 := by rw [← hW2]; exact (Keeps.refl _ _).alloc _
  have HR2 := Lib.hid hrW2
  have HKW2 := Lib.hid hkW2
  clear hrW2 hkW2 c0 c1 c2 c3
  obtain ⟨c0, c1, c2, c3⟩ := HX.out W2 (HKW2.out.trans (Keeps.refl [] W2))
  have hrr := HR2.out.keeps (Keeps.refl [] W2) (by simp)
  have e0 := hrr.cell (j := 0) rfl
  have g0 := hrr.frozen 0
  have e1 := hrr.cell (j := 1) rfl
  have g1 := hrr.frozen 1
  have e2 := hrr.cell (j := 2) rfl
  have g2 := hrr.frozen 2
  have e3 := hrr.cell (j := 3) rfl
  have g3 := hrr.frozen 3
  have hlt := hrr.lt
  clear hrr
  go_enter Try.func7, Try.ntmps7
  go_wp2_with fail
  refine (HR.out _).mono ?_
  rintro e w2 ⟨rfl, k2⟩
  have HK2 := Lib.hid k2
  clear k2 c0 c1 c2 c3 e0 e1 e2 e3 g0 g1 g2 g3 hlt
  obtain ⟨c0, c1, c2, c3⟩ := HX.out w2 (HKW2.out.trans HK2.out)
  have hrr := HR2.out.keeps HK2.out (by simp)
  have e0 := hrr.cell (j := 0) rfl
  have g0 := hrr.frozen 0
  have e1 := hrr.cell (j := 1) rfl
  have g1 := hrr.frozen 1
  have e2 := hrr.cell (j := 2) rfl
  have g2 := hrr.frozen 2
  have e3 := hrr.cell (j := 3) rfl
  have g3 := hrr.frozen 3
  have hlt := hrr.lt
  clear hrr
  go_wp2
  refine bodyPost_ret (v := .tuple #[plV W K S N, .int .i64 0]) (by simp [results, Try.results7, go_sem, e0, e1, e2, e3, hlt]) rfl ⟨rfl, ?_⟩
  exact (HK1.out.trans (HKW2.out.trans HK2.out)).step (S := [W1.heap.size]) (((((Keeps.refl _ _).set (List.mem_singleton.2 rfl) _ _).set (List.mem_singleton.2 rfl) _ _).set (List.mem_singleton.2 rfl) _ _).set (List.mem_singleton.2 rfl) _ _) (fun k hk => by rw [List.mem_singleton.1 hk]; omega)
theorem plNew_arg (W K S N : Int) (w : World) (hS : -9223372036854775808 ≤ S) (h : ¬ plRight W K S N) :
    Calls Try.prog 7 #[plV W K S N] w fun e w' => e = .returned (.tuple #[plV 0 0 0 0, .int .i64 2]) ∧ Keeps [] w w' := by
  have HR := Lib.hid (fun Wx => plRight_any W K S N Wx hS)
  rw [decide_eq_false h] at HR
  clear h hS
  obtain ⟨W1, hW1⟩ : ∃ W1, w.alloc (.cells #[.int .i64 W, .int .i64 K, .int .i64 S, .int .i64 N] 23) = W1 := ⟨_, rfl⟩
  have hb : Box W1 w.heap.size #[.int .i64 W, .int .i64 K, .int .i64 S, .int .i64 N] := by rw [← hW1]; exact Box.new _ _ _
  have hk1 : Keeps [] w W1 := by rw [← hW1]; exact (Keeps.refl _ _).alloc _
  have HX := Lib.hid (fun Wx (k : Keeps [] W1 Wx) => show Wx.cell? ⟨w.heap.size, 0, none⟩ = some (.int .i64 W) ∧ Wx.cell? ⟨w.heap.size, 1, none⟩ = some (.int .i64 K) ∧ Wx.cell? ⟨w.heap.size, 2, none⟩ = some (.int .i64 S) ∧ Wx.cell? ⟨w.heap.size, 3, none⟩ = some (.int .i64 N) from ⟨(hb.keeps k (by simp)).cells 0, (hb.keeps k (by simp)).cells 1, (hb.keeps k (by simp)).cells 2, (hb.keeps k (by simp)).cells 3⟩)
  obtain ⟨c0, c1, c2, c3⟩ := HX.out W1 (Keeps.refl _ _)
  have HK1 := Lib.hid hk1
  clear hb hk1
  have hzz : w.heap.size + 1 = W1.heap.size := by rw [← hW1]; simp
  obtain ⟨W2, hW2⟩ : ∃ X, W1.alloc (.cells #[.int .i64 0, .int .i64 0, .int .i64 0, .int .i64 0] 26) = X := ⟨_, rfl⟩
  have hrW2 : Row W2 W1.heap.size 26 [.int .i64 0, .int .i64 0, .int .i64 0, .int .i64 0] := by rw [← hW2]; have := Row.new W1 #[.int .i64 0, .int .i64 0, .int .i64 0, .int .i64 0] 26; simpa using this
  have hkW2 : Keeps [] W1 W2 := by rw [← hW2]; exact (Keeps.refl _ _).alloc _
  have HR2 := Lib.hid hrW2
  have HKW2 := Lib.hid hkW2
  clear hrW2 hkW2 c0 c1 c2 c3
  obtain ⟨c0, c1, c2, c3⟩ := HX.out W2 (HKW2.out.trans (Keeps.refl [] W2))
  have hrr := HR2.out.keeps (Keeps.refl [] W2) (by simp)
  have e0 := hrr.cell (j := 0) rfl
  have g0 := hrr.frozen 0
  have e1 := hrr.cell (j := 1) rfl
  have g1 := hrr.frozen 1
  have e2 := hrr.cell (j := 2) rfl
  have g2 := hrr.frozen 2
  have e3 := hrr.cell (j := 3) rfl
  have g3 := hrr.frozen 3
  have hlt := hrr.lt
  clear hrr
  go_enter Try.func7, Try.ntmps7
  go_wp2_with fail
  refine (HR.out _).mono ?_
  rintro e w2 ⟨rfl, k2⟩
  have HK2 := Lib.hid k2
  clear k2 c0 c1 c2 c3 e0 e1 e2 e3 g0 g1 g2 g3 hlt
  obtain ⟨c0, c1, c2, c3⟩ := HX.out w2 (HKW2.out.trans HK2.out)
  have hrr := HR2.out.keeps HK2.out (by simp)
  have e0 := hrr.cell (j := 0) rfl
  have g0 := hrr.frozen 0
  have e1 := hrr.cell (j := 1) rfl
  have g1 := hrr.frozen 1
  have e2 := hrr.cell (j := 2) rfl
  have g2 := hrr.frozen 2
  have e3 := hrr.cell (j := 3) rfl
  have g3 := hrr.frozen 3
  have hlt := hrr.lt
  clear hrr
  go_wp2
  refine bodyPost_ret (v := .tuple #[plV 0 0 0 0, .int .i64 2]) (by simp [results, Try.results7, go_sem, e0, e1, e2, e3, hlt]) rfl ⟨rfl, ?_⟩
  exact (HK1.out.trans (HKW2.out.trans HK2.out)).step (S := [W1.heap.size]) (((((Keeps.refl _ _).set (List.mem_singleton.2 rfl) _ _).set (List.mem_singleton.2 rfl) _ _).set (List.mem_singleton.2 rfl) _ _).set (List.mem_singleton.2 rfl) _ _) (fun k hk => by rw [List.mem_singleton.1 hk]; omega)
theorem plSpot_none (W K S N i : Int) (w : World) (h : ¬ (0 ≤ i ∧ i < W)) :
    Calls Try.prog 12 #[plV W K S N, .int .i64 i] w fun e w' => e = .returned (.agg #[.int .i64 (-1)]) ∧ Keeps [] w w' := by
  have HR := Lib.hid (fun Wx => plHas_any W K S N i Wx)
  rw [decide_eq_false h] at HR
  clear h
  obtain ⟨W1, hW1⟩ : ∃ W1, w.alloc (.cells #[.int .i64 W, .int .i64 K, .int .i64 S, .int .i64 N] 26) = W1 := ⟨_, rfl⟩
  have hb : Box W1 w.heap.size #[.int .i64 W, .int .i64 K, .int .i64 S, .int .i64 N] := by rw [← hW1]; exact Box.new _ _ _
  have hk1 : Keeps [] w W1 := by rw [← hW1]; exact (Keeps.refl _ _).alloc _
  have HX := Lib.hid (fun Wx (k : Keeps [] W1 Wx) => show Wx.cell? ⟨w.heap.size, 0, none⟩ = some (.int .i64 W) ∧ Wx.cell? ⟨w.heap.size, 1, none⟩ = some (.int .i64 K) ∧ Wx.cell? ⟨w.heap.size, 2, none⟩ = some (.int .i64 S) ∧ Wx.cell? ⟨w.heap.size, 3, none⟩ = some (.int .i64 N) from ⟨(hb.keeps k (by simp)).cells 0, (hb.keeps k (by simp)).cells 1, (hb.keeps k (by simp)).cells 2, (hb.keeps k (by simp)).cells 3⟩)
  obtain ⟨c0, c1, c2, c3⟩ := HX.out W1 (Keeps.refl _ _)
  have HK1 := Lib.hid hk1
  clear hb hk1
  have hzz : w.heap.size + 1 = W1.heap.size := by rw [← hW1]; simp
  obtain ⟨W2, hW2⟩ : ∃ X, W1.alloc (.cells #[.int .i64 0] 35) = X := ⟨_, rfl⟩
  have hrW2 : Row W2 W1.heap.size 35 [.int .i64 0] := by rw [← hW2]; have := Row.new W1 #[.int .i64 0] 35; simpa using this
  have hkW2 : Keeps [] W1 W2 := by rw [← hW2]; exact (Keeps.refl _ _).alloc _
  have HR2 := Lib.hid hrW2
  have HKW2 := Lib.hid hkW2
  clear hrW2 hkW2 c0 c1 c2 c3
  obtain ⟨c0, c1, c2, c3⟩ := HX.out W2 (HKW2.out.trans (Keeps.refl [] W2))
  have hrr := HR2.out.keeps (Keeps.refl [] W2) (by simp)
  have e0 := hrr.cell (j := 0) rfl
  have g0 := hrr.frozen 0
  have hlt := hrr.lt
  clear hrr
  go_enter Try.func12, Try.ntmps12
  go_wp2_with fail
  refine (HR.out _).mono ?_
  rintro e w2 ⟨rfl, k2⟩
  have HK2 := Lib.hid k2
  clear k2 c0 c1 c2 c3 e0 g0 hlt
  obtain ⟨c0, c1, c2, c3⟩ := HX.out w2 (HKW2.out.trans HK2.out)
  have hrr := HR2.out.keeps HK2.out (by simp)
  have e0 := hrr.cell (j := 0) rfl
  have g0 := hrr.frozen 0
  have hlt := hrr.lt
  clear hrr
  go_wp2
  refine bodyPost_ret (v := .agg #[.int .i64 (-1)]) (by simp [results, Try.results12, go_sem, e0, hlt]) rfl ⟨rfl, ?_⟩
  exact (HK1.out.trans (HKW2.out.trans HK2.out)).step (S := [W1.heap.size]) ((Keeps.refl _ _).set (List.mem_singleton.2 rfl) _ _) (fun k hk => by rw [List.mem_singleton.1 hk]; omega)
theorem plSpot_some (W K S N i : Int) (w : World) (h : 0 ≤ i ∧ i < W) (hW : W ≤ 16) :
    Calls Try.prog 12 #[plV W K S N, .int .i64 i] w fun e w' => e = .returned (.agg #[.int .i64 (1 + i)]) ∧ Keeps [] w w' := by
  have HR := Lib.hid (fun Wx => plHas_any W K S N i Wx)
  have HC := Lib.hid (fun Wx => plSpotsCell_any W K S N Wx)
  rw [decide_eq_true h] at HR
  obtain ⟨h0, h1⟩ := h
  obtain ⟨W1, hW1⟩ : ∃ W1, w.alloc (.cells #[.int .i64 W, .int .i64 K, .int .i64 S, .int .i64 N] 26) = W1 := ⟨_, rfl⟩
  have hb : Box W1 w.heap.size #[.int .i64 W, .int .i64 K, .int .i64 S, .int .i64 N] := by rw [← hW1]; exact Box.new _ _ _
  have hk1 : Keeps [] w W1 := by rw [← hW1]; exact (Keeps.refl _ _).alloc _
  have HX := Lib.hid (fun Wx (k : Keeps [] W1 Wx) => show Wx.cell? ⟨w.heap.size, 0, none⟩ = some (.int .i64 W) ∧ Wx.cell? ⟨w.heap.size, 1, none⟩ = some (.int .i64 K) ∧ Wx.cell? ⟨w.heap.size, 2, none⟩ = some (.int .i64 S) ∧ Wx.cell? ⟨w.heap.size, 3, none⟩ = some (.int .i64 N) from ⟨(hb.keeps k (by simp)).cells 0, (hb.keeps k (by simp)).cells 1, (hb.keeps k (by simp)).cells 2, (hb.keeps k (by simp)).cells 3⟩)
  obtain ⟨c0, c1, c2, c3⟩ := HX.out W1 (Keeps.refl _ _)
  have HK1 := Lib.hid hk1
  clear hb hk1
  have hzz : w.heap.size + 1 = W1.heap.size := by rw [← hW1]; simp
  obtain ⟨W2, hW2⟩ : ∃ X, W1.alloc (.cells #[.int .i64 0] 35) = X := ⟨_, rfl⟩
  have hrW2 : Row W2 W1.heap.size 35 [.int .i64 0] := by rw [← hW2]; have := Row.new W1 #[.int .i64 0] 35; simpa using this
  have hkW2 : Keeps [] W1 W2 := by rw [← hW2]; exact (Keeps.refl _ _).alloc _
  have HR2 := Lib.hid hrW2
  have HKW2 := Lib.hid hkW2
  clear hrW2 hkW2 c0 c1 c2 c3
  obtain ⟨c0, c1, c2, c3⟩ := HX.out W2 (HKW2.out.trans (Keeps.refl [] W2))
  have hrr := HR2.out.keeps (Keeps.refl [] W2) (by simp)
  have e0 := hrr.cell (j := 0) rfl
  have g0 := hrr.frozen 0
  have hlt := hrr.lt
  clear hrr
  go_enter Try.func12, Try.ntmps12
  go_wp2_with fail
  refine (HR.out _).mono ?_
  rintro e w2 ⟨rfl, k2⟩
  have HK2 := Lib.hid k2
  clear k2 c0 c1 c2 c3 e0 g0 hlt
  obtain ⟨c0, c1, c2, c3⟩ := HX.out w2 (HKW2.out.trans HK2.out)
  have hrr := HR2.out.keeps HK2.out (by simp)
  have e0 := hrr.cell (j := 0) rfl
  have g0 := hrr.frozen 0
  have hlt := hrr.lt
  clear hrr
  go_wp2_with fail
  refine (HC.out _).mono ?_
  rintro e w3 ⟨rfl, k3⟩
  have HK3 := Lib.hid (HK2.out.trans k3)
  clear k3 c0 c1 c2 c3 e0 g0 hlt
  obtain ⟨c0, c1, c2, c3⟩ := HX.out w3 (HKW2.out.trans HK3.out)
  have hrr := HR2.out.keeps HK3.out (by simp)
  have e0 := hrr.cell (j := 0) rfl
  have g0 := hrr.frozen 0
  have hlt := hrr.lt
  clear hrr
  go_wp2
  refine bodyPost_ret (v := .agg #[.int .i64 (1 + i)]) (by simp [results, Try.results12, go_sem, e0, hlt]) rfl ⟨rfl, ?_⟩
  exact (HK1.out.trans (HKW2.out.trans HK3.out)).step (S := [W1.heap.size]) ((Keeps.refl _ _).set (List.mem_singleton.2 rfl) _ _) (fun k hk => by rw [List.mem_singleton.1 hk]; omega)
theorem plLocalsCell_any (W K S N : Int) (w : World) (h : plRight W K S N) :
    Calls Try.prog 26 #[plV W K S N] w fun e w' => e = .returned (.int .i64 (W + 3 * N + 4)) ∧ Keeps [] w w' := by
  have hf := h.fits
  have HL := Lib.hid (fun Wx => plLine_any W K S N Wx hf)
  have HQ := Lib.hid (fun Wx => quCellsOf_any (1 + W) N Wx)
  obtain ⟨h1, h2, h3, h4, h5, h6, h7⟩ := h
  rw [show plLine W N = (1 + W, N) from if_neg (by omega)] at HL
  rw [if_pos (show quRight (1 + W) N from ⟨by omega, by omega, by omega, by omega⟩)] at HQ
  simp only at HL
  have hfd : ∀ w : World, (Instr.field 41 (.agg #[.int .i64 (1 + W), .int .i64 N]) 0).run Try.prog w = .ok (.int .i64 (1 + W)) w := fun _ => by kernel_rfl
  have hw1 : IntKind.i64.wrap (1 + W + (3 * N + 3)) = W + 3 * N + 4 := by rw [IntWalk.i64_in _ (by omega)]; omega
  clear hf h5
  obtain ⟨W1, hW1⟩ : ∃ W1, w.alloc (.cells #[.int .i64 W, .int .i64 K, .int .i64 S, .int .i64 N] 26) = W1 := ⟨_, rfl⟩
  have hb : Box W1 w.heap.size #[.int .i64 W, .int .i64 K, .int .i64 S, .int .i64 N] := by rw [← hW1]; exact Box.new _ _ _
  have hk1 : Keeps [] w W1 := by rw [← hW1]; exact (Keeps.refl _ _).alloc _
  have HX := Lib.hid (fun Wx (k : Keeps [] W1 Wx) => show Wx.cell? ⟨w.heap.size, 0, none⟩ = some (.int .i64 W) ∧ Wx.cell? ⟨w.heap.size, 1, none⟩ = some (.int .i64 K) ∧ Wx.cell? ⟨w.heap.size, 2, none⟩ = some (.int .i64 S) ∧ Wx.cell? ⟨w.heap.size, 3, none⟩ = some (.int .i64 N) from ⟨(hb.keeps k (by simp)).cells 0, (hb.keeps k (by simp)).cells 1, (hb.keeps k (by simp)).cells 2, (hb.keeps k (by simp)).cells 3⟩)
  obtain ⟨c0, c1, c2, c3⟩ := HX.out W1 (Keeps.refl _ _)
  have HK1 := Lib.hid hk1
  clear hb hk1
  go_enter Try.func26, Try.ntmps26
  have HKK : Hid (Keeps [] W1 W1) := Lib.hid (Keeps.refl _ _)
  go_wp2
  go_region_held3 (fun w' => w'.cell? ⟨w.heap.size, 0, none⟩ = some (.int .i64 W) ∧ w'.cell? ⟨w.heap.size, 1, none⟩ = some (.int .i64 K) ∧ w'.cell? ⟨w.heap.size, 2, none⟩ = some (.int .i64 S) ∧ w'.cell? ⟨w.heap.size, 3, none⟩ = some (.int .i64 N))
    (first
      | exact ⟨by assumption, by assumption, by assumption, by assumption⟩
      | exact HX.out _ HKK.out
      | fail)
    (first
      | (go_at_call 14; refine (HL.out _).mono ?_; rintro e w4 ⟨rfl, k4⟩; have HKN := Lib.hid (show Keeps [] W1 w4 from by first | exact HKK.out.trans k4.undrew | exact HKK.out.trans k4); clear k4 HKK; have HKK := HKN; clear HKN)
      | (go_at_call 34; refine (HQ.out _).mono ?_; rintro e w4 ⟨rfl, k4⟩; have HKN := Lib.hid (show Keeps [] W1 w4 from by first | exact HKK.out.trans k4.undrew | exact HKK.out.trans k4); clear k4 HKK; have HKK := HKN; clear HKN)
      | fail)

  go_wp2
  go_ret
  exact ⟨rfl, HK1.out.trans HKK.out⟩
/-- How many cells all parts have. -/
def plCells (W S N : Int) : Int := W + 3 * N + 4 + W * (S + 2)
theorem mul_fits {W S : Int} (h1 : 0 ≤ W) (h2 : W ≤ 16) (h3 : 0 ≤ S) (h4 : S ≤ 256) : 0 ≤ W * (S + 2) ∧ W * (S + 2) ≤ 4128 := by
  have a := Int.mul_nonneg h1 (show 0 ≤ S + 2 by omega)
  have b := Int.mul_le_mul h2 (show S + 2 ≤ 258 by omega) (by omega) (by omega)
  omega
theorem plCells_any (W K S N : Int) (w : World) (h : plRight W K S N) :
    Calls Try.prog 10 #[plV W K S N] w fun e w' => e = .returned (.int .i64 (plCells W S N)) ∧ Keeps [] w w' := by
  have hf := h.fits
  have HE := Lib.hid (fun Wx => plEmpty_any W K S N Wx)
  have HL := Lib.hid (fun Wx => plLocalsCell_any W K S N Wx h)
  have HC := Lib.hid (fun Wx => plLocalCells_any W K S N Wx hf)
  obtain ⟨h1, h2, h3, h4, h5, h6, h7⟩ := h
  rw [decide_eq_false (show ¬ W = 0 by omega)] at HE
  obtain ⟨m1, m2⟩ := mul_fits (W := W) (S := S) (by omega) h2 (by omega) (by omega)
  have hw1 : IntKind.i64.wrap (W * (S + 2)) = W * (S + 2) := IntWalk.i64_in _ (by omega)
  have hw2 : IntKind.i64.wrap (W + 3 * N + 4 + W * (S + 2)) = plCells W S N := IntWalk.i64_in _ (by omega)
  clear hf h5
  obtain ⟨W1, hW1⟩ : ∃ W1, w.alloc (.cells #[.int .i64 W, .int .i64 K, .int .i64 S, .int .i64 N] 26) = W1 := ⟨_, rfl⟩
  have hb : Box W1 w.heap.size #[.int .i64 W, .int .i64 K, .int .i64 S, .int .i64 N] := by rw [← hW1]; exact Box.new _ _ _
  have hk1 : Keeps [] w W1 := by rw [← hW1]; exact (Keeps.refl _ _).alloc _
  have HX := Lib.hid (fun Wx (k : Keeps [] W1 Wx) => show Wx.cell? ⟨w.heap.size, 0, none⟩ = some (.int .i64 W) ∧ Wx.cell? ⟨w.heap.size, 1, none⟩ = some (.int .i64 K) ∧ Wx.cell? ⟨w.heap.size, 2, none⟩ = some (.int .i64 S) ∧ Wx.cell? ⟨w.heap.size, 3, none⟩ = some (.int .i64 N) from ⟨(hb.keeps k (by simp)).cells 0, (hb.keeps k (by simp)).cells 1, (hb.keeps k (by simp)).cells 2, (hb.keeps k (by simp)).cells 3⟩)
  obtain ⟨c0, c1, c2, c3⟩ := HX.out W1 (Keeps.refl _ _)
  have HK1 := Lib.hid hk1
  clear hb hk1
  go_enter Try.func10, Try.ntmps10
  go_wp2_with fail
  refine (HE.out _).mono ?_
  rintro e w2 ⟨rfl, k2⟩
  have HK2 := Lib.hid k2
  clear k2
  obtain ⟨c0, c1, c2, c3⟩ := HX.out _ HK2.out
  have HKK : Hid (Keeps [] W1 w2) := HK2
  go_wp2
  go_region_held3 (fun w' => w'.cell? ⟨w.heap.size, 0, none⟩ = some (.int .i64 W) ∧ w'.cell? ⟨w.heap.size, 1, none⟩ = some (.int .i64 K) ∧ w'.cell? ⟨w.heap.size, 2, none⟩ = some (.int .i64 S) ∧ w'.cell? ⟨w.heap.size, 3, none⟩ = some (.int .i64 N))
    (first
      | exact ⟨by assumption, by assumption, by assumption, by assumption⟩
      | exact HX.out _ HKK.out
      | fail)
    (first
      | (go_at_call 26; refine (HL.out _).mono ?_; rintro e w4 ⟨rfl, k4⟩; have HKN := Lib.hid (show Keeps [] W1 w4 from by first | exact HKK.out.trans k4.undrew | exact HKK.out.trans k4); clear k4 HKK; have HKK := HKN; clear HKN)
      | (go_at_call 27; refine (HC.out _).mono ?_; rintro e w4 ⟨rfl, k4⟩; have HKN := Lib.hid (show Keeps [] W1 w4 from by first | exact HKK.out.trans k4.undrew | exact HKK.out.trans k4); clear k4 HKK; have HKK := HKN; clear HKN)
      | fail)
  go_wp2
  go_ret
  exact ⟨rfl, HK1.out.trans HKK.out⟩
theorem plLocal_none (W K S N i : Int) (w : World) (h : ¬ (0 ≤ i ∧ i < W)) :
    Calls Try.prog 11 #[plV W K S N, .int .i64 i] w fun e w' => e = .returned (.int .i64 (-1)) ∧ Keeps [] w w' := by
  have HR := Lib.hid (fun Wx => plHas_any W K S N i Wx)
  rw [decide_eq_false h] at HR
  clear h
  obtain ⟨W1, hW1⟩ : ∃ W1, w.alloc (.cells #[.int .i64 W, .int .i64 K, .int .i64 S, .int .i64 N] 26) = W1 := ⟨_, rfl⟩
  have hb : Box W1 w.heap.size #[.int .i64 W, .int .i64 K, .int .i64 S, .int .i64 N] := by rw [← hW1]; exact Box.new _ _ _
  have hk1 : Keeps [] w W1 := by rw [← hW1]; exact (Keeps.refl _ _).alloc _
  have HX := Lib.hid (fun Wx (k : Keeps [] W1 Wx) => show Wx.cell? ⟨w.heap.size, 0, none⟩ = some (.int .i64 W) ∧ Wx.cell? ⟨w.heap.size, 1, none⟩ = some (.int .i64 K) ∧ Wx.cell? ⟨w.heap.size, 2, none⟩ = some (.int .i64 S) ∧ Wx.cell? ⟨w.heap.size, 3, none⟩ = some (.int .i64 N) from ⟨(hb.keeps k (by simp)).cells 0, (hb.keeps k (by simp)).cells 1, (hb.keeps k (by simp)).cells 2, (hb.keeps k (by simp)).cells 3⟩)
  obtain ⟨c0, c1, c2, c3⟩ := HX.out W1 (Keeps.refl _ _)
  have HK1 := Lib.hid hk1
  clear hb hk1
  go_enter Try.func11, Try.ntmps11
  go_wp2_with fail
  refine (HR.out _).mono ?_
  rintro e w2 ⟨rfl, k2⟩
  have HK2 := Lib.hid k2
  clear k2
  go_wp2
  go_ret
  exact ⟨rfl, HK1.out.trans HK2.out⟩
theorem plLocal_some (W K S N i : Int) (w : World) (hr : plRight W K S N) (h : 0 ≤ i ∧ i < W) :
    Calls Try.prog 11 #[plV W K S N, .int .i64 i] w fun e w' => e = .returned (.int .i64 (W + 3 * N + 4 + i * (S + 2))) ∧ Keeps [] w w' := by
  have hf := hr.fits
  have HR := Lib.hid (fun Wx => plHas_any W K S N i Wx)
  have HL := Lib.hid (fun Wx => plLocalsCell_any W K S N Wx hr)
  have HC := Lib.hid (fun Wx => plLocalCells_any W K S N Wx hf)
  rw [decide_eq_true h] at HR
  obtain ⟨h1, h2, h3, h4, h5, h6, h7⟩ := hr
  obtain ⟨m1, m2⟩ := mul_fits (W := i) (S := S) h.1 (by omega) (by omega) (by omega)
  have hw1 : IntKind.i64.wrap (i * (S + 2)) = i * (S + 2) := IntWalk.i64_in _ (by omega)
  have hw2 : IntKind.i64.wrap (W + 3 * N + 4 + i * (S + 2)) = W + 3 * N + 4 + i * (S + 2) := IntWalk.i64_in _ (by omega)
  clear hf h5 h
  obtain ⟨W1, hW1⟩ : ∃ W1, w.alloc (.cells #[.int .i64 W, .int .i64 K, .int .i64 S, .int .i64 N] 26) = W1 := ⟨_, rfl⟩
  have hb : Box W1 w.heap.size #[.int .i64 W, .int .i64 K, .int .i64 S, .int .i64 N] := by rw [← hW1]; exact Box.new _ _ _
  have hk1 : Keeps [] w W1 := by rw [← hW1]; exact (Keeps.refl _ _).alloc _
  have HX := Lib.hid (fun Wx (k : Keeps [] W1 Wx) => show Wx.cell? ⟨w.heap.size, 0, none⟩ = some (.int .i64 W) ∧ Wx.cell? ⟨w.heap.size, 1, none⟩ = some (.int .i64 K) ∧ Wx.cell? ⟨w.heap.size, 2, none⟩ = some (.int .i64 S) ∧ Wx.cell? ⟨w.heap.size, 3, none⟩ = some (.int .i64 N) from ⟨(hb.keeps k (by simp)).cells 0, (hb.keeps k (by simp)).cells 1, (hb.keeps k (by simp)).cells 2, (hb.keeps k (by simp)).cells 3⟩)
  obtain ⟨c0, c1, c2, c3⟩ := HX.out W1 (Keeps.refl _ _)
  have HK1 := Lib.hid hk1
  clear hb hk1
  go_enter Try.func11, Try.ntmps11
  go_wp2_with fail
  refine (HR.out _).mono ?_
  rintro e w2 ⟨rfl, k2⟩
  have HK2 := Lib.hid k2
  clear k2
  obtain ⟨c0, c1, c2, c3⟩ := HX.out _ HK2.out
  have HKK : Hid (Keeps [] W1 w2) := HK2
  go_wp2
  go_region_held3 (fun w' => w'.cell? ⟨w.heap.size, 0, none⟩ = some (.int .i64 W) ∧ w'.cell? ⟨w.heap.size, 1, none⟩ = some (.int .i64 K) ∧ w'.cell? ⟨w.heap.size, 2, none⟩ = some (.int .i64 S) ∧ w'.cell? ⟨w.heap.size, 3, none⟩ = some (.int .i64 N))
    (first
      | exact ⟨by assumption, by assumption, by assumption, by assumption⟩
      | exact HX.out _ HKK.out
      | fail)
    (first
      | (go_at_call 26; refine (HL.out _).mono ?_; rintro e w4 ⟨rfl, k4⟩; have HKN := Lib.hid (show Keeps [] W1 w4 from by first | exact HKK.out.trans k4.undrew | exact HKK.out.trans k4); clear k4 HKK; have HKK := HKN; clear HKN)
      | (go_at_call 27; refine (HC.out _).mono ?_; rintro e w4 ⟨rfl, k4⟩; have HKN := Lib.hid (show Keeps [] W1 w4 from by first | exact HKK.out.trans k4.undrew | exact HKK.out.trans k4); clear k4 HKK; have HKK := HKN; clear HKN)
      | fail)
  go_wp2
  go_ret
  exact ⟨rfl, HK1.out.trans HKK.out⟩
theorem plCells_zero (w : World) :
    Calls Try.prog 10 #[plV 0 0 0 0] w fun e w' => e = .returned (.int .i64 0) ∧ Keeps [] w w' := by
  have HE := Lib.hid (fun Wx => plEmpty_any 0 0 0 0 Wx)
  rw [decide_eq_true rfl] at HE
  obtain ⟨W1, hW1⟩ : ∃ W1, w.alloc (.cells #[.int .i64 0, .int .i64 0, .int .i64 0, .int .i64 0] 26) = W1 := ⟨_, rfl⟩
  have hb : Box W1 w.heap.size #[.int .i64 0, .int .i64 0, .int .i64 0, .int .i64 0] := by rw [← hW1]; exact Box.new _ _ _
  have hk1 : Keeps [] w W1 := by rw [← hW1]; exact (Keeps.refl _ _).alloc _
  have HX := Lib.hid (fun Wx (k : Keeps [] W1 Wx) => show Wx.cell? ⟨w.heap.size, 0, none⟩ = some (.int .i64 0) ∧ Wx.cell? ⟨w.heap.size, 1, none⟩ = some (.int .i64 0) ∧ Wx.cell? ⟨w.heap.size, 2, none⟩ = some (.int .i64 0) ∧ Wx.cell? ⟨w.heap.size, 3, none⟩ = some (.int .i64 0) from ⟨(hb.keeps k (by simp)).cells 0, (hb.keeps k (by simp)).cells 1, (hb.keeps k (by simp)).cells 2, (hb.keeps k (by simp)).cells 3⟩)
  obtain ⟨c0, c1, c2, c3⟩ := HX.out W1 (Keeps.refl _ _)
  have HK1 := Lib.hid hk1
  clear hb hk1
  go_enter Try.func10, Try.ntmps10
  go_wp2_with fail
  refine (HE.out _).mono ?_
  rintro e w2 ⟨rfl, k2⟩
  have HK2 := Lib.hid k2
  clear k2
  go_wp2
  go_ret
  exact ⟨rfl, HK1.out.trans HK2.out⟩
theorem plInit_zero (w : World) :
    Calls Try.prog 19 #[plV 0 0 0 0] w fun e w' => e = .returned (.tuple #[.pointer none, .int .i64 2]) ∧ Keeps [] w w' := by
  have HC := Lib.hid (fun Wx => plCells_zero Wx)
  have HN := Lib.hid (fun Wx => new_bad 0 Wx (by omega))
  obtain ⟨W1, hW1⟩ : ∃ W1, w.alloc (.cells #[.int .i64 0, .int .i64 0, .int .i64 0, .int .i64 0] 26) = W1 := ⟨_, rfl⟩
  have hb : Box W1 w.heap.size #[.int .i64 0, .int .i64 0, .int .i64 0, .int .i64 0] := by rw [← hW1]; exact Box.new _ _ _
  have hk1 : Keeps [] w W1 := by rw [← hW1]; exact (Keeps.refl _ _).alloc _
  have HX := Lib.hid (fun Wx (k : Keeps [] W1 Wx) => show Wx.cell? ⟨w.heap.size, 0, none⟩ = some (.int .i64 0) ∧ Wx.cell? ⟨w.heap.size, 1, none⟩ = some (.int .i64 0) ∧ Wx.cell? ⟨w.heap.size, 2, none⟩ = some (.int .i64 0) ∧ Wx.cell? ⟨w.heap.size, 3, none⟩ = some (.int .i64 0) from ⟨(hb.keeps k (by simp)).cells 0, (hb.keeps k (by simp)).cells 1, (hb.keeps k (by simp)).cells 2, (hb.keeps k (by simp)).cells 3⟩)
  obtain ⟨c0, c1, c2, c3⟩ := HX.out W1 (Keeps.refl _ _)
  have HK1 := Lib.hid hk1
  clear hb hk1
  go_enter Try.func19, Try.ntmps19
  go_wp2_with fail
  refine (HC.out _).mono ?_
  rintro e w2 ⟨rfl, k2⟩
  have HK2 := Lib.hid (HK1.out.trans k2)
  clear k2
  go_wp2_with fail
  refine (HN.out _).mono ?_
  rintro e w3 ⟨rfl, rfl⟩
  go_wp2
  first | go_ret2 | go_ret
  exact ⟨rfl, HK2.out⟩
theorem plInit_fine (W K S N : Int) (n : Nat) (w : World) (h : plRight W K S N) (hn : plCells W S N = (n : Int)) :
    Calls Try.prog 19 #[plV W K S N] w fun e w' => ∃ m b, e = .returned (.tuple #[.pointer (some ⟨m, 0, none⟩), .int .i64 0]) ∧ Mem w' m b (laidAt (List.replicate n 0) (quRow N.toNat) (1 + W).toNat (3 * N.toNat + 3)) ∧ Keeps [] w w' ∧ w.heap.size ≤ m ∧ w.heap.size ≤ b := by
  have hf := h.fits
  obtain ⟨h1, h2, h3, h4, h5, h6, h7⟩ := id h
  obtain ⟨m1, m2⟩ := mul_fits (W := W) (S := S) (by omega) h2 (by omega) (by omega)
  unfold plCells at hn
  have HC := Lib.hid (fun Wx => plCells_any W K S N Wx h)
  rw [show plCells W S N = (n : Int) from hn] at HC
  have HN := Lib.hid (fun Wx => new_any n Wx (by omega) (by omega))
  have HL := Lib.hid (fun Wx => plLine_any W K S N Wx hf)
  rw [show plLine W N = (1 + W, N) from if_neg (by omega)] at HL
  simp only at HL
  have HI := Lib.hid (fun m b Wx (hM : Mem Wx m b (List.replicate n 0)) => quInit_ok m b (1 + W).toNat N.toNat (List.replicate n 0) Wx hM (by refine ⟨?_, ?_, ?_, ?_⟩ <;> omega) (by simp; omega))
  rw [show (((1 + W).toNat : Nat) : Int) = 1 + W by omega, show ((N.toNat : Nat) : Int) = N by omega] at HI
  clear hf h h5 hn
  obtain ⟨W1, hW1⟩ : ∃ W1, w.alloc (.cells #[.int .i64 W, .int .i64 K, .int .i64 S, .int .i64 N] 26) = W1 := ⟨_, rfl⟩
  have hb : Box W1 w.heap.size #[.int .i64 W, .int .i64 K, .int .i64 S, .int .i64 N] := by rw [← hW1]; exact Box.new _ _ _
  have hk1 : Keeps [] w W1 := by rw [← hW1]; exact (Keeps.refl _ _).alloc _
  have HX := Lib.hid (fun Wx (k : Keeps [] W1 Wx) => show Wx.cell? ⟨w.heap.size, 0, none⟩ = some (.int .i64 W) ∧ Wx.cell? ⟨w.heap.size, 1, none⟩ = some (.int .i64 K) ∧ Wx.cell? ⟨w.heap.size, 2, none⟩ = some (.int .i64 S) ∧ Wx.cell? ⟨w.heap.size, 3, none⟩ = some (.int .i64 N) from ⟨(hb.keeps k (by simp)).cells 0, (hb.keeps k (by simp)).cells 1, (hb.keeps k (by simp)).cells 2, (hb.keeps k (by simp)).cells 3⟩)
  obtain ⟨c0, c1, c2, c3⟩ := HX.out W1 (Keeps.refl _ _)
  have HK1 := Lib.hid hk1
  clear hb hk1
  go_enter Try.func19, Try.ntmps19
  go_wp2_with fail
  refine (HC.out _).mono ?_
  rintro e w2 ⟨rfl, k2⟩
  have HK2 := Lib.hid k2
  clear k2
  go_wp2_with fail
  refine (HN.out _).mono ?_
  rintro e w3 ⟨m, b, rfl, hM, k3, hm, hb⟩
  have HM3 := Lib.hid hM
  have HK3 := Lib.hid (HK2.out.trans k3)
  clear k3 hM
  obtain ⟨c0, c1, c2, c3⟩ := HX.out _ HK3.out
  go_wp2_with fail
  refine (HL.out _).mono ?_
  rintro e w4 ⟨rfl, k4⟩
  have HM4 := Lib.hid (HM3.out.keeps k4 (by simp) (by simp))
  have HK4 := Lib.hid (HK3.out.trans k4)
  have hs3 : w.heap.size + 1 ≤ w3.heap.size := by have := HK3.out.size; have : W1.heap.size = w.heap.size + 1 := by rw [← hW1]; simp
                                                  omega
  clear k4
  go_wp2_with fail
  refine (HI.out m b _ HM4.out).mono ?_
  rintro e w5 ⟨rfl, hM5, k5⟩
  have HM5 := Lib.hid hM5
  have hs1 := HK1.out.size
  have hs2 := HK2.out.size
  have HK5 := Lib.hid ((HK1.out.trans HK4.out).step (S := [b]) k5 (fun k hk => by rw [List.mem_singleton.1 hk]; omega))
  clear k5 hM5
  go_wp2
  first | go_ret2 | go_ret
  exact ⟨m, b, rfl, HM5.out, HK5.out, by omega, by omega⟩
end Go.Proofs.Ytnlkbmjelkbfkaa
