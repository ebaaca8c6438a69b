import Derived.Test.YtnlkbmjelkbfkaaMem3
import Derived.Test.YtnlkbmjelkbfkaaQuF
import Derived.Test.YtnlkbmjelkbfkaaRef7a
import Derived.Test.YtnlkbmjelkbfkaaRef9i
import Derived.Test.YtnlkbmjelkbfkaaOpenA
import Derived.Test.YtnlkbmjelkbfkaaLook
import Derived.Test.YtnlkbmjelkbfkaaWord
import Derived.IntWalk
/-
  Contracts: where all parts of a pool stand.
-/
namespace Go.Proofs.Ytnlkbmjelkbfkaa
set_option maxRecDepth 100000
set_option linter.unusedSimpArgs false
set_option linter.unusedVariables false
open Go.ChangeShapes Go.WideShapes Go.ChangeAt Go.RowKit

/-- Whether there can be a pool of such a config. -/
def plRight (W K S N : Int) : Prop := 1 ≤ W ∧ W ≤ 16 ∧ 0 ≤ K ∧ K ≤ 1 ∧ (S = 2 ∨ S = 4 ∨ S = 8 ∨ S = 16 ∨ S = 32 ∨ S = 64 ∨ S = 128 ∨ S = 256) ∧ 2 ≤ N ∧ N ≤ 4096
instance (W K S N : Int) : Decidable (plRight W K S N) := by unfold plRight; infer_instance
/-- A plan. -/
@[reducible] def plV (W K S N : Int) : Value := .agg #[.int .i64 W, .int .i64 K, .int .i64 S, .int .i64 N]
/-- What a plan's numbers keep. -/
def plFits (W K S N : Int) : Prop := 0 ≤ W ∧ W ≤ 16 ∧ 0 ≤ S ∧ S ≤ 256 ∧ 0 ≤ N ∧ N ≤ 4096
theorem plRight.fits {W K S N : Int} (h : plRight W K S N) : plFits W K S N := by unfold plRight at h; unfold plFits; omega
theorem plFits.zero : plFits 0 0 0 0 := by unfold plFits; omega

theorem plHas_any (W K S N i : Int) (w : World) :
    Calls Try.prog 28 #[plV W K S N, .int .i64 i] w fun e w' => e = .returned (.bool (decide (0 ≤ i ∧ i < W))) ∧ Keeps [] w w' := by
  obtain ⟨W1, hW1⟩ : ∃ W1, w.alloc (.cells #[.int .i64 W, .int .i64 K, .int .i64 S, .int .i64 N] 26) = W1 := ⟨_, rfl⟩
  have hb : Box W1 w.heap.size #[.int .i64 W, .int .i64 K, .int .i64 S, .int .i64 N] := by rw [← hW1]; exact Box.new _ _ _
  have hk1 : Keeps [] w W1 := by rw [← hW1]; exact (Keeps.refl _ _).alloc _
  have HX := Lib.hid (fun Wx (k : Keeps [] W1 Wx) => show Wx.cell? ⟨w.heap.size, 0, none⟩ = some (.int .i64 W) ∧ Wx.cell? ⟨w.heap.size, 1, none⟩ = some (.int .i64 K) ∧ Wx.cell? ⟨w.heap.size, 2, none⟩ = some (.int .i64 S) ∧ Wx.cell? ⟨w.heap.size, 3, none⟩ = some (.int .i64 N) from ⟨(hb.keeps k (by simp)).cells 0, (hb.keeps k (by simp)).cells 1, (hb.keeps k (by simp)).cells 2, (hb.keeps k (by simp)).cells 3⟩)
  obtain ⟨c0, c1, c2, c3⟩ := HX.out W1 (Keeps.refl _ _)
  have HK1 := Lib.hid hk1
  clear hb hk1
  have HD := Lib.hid (Bool.decide_and (0 ≤ i) (i < W))
  rw [HD.out]
  by_cases h : 0 ≤ i
  · have d1 : decide (0 ≤ i) = true := decide_eq_true h
    go_enter Try.func28, Try.ntmps28
    go_wp2
    go_ret
    exact ⟨by first | rfl | simp [d1], HK1.out⟩
  · have d1 : decide (0 ≤ i) = false := decide_eq_false h
    go_enter Try.func28, Try.ntmps28
    go_wp2
    go_ret
    exact ⟨rfl, HK1.out⟩
theorem plEmpty_any (W K S N : Int) (w : World) :
    Calls Try.prog 25 #[plV W K S N] w fun e w' => e = .returned (.bool (decide (W = 0))) ∧ Keeps [] w w' := by
  obtain ⟨W1, hW1⟩ : ∃ W1, w.alloc (.cells #[.int .i64 W, .int .i64 K, .int .i64 S, .int .i64 N] 26) = W1 := ⟨_, rfl⟩
  have hb : Box W1 w.heap.size #[.int .i64 W, .int .i64 K, .int .i64 S, .int .i64 N] := by rw [← hW1]; exact Box.new _ _ _
  have hk1 : Keeps [] w W1 := by rw [← hW1]; exact (Keeps.refl _ _).alloc _
  have HX := Lib.hid (fun Wx (k : Keeps [] W1 Wx) => show Wx.cell? ⟨w.heap.size, 0, none⟩ = some (.int .i64 W) ∧ Wx.cell? ⟨w.heap.size, 1, none⟩ = some (.int .i64 K) ∧ Wx.cell? ⟨w.heap.size, 2, none⟩ = some (.int .i64 S) ∧ Wx.cell? ⟨w.heap.size, 3, none⟩ = some (.int .i64 N) from ⟨(hb.keeps k (by simp)).cells 0, (hb.keeps k (by simp)).cells 1, (hb.keeps k (by simp)).cells 2, (hb.keeps k (by simp)).cells 3⟩)
  obtain ⟨c0, c1, c2, c3⟩ := HX.out W1 (Keeps.refl _ _)
  have HK1 := Lib.hid hk1
  clear hb hk1
  go_enter Try.func25, Try.ntmps25
  go_wp2
  go_ret
  exact ⟨rfl, HK1.out⟩
theorem plYard_any (W K S N : Int) (w : World) :
    Calls Try.prog 13 #[plV W K S N] w fun e w' => e = .returned (.agg #[.int .i64 0, .int .i64 W]) ∧ Keeps [] w w' := by
  obtain ⟨W1, hW1⟩ : ∃ W1, w.alloc (.cells #[.int .i64 W, .int .i64 K, .int .i64 S, .int .i64 N] 26) = W1 := ⟨_, rfl⟩
  have hb : Box W1 w.heap.size #[.int .i64 W, .int .i64 K, .int .i64 S, .int .i64 N] := by rw [← hW1]; exact Box.new _ _ _
  have hk1 : Keeps [] w W1 := by rw [← hW1]; exact (Keeps.refl _ _).alloc _
  have HX := Lib.hid (fun Wx (k : Keeps [] W1 Wx) => show Wx.cell? ⟨w.heap.size, 0, none⟩ = some (.int .i64 W) ∧ Wx.cell? ⟨w.heap.size, 1, none⟩ = some (.int .i64 K) ∧ Wx.cell? ⟨w.heap.size, 2, none⟩ = some (.int .i64 S) ∧ Wx.cell? ⟨w.heap.size, 3, none⟩ = some (.int .i64 N) from ⟨(hb.keeps k (by simp)).cells 0, (hb.keeps k (by simp)).cells 1, (hb.keeps k (by simp)).cells 2, (hb.keeps k (by simp)).cells 3⟩)
  obtain ⟨c0, c1, c2, c3⟩ := HX.out W1 (Keeps.refl _ _)
  have HK1 := Lib.hid hk1
  clear hb hk1
  have hzz : w.heap.size + 1 = W1.heap.size := by rw [← hW1]; simp
  obtain ⟨W2, hW2⟩ : ∃ X, W1.alloc (.cells #[.int .i64 0, .int .i64 0] 38) = X := ⟨_, rfl⟩
  have hrW2 : Row W2 W1.heap.size 38 [.int .i64 0, .int .i64 0] := by rw [← hW2]; have := Row.new W1 #[.int .i64 0, .int .i64 0] 38; simpa using this
  have hkW2 : Keeps [] W1 W2 := by rw [← hW2]; exact (Keeps.refl _ _).alloc _
  have HR2 := Lib.hid hrW2
  have HKW2 := Lib.hid hkW2
  clear hrW2 hkW2 c0 c1 c2 c3
  obtain ⟨c0, c1, c2, c3⟩ := HX.out W2 (HKW2.out.trans (Keeps.refl [] W2))
  have hrr := HR2.out.keeps (Keeps.refl [] W2) (by simp)
  have e0 := hrr.cell (j := 0) rfl
  have g0 := hrr.frozen 0
  have e1 := hrr.cell (j := 1) rfl
  have g1 := hrr.frozen 1
  have hlt := hrr.lt
  clear hrr
  go_enter Try.func13, Try.ntmps13
  go_wp2
  refine bodyPost_ret (v := .agg #[.int .i64 0, .int .i64 W]) (by simp [results, Try.results13, go_sem, e0, e1, hlt]) rfl ⟨rfl, ?_⟩
  exact (HK1.out.trans (HKW2.out.trans (Keeps.refl [] W2))).step (S := [W1.heap.size]) (((Keeps.refl _ _).set (List.mem_singleton.2 rfl) _ _).set (List.mem_singleton.2 rfl) _ _) (fun k hk => by rw [List.mem_singleton.1 hk]; omega)
theorem plConfig_any (W K S N : Int) (w : World) :
    Calls Try.prog 9 #[plV W K S N] w fun e w' => e = .returned (plV W K S N) ∧ Keeps [] w w' := by
  obtain ⟨W1, hW1⟩ : ∃ W1, w.alloc (.cells #[.int .i64 W, .int .i64 K, .int .i64 S, .int .i64 N] 26) = W1 := ⟨_, rfl⟩
  have hb : Box W1 w.heap.size #[.int .i64 W, .int .i64 K, .int .i64 S, .int .i64 N] := by rw [← hW1]; exact Box.new _ _ _
  have hk1 : Keeps [] w W1 := by rw [← hW1]; exact (Keeps.refl _ _).alloc _
  have HX := Lib.hid (fun Wx (k : Keeps [] W1 Wx) => show Wx.cell? ⟨w.heap.size, 0, none⟩ = some (.int .i64 W) ∧ Wx.cell? ⟨w.heap.size, 1, none⟩ = some (.int .i64 K) ∧ Wx.cell? ⟨w.heap.size, 2, none⟩ = some (.int .i64 S) ∧ Wx.cell? ⟨w.heap.size, 3, none⟩ = some (.int .i64 N) from ⟨(hb.keeps k (by simp)).cells 0, (hb.keeps k (by simp)).cells 1, (hb.keeps k (by simp)).cells 2, (hb.keeps k (by simp)).cells 3⟩)
  obtain ⟨c0, c1, c2, c3⟩ := HX.out W1 (Keeps.refl _ _)
  have HK1 := Lib.hid hk1
  clear hb hk1
  have hzz : w.heap.size + 1 = W1.heap.size := by rw [← hW1]; simp
  obtain ⟨W2, hW2⟩ : ∃ X, W1.alloc (.cells #[.int .i64 0, .int .i64 0, .int .i64 0, .int .i64 0] 23) = X := ⟨_, rfl⟩
  have hrW2 : Row W2 W1.heap.size 23 [.int .i64 0, .int .i64 0, .int .i64 0, .int .i64 0] := by rw [← hW2]; have := Row.new W1 #[.int .i64 0, .int .i64 0, .int .i64 0, .int .i64 0] 23; simpa using this
  have hkW2 : Keeps [] W1 W2 := by rw [← hW2]; exact (Keeps.refl _ _).alloc _
  have HR2 := Lib.hid hrW2
  have HKW2 := Lib.hid hkW2
  clear hrW2 hkW2 c0 c1 c2 c3
  obtain ⟨c0, c1, c2, c3⟩ := HX.out W2 (HKW2.out.trans (Keeps.refl [] W2))
  have hrr := HR2.out.keeps (Keeps.refl [] W2) (by simp)
  have e0 := hrr.cell (j := 0) rfl
  have g0 := hrr.frozen 0
  have e1 := hrr.cell (j := 1) rfl
  have g1 := hrr.frozen 1
  have e2 := hrr.cell (j := 2) rfl
  have g2 := hrr.frozen 2
  have e3 := hrr.cell (j := 3) rfl
  have g3 := hrr.frozen 3
  have hlt := hrr.lt
  clear hrr
  go_enter Try.func9, Try.ntmps9
  go_wp2
  refine bodyPost_ret (v := plV W K S N) (by simp [results, Try.results9, go_sem, e0, e1, e2, e3, hlt]) rfl ⟨rfl, ?_⟩
  exact (HK1.out.trans (HKW2.out.trans (Keeps.refl [] W2))).step (S := [W1.heap.size]) (((((Keeps.refl _ _).set (List.mem_singleton.2 rfl) _ _).set (List.mem_singleton.2 rfl) _ _).set (List.mem_singleton.2 rfl) _ _).set (List.mem_singleton.2 rfl) _ _) (fun k hk => by rw [List.mem_singleton.1 hk]; omega)
theorem plLocalCells_any (W K S N : Int) (w : World) (hf : plFits W K S N) :
    Calls Try.prog 27 #[plV W K S N] w fun e w' => e = .returned (.int .i64 (S + 2)) ∧ Keeps [] w w' := by
  obtain ⟨f1, f2, f3, f4, f5, f6⟩ := hf
  obtain ⟨W1, hW1⟩ : ∃ W1, w.alloc (.cells #[.int .i64 W, .int .i64 K, .int .i64 S, .int .i64 N] 26) = W1 := ⟨_, rfl⟩
  have hb : Box W1 w.heap.size #[.int .i64 W, .int .i64 K, .int .i64 S, .int .i64 N] := by rw [← hW1]; exact Box.new _ _ _
  have hk1 : Keeps [] w W1 := by rw [← hW1]; exact (Keeps.refl _ _).alloc _
  have HX := Lib.hid (fun Wx (k : Keeps [] W1 Wx) => show Wx.cell? ⟨w.heap.size, 0, none⟩ = some (.int .i64 W) ∧ Wx.cell? ⟨w.heap.size, 1, none⟩ = some (.int .i64 K) ∧ Wx.cell? ⟨w.heap.size, 2, none⟩ = some (.int .i64 S) ∧ Wx.cell? ⟨w.heap.size, 3, none⟩ = some (.int .i64 N) from ⟨(hb.keeps k (by simp)).cells 0, (hb.keeps k (by simp)).cells 1, (hb.keeps k (by simp)).cells 2, (hb.keeps k (by simp)).cells 3⟩)
  obtain ⟨c0, c1, c2, c3⟩ := HX.out W1 (Keeps.refl _ _)
  have HK1 := Lib.hid hk1
  clear hb hk1
  go_enter Try.func27, Try.ntmps27
  go_wp2
  go_ret
  exact ⟨rfl, HK1.out⟩
theorem plSpotsCell_any (W K S N : Int) (w : World) :
    Calls Try.prog 29 #[plV W K S N] w fun e w' => e = .returned (.int .i64 1) ∧ Keeps [] w w' := by
  have HY := Lib.hid (fun Wx => plYard_any W K S N Wx)
  have hfd : ∀ w : World, (Instr.field 38 (.agg #[.int .i64 0, .int .i64 W]) 0).run Try.prog w = .ok (.int .i64 0) w := fun _ => by kernel_rfl
  obtain ⟨W1, hW1⟩ : ∃ W1, w.alloc (.cells #[.int .i64 W, .int .i64 K, .int .i64 S, .int .i64 N] 26) = W1 := ⟨_, rfl⟩
  have hb : Box W1 w.heap.size #[.int .i64 W, .int .i64 K, .int .i64 S, .int .i64 N] := by rw [← hW1]; exact Box.new _ _ _
  have hk1 : Keeps [] w W1 := by rw [← hW1]; exact (Keeps.refl _ _).alloc _
  have HX := Lib.hid (fun Wx (k : Keeps [] W1 Wx) => show Wx.cell? ⟨w.heap.size, 0, none⟩ = some (.int .i64 W) ∧ Wx.cell? ⟨w.heap.size, 1, none⟩ = some (.int .i64 K) ∧ Wx.cell? ⟨w.heap.size, 2, none⟩ = some (.int .i64 S) ∧ Wx.cell? ⟨w.heap.size, 3, none⟩ = some (.int .i64 N) from ⟨(hb.keeps k (by simp)).cells 0, (hb.keeps k (by simp)).cells 1, (hb.keeps k (by simp)).cells 2, (hb.keeps k (by simp)).cells 3⟩)
  obtain ⟨c0, c1, c2, c3⟩ := HX.out W1 (Keeps.refl _ _)
  have HK1 := Lib.hid hk1
  clear hb hk1
  go_enter Try.func29, Try.ntmps29
  go_wp2_with fail
  refine (HY.out _).mono ?_
  rintro e w2 ⟨rfl, k2⟩
  have HK2 := Lib.hid (HK1.out.trans k2)
  clear k2
  go_wp2
  go_ret
  exact ⟨rfl, HK2.out⟩
/-- The queue's cell and nodes. -/
def plLine (W N : Int) : Int × Int := if W = 0 then (0, 0) else (1 + W, N)
theorem plLine_any (W K S N : Int) (w : World) (hf : plFits W K S N) :
    Calls Try.prog 14 #[plV W K S N] w fun e w' => e = .returned (.agg #[.int .i64 (plLine W N).1, .int .i64 (plLine W N).2]) ∧ Keeps [] w w' := by
  obtain ⟨f1, f2, f3, f4, f5, f6⟩ := hf
  have HE := Lib.hid (fun Wx => plEmpty_any W K S N Wx)
  have HC := Lib.hid (fun Wx => plSpotsCell_any W K S N Wx)
  obtain ⟨W1, hW1⟩ : ∃ W1, w.alloc (.cells #[.int .i64 W, .int .i64 K, .int .i64 S, .int .i64 N] 26) = W1 := ⟨_, rfl⟩
  have hb : Box W1 w.heap.size #[.int .i64 W, .int .i64 K, .int .i64 S, .int .i64 N] := by rw [← hW1]; exact Box.new _ _ _
  have hk1 : Keeps [] w W1 := by rw [← hW1]; exact (Keeps.refl _ _).alloc _
  have HX := Lib.hid (fun Wx (k : Keeps [] W1 Wx) => show Wx.cell? ⟨w.heap.size, 0, none⟩ = some (.int .i64 W) ∧ Wx.cell? ⟨w.heap.size, 1, none⟩ = some (.int .i64 K) ∧ Wx.cell? ⟨w.heap.size, 2, none⟩ = some (.int .i64 S) ∧ Wx.cell? ⟨w.heap.size, 3, none⟩ = some (.int .i64 N) from ⟨(hb.keeps k (by simp)).cells 0, (hb.keeps k (by simp)).cells 1, (hb.keeps k (by simp)).cells 2, (hb.keeps k (by simp)).cells 3⟩)
  obtain ⟨c0, c1, c2, c3⟩ := HX.out W1 (Keeps.refl _ _)
  have HK1 := Lib.hid hk1
  clear hb hk1
  have hzz : w.heap.size + 1 = W1.heap.size := by rw [← hW1]; simp
  obtain ⟨W2, hW2⟩ : ∃ X, W1.alloc (.cells #[.int .i64 0, .int .i64 0] 41) = X := ⟨_, rfl⟩
  have hrW2 : Row W2 W1.heap.size 41 [.int .i64 0, .int .i64 0] := by rw [← hW2]; have := Row.new W1 #[.int .i64 0, .int .i64 0] 41; simpa using this
  have hkW2 : Keeps [] W1 W2 := by rw [← hW2]; exact (Keeps.refl _ _).alloc _
  have HR2 := Lib.hid hrW2
  have HKW2 := Lib.hid hkW2
  clear hrW2 hkW2 c0 c1 c2 c3
  obtain ⟨c0, c1, c2, c3⟩ := HX.out W2 (HKW2.out.trans (Keeps.refl [] W2))
  have hrr := HR2.out.keeps (Keeps.refl [] W2) (by simp)
  have e0 := hrr.cell (j := 0) rfl
  have g0 := hrr.frozen 0
  have e1 := hrr.cell (j := 1) rfl
  have g1 := hrr.frozen 1
  have hlt := hrr.lt
  clear hrr
  have HX2 := Lib.hid (fun Wx (k : Keeps [W1.heap.size] W1 Wx) => show Wx.cell? ⟨w.heap.size, 0, none⟩ = some (.int .i64 W) ∧ Wx.cell? ⟨w.heap.size, 1, none⟩ = some (.int .i64 K) ∧ Wx.cell? ⟨w.heap.size, 2, none⟩ = some (.int .i64 S) ∧ Wx.cell? ⟨w.heap.size, 3, none⟩ = some (.int .i64 N) from by
    obtain ⟨c0, c1, c2, c3⟩ := HX.out W1 (Keeps.refl _ _)
    exact ⟨(k.cell (p := ⟨w.heap.size, 0, none⟩) (show w.heap.size < W1.heap.size by omega) (by simp; omega)).trans c0, (k.cell (p := ⟨w.heap.size, 1, none⟩) (show w.heap.size < W1.heap.size by omega) (by simp; omega)).trans c1, (k.cell (p := ⟨w.heap.size, 2, none⟩) (show w.heap.size < W1.heap.size by omega) (by simp; omega)).trans c2, (k.cell (p := ⟨w.heap.size, 3, none⟩) (show w.heap.size < W1.heap.size by omega) (by simp; omega)).trans c3⟩)
  by_cases h0 : W = 0
  · have hd : decide (W = 0) = true := decide_eq_true h0
    have HL : Hid (plLine W N = (0, 0)) := Lib.hid (if_pos h0)
    rw [HL.out]
    rw [hd] at HE
    clear h0 hd
    go_enter Try.func14, Try.ntmps14
    go_wp2_with fail
    refine (HE.out _).mono ?_
    rintro e w2 ⟨rfl, k2⟩
    have HK2 := Lib.hid k2
    clear k2 c0 c1 c2 c3 e0 e1 g0 g1 hlt
    obtain ⟨c0, c1, c2, c3⟩ := HX.out w2 (HKW2.out.trans HK2.out)
    have hrr := HR2.out.keeps HK2.out (by simp)
    have e0 := hrr.cell (j := 0) rfl
    have g0 := hrr.frozen 0
    have e1 := hrr.cell (j := 1) rfl
    have g1 := hrr.frozen 1
    have hlt := hrr.lt
    clear hrr
    go_wp2
    refine bodyPost_ret (v := .agg #[.int .i64 0, .int .i64 0]) (by simp [results, Try.results14, go_sem, e0, e1, hlt]) rfl ⟨rfl, ?_⟩
    exact (HK1.out.trans (HKW2.out.trans HK2.out)).step (S := [W1.heap.size]) (((Keeps.refl _ _).set (List.mem_singleton.2 rfl) _ _).set (List.mem_singleton.2 rfl) _ _) (fun k hk => by rw [List.mem_singleton.1 hk]; omega)
  · have hd : decide (W = 0) = false := decide_eq_false h0
    have HL : Hid (plLine W N = (1 + W, N)) := Lib.hid (if_neg h0)
    rw [HL.out]
    rw [hd] at HE
    clear hd
    go_enter Try.func14, Try.ntmps14
    go_wp2_with fail
    refine (HE.out _).mono ?_
    rintro e w2 ⟨rfl, k2⟩
    have HK2 := Lib.hid k2
    clear k2 c0 c1 c2 c3 e0 e1 g0 g1 hlt
    obtain ⟨c0, c1, c2, c3⟩ := HX.out w2 (HKW2.out.trans HK2.out)
    have hrr := HR2.out.keeps HK2.out (by simp)
    have e0 := hrr.cell (j := 0) rfl
    have g0 := hrr.frozen 0
    have e1 := hrr.cell (j := 1) rfl
    have g1 := hrr.frozen 1
    have hlt := hrr.lt
    clear hrr
    go_wp2
    go_region_held3 (fun w' => w'.cell? ⟨w.heap.size, 0, none⟩ = some (.int .i64 W) ∧ w'.cell? ⟨w.heap.size, 1, none⟩ = some (.int .i64 K) ∧ w'.cell? ⟨w.heap.size, 2, none⟩ = some (.int .i64 S) ∧ w'.cell? ⟨w.heap.size, 3, none⟩ = some (.int .i64 N))
      (first
        | exact ⟨by assumption, by assumption, by assumption, by assumption⟩
        | exact HX.out _ (HKW2.out.trans (HK2.out.trans hk4))
        | exact HX2.out _ ((HKW4.out.nil).set (List.mem_singleton.2 rfl) _ _)
        | exact HX2.out _ (((HKW4.out.nil).set (List.mem_singleton.2 rfl) _ _).set (List.mem_singleton.2 rfl) _ _)
        | fail)
      (first
        | (go_at_call 29; refine (HC.out _).mono ?_; rintro e w4 ⟨rfl, k4⟩; have hk4 : Keeps [] w2 w4 := k4.undrew; clear k4 c0 c1 c2 c3 e0 e1 g0 g1 hlt; have HKW4 := Lib.hid (HKW2.out.trans (HK2.out.trans hk4)); have hrr := HR2.out.keeps (HK2.out.trans hk4) (by simp); have e0 := hrr.cell (j := 0) rfl; have e1 := hrr.cell (j := 1) rfl; have g0 := hrr.frozen 0; have g1 := hrr.frozen 1; have hlt := hrr.lt; clear hrr)
        | fail)
    have HK4 := Lib.hid (HK2.out.trans hk4)
    have w1 : IntKind.i64.wrap (1 + W) = 1 + W := IntWalk.i64_in _ (by omega)
    rw [w1]
    clear hk4
    go_wp2
    refine bodyPost_ret (v := .agg #[.int .i64 (1 + W), .int .i64 N]) (by simp [results, Try.results14, go_sem, e0, e1, hlt]) rfl ⟨rfl, ?_⟩
    exact (HK1.out.trans (HKW2.out.trans HK4.out)).step (S := [W1.heap.size]) (((Keeps.refl _ _).set (List.mem_singleton.2 rfl) _ _).set (List.mem_singleton.2 rfl) _ _) (fun k hk => by rw [List.mem_singleton.1 hk]; omega)
set_option maxHeartbeats 3200000 in
theorem plRight_any (W K S N : Int) (w : World) (hS : -9223372036854775808 ≤ S) :
    Calls Try.prog 23 #[plV W K S N] w fun e w' => e = .returned (.bool (decide (plRight W K S N))) ∧ Keeps [] w w' := by
  obtain ⟨W1, hW1⟩ : ∃ W1, w.alloc (.cells #[.int .i64 W, .int .i64 K, .int .i64 S, .int .i64 N] 23) = W1 := ⟨_, rfl⟩
  have hb : Box W1 w.heap.size #[.int .i64 W, .int .i64 K, .int .i64 S, .int .i64 N] := by rw [← hW1]; exact Box.new _ _ _
  have hk1 : Keeps [] w W1 := by rw [← hW1]; exact (Keeps.refl _ _).alloc _
  have HX := Lib.hid (fun Wx (k : Keeps [] W1 Wx) => show Wx.cell? ⟨w.heap.size, 0, none⟩ = some (.int .i64 W) ∧ Wx.cell? ⟨w.heap.size, 1, none⟩ = some (.int .i64 K) ∧ Wx.cell? ⟨w.heap.size, 2, none⟩ = some (.int .i64 S) ∧ Wx.cell? ⟨w.heap.size, 3, none⟩ = some (.int .i64 N) from ⟨(hb.keeps k (by simp)).cells 0, (hb.keeps k (by simp)).cells 1, (hb.keeps k (by simp)).cells 2, (hb.keeps k (by simp)).cells 3⟩)
  obtain ⟨c0, c1, c2, c3⟩ := HX.out W1 (Keeps.refl _ _)
  have HK1 := Lib.hid hk1
  clear hb hk1
  by_cases h1 : 1 ≤ W ∧ W ≤ 16 ∧ 0 ≤ K ∧ K ≤ 1 ∧ 2 ≤ S ∧ S ≤ 256
  · obtain ⟨a1, a2, a3, a4, a5, a6⟩ := h1
    have hbits := dqBits_at S a5 a6
    have d1 : decide (1 ≤ W) = true := decide_eq_true a1
    have d2 : decide (W ≤ 16) = true := decide_eq_true a2
    have d3 : decide (2 ≤ S) = true := decide_eq_true a5
    have d4 : decide (S ≤ 256) = true := decide_eq_true a6
    have hwS : IntKind.i64.wrap (S - 1) = S - 1 := IntWalk.i64_in _ (by omega)
    obtain ⟨y, hy⟩ : ∃ y, bits BinOp.and IntKind.i64 S (S - 1) = y := ⟨_, rfl⟩
    rw [hy] at hbits
    have hK : K = 0 ∨ K = 1 := by omega
    by_cases h3 : y = 0
    · have hpw := hbits.1 h3
      have HD : Hid (decide (plRight W K S N) = (decide (2 ≤ N) && decide (N ≤ 4096))) := Lib.hid (by
        rw [← Bool.decide_and]
        apply decide_eq_decide.2
        unfold plRight
        omega)
      rw [HD.out]
      clear hbits hpw HD
      subst h3
      by_cases h5 : 2 ≤ N
      · have d5 : decide (2 ≤ N) = true := decide_eq_true h5
        rcases hK with rfl | rfl
        all_goals
          go_enter Try.func23, Try.ntmps23
          go_wp2
          go_ret
          exact ⟨by simp [d5], HK1.out⟩
      · have d5 : decide (2 ≤ N) = false := decide_eq_false h5
        rcases hK with rfl | rfl
        all_goals
          go_enter Try.func23, Try.ntmps23
          go_wp2
          go_ret
          exact ⟨by simp [d5], HK1.out⟩
    · have HD : Hid (decide (plRight W K S N) = false) := Lib.hid (decide_eq_false fun h => h3 (hbits.2 h.2.2.2.2.1))
      rw [HD.out]
      have d5 : decide (y = 0) = false := decide_eq_false h3
      clear hbits
      rcases hK with rfl | rfl
      all_goals
        go_enter Try.func23, Try.ntmps23
        go_wp2
        go_ret
        exact ⟨rfl, HK1.out⟩
  · have HD : Hid (decide (plRight W K S N) = false) := Lib.hid (decide_eq_false fun h => h1 (by unfold plRight at h; omega))
    rw [HD.out]
    clear HD
    by_cases b1 : 1 ≤ W
    · have d1 : decide (1 ≤ W) = true := decide_eq_true b1
      by_cases b2 : W ≤ 16
      · have d2 : decide (W ≤ 16) = true := decide_eq_true b2
        by_cases b3 : K = 0 ∨ K = 1
        · by_cases b4 : 2 ≤ S
          · have d3 : decide (2 ≤ S) = true := decide_eq_true b4
            have d4 : decide (S ≤ 256) = false := decide_eq_false (by omega)
            rcases b3 with rfl | rfl
            all_goals
              go_enter Try.func23, Try.ntmps23
              go_wp2
              go_ret
              exact ⟨rfl, HK1.out⟩
          · have d3 : decide (2 ≤ S) = false := decide_eq_false b4
            rcases b3 with rfl | rfl
            all_goals
              go_enter Try.func23, Try.ntmps23
              go_wp2
              go_ret
              exact ⟨rfl, HK1.out⟩
        · have d3 : decide (K = 0) = false := decide_eq_false (by omega)
          have d4 : decide (K = 1) = false := decide_eq_false (by omega)
          go_enter Try.func23, Try.ntmps23
          go_wp2
          go_ret
          exact ⟨rfl, HK1.out⟩
      · have d2 : decide (W ≤ 16) = false := decide_eq_false b2
        go_enter Try.func23, Try.ntmps23
        go_wp2
        go_ret
        exact ⟨rfl, HK1.out⟩
    · have d1 : decide (1 ≤ W) = false := decide_eq_false b1
      go_enter Try.func23, Try.ntmps23
      go_wp2
      go_ret
      exact ⟨rfl, HK1.out⟩
end Go.Proofs.Ytnlkbmjelkbfkaa
