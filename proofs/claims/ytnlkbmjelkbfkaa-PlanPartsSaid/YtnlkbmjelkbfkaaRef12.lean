import Derived.Test.YtnlkbmjelkbfkaaPlN
/-
  Contracts: the document's answers of layer 12, and the chapter's example.
-/
namespace Go.Proofs.Ytnlkbmjelkbfkaa
set_option maxRecDepth 100000
set_option linter.unusedSimpArgs false
set_option linter.unusedVariables false
open Go.ChangeShapes Go.WideShapes Go.ChangeAt Go.RowKit

theorem refHead12_any (W K S N : Int) (w : World) (h1 : 1 ≤ W) (h2 : W ≤ 16) :
    Calls Try.prog 16 #[plV W K S N] w fun e w' => e = .returned (.int .i64 (1 + W)) ∧ Keeps [] w w' := by
  have hw : IntKind.i64.wrap (1 + W) = 1 + W := IntWalk.i64_in _ (by omega)
  obtain ⟨W1, hW1⟩ : ∃ W1, w.alloc (.cells #[.int .i64 W, .int .i64 K, .int .i64 S, .int .i64 N] 23) = W1 := ⟨_, rfl⟩
  have hb : Box W1 w.heap.size #[.int .i64 W, .int .i64 K, .int .i64 S, .int .i64 N] := by rw [← hW1]; exact Box.new _ _ _
  have hk1 : Keeps [] w W1 := by rw [← hW1]; exact (Keeps.refl _ _).alloc _
  have HX := Lib.hid (fun Wx (k : Keeps [] W1 Wx) => show Wx.cell? ⟨w.heap.size, 0, none⟩ = some (.int .i64 W) ∧ Wx.cell? ⟨w.heap.size, 1, none⟩ = some (.int .i64 K) ∧ Wx.cell? ⟨w.heap.size, 2, none⟩ = some (.int .i64 S) ∧ Wx.cell? ⟨w.heap.size, 3, none⟩ = some (.int .i64 N) from ⟨(hb.keeps k (by simp)).cells 0, (hb.keeps k (by simp)).cells 1, (hb.keeps k (by simp)).cells 2, (hb.keeps k (by simp)).cells 3⟩)
  obtain ⟨c0, c1, c2, c3⟩ := HX.out W1 (Keeps.refl _ _)
  have HK1 := Lib.hid hk1
  clear hb hk1
  go_enter Try.func16, Try.ntmps16
  go_wp2
  go_ret
  exact ⟨rfl, HK1.out⟩
theorem refLocal12_any (W K S N : Int) (i : Nat) (w : World) (h : plRight W K S N) (hi : i ≤ 16) :
    Calls Try.prog 15 #[plV W K S N, .int .i64 (i : Int)] w fun e w' => e = .returned (.int .i64 (W + 3 * N + 4 + i * (S + 2))) ∧ Keeps [] w w' := by
  obtain ⟨h1, h2, h3, h4, h5, h6, h7⟩ := h
  have HH := Lib.hid (fun Wx => refHead12_any W K S N Wx h1 h2)
  have s1 : 2 ≤ S := by omega
  have s2 : S ≤ 256 := by omega
  have hw1 : IntKind.i64.wrap (3 * N) = 3 * N := IntWalk.i64_in _ (by omega)
  have hw2 : IntKind.i64.wrap (1 + W + 3 * N) = 1 + W + 3 * N := IntWalk.i64_in _ (by omega)
  have hw3 : IntKind.i64.wrap (1 + W + 3 * N + 3) = 1 + W + 3 * N + 3 := IntWalk.i64_in _ (by omega)
  clear h5
  obtain ⟨W1, hW1⟩ : ∃ W1, w.alloc (.cells #[.int .i64 W, .int .i64 K, .int .i64 S, .int .i64 N] 23) = W1 := ⟨_, rfl⟩
  have hb : Box W1 w.heap.size #[.int .i64 W, .int .i64 K, .int .i64 S, .int .i64 N] := by rw [← hW1]; exact Box.new _ _ _
  have hk1 : Keeps [] w W1 := by rw [← hW1]; exact (Keeps.refl _ _).alloc _
  have HX := Lib.hid (fun Wx (k : Keeps [] W1 Wx) => show Wx.cell? ⟨w.heap.size, 0, none⟩ = some (.int .i64 W) ∧ Wx.cell? ⟨w.heap.size, 1, none⟩ = some (.int .i64 K) ∧ Wx.cell? ⟨w.heap.size, 2, none⟩ = some (.int .i64 S) ∧ Wx.cell? ⟨w.heap.size, 3, none⟩ = some (.int .i64 N) from ⟨(hb.keeps k (by simp)).cells 0, (hb.keeps k (by simp)).cells 1, (hb.keeps k (by simp)).cells 2, (hb.keeps k (by simp)).cells 3⟩)
  obtain ⟨c0, c1, c2, c3⟩ := HX.out W1 (Keeps.refl _ _)
  have HK1 := Lib.hid hk1
  clear hb hk1
  go_enter Try.func15, Try.ntmps15
  have HKK : Hid (Keeps [] W1 W1) := Lib.hid (Keeps.refl _ _)
  go_wp2
  go_region_held3 (fun w' => w'.cell? ⟨w.heap.size, 0, none⟩ = some (.int .i64 W) ∧ w'.cell? ⟨w.heap.size, 1, none⟩ = some (.int .i64 K) ∧ w'.cell? ⟨w.heap.size, 2, none⟩ = some (.int .i64 S) ∧ w'.cell? ⟨w.heap.size, 3, none⟩ = some (.int .i64 N))
    (first
      | exact ⟨by assumption, by assumption, by assumption, by assumption⟩
      | exact HX.out _ HKK.out
      | fail)
    (first
      | (go_at_call 16; refine (HH.out _).mono ?_; rintro e w4 ⟨rfl, k4⟩; have HKN := Lib.hid (show Keeps [] W1 w4 from by first | exact HKK.out.trans k4.undrew | exact HKK.out.trans k4); clear k4 HKK; have HKK := HKN; clear HKN)
      | fail)
  have HK0 := HKK
  clear HKK c0 c1 c2 c3
  go_wp2
  go_loopw [5, 6] (fun a k wr => ∃ j : Nat, j ≤ i ∧ k = .int .i64 (j : Int) ∧ a = .int .i64 (W + 3 * N + 4 + j * (S + 2)) ∧ Keeps [] W1 wr) (fun _ k _ => i - (intOf k).toNat)
  case atStart => exact ⟨0, Nat.zero_le _, rfl, by rw [show 1 + W + 3 * N + 3 = W + 3 * N + 4 by omega]; simp, HK0.out⟩
  case round =>
    obtain ⟨j, hj, rfl, rfl, hkr⟩ := hrel
    obtain ⟨c0, c1, c2, c3⟩ := HX.out wr hkr
    have HKR := Lib.hid hkr
    clear hkr
    obtain ⟨m1, m2⟩ := mul_fits (W := (j : Int)) (S := S) (by omega) (by omega) (by omega) (by omega)
    by_cases hlt : j < i
    · have hw4 : IntKind.i64.wrap (W + 3 * N + 4 + j * (S + 2) + S) = W + 3 * N + 4 + j * (S + 2) + S := IntWalk.i64_in _ (by omega)
      have hw5 : IntKind.i64.wrap (W + 3 * N + 4 + j * (S + 2) + S + 2) = W + 3 * N + 4 + j * (S + 2) + S + 2 := IntWalk.i64_in _ (by omega)
      have d1 : decide ((j : Int) < (i : Int)) = true := decide_eq_true (by omega)
      go_wp2
      go_roundw
      case rel => exact ⟨j + 1, by omega, by go_num, by rw [show ((j + 1 : Nat) : Int) = (j : Int) + 1 by omega, Int.add_mul]; congr 1; omega, HKR.out⟩
      case measure => simp [intOf]; omega
    · obtain rfl : j = i := by omega
      go_wp2
      go_ret
      exact ⟨rfl, HK1.out.trans HKR.out⟩
theorem refMay12_any (W K S N : Int) (w : World) (hf : True) :
    Calls Try.prog 8 #[plV W K S N] w fun e w' => e = .returned (.int .i64 (if plRight W K S N then 0 else 2)) ∧ Keeps [] w w' := by
  have HR := Lib.hid (fun Wx => rRight_any 0 S Wx)
  obtain ⟨W1, hW1⟩ : ∃ W1, w.alloc (.cells #[.int .i64 W, .int .i64 K, .int .i64 S, .int .i64 N] 23) = W1 := ⟨_, rfl⟩
  have hb : Box W1 w.heap.size #[.int .i64 W, .int .i64 K, .int .i64 S, .int .i64 N] := by rw [← hW1]; exact Box.new _ _ _
  have hk1 : Keeps [] w W1 := by rw [← hW1]; exact (Keeps.refl _ _).alloc _
  have HX := Lib.hid (fun Wx (k : Keeps [] W1 Wx) => show Wx.cell? ⟨w.heap.size, 0, none⟩ = some (.int .i64 W) ∧ Wx.cell? ⟨w.heap.size, 1, none⟩ = some (.int .i64 K) ∧ Wx.cell? ⟨w.heap.size, 2, none⟩ = some (.int .i64 S) ∧ Wx.cell? ⟨w.heap.size, 3, none⟩ = some (.int .i64 N) from ⟨(hb.keeps k (by simp)).cells 0, (hb.keeps k (by simp)).cells 1, (hb.keeps k (by simp)).cells 2, (hb.keeps k (by simp)).cells 3⟩)
  obtain ⟨c0, c1, c2, c3⟩ := HX.out W1 (Keeps.refl _ _)
  have HK1 := Lib.hid hk1
  clear hb hk1
  by_cases hA : 1 ≤ W ∧ W ≤ 16 ∧ 0 ≤ K ∧ K ≤ 1
  · obtain ⟨a1, a2, a3, a4⟩ := hA
    have d1 : decide (W < 1) = false := decide_eq_false (by omega)
    have d2 : decide (16 < W) = false := decide_eq_false (by omega)
    have d3 : decide (K < 0) = false := decide_eq_false (by omega)
    have d4 : decide (1 < K) = false := decide_eq_false (by omega)
    by_cases hS : dqRight 0 S
    · have hp := hS.1
      rw [decide_eq_true hS] at HR
      by_cases hN : 2 ≤ N ∧ N ≤ 4096
      · have d5 : decide (N < 2) = false := decide_eq_false (by omega)
        have d6 : decide (4096 < N) = false := decide_eq_false (by omega)
        have HI : Hid ((if plRight W K S N then (0 : Int) else 2) = 0) := Lib.hid (if_pos ⟨a1, a2, a3, a4, hp, hN.1, hN.2⟩)
        rw [HI.out]
        clear hS hp
        go_enter Try.func8, Try.ntmps8
        go_wp2_with fail
        refine (HR.out _).mono ?_
        rintro e w2 ⟨rfl, rfl⟩
        go_wp2
        go_ret
        exact ⟨rfl, HK1.out⟩
      · have HI : Hid ((if plRight W K S N then (0 : Int) else 2) = 2) := Lib.hid (if_neg fun h => hN h.2.2.2.2.2)
        rw [HI.out]
        clear hS hp
        by_cases h5 : N < 2
        · have d5 : decide (N < 2) = true := decide_eq_true h5
          go_enter Try.func8, Try.ntmps8
          go_wp2_with fail
          refine (HR.out _).mono ?_
          rintro e w2 ⟨rfl, rfl⟩
          go_wp2
          go_ret
          exact ⟨rfl, HK1.out⟩
        · have d5 : decide (N < 2) = false := decide_eq_false h5
          have d6 : decide (4096 < N) = true := decide_eq_true (by omega)
          go_enter Try.func8, Try.ntmps8
          go_wp2_with fail
          refine (HR.out _).mono ?_
          rintro e w2 ⟨rfl, rfl⟩
          go_wp2
          go_ret
          exact ⟨rfl, HK1.out⟩
    · rw [decide_eq_false hS] at HR
      have HI : Hid ((if plRight W K S N then (0 : Int) else 2) = 2) := Lib.hid (if_neg fun h => hS ⟨h.2.2.2.2.1, by decide, by have := h.2.2.2.2.1; omega⟩)
      rw [HI.out]
      clear hS
      go_enter Try.func8, Try.ntmps8
      go_wp2_with fail
      refine (HR.out _).mono ?_
      rintro e w2 ⟨rfl, rfl⟩
      go_wp2
      go_ret
      exact ⟨rfl, HK1.out⟩
  · have HI : Hid ((if plRight W K S N then (0 : Int) else 2) = 2) := Lib.hid (if_neg fun h => hA ⟨h.1, h.2.1, h.2.2.1, h.2.2.2.1⟩)
    rw [HI.out]
    by_cases b1 : W < 1
    · have d1 : decide (W < 1) = true := decide_eq_true b1
      go_enter Try.func8, Try.ntmps8
      go_wp2
      go_ret
      exact ⟨rfl, HK1.out⟩
    have d1 : decide (W < 1) = false := decide_eq_false b1
    by_cases b2 : 16 < W
    · have d2 : decide (16 < W) = true := decide_eq_true b2
      go_enter Try.func8, Try.ntmps8
      go_wp2
      go_ret
      exact ⟨rfl, HK1.out⟩
    have d2 : decide (16 < W) = false := decide_eq_false b2
    by_cases b3 : K < 0
    · have d3 : decide (K < 0) = true := decide_eq_true b3
      go_enter Try.func8, Try.ntmps8
      go_wp2
      go_ret
      exact ⟨rfl, HK1.out⟩
    have d3 : decide (K < 0) = false := decide_eq_false b3
    have d4 : decide (1 < K) = true := decide_eq_true (by omega)
    go_enter Try.func8, Try.ntmps8
    go_wp2
    go_ret
    exact ⟨rfl, HK1.out⟩
theorem awake12 (w : World) :
    Calls Try.prog 6 #[] w fun e w' => e = .returned (.bool true) ∧ Keeps [] w w' := by
  have HN := Lib.hid (fun Wx => plNew_fine 2 0 4 3 Wx (by decide) (by decide))
  have HC := Lib.hid (fun Wx => plCells_any 2 0 4 3 Wx (by decide))
  have HL := Lib.hid (fun Wx => plLocal_some 2 0 4 3 1 Wx (by decide) (by decide))
  go_enter Try.func6, Try.ntmps6
  go_wp2_with fail
  refine (HN.out _).mono ?_
  rintro e w2 ⟨rfl, k2⟩
  obtain ⟨W3, hW3⟩ : ∃ W3, w2.alloc (.cells #[.int .i64 2, .int .i64 0, .int .i64 4, .int .i64 3] 26) = W3 := ⟨_, rfl⟩
  have HB3 : Hid (Box W3 w2.heap.size #[.int .i64 2, .int .i64 0, .int .i64 4, .int .i64 3]) := Lib.hid (by rw [← hW3]; exact Box.new _ _ _)
  have HK3 : Hid (Keeps [] w W3) := Lib.hid (k2.trans (by rw [← hW3]; exact (Keeps.refl _ _).alloc _))
  clear k2
  have c0 := HB3.out.cells 0
  have c1 := HB3.out.cells 1
  have c2 := HB3.out.cells 2
  have c3 := HB3.out.cells 3
  rw [show plCells 2 4 3 = 27 from rfl] at HC
  rw [show (2 + 3 * 3 + 4 + 1 * (4 + 2) : Int) = 21 by decide] at HL
  go_wp2_with fail
  refine (HC.out _).mono ?_
  rintro e w4 ⟨rfl, k4⟩
  have HK4 := Lib.hid (HK3.out.trans k4)
  have HB4 := Lib.hid (HB3.out.keeps k4 (by simp))
  clear k4 c0 c1 c2 c3
  have c0 := HB4.out.cells 0
  have c1 := HB4.out.cells 1
  have c2 := HB4.out.cells 2
  have c3 := HB4.out.cells 3
  go_wp2_with fail
  refine (HL.out _).mono ?_
  rintro e w5 ⟨rfl, k5⟩
  have HK5 := Lib.hid (HK4.out.trans k5)
  clear k5
  go_wp2
  go_ret
  exact ⟨rfl, HK5.out⟩
-- refInit9_any append_zeros append_row owns_lit owns_some zeroCells_u64 owns_keeps
end Go.Proofs.Ytnlkbmjelkbfkaa
