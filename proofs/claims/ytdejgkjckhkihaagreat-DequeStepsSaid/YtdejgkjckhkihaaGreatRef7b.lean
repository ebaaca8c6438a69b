/-
  Contracts: the steps of the document's frames of a deque.
-/
import Derived.Test.YtdejgkjckhkihaaGreatRef7
import Derived.Test.YtdejgkjckhkihaaGreatMach
namespace Go.Proofs.YtdejgkjckhkihaaGreat
set_option maxRecDepth 100000
set_option linter.unusedSimpArgs false
set_option linter.unusedVariables false
open Go.ChangeShapes Go.WideShapes Go.ChangeAt Go.RowKit

set_option maxHeartbeats 1600000 in
theorem refDq_push (p : Nat) (s : DqS) (v : Int) (won : Bool) (w : World) (h : Row w p 73 (dqCells s)) (ho : s.over = none) (hk : s.kind = 1) (hst : s.step = 1 ∨ s.step = 2 ∨ s.step = 3 ∨ s.step = 4) (hr : dqRight s.at_ s.size) (hb : M.U s.b) (hv : M.U v) :
    Calls Tryz.prog 55 #[.pointer (some ⟨p, 0, none⟩), .int .u64 v] w fun e w' => e = .returned (.tuple #[]) ∧ Row w' p 73 (dqCells (dqGive s v won)) ∧ Keeps [p] w w' := by
  obtain ⟨at_, size, kind, task, step, b, t, vv, won0, over⟩ := s
  simp only at ho hk hst hr hb
  subst ho hk
  have HE := Lib.hid (fun s c u W h => refDqEnd_any p s c u W h)
  have HA := Lib.hid (fun W => refDqAhead_any b v W hb hv)
  have c1 := h.cell (j := 1) rfl
  have c4 := h.cell (j := 4) rfl
  have c5 := h.cell (j := 5) rfl
  have c6 := h.cell (j := 6) rfl
  have f4 := h.frozen 4
  have f5 := h.frozen 5
  have f6 := h.frozen 6
  simp only at c1 c4 c5 c6
  have HR := Lib.hid h
  have hs2 : 2 ≤ size ∧ size ≤ 256 := by obtain ⟨h1, -⟩ := hr; omega
  clear h hb hv hr
  rcases hst with rfl | rfl | rfl | rfl
  · have HG : Hid (dqGive ⟨at_, size, 1, task, 1, b, t, vv, won0, none⟩ v won = ⟨at_, size, 1, task, 2, v, t, vv, won0, none⟩) := Lib.hid rfl
    rw [HG.out]
    have hrow := (HR.out.set 5 (.int .u64 v)).set 4 (.int .i64 2)
    have HRow := Lib.hid hrow
    clear hrow
    go_enter Tryz.func55, Tryz.ntmps55
    go_wp2
    first | go_end0 | refine bodyPost_ret (results_none rfl _ _ _) rfl ?_
    exact ⟨rfl, HRow.out, ((Keeps.refl [p] w).set (by simp) _ _).set (by simp) _ _⟩
  · obtain ⟨d, hd⟩ : ∃ d, dqAhead b v = d := ⟨_, rfl⟩
    have hrow := HR.out.set 6 (.int .u64 v)
    obtain ⟨W1, hW1⟩ : ∃ W1, w.setCell ⟨p, 6, none⟩ (.int .u64 v) = W1 := ⟨_, rfl⟩
    have k1 : Keeps [p] w W1 := by rw [← hW1]; exact (Keeps.refl _ _).set (by simp) _ _
    rw [hW1] at hrow
    have r1 : Row W1 p 73 (dqCells ⟨at_, size, 1, task, 2, b, v, vv, won0, none⟩) := hrow
    have e1 := r1.cell (j := 1) rfl
    have e4 := r1.cell (j := 4) rfl
    have e5 := r1.cell (j := 5) rfl
    have e6 := r1.cell (j := 6) rfl
    have g4 := r1.frozen 4
    simp only at e1 e4 e5 e6
    have HR1 := Lib.hid r1
    have HK1 := Lib.hid k1
    rw [hd] at HA
    clear hrow r1 k1
    by_cases hf : size ≤ d
    · have HG : Hid (dqGive ⟨at_, size, 1, task, 2, b, t, vv, won0, none⟩ v won = ⟨at_, size, 1, task, 3, b, v, vv, won0, some ⟨4, 0, []⟩⟩) := Lib.hid (by simp [dqGive, hd, hf])
      rw [HG.out]
      have dd : decide (size ≤ d) = true := decide_eq_true hf
      clear hd
      go_enter Tryz.func55, Tryz.ntmps55
      go_wp2
      refine wp_region_mid 13 (by kernel_rfl) (by kernel_rfl) ?_
      simp only [List.take_succ_cons, List.take_zero, List.drop_succ_cons, List.drop_zero]
      repeat still_step
      still_call (stillOf (HA.out _))
      repeat still_step
      refine wpStill_nil ?_
      go_wp2
      show wpStill _ _ _ _ _ _
      repeat still_step
      refine wpStill_nil ?_
      go_wp2_with fail
      refine (HE.out _ 4 0 W1.drew HR1.out).mono ?_
      rintro e w2 ⟨rfl, hr2, k2⟩
      have x4 := hr2.cell (j := 4) rfl
      have y4 := hr2.frozen 4
      simp only at x4
      have HQ := Lib.hid (⟨hr2.set 4 (.int .i64 3), HK1.out.trans (k2.undrew)⟩ : _ ∧ _)
      clear hr2 k2
      go_wp2
      first | go_end0 | refine bodyPost_ret (results_none rfl _ _ _) rfl ?_
      exact ⟨rfl, HQ.out.1, HQ.out.2.set (by simp) _ _⟩
    · have HG : Hid (dqGive ⟨at_, size, 1, task, 2, b, t, vv, won0, none⟩ v won = ⟨at_, size, 1, task, 3, b, v, vv, won0, none⟩) := Lib.hid (by simp [dqGive, hd, hf])
      rw [HG.out]
      have dd : decide (size ≤ d) = false := decide_eq_false hf
      clear hd
      go_enter Tryz.func55, Tryz.ntmps55
      go_wp2
      refine wp_region_mid 13 (by kernel_rfl) (by kernel_rfl) ?_
      simp only [List.take_succ_cons, List.take_zero, List.drop_succ_cons, List.drop_zero]
      repeat still_step
      still_call (stillOf (HA.out _))
      repeat still_step
      refine wpStill_nil ?_
      go_wp2
      show wpStill _ _ _ _ _ _
      repeat still_step
      refine wpStill_nil ?_
      go_wp2
      first | go_end0 | refine bodyPost_ret (results_none rfl _ _ _) rfl ?_
      exact ⟨rfl, (HR1.out.keeps (Keeps.refl [] W1).drew (by simp)).set 4 _, (HK1.out.trans ((Keeps.refl [p] W1).drew)).set (by simp) _ _⟩
  · have HG : Hid (dqGive ⟨at_, size, 1, task, 3, b, t, vv, won0, none⟩ v won = ⟨at_, size, 1, task, 4, b, t, vv, won0, none⟩) := Lib.hid rfl
    rw [HG.out]
    go_enter Tryz.func55, Tryz.ntmps55
    go_wp2
    first | go_end0 | refine bodyPost_ret (results_none rfl _ _ _) rfl ?_
    exact ⟨rfl, HR.out.set 4 _, (Keeps.refl [p] w).set (by simp) _ _⟩
  · have HG : Hid (dqGive ⟨at_, size, 1, task, 4, b, t, vv, won0, none⟩ v won = ⟨at_, size, 1, task, 5, b, t, vv, won0, some ⟨0, 0, []⟩⟩) := Lib.hid rfl
    rw [HG.out]
    go_enter Tryz.func55, Tryz.ntmps55
    go_wp2_with fail
    refine (HE.out _ 0 0 w HR.out).mono ?_
    rintro e w2 ⟨rfl, hr2, k2⟩
    have x4 := hr2.cell (j := 4) rfl
    have y4 := hr2.frozen 4
    simp only at x4
    have HQ := Lib.hid (⟨hr2.set 4 (.int .i64 5), k2⟩ : _ ∧ _)
    clear hr2 k2
    go_wp2
    first | go_end0 | refine bodyPost_ret (results_none rfl _ _ _) rfl ?_
    exact ⟨rfl, HQ.out.1, HQ.out.2.set (by simp) _ _⟩

set_option maxHeartbeats 1600000 in
theorem refDq_steal (p : Nat) (s : DqS) (v : Int) (won : Bool) (w : World) (h : Row w p 73 (dqCells s)) (ho : s.over = none) (hk : s.kind = 3) (hst : s.step = 1 ∨ s.step = 2 ∨ s.step = 3 ∨ s.step = 4) (ht : M.U s.t) (hv : M.U v) :
    Calls Tryz.prog 57 #[.pointer (some ⟨p, 0, none⟩), .int .u64 v, .bool won] w fun e w' => e = .returned (.tuple #[]) ∧ Row w' p 73 (dqCells (dqGive s v won)) ∧ Keeps [p] w w' := by
  obtain ⟨at_, size, kind, task, step, b, t, vv, won0, over⟩ := s
  simp only at ho hk hst ht
  subst ho hk
  have HE := Lib.hid (fun s c u W h => refDqEnd_any p s c u W h)
  have HA := Lib.hid (fun W => refDqAhead_any v t W hv ht)
  have c4 := h.cell (j := 4) rfl
  have c5 := h.cell (j := 5) rfl
  have c6 := h.cell (j := 6) rfl
  have c7 := h.cell (j := 7) rfl
  have f4 := h.frozen 4
  have f5 := h.frozen 5
  have f6 := h.frozen 6
  have f7 := h.frozen 7
  simp only at c4 c5 c6 c7
  have HR := Lib.hid h
  clear h ht hv
  rcases hst with rfl | rfl | rfl | rfl
  · have HG : Hid (dqGive ⟨at_, size, 3, task, 1, b, t, vv, won0, none⟩ v won = ⟨at_, size, 3, task, 2, b, v, vv, won0, none⟩) := Lib.hid rfl
    rw [HG.out]
    have HRow := Lib.hid ((HR.out.set 6 (.int .u64 v)).set 4 (.int .i64 2))
    go_enter Tryz.func57, Tryz.ntmps57
    go_wp2
    first | go_end0 | refine bodyPost_ret (results_none rfl _ _ _) rfl ?_
    exact ⟨rfl, HRow.out, ((Keeps.refl [p] w).set (by simp) _ _).set (by simp) _ _⟩
  · obtain ⟨d, hd⟩ : ∃ d, dqAhead v t = d := ⟨_, rfl⟩
    have hrow := HR.out.set 5 (.int .u64 v)
    obtain ⟨W1, hW1⟩ : ∃ W1, w.setCell ⟨p, 5, none⟩ (.int .u64 v) = W1 := ⟨_, rfl⟩
    have k1 : Keeps [p] w W1 := by rw [← hW1]; exact (Keeps.refl _ _).set (by simp) _ _
    rw [hW1] at hrow
    have r1 : Row W1 p 73 (dqCells ⟨at_, size, 3, task, 2, v, t, vv, won0, none⟩) := hrow
    have e4 := r1.cell (j := 4) rfl
    have e5 := r1.cell (j := 5) rfl
    have e6 := r1.cell (j := 6) rfl
    have g4 := r1.frozen 4
    simp only at e4 e5 e6
    have HR1 := Lib.hid r1
    have HK1 := Lib.hid k1
    rw [hd] at HA
    clear hrow r1 k1
    by_cases hf : d < 1
    · have HG : Hid (dqGive ⟨at_, size, 3, task, 2, b, t, vv, won0, none⟩ v won = ⟨at_, size, 3, task, 3, v, t, vv, won0, some ⟨5, 0, []⟩⟩) := Lib.hid (by simp [dqGive, hd, hf])
      rw [HG.out]
      have dd : decide (d < 1) = true := decide_eq_true hf
      clear hd
      go_enter Tryz.func57, Tryz.ntmps57
      go_wp2
      refine wp_region_mid 9 (by kernel_rfl) (by kernel_rfl) ?_
      simp only [List.take_succ_cons, List.take_zero, List.drop_succ_cons, List.drop_zero]
      repeat still_step
      still_call (stillOf (HA.out _))
      repeat still_step
      refine wpStill_nil ?_
      go_wp2
      show wpStill _ _ _ _ _ _
      repeat still_step
      refine wpStill_nil ?_
      go_wp2_with fail
      refine (HE.out _ 5 0 W1.drew HR1.out).mono ?_
      rintro e w2 ⟨rfl, hr2, k2⟩
      have x4 := hr2.cell (j := 4) rfl
      have y4 := hr2.frozen 4
      simp only at x4
      have HQ := Lib.hid (⟨hr2.set 4 (.int .i64 3), HK1.out.trans (k2.undrew)⟩ : _ ∧ _)
      clear hr2 k2
      go_wp2
      first | go_end0 | refine bodyPost_ret (results_none rfl _ _ _) rfl ?_
      exact ⟨rfl, HQ.out.1, HQ.out.2.set (by simp) _ _⟩
    · have HG : Hid (dqGive ⟨at_, size, 3, task, 2, b, t, vv, won0, none⟩ v won = ⟨at_, size, 3, task, 3, v, t, vv, won0, none⟩) := Lib.hid (by simp [dqGive, hd, hf])
      rw [HG.out]
      have dd : decide (d < 1) = false := decide_eq_false hf
      clear hd
      go_enter Tryz.func57, Tryz.ntmps57
      go_wp2
      refine wp_region_mid 9 (by kernel_rfl) (by kernel_rfl) ?_
      simp only [List.take_succ_cons, List.take_zero, List.drop_succ_cons, List.drop_zero]
      repeat still_step
      still_call (stillOf (HA.out _))
      repeat still_step
      refine wpStill_nil ?_
      go_wp2
      show wpStill _ _ _ _ _ _
      repeat still_step
      refine wpStill_nil ?_
      go_wp2
      first | go_end0 | refine bodyPost_ret (results_none rfl _ _ _) rfl ?_
      exact ⟨rfl, (HR1.out.keeps (Keeps.refl [] W1).drew (by simp)).set 4 _, (HK1.out.trans ((Keeps.refl [p] W1).drew)).set (by simp) _ _⟩
  · have HG : Hid (dqGive ⟨at_, size, 3, task, 3, b, t, vv, won0, none⟩ v won = ⟨at_, size, 3, task, 4, b, t, v, won0, none⟩) := Lib.hid rfl
    rw [HG.out]
    have HRow := Lib.hid ((HR.out.set 7 (.int .u64 v)).set 4 (.int .i64 4))
    go_enter Tryz.func57, Tryz.ntmps57
    go_wp2
    first | go_end0 | refine bodyPost_ret (results_none rfl _ _ _) rfl ?_
    exact ⟨rfl, HRow.out, ((Keeps.refl [p] w).set (by simp) _ _).set (by simp) _ _⟩
  · cases won with
    | true =>
      have HG : Hid (dqGive ⟨at_, size, 3, task, 4, b, t, vv, won0, none⟩ v true = ⟨at_, size, 3, task, 5, b, t, vv, won0, some ⟨0, vv, []⟩⟩) := Lib.hid rfl
      rw [HG.out]
      go_enter Tryz.func57, Tryz.ntmps57
      go_wp2_with fail
      refine (HE.out _ 0 vv w HR.out).mono ?_
      rintro e w2 ⟨rfl, hr2, k2⟩
      have x4 := hr2.cell (j := 4) rfl
      have y4 := hr2.frozen 4
      simp only at x4
      have HQ := Lib.hid (⟨hr2.set 4 (.int .i64 5), k2⟩ : _ ∧ _)
      clear hr2 k2
      go_wp2
      first | go_end0 | refine bodyPost_ret (results_none rfl _ _ _) rfl ?_
      exact ⟨rfl, HQ.out.1, HQ.out.2.set (by simp) _ _⟩
    | false =>
      have HG : Hid (dqGive ⟨at_, size, 3, task, 4, b, t, vv, won0, none⟩ v false = ⟨at_, size, 3, task, 5, b, t, vv, won0, some ⟨6, 0, []⟩⟩) := Lib.hid rfl
      rw [HG.out]
      go_enter Tryz.func57, Tryz.ntmps57
      go_wp2_with fail
      refine (HE.out _ 6 0 w HR.out).mono ?_
      rintro e w2 ⟨rfl, hr2, k2⟩
      have x4 := hr2.cell (j := 4) rfl
      have y4 := hr2.frozen 4
      simp only at x4
      have HQ := Lib.hid (⟨hr2.set 4 (.int .i64 5), k2⟩ : _ ∧ _)
      clear hr2 k2
      go_wp2
      first | go_end0 | refine bodyPost_ret (results_none rfl _ _ _) rfl ?_
      exact ⟨rfl, HQ.out.1, HQ.out.2.set (by simp) _ _⟩

set_option maxHeartbeats 3200000 in
theorem refDq_pop (p : Nat) (s : DqS) (v : Int) (won : Bool) (w : World) (h : Row w p 73 (dqCells s)) (ho : s.over = none) (hk : s.kind = 2) (hst : s.step = 1 ∨ s.step = 2 ∨ s.step = 3 ∨ s.step = 4 ∨ s.step = 5 ∨ s.step = 6) (hb : M.U s.b) (ht : M.U s.t) (hv : M.U v) :
    Calls Tryz.prog 56 #[.pointer (some ⟨p, 0, none⟩), .int .u64 v, .bool won] w fun e w' => e = .returned (.tuple #[]) ∧ Row w' p 73 (dqCells (dqGive s v won)) ∧ Keeps [p] w w' := by
  obtain ⟨at_, size, kind, task, step, b, t, vv, won0, over⟩ := s
  simp only at ho hk hst hb ht
  subst ho hk
  have HE := Lib.hid (fun s c u W h => refDqEnd_any p s c u W h)
  have HA := Lib.hid (fun W => refDqAhead_any b t W hb ht)
  have v0 := hv.nn
  have v1 := hv.lt
  have c4 := h.cell (j := 4) rfl
  have c5 := h.cell (j := 5) rfl
  have c6 := h.cell (j := 6) rfl
  have c7 := h.cell (j := 7) rfl
  have c8 := h.cell (j := 8) rfl
  have f4 := h.frozen 4
  have f5 := h.frozen 5
  have f6 := h.frozen 6
  have f7 := h.frozen 7
  have f8 := h.frozen 8
  simp only at c4 c5 c6 c7 c8
  have HR := Lib.hid h
  clear h hb ht hv
  rcases hst with rfl | rfl | rfl | rfl | rfl | rfl
  · have HG : Hid (dqGive ⟨at_, size, 2, task, 1, b, t, vv, won0, none⟩ v won = ⟨at_, size, 2, task, 2, (v - 1) % 18446744073709551616, t, vv, won0, none⟩) := Lib.hid rfl
    rw [HG.out]
    have HRow := Lib.hid ((HR.out.set 5 (.int .u64 ((v - 1) % 18446744073709551616))).set 4 (.int .i64 2))
    go_enter Tryz.func56, Tryz.ntmps56
    go_wp2
    first | go_end0 | refine bodyPost_ret (results_none rfl _ _ _) rfl ?_
    exact ⟨rfl, HRow.out, ((Keeps.refl [p] w).set (by simp) _ _).set (by simp) _ _⟩
  · have HG : Hid (dqGive ⟨at_, size, 2, task, 2, b, t, vv, won0, none⟩ v won = ⟨at_, size, 2, task, 3, b, t, vv, won0, none⟩) := Lib.hid rfl
    rw [HG.out]
    go_enter Tryz.func56, Tryz.ntmps56
    go_wp2
    first | go_end0 | refine bodyPost_ret (results_none rfl _ _ _) rfl ?_
    exact ⟨rfl, HR.out.set 4 _, (Keeps.refl [p] w).set (by simp) _ _⟩
  · have HG : Hid (dqGive ⟨at_, size, 2, task, 3, b, t, vv, won0, none⟩ v won = ⟨at_, size, 2, task, 4, b, v, vv, won0, none⟩) := Lib.hid rfl
    rw [HG.out]
    have HRow := Lib.hid ((HR.out.set 6 (.int .u64 v)).set 4 (.int .i64 4))
    go_enter Tryz.func56, Tryz.ntmps56
    go_wp2
    first | go_end0 | refine bodyPost_ret (results_none rfl _ _ _) rfl ?_
    exact ⟨rfl, HRow.out, ((Keeps.refl [p] w).set (by simp) _ _).set (by simp) _ _⟩
  · obtain ⟨d, hd⟩ : ∃ d, dqAhead b t = d := ⟨_, rfl⟩
    rw [hd] at HA
    by_cases hneg : d < 0
    · have HG : Hid (dqGive ⟨at_, size, 2, task, 4, b, t, vv, won0, none⟩ v won = ⟨at_, size, 2, task, 4, b, t, vv, won0, some ⟨5, 0, []⟩⟩) := Lib.hid (by simp [dqGive, hd, hneg])
      rw [HG.out]
      have dd : decide (d < 0) = true := decide_eq_true hneg
      clear hd
      go_enter Tryz.func56, Tryz.ntmps56
      go_wp2
      refine wp_region_mid 9 (by kernel_rfl) (by kernel_rfl) ?_
      simp only [List.take_succ_cons, List.take_zero, List.drop_succ_cons, List.drop_zero]
      repeat still_step
      still_call (stillOf (HA.out _))
      repeat still_step
      refine wpStill_nil ?_
      go_wp2
      show wpStill _ _ _ _ _ _
      repeat still_step
      refine wpStill_nil ?_
      go_wp2_with fail
      refine (HE.out _ 5 0 w.drew HR.out).mono ?_
      rintro e w2 ⟨rfl, hr2, k2⟩
      have HQ := Lib.hid (⟨hr2, k2.undrew⟩ : _ ∧ _)
      clear hr2 k2
      go_wp2
      first | go_end0 | refine bodyPost_ret (results_none rfl _ _ _) rfl ?_
      exact ⟨rfl, HQ.out⟩
    · have dd : decide (d < 0) = false := decide_eq_false hneg
      have hrow := HR.out.set 7 (.int .u64 v)
      obtain ⟨W1, hW1⟩ : ∃ W1, w.drew.setCell ⟨p, 7, none⟩ (.int .u64 v) = W1 := ⟨_, rfl⟩
      have k1 : Keeps [p] w W1 := by rw [← hW1]; exact ((Keeps.refl [p] w).drew).set (by simp) _ _
      have r1 : Row W1 p 73 (dqCells ⟨at_, size, 2, task, 4, b, t, v, won0, none⟩) := by
        rw [← hW1]; exact (HR.out.keeps (Keeps.refl [] w).drew (by simp)).set 7 (.int .u64 v)
      have e4 := r1.cell (j := 4) rfl
      have e5 := r1.cell (j := 5) rfl
      have e6 := r1.cell (j := 6) rfl
      have g4 := r1.frozen 4
      simp only at e4 e5 e6
      have HR1 := Lib.hid r1
      have HK1 := Lib.hid k1
      clear hrow r1 k1
      by_cases hpos : 0 < d
      · have HG : Hid (dqGive ⟨at_, size, 2, task, 4, b, t, vv, won0, none⟩ v won = ⟨at_, size, 2, task, 5, b, t, v, won0, some ⟨0, v, []⟩⟩) := Lib.hid (by simp [dqGive, hd, hneg, hpos])
        rw [HG.out]
        have dp : decide (0 < d) = true := decide_eq_true hpos
        clear hd
        go_enter Tryz.func56, Tryz.ntmps56
        go_wp2
        refine wp_region_mid 9 (by kernel_rfl) (by kernel_rfl) ?_
        simp only [List.take_succ_cons, List.take_zero, List.drop_succ_cons, List.drop_zero]
        repeat still_step
        still_call (stillOf (HA.out _))
        repeat still_step
        refine wpStill_nil ?_
        go_wp2
        show wpStill _ _ _ _ _ _
        repeat still_step
        refine wpStill_nil ?_
        go_wp2
        refine wp_region_mid 9 (by kernel_rfl) (by kernel_rfl) ?_
        simp only [List.take_succ_cons, List.take_zero, List.drop_succ_cons, List.drop_zero]
        repeat still_step
        still_call (stillOf (HA.out _))
        repeat still_step
        refine wpStill_nil ?_
        go_wp2
        show wpStill _ _ _ _ _ _
        repeat still_step
        refine wpStill_nil ?_
        go_wp2_with fail
        refine (HE.out _ 0 v W1.drew HR1.out).mono ?_
        rintro e w2 ⟨rfl, hr2, k2⟩
        have x4 := hr2.cell (j := 4) rfl
        have y4 := hr2.frozen 4
        simp only at x4
        have HQ := Lib.hid (⟨hr2.set 4 (.int .i64 5), HK1.out.trans (k2.undrew)⟩ : _ ∧ _)
        clear hr2 k2
        go_wp2
        first | go_end0 | refine bodyPost_ret (results_none rfl _ _ _) rfl ?_
        exact ⟨rfl, HQ.out.1, HQ.out.2.set (by simp) _ _⟩
      · have HG : Hid (dqGive ⟨at_, size, 2, task, 4, b, t, vv, won0, none⟩ v won = ⟨at_, size, 2, task, 5, b, t, v, won0, none⟩) := Lib.hid (by simp [dqGive, hd, hneg, hpos])
        rw [HG.out]
        have dp : decide (0 < d) = false := decide_eq_false hpos
        clear hd
        go_enter Tryz.func56, Tryz.ntmps56
        go_wp2
        refine wp_region_mid 9 (by kernel_rfl) (by kernel_rfl) ?_
        simp only [List.take_succ_cons, List.take_zero, List.drop_succ_cons, List.drop_zero]
        repeat still_step
        still_call (stillOf (HA.out _))
        repeat still_step
        refine wpStill_nil ?_
        go_wp2
        show wpStill _ _ _ _ _ _
        repeat still_step
        refine wpStill_nil ?_
        go_wp2
        refine wp_region_mid 9 (by kernel_rfl) (by kernel_rfl) ?_
        simp only [List.take_succ_cons, List.take_zero, List.drop_succ_cons, List.drop_zero]
        repeat still_step
        still_call (stillOf (HA.out _))
        repeat still_step
        refine wpStill_nil ?_
        go_wp2
        show wpStill _ _ _ _ _ _
        repeat still_step
        refine wpStill_nil ?_
        go_wp2
        first | go_end0 | refine bodyPost_ret (results_none rfl _ _ _) rfl ?_
        exact ⟨rfl, (HR1.out.keeps (Keeps.refl [] W1).drew (by simp)).set 4 _, (HK1.out.trans ((Keeps.refl [p] W1).drew)).set (by simp) _ _⟩
  · have HG : Hid (dqGive ⟨at_, size, 2, task, 5, b, t, vv, won0, none⟩ v won = ⟨at_, size, 2, task, 6, b, t, vv, won, none⟩) := Lib.hid rfl
    rw [HG.out]
    have HRow := Lib.hid ((HR.out.set 8 (.bool won)).set 4 (.int .i64 6))
    go_enter Tryz.func56, Tryz.ntmps56
    go_wp2
    first | go_end0 | refine bodyPost_ret (results_none rfl _ _ _) rfl ?_
    exact ⟨rfl, HRow.out, ((Keeps.refl [p] w).set (by simp) _ _).set (by simp) _ _⟩
  · cases won0 with
    | true =>
      have HG : Hid (dqGive ⟨at_, size, 2, task, 6, b, t, vv, true, none⟩ v won = ⟨at_, size, 2, task, 7, b, t, vv, true, some ⟨0, vv, []⟩⟩) := Lib.hid rfl
      rw [HG.out]
      go_enter Tryz.func56, Tryz.ntmps56
      go_wp2_with fail
      refine (HE.out _ 0 vv w HR.out).mono ?_
      rintro e w2 ⟨rfl, hr2, k2⟩
      have x4 := hr2.cell (j := 4) rfl
      have y4 := hr2.frozen 4
      simp only at x4
      have HQ := Lib.hid (⟨hr2.set 4 (.int .i64 7), k2⟩ : _ ∧ _)
      clear hr2 k2
      go_wp2
      first | go_end0 | refine bodyPost_ret (results_none rfl _ _ _) rfl ?_
      exact ⟨rfl, HQ.out.1, HQ.out.2.set (by simp) _ _⟩
    | false =>
      have HG : Hid (dqGive ⟨at_, size, 2, task, 6, b, t, vv, false, none⟩ v won = ⟨at_, size, 2, task, 7, b, t, vv, false, some ⟨5, 0, []⟩⟩) := Lib.hid rfl
      rw [HG.out]
      go_enter Tryz.func56, Tryz.ntmps56
      go_wp2_with fail
      refine (HE.out _ 5 0 w HR.out).mono ?_
      rintro e w2 ⟨rfl, hr2, k2⟩
      have x4 := hr2.cell (j := 4) rfl
      have y4 := hr2.frozen 4
      simp only at x4
      have HQ := Lib.hid (⟨hr2.set 4 (.int .i64 7), k2⟩ : _ ∧ _)
      clear hr2 k2
      go_wp2
      first | go_end0 | refine bodyPost_ret (results_none rfl _ _ _) rfl ?_
      exact ⟨rfl, HQ.out.1, HQ.out.2.set (by simp) _ _⟩
end Go.Proofs.YtdejgkjckhkihaaGreat
