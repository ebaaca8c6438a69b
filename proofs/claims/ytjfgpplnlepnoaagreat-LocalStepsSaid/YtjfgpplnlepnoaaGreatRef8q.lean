import Derived.Test.YtjfgpplnlepnoaaGreatRef8
/-
  Contracts: what a document's frame of a ring is told (written by wip/tools/rfgive.py).
-/
namespace Go.Proofs.YtjfgpplnlepnoaaGreat
set_option maxRecDepth 100000
set_option linter.unusedSimpArgs false
set_option linter.unusedVariables false
open Go.ChangeShapes Go.WideShapes Go.ChangeAt Go.RowKit

set_option maxHeartbeats 6400000 in
theorem rfPushG2Room (q : Nat) (at_ size task target hd t u n k x : Int) (took : List Int) (tk : Value) (won : Bool) (w : World) (h : Row w q 155 (rfCells ⟨at_, size, 1, task, target, 2, hd, t, u, n, k, took, none⟩ tk false 0 0 (.slice none 0 0))) (hu : M.U hd) (hx : M.U x) (wu : W32 u) (hA : M.aheadI (rgLo x) (rgHi hd) < size) :
    Calls Tryz.prog 156 #[.pointer (some ⟨q, 0, none⟩), .int .u64 x, .bool won] w fun e w' => e = .returned (.tuple #[]) ∧ RfGoes q w (rgPushGive ⟨at_, size, 1, task, target, 2, hd, t, u, n, k, took, none⟩ x won) tk w' := by
  have c1 := h.cell (j := 1) rfl
  have c5 := h.cell (j := 5) rfl
  have c6 := h.cell (j := 6) rfl
  have c7 := h.cell (j := 7) rfl
  have c8 := h.cell (j := 8) rfl
  have c9 := h.cell (j := 9) rfl
  have c10 := h.cell (j := 10) rfl
  have f5 := h.frozen 5
  have f6 := h.frozen 6
  have f7 := h.frozen 7
  have f8 := h.frozen 8
  have f9 := h.frozen 9
  have f10 := h.frozen 10
  simp only at c1 c5 c6 c7 c8 c9 c10
  have hlx := rgLo_range x
  have hhx := rgHi_range hx
  have hlh := rgLo_range hd
  have hhh := rgHi_range hu
  have HLo : Hid (∀ W, Calls Tryz.prog 117 #[.int .u64 x] W fun e w' => e = .returned (.int .u32 (rgLo x)) ∧ W = w') := Lib.hid (fun W => refLo_any x W hx.nn)
  have HHi : Hid (∀ W, Calls Tryz.prog 165 #[.int .u64 x] W fun e w' => e = .returned (.int .u32 (rgHi x)) ∧ W = w') := Lib.hid (fun W => refHi_any x W hx.nn hx)
  have HAh := Lib.hid (fun W => refAhead_any (rgLo x) (rgHi hd) W hlx.1 hlx.2 hhh.1 hhh.2)
  obtain ⟨W1, hW1⟩ : ∃ W1, ((w).setCell ⟨q, 7, none⟩ (.int .u32 (rgLo x))).setCell ⟨q, 5, none⟩ (.int .i64 5) = W1 := ⟨_, rfl⟩
  have k1 : Keeps [q] w W1 := by rw [← hW1]; exact ((Keeps.refl [q] w).set (by simp) _ _).set (by simp) _ _
  have r1 : Row W1 q 155 (rfCells ⟨at_, size, 1, task, target, 5, hd, (rgLo x), u, n, k, took, none⟩ tk false 0 0 (.slice none 0 0)) := by rw [← hW1]; exact ((h).set 7 _).set 5 _
  have HAt0a := Lib.hid (rfAt_any q _ _ _ _ _ _ w h hu)
  have HSa := Lib.hid (rfS_any q _ _ _ _ _ _ w h hu)
  have HAt0b := Lib.hid (rfAt_any q _ _ _ _ _ _ W1 r1 hu)
  have HSb := Lib.hid (rfS_any q _ _ _ _ _ _ W1 r1 hu)
  have d1 := r1.cell (j := 1) rfl
  have g1 := r1.frozen 1
  have d5 := r1.cell (j := 5) rfl
  have g5 := r1.frozen 5
  have d6 := r1.cell (j := 6) rfl
  have g6 := r1.frozen 6
  have d7 := r1.cell (j := 7) rfl
  have g7 := r1.frozen 7
  have d8 := r1.cell (j := 8) rfl
  have g8 := r1.frozen 8
  have d9 := r1.cell (j := 9) rfl
  have g9 := r1.frozen 9
  have d10 := r1.cell (j := 10) rfl
  have g10 := r1.frozen 10
  simp only at d1 d5 d6 d7 d8 d9 d10
  have HRow : Hid (Row ((W1).setCell ⟨q, 5, none⟩ (.int .i64 3)) q 155 (rfCells ⟨at_, size, 1, task, target, 3, hd, (rgLo x), u, n, k, took, none⟩ tk false 0 0 (.slice none 0 0))) := Lib.hid ((r1).set 5 _)
  have HK : Hid (Keeps [q] w ((W1).setCell ⟨q, 5, none⟩ (.int .i64 3))) := Lib.hid ((k1).set (by simp) _ _)
  have HG : Hid (rgPushGive ⟨at_, size, 1, task, target, 2, hd, t, u, n, k, took, none⟩ x won = ⟨at_, size, 1, task, target, 3, hd, (rgLo x), u, n, k, took, none⟩) := Lib.hid (by simp [rgPushGive, hA])
  rw [HG.out]
  have dA : decide (M.aheadI (rgLo x) (rgHi hd) < size) = true := decide_eq_true (by omega)
  have HR1 := Lib.hid r1
  have HK1 := Lib.hid k1
  have HSd := Lib.hid (fun W (kk : Keeps [] W1 W) => rfS_any q _ _ _ _ _ _ W (r1.keeps kk (by simp)) hu)
  have HAd := Lib.hid (fun W (kk : Keeps [] W1 W) => rfAt_any q _ _ _ _ _ _ W (r1.keeps kk (by simp)) hu)
  clear h r1 k1
  go_enter Tryz.func156, Tryz.ntmps156
  go_wp2_with (first | (go_at_call 117; refine (HLo.out _).mono ?_; rintro e w9 ⟨rfl, rfl⟩) | (go_at_call 165; refine (HHi.out _).mono ?_; rintro e w9 ⟨rfl, rfl⟩) | fail)
  go_quiet (first | (go_at_call 118; exact qs (HAh.out _)) | (go_at_call 190; exact qs (HSd.out _ ((Keeps.refl [] _).drewN))) | (go_at_call 189; exact qs (HAd.out _ ((Keeps.refl [] _).drewN))))
  generalize hV : World.drewN _ _ = W2
  have kV : Keeps [] W1 W2 := by rw [← hV]; exact (Keeps.refl _ _).drewN
  clear hV
  have r2 := HR1.out.keeps kV (by simp)
  have e1 := r2.cell (j := 1) rfl
  have y1 := r2.frozen 1
  have e5 := r2.cell (j := 5) rfl
  have y5 := r2.frozen 5
  have e6 := r2.cell (j := 6) rfl
  have y6 := r2.frozen 6
  have e7 := r2.cell (j := 7) rfl
  have y7 := r2.frozen 7
  have e8 := r2.cell (j := 8) rfl
  have y8 := r2.frozen 8
  have e9 := r2.cell (j := 9) rfl
  have y9 := r2.frozen 9
  have e10 := r2.cell (j := 10) rfl
  have y10 := r2.frozen 10
  simp only at e1 e5 e6 e7 e8 e9 e10
  have HR2 := Lib.hid r2
  have HK2 := Lib.hid (HK1.out.trans (kV.nil))
  clear r2
  go_wp2_with (first | (go_at_call 190; refine (HSd.out _ kV).mono ?_; rintro e w9 ⟨rfl, rfl⟩) | (go_at_call 189; refine (HAd.out _ kV).mono ?_; rintro e w9 ⟨rfl, rfl⟩) | fail)
  first | go_end0 | refine bodyPost_ret (results_none rfl _ _ _) rfl ?_
  exact ⟨rfl, _, _, _, _, (HR2.out).set 5 _, (HK2.out).set (by simp) _ _, fun _ => ⟨rfl, rfl, rfl, rfl⟩, fun r h => by cases h⟩

set_option maxHeartbeats 6400000 in
theorem rfPushG2Turn (q : Nat) (at_ size task target hd t u n k x : Int) (took : List Int) (tk : Value) (won : Bool) (w : World) (h : Row w q 155 (rfCells ⟨at_, size, 1, task, target, 2, hd, t, u, n, k, took, none⟩ tk false 0 0 (.slice none 0 0))) (hu : M.U hd) (hx : M.U x) (wu : W32 u) (hA : ¬ M.aheadI (rgLo x) (rgHi hd) < size) (hB : rgHi hd = rgLo hd) :
    Calls Tryz.prog 156 #[.pointer (some ⟨q, 0, none⟩), .int .u64 x, .bool won] w fun e w' => e = .returned (.tuple #[]) ∧ RfGoes q w (rgPushGive ⟨at_, size, 1, task, target, 2, hd, t, u, n, k, took, none⟩ x won) tk w' := by
  have c1 := h.cell (j := 1) rfl
  have c5 := h.cell (j := 5) rfl
  have c6 := h.cell (j := 6) rfl
  have c7 := h.cell (j := 7) rfl
  have c8 := h.cell (j := 8) rfl
  have c9 := h.cell (j := 9) rfl
  have c10 := h.cell (j := 10) rfl
  have f5 := h.frozen 5
  have f6 := h.frozen 6
  have f7 := h.frozen 7
  have f8 := h.frozen 8
  have f9 := h.frozen 9
  have f10 := h.frozen 10
  simp only at c1 c5 c6 c7 c8 c9 c10
  have hlx := rgLo_range x
  have hhx := rgHi_range hx
  have hlh := rgLo_range hd
  have hhh := rgHi_range hu
  have HLo : Hid (∀ W, Calls Tryz.prog 117 #[.int .u64 x] W fun e w' => e = .returned (.int .u32 (rgLo x)) ∧ W = w') := Lib.hid (fun W => refLo_any x W hx.nn)
  have HHi : Hid (∀ W, Calls Tryz.prog 165 #[.int .u64 x] W fun e w' => e = .returned (.int .u32 (rgHi x)) ∧ W = w') := Lib.hid (fun W => refHi_any x W hx.nn hx)
  have HAh := Lib.hid (fun W => refAhead_any (rgLo x) (rgHi hd) W hlx.1 hlx.2 hhh.1 hhh.2)
  obtain ⟨W1, hW1⟩ : ∃ W1, ((w).setCell ⟨q, 7, none⟩ (.int .u32 (rgLo x))).setCell ⟨q, 5, none⟩ (.int .i64 5) = W1 := ⟨_, rfl⟩
  have k1 : Keeps [q] w W1 := by rw [← hW1]; exact ((Keeps.refl [q] w).set (by simp) _ _).set (by simp) _ _
  have r1 : Row W1 q 155 (rfCells ⟨at_, size, 1, task, target, 5, hd, (rgLo x), u, n, k, took, none⟩ tk false 0 0 (.slice none 0 0)) := by rw [← hW1]; exact ((h).set 7 _).set 5 _
  have HAt0a := Lib.hid (rfAt_any q _ _ _ _ _ _ w h hu)
  have HSa := Lib.hid (rfS_any q _ _ _ _ _ _ w h hu)
  have HAt0b := Lib.hid (rfAt_any q _ _ _ _ _ _ W1 r1 hu)
  have HSb := Lib.hid (rfS_any q _ _ _ _ _ _ W1 r1 hu)
  have d1 := r1.cell (j := 1) rfl
  have g1 := r1.frozen 1
  have d5 := r1.cell (j := 5) rfl
  have g5 := r1.frozen 5
  have d6 := r1.cell (j := 6) rfl
  have g6 := r1.frozen 6
  have d7 := r1.cell (j := 7) rfl
  have g7 := r1.frozen 7
  have d8 := r1.cell (j := 8) rfl
  have g8 := r1.frozen 8
  have d9 := r1.cell (j := 9) rfl
  have g9 := r1.frozen 9
  have d10 := r1.cell (j := 10) rfl
  have g10 := r1.frozen 10
  simp only at d1 d5 d6 d7 d8 d9 d10
  have HRow : Hid (Row (W1) q 155 (rfCells ⟨at_, size, 1, task, target, 5, hd, (rgLo x), u, n, k, took, none⟩ tk false 0 0 (.slice none 0 0))) := Lib.hid (r1)
  have HK : Hid (Keeps [q] w (W1)) := Lib.hid (k1)
  have HG : Hid (rgPushGive ⟨at_, size, 1, task, target, 2, hd, t, u, n, k, took, none⟩ x won = ⟨at_, size, 1, task, target, 5, hd, (rgLo x), u, n, k, took, none⟩) := Lib.hid (by simp [rgPushGive, show ¬ M.aheadI (rgLo x) (rgLo hd) < size from hB ▸ hA, hB])
  rw [HG.out]
  have dA : decide (M.aheadI (rgLo x) (rgHi hd) < size) = false := decide_eq_false (by omega)
  have dB : (rgHi hd == rgLo hd) = true := beq_iff_eq.2 hB
  clear hB
  have HR1 := Lib.hid r1
  have HK1 := Lib.hid k1
  have HSd := Lib.hid (fun W (kk : Keeps [] W1 W) => rfS_any q _ _ _ _ _ _ W (r1.keeps kk (by simp)) hu)
  have HAd := Lib.hid (fun W (kk : Keeps [] W1 W) => rfAt_any q _ _ _ _ _ _ W (r1.keeps kk (by simp)) hu)
  clear h r1 k1
  go_enter Tryz.func156, Tryz.ntmps156
  go_wp2_with (first | (go_at_call 117; refine (HLo.out _).mono ?_; rintro e w9 ⟨rfl, rfl⟩) | (go_at_call 165; refine (HHi.out _).mono ?_; rintro e w9 ⟨rfl, rfl⟩) | fail)
  go_quiet (first | (go_at_call 118; exact qs (HAh.out _)) | (go_at_call 190; exact qs (HSd.out _ ((Keeps.refl [] _).drewN))) | (go_at_call 189; exact qs (HAd.out _ ((Keeps.refl [] _).drewN))))
  generalize hV : World.drewN _ _ = W2
  have kV : Keeps [] W1 W2 := by rw [← hV]; exact (Keeps.refl _ _).drewN
  clear hV
  have r2 := HR1.out.keeps kV (by simp)
  have e1 := r2.cell (j := 1) rfl
  have y1 := r2.frozen 1
  have e5 := r2.cell (j := 5) rfl
  have y5 := r2.frozen 5
  have e6 := r2.cell (j := 6) rfl
  have y6 := r2.frozen 6
  have e7 := r2.cell (j := 7) rfl
  have y7 := r2.frozen 7
  have e8 := r2.cell (j := 8) rfl
  have y8 := r2.frozen 8
  have e9 := r2.cell (j := 9) rfl
  have y9 := r2.frozen 9
  have e10 := r2.cell (j := 10) rfl
  have y10 := r2.frozen 10
  simp only at e1 e5 e6 e7 e8 e9 e10
  have HR2 := Lib.hid r2
  have HK2 := Lib.hid (HK1.out.trans (kV.nil))
  clear r2
  go_wp2_with (first | (go_at_call 190; refine (HSd.out _ kV).mono ?_; rintro e w9 ⟨rfl, rfl⟩) | (go_at_call 189; refine (HAd.out _ kV).mono ?_; rintro e w9 ⟨rfl, rfl⟩) | fail)
  first | go_end0 | refine bodyPost_ret (results_none rfl _ _ _) rfl ?_
  exact ⟨rfl, _, _, _, _, HR2.out, HK2.out, fun _ => ⟨rfl, rfl, rfl, rfl⟩, fun r h => by cases h⟩

set_option maxHeartbeats 6400000 in
theorem rfPushG2Busy (q : Nat) (at_ size task target hd t u n k x : Int) (took : List Int) (tk : Value) (won : Bool) (w : World) (h : Row w q 155 (rfCells ⟨at_, size, 1, task, target, 2, hd, t, u, n, k, took, none⟩ tk false 0 0 (.slice none 0 0))) (hu : M.U hd) (hx : M.U x) (wu : W32 u) (hA : ¬ M.aheadI (rgLo x) (rgHi hd) < size) (hB : rgHi hd ≠ rgLo hd) :
    Calls Tryz.prog 156 #[.pointer (some ⟨q, 0, none⟩), .int .u64 x, .bool won] w fun e w' => e = .returned (.tuple #[]) ∧ RfGoes q w (rgPushGive ⟨at_, size, 1, task, target, 2, hd, t, u, n, k, took, none⟩ x won) tk w' := by
  have c1 := h.cell (j := 1) rfl
  have c5 := h.cell (j := 5) rfl
  have c6 := h.cell (j := 6) rfl
  have c7 := h.cell (j := 7) rfl
  have c8 := h.cell (j := 8) rfl
  have c9 := h.cell (j := 9) rfl
  have c10 := h.cell (j := 10) rfl
  have f5 := h.frozen 5
  have f6 := h.frozen 6
  have f7 := h.frozen 7
  have f8 := h.frozen 8
  have f9 := h.frozen 9
  have f10 := h.frozen 10
  simp only at c1 c5 c6 c7 c8 c9 c10
  have hlx := rgLo_range x
  have hhx := rgHi_range hx
  have hlh := rgLo_range hd
  have hhh := rgHi_range hu
  have HLo : Hid (∀ W, Calls Tryz.prog 117 #[.int .u64 x] W fun e w' => e = .returned (.int .u32 (rgLo x)) ∧ W = w') := Lib.hid (fun W => refLo_any x W hx.nn)
  have HHi : Hid (∀ W, Calls Tryz.prog 165 #[.int .u64 x] W fun e w' => e = .returned (.int .u32 (rgHi x)) ∧ W = w') := Lib.hid (fun W => refHi_any x W hx.nn hx)
  have HAh := Lib.hid (fun W => refAhead_any (rgLo x) (rgHi hd) W hlx.1 hlx.2 hhh.1 hhh.2)
  obtain ⟨W1, hW1⟩ : ∃ W1, ((w).setCell ⟨q, 7, none⟩ (.int .u32 (rgLo x))).setCell ⟨q, 5, none⟩ (.int .i64 5) = W1 := ⟨_, rfl⟩
  have k1 : Keeps [q] w W1 := by rw [← hW1]; exact ((Keeps.refl [q] w).set (by simp) _ _).set (by simp) _ _
  have r1 : Row W1 q 155 (rfCells ⟨at_, size, 1, task, target, 5, hd, (rgLo x), u, n, k, took, none⟩ tk false 0 0 (.slice none 0 0)) := by rw [← hW1]; exact ((h).set 7 _).set 5 _
  have HAt0a := Lib.hid (rfAt_any q _ _ _ _ _ _ w h hu)
  have HSa := Lib.hid (rfS_any q _ _ _ _ _ _ w h hu)
  have HAt0b := Lib.hid (rfAt_any q _ _ _ _ _ _ W1 r1 hu)
  have HSb := Lib.hid (rfS_any q _ _ _ _ _ _ W1 r1 hu)
  have d1 := r1.cell (j := 1) rfl
  have g1 := r1.frozen 1
  have d5 := r1.cell (j := 5) rfl
  have g5 := r1.frozen 5
  have d6 := r1.cell (j := 6) rfl
  have g6 := r1.frozen 6
  have d7 := r1.cell (j := 7) rfl
  have g7 := r1.frozen 7
  have d8 := r1.cell (j := 8) rfl
  have g8 := r1.frozen 8
  have d9 := r1.cell (j := 9) rfl
  have g9 := r1.frozen 9
  have d10 := r1.cell (j := 10) rfl
  have g10 := r1.frozen 10
  simp only at d1 d5 d6 d7 d8 d9 d10
  have HRow : Hid (Row (W1) q 155 (rfCells ⟨at_, size, 1, task, target, 5, hd, (rgLo x), u, n, k, took, none⟩ tk false 0 0 (.slice none 0 0))) := Lib.hid (r1)
  have HK : Hid (Keeps [q] w (W1)) := Lib.hid (k1)
  have HG : Hid (rgPushGive ⟨at_, size, 1, task, target, 2, hd, t, u, n, k, took, none⟩ x won = ⟨at_, size, 1, task, target, 5, hd, (rgLo x), u, n, k, took, some ⟨8, 0, []⟩⟩) := Lib.hid (by simp [rgPushGive, hA, hB])
  rw [HG.out]
  have dA : decide (M.aheadI (rgLo x) (rgHi hd) < size) = false := decide_eq_false (by omega)
  have dB : (rgHi hd == rgLo hd) = false := beq_eq_false_iff_ne.2 hB
  clear hB
  have HN := Lib.hid (rfEnd_any q _ tk _ _ _ _ 8 _ HRow.out)
  have HR1 := Lib.hid r1
  have HK1 := Lib.hid k1
  have HSd := Lib.hid (fun W (kk : Keeps [] W1 W) => rfS_any q _ _ _ _ _ _ W (r1.keeps kk (by simp)) hu)
  have HAd := Lib.hid (fun W (kk : Keeps [] W1 W) => rfAt_any q _ _ _ _ _ _ W (r1.keeps kk (by simp)) hu)
  clear h r1 k1
  go_enter Tryz.func156, Tryz.ntmps156
  go_wp2_with (first | (go_at_call 117; refine (HLo.out _).mono ?_; rintro e w9 ⟨rfl, rfl⟩) | (go_at_call 165; refine (HHi.out _).mono ?_; rintro e w9 ⟨rfl, rfl⟩) | fail)
  go_quiet (first | (go_at_call 118; exact qs (HAh.out _)) | (go_at_call 190; exact qs (HSd.out _ ((Keeps.refl [] _).drewN))) | (go_at_call 189; exact qs (HAd.out _ ((Keeps.refl [] _).drewN))))
  generalize hV : World.drewN _ _ = W2
  have kV : Keeps [] W1 W2 := by rw [← hV]; exact (Keeps.refl _ _).drewN
  clear hV
  have r2 := HR1.out.keeps kV (by simp)
  have e1 := r2.cell (j := 1) rfl
  have y1 := r2.frozen 1
  have e5 := r2.cell (j := 5) rfl
  have y5 := r2.frozen 5
  have e6 := r2.cell (j := 6) rfl
  have y6 := r2.frozen 6
  have e7 := r2.cell (j := 7) rfl
  have y7 := r2.frozen 7
  have e8 := r2.cell (j := 8) rfl
  have y8 := r2.frozen 8
  have e9 := r2.cell (j := 9) rfl
  have y9 := r2.frozen 9
  have e10 := r2.cell (j := 10) rfl
  have y10 := r2.frozen 10
  simp only at e1 e5 e6 e7 e8 e9 e10
  have HN := Lib.hid (fun W (kk : Keeps [] W1 W) => rfEnd_any q _ tk _ _ _ _ 8 _ (HR1.out.keeps kk (by simp)))
  have HR2 := Lib.hid r2
  have HK2 := Lib.hid (HK1.out.trans (kV.nil))
  clear r2
  go_wp2_with (first | (go_at_call 190; refine (HSd.out _ kV).mono ?_; rintro e w9 ⟨rfl, rfl⟩) | (go_at_call 189; refine (HAd.out _ kV).mono ?_; rintro e w9 ⟨rfl, rfl⟩) | fail)
  refine (HN.out W2 kV).mono ?_
  rintro e w2 ⟨rfl, r2, k2⟩
  have HQ := Lib.hid (⟨r2, k2⟩ : _ ∧ _)
  clear r2 k2
  go_wp2
  first | go_end0 | refine bodyPost_ret (results_none rfl _ _ _) rfl ?_
  exact ⟨rfl, _, _, _, _, HQ.out.1, HK2.out.trans HQ.out.2, fun h => (by cases h), fun r h _ => (by cases h; exact ⟨rfl, rfl, rfl, rfl⟩)⟩

set_option maxHeartbeats 6400000 in
theorem rfStealG2No (q : Nat) (at_ size task target hd t u n k x : Int) (took : List Int) (tk : Value) (won : Bool) (w : World) (h : Row w q 155 (rfCells ⟨at_, size, 3, task, target, 2, hd, t, u, n, k, took, none⟩ tk false 0 0 (.slice none 0 0))) (hu : M.U hd) (hx : M.U x) (wu : W32 u) (hs2 : 2 ≤ size ∧ size ≤ 256)(hA : size / 2 < M.aheadI u (rgHi x)) :
    Calls Tryz.prog 158 #[.pointer (some ⟨q, 0, none⟩), .int .u64 x, .bool won] w fun e w' => e = .returned (.tuple #[]) ∧ RfGoes q w (rgStealGive ⟨at_, size, 3, task, target, 2, hd, t, u, n, k, took, none⟩ x won) tk w' := by
  have c1 := h.cell (j := 1) rfl
  have c5 := h.cell (j := 5) rfl
  have c6 := h.cell (j := 6) rfl
  have c7 := h.cell (j := 7) rfl
  have c8 := h.cell (j := 8) rfl
  have c9 := h.cell (j := 9) rfl
  have c10 := h.cell (j := 10) rfl
  have f5 := h.frozen 5
  have f6 := h.frozen 6
  have f7 := h.frozen 7
  have f8 := h.frozen 8
  have f9 := h.frozen 9
  have f10 := h.frozen 10
  simp only at c1 c5 c6 c7 c8 c9 c10
  have hlx := rgLo_range x
  have hhx := rgHi_range hx
  have hlh := rgLo_range hd
  have hhh := rgHi_range hu
  have HLo : Hid (∀ W, Calls Tryz.prog 117 #[.int .u64 x] W fun e w' => e = .returned (.int .u32 (rgLo x)) ∧ W = w') := Lib.hid (fun W => refLo_any x W hx.nn)
  have HHi : Hid (∀ W, Calls Tryz.prog 165 #[.int .u64 x] W fun e w' => e = .returned (.int .u32 (rgHi x)) ∧ W = w') := Lib.hid (fun W => refHi_any x W hx.nn hx)
  have HAh := Lib.hid (fun W => refAhead_any u (rgHi x) W wu.1 wu.2 hhx.1 hhx.2)
  obtain ⟨W1, hW1⟩ : ∃ W1, (w).setCell ⟨q, 5, none⟩ (.int .i64 3) = W1 := ⟨_, rfl⟩
  have k1 : Keeps [q] w W1 := by rw [← hW1]; exact (Keeps.refl [q] w).set (by simp) _ _
  have r1 : Row W1 q 155 (rfCells ⟨at_, size, 3, task, target, 3, hd, t, u, n, k, took, none⟩ tk false 0 0 (.slice none 0 0)) := by rw [← hW1]; exact (h).set 5 _
  have HAt0a := Lib.hid (rfAt_any q _ _ _ _ _ _ w h hu)
  have HSa := Lib.hid (rfS_any q _ _ _ _ _ _ w h hu)
  have HAt0b := Lib.hid (rfAt_any q _ _ _ _ _ _ W1 r1 hu)
  have HSb := Lib.hid (rfS_any q _ _ _ _ _ _ W1 r1 hu)
  have d1 := r1.cell (j := 1) rfl
  have g1 := r1.frozen 1
  have d5 := r1.cell (j := 5) rfl
  have g5 := r1.frozen 5
  have d6 := r1.cell (j := 6) rfl
  have g6 := r1.frozen 6
  have d7 := r1.cell (j := 7) rfl
  have g7 := r1.frozen 7
  have d8 := r1.cell (j := 8) rfl
  have g8 := r1.frozen 8
  have d9 := r1.cell (j := 9) rfl
  have g9 := r1.frozen 9
  have d10 := r1.cell (j := 10) rfl
  have g10 := r1.frozen 10
  simp only at d1 d5 d6 d7 d8 d9 d10
  have HRow : Hid (Row (W1) q 155 (rfCells ⟨at_, size, 3, task, target, 3, hd, t, u, n, k, took, none⟩ tk false 0 0 (.slice none 0 0))) := Lib.hid (r1)
  have HK : Hid (Keeps [q] w (W1)) := Lib.hid (k1)
  have HG : Hid (rgStealGive ⟨at_, size, 3, task, target, 2, hd, t, u, n, k, took, none⟩ x won = ⟨at_, size, 3, task, target, 3, hd, t, u, n, k, took, some ⟨4, 0, []⟩⟩) := Lib.hid (by simp [rgStealGive, hA])
  rw [HG.out]
  have hhalf : wrap64 (size.tdiv 2) = size / 2 := by rw [Int.tdiv_eq_ediv_of_nonneg (by omega)]; unfold wrap64; omega
  have dA : decide (size / 2 < M.aheadI u (rgHi x)) = true := decide_eq_true (by omega)
  have HN := Lib.hid (rfEnd_any q _ tk _ _ _ _ 4 _ HRow.out)
  have HR1 := Lib.hid r1
  have HK1 := Lib.hid k1
  have HSd := Lib.hid (fun W (kk : Keeps [] W1 W) => rfS_any q _ _ _ _ _ _ W (r1.keeps kk (by simp)) hu)
  have HAd := Lib.hid (fun W (kk : Keeps [] W1 W) => rfAt_any q _ _ _ _ _ _ W (r1.keeps kk (by simp)) hu)
  clear h r1 k1
  go_enter Tryz.func158, Tryz.ntmps158
  go_wp2_with (first | (go_at_call 117; refine (HLo.out _).mono ?_; rintro e w9 ⟨rfl, rfl⟩) | (go_at_call 165; refine (HHi.out _).mono ?_; rintro e w9 ⟨rfl, rfl⟩) | fail)
  go_quiet (first | (go_at_call 118; exact qs (HAh.out _)) | (go_at_call 165; exact qs (HHi.out _)))
  generalize hV : World.drewN _ _ = W2
  have kV : Keeps [] W1 W2 := by rw [← hV]; exact (Keeps.refl _ _).drewN
  clear hV
  have r2 := HR1.out.keeps kV (by simp)
  have e1 := r2.cell (j := 1) rfl
  have y1 := r2.frozen 1
  have e5 := r2.cell (j := 5) rfl
  have y5 := r2.frozen 5
  have e6 := r2.cell (j := 6) rfl
  have y6 := r2.frozen 6
  have e7 := r2.cell (j := 7) rfl
  have y7 := r2.frozen 7
  have e8 := r2.cell (j := 8) rfl
  have y8 := r2.frozen 8
  have e9 := r2.cell (j := 9) rfl
  have y9 := r2.frozen 9
  have e10 := r2.cell (j := 10) rfl
  have y10 := r2.frozen 10
  simp only at e1 e5 e6 e7 e8 e9 e10
  have HN := Lib.hid (fun W (kk : Keeps [] W1 W) => rfEnd_any q _ tk _ _ _ _ 4 _ (HR1.out.keeps kk (by simp)))
  have HR2 := Lib.hid r2
  have HK2 := Lib.hid (HK1.out.trans (kV.nil))
  clear r2
  go_wp2_with fail
  refine (HN.out W2 kV).mono ?_
  rintro e w2 ⟨rfl, r2, k2⟩
  have HQ := Lib.hid (⟨r2, k2⟩ : _ ∧ _)
  clear r2 k2
  go_wp2
  first | go_end0 | refine bodyPost_ret (results_none rfl _ _ _) rfl ?_
  exact ⟨rfl, _, _, _, _, HQ.out.1, HK2.out.trans HQ.out.2, fun h => (by cases h), fun r h _ => (by cases h; exact ⟨rfl, rfl, rfl, rfl⟩)⟩

set_option maxHeartbeats 6400000 in
theorem rfStealG2 (q : Nat) (at_ size task target hd t u n k x : Int) (took : List Int) (tk : Value) (won : Bool) (w : World) (h : Row w q 155 (rfCells ⟨at_, size, 3, task, target, 2, hd, t, u, n, k, took, none⟩ tk false 0 0 (.slice none 0 0))) (hu : M.U hd) (hx : M.U x) (wu : W32 u) (hs2 : 2 ≤ size ∧ size ≤ 256)(hA : ¬ size / 2 < M.aheadI u (rgHi x)) :
    Calls Tryz.prog 158 #[.pointer (some ⟨q, 0, none⟩), .int .u64 x, .bool won] w fun e w' => e = .returned (.tuple #[]) ∧ RfGoes q w (rgStealGive ⟨at_, size, 3, task, target, 2, hd, t, u, n, k, took, none⟩ x won) tk w' := by
  have c1 := h.cell (j := 1) rfl
  have c5 := h.cell (j := 5) rfl
  have c6 := h.cell (j := 6) rfl
  have c7 := h.cell (j := 7) rfl
  have c8 := h.cell (j := 8) rfl
  have c9 := h.cell (j := 9) rfl
  have c10 := h.cell (j := 10) rfl
  have f5 := h.frozen 5
  have f6 := h.frozen 6
  have f7 := h.frozen 7
  have f8 := h.frozen 8
  have f9 := h.frozen 9
  have f10 := h.frozen 10
  simp only at c1 c5 c6 c7 c8 c9 c10
  have hlx := rgLo_range x
  have hhx := rgHi_range hx
  have hlh := rgLo_range hd
  have hhh := rgHi_range hu
  have HLo : Hid (∀ W, Calls Tryz.prog 117 #[.int .u64 x] W fun e w' => e = .returned (.int .u32 (rgLo x)) ∧ W = w') := Lib.hid (fun W => refLo_any x W hx.nn)
  have HHi : Hid (∀ W, Calls Tryz.prog 165 #[.int .u64 x] W fun e w' => e = .returned (.int .u32 (rgHi x)) ∧ W = w') := Lib.hid (fun W => refHi_any x W hx.nn hx)
  have HAh := Lib.hid (fun W => refAhead_any u (rgHi x) W wu.1 wu.2 hhx.1 hhx.2)
  obtain ⟨W1, hW1⟩ : ∃ W1, (w).setCell ⟨q, 5, none⟩ (.int .i64 3) = W1 := ⟨_, rfl⟩
  have k1 : Keeps [q] w W1 := by rw [← hW1]; exact (Keeps.refl [q] w).set (by simp) _ _
  have r1 : Row W1 q 155 (rfCells ⟨at_, size, 3, task, target, 3, hd, t, u, n, k, took, none⟩ tk false 0 0 (.slice none 0 0)) := by rw [← hW1]; exact (h).set 5 _
  have HAt0a := Lib.hid (rfAt_any q _ _ _ _ _ _ w h hu)
  have HSa := Lib.hid (rfS_any q _ _ _ _ _ _ w h hu)
  have HAt0b := Lib.hid (rfAt_any q _ _ _ _ _ _ W1 r1 hu)
  have HSb := Lib.hid (rfS_any q _ _ _ _ _ _ W1 r1 hu)
  have d1 := r1.cell (j := 1) rfl
  have g1 := r1.frozen 1
  have d5 := r1.cell (j := 5) rfl
  have g5 := r1.frozen 5
  have d6 := r1.cell (j := 6) rfl
  have g6 := r1.frozen 6
  have d7 := r1.cell (j := 7) rfl
  have g7 := r1.frozen 7
  have d8 := r1.cell (j := 8) rfl
  have g8 := r1.frozen 8
  have d9 := r1.cell (j := 9) rfl
  have g9 := r1.frozen 9
  have d10 := r1.cell (j := 10) rfl
  have g10 := r1.frozen 10
  simp only at d1 d5 d6 d7 d8 d9 d10
  have HRow : Hid (Row (W1) q 155 (rfCells ⟨at_, size, 3, task, target, 3, hd, t, u, n, k, took, none⟩ tk false 0 0 (.slice none 0 0))) := Lib.hid (r1)
  have HK : Hid (Keeps [q] w (W1)) := Lib.hid (k1)
  have HG : Hid (rgStealGive ⟨at_, size, 3, task, target, 2, hd, t, u, n, k, took, none⟩ x won = ⟨at_, size, 3, task, target, 3, hd, t, u, n, k, took, none⟩) := Lib.hid (by simp [rgStealGive, hA])
  rw [HG.out]
  have hhalf : wrap64 (size.tdiv 2) = size / 2 := by rw [Int.tdiv_eq_ediv_of_nonneg (by omega)]; unfold wrap64; omega
  have dA : decide (size / 2 < M.aheadI u (rgHi x)) = false := decide_eq_false (by omega)
  have HR1 := Lib.hid r1
  have HK1 := Lib.hid k1
  have HSd := Lib.hid (fun W (kk : Keeps [] W1 W) => rfS_any q _ _ _ _ _ _ W (r1.keeps kk (by simp)) hu)
  have HAd := Lib.hid (fun W (kk : Keeps [] W1 W) => rfAt_any q _ _ _ _ _ _ W (r1.keeps kk (by simp)) hu)
  clear h r1 k1
  go_enter Tryz.func158, Tryz.ntmps158
  go_wp2_with (first | (go_at_call 117; refine (HLo.out _).mono ?_; rintro e w9 ⟨rfl, rfl⟩) | (go_at_call 165; refine (HHi.out _).mono ?_; rintro e w9 ⟨rfl, rfl⟩) | fail)
  go_quiet (first | (go_at_call 118; exact qs (HAh.out _)) | (go_at_call 165; exact qs (HHi.out _)))
  generalize hV : World.drewN _ _ = W2
  have kV : Keeps [] W1 W2 := by rw [← hV]; exact (Keeps.refl _ _).drewN
  clear hV
  have r2 := HR1.out.keeps kV (by simp)
  have e1 := r2.cell (j := 1) rfl
  have y1 := r2.frozen 1
  have e5 := r2.cell (j := 5) rfl
  have y5 := r2.frozen 5
  have e6 := r2.cell (j := 6) rfl
  have y6 := r2.frozen 6
  have e7 := r2.cell (j := 7) rfl
  have y7 := r2.frozen 7
  have e8 := r2.cell (j := 8) rfl
  have y8 := r2.frozen 8
  have e9 := r2.cell (j := 9) rfl
  have y9 := r2.frozen 9
  have e10 := r2.cell (j := 10) rfl
  have y10 := r2.frozen 10
  simp only at e1 e5 e6 e7 e8 e9 e10
  have HR2 := Lib.hid r2
  have HK2 := Lib.hid (HK1.out.trans (kV.nil))
  clear r2
  go_wp2_with fail
  first | go_end0 | refine bodyPost_ret (results_none rfl _ _ _) rfl ?_
  exact ⟨rfl, _, _, _, _, HR2.out, HK2.out, fun _ => ⟨rfl, rfl, rfl, rfl⟩, fun r h => by cases h⟩
end Go.Proofs.YtjfgpplnlepnoaaGreat

/-
  Contracts: what a document's frame of a ring does with what it loads from slots.
-/
namespace Go.Proofs.YtjfgpplnlepnoaaGreat
set_option maxRecDepth 100000
set_option linter.unusedSimpArgs false
set_option linter.unusedVariables false
open Go.ChangeShapes Go.WideShapes Go.ChangeAt Go.RowKit

/-- It has loaded one more slot. -/
def RfTook (q : Nat) (w : World) (s : RgS) (tk : Value) (w' : World) : Prop :=
  ∃ tk' dn c v l, Row w' q 155 (rfCells s tk' dn c v l) ∧ w'.ownsRow 0 26 1 tk' s.took.length (ints .u64 s.took) ∧ (∀ g, tk'.ownBlock = some g → (tk.ownBlock = some g ∨ w.heap.size ≤ g) ∧ g ≠ q) ∧ Keeps (q :: tk.ownBlock.toList) w w' ∧
    (s.over = none → dn = false ∧ c = 0 ∧ v = 0 ∧ l = .slice none 0 0) ∧ ∀ r, s.over = some r → dn = true ∧ c = r.code ∧ v = r.v ∧ r.l = s.took ∧ l = tk'
set_option maxHeartbeats 6400000 in
theorem rfStealG6 (q : Nat) (at_ size task target hd t u n x : Int) (took : List Int) (tk : Value) (won : Bool) (w : World) (h : Row w q 155 (rfCells ⟨at_, size, 3, task, target, 6, hd, t, u, n, (took.length : Int), took, none⟩ tk false 0 0 (.slice none 0 0))) (hto : w.ownsRow 0 26 1 tk took.length (ints .u64 took)) (htq : ∀ g, tk.ownBlock = some g → g ≠ q) (htl : took.length ≤ 1000) (hm : (took.length : Int) < n - 1) (hn : n ≤ 256) :
    Calls Tryz.prog 158 #[.pointer (some ⟨q, 0, none⟩), .int .u64 x, .bool won] w fun e w' => e = .returned (.tuple #[]) ∧ RfTook q w (rgStealGive ⟨at_, size, 3, task, target, 6, hd, t, u, n, (took.length : Int), took, none⟩ x won) tk w' := by
  have c1 := h.cell (j := 1) rfl
  have f1 := h.frozen 1
  have c5 := h.cell (j := 5) rfl
  have f5 := h.frozen 5
  have c9 := h.cell (j := 9) rfl
  have f9 := h.frozen 9
  have c10 := h.cell (j := 10) rfl
  have f10 := h.frozen 10
  have c11 := h.cell (j := 11) rfl
  have f11 := h.frozen 11
  simp only at c1 c5 c9 c10 c11
  have HR := Lib.hid h
  have HT := Lib.hid hto
  have hqno : q ∉ tk.ownBlock.toList := fun hm => htq q ((ownBlock_toList _ _).1 hm) rfl
  have dA : ((took.length : Int) == n - 1) = false := beq_eq_false_iff_ne.2 (by omega)
  have hwn : wrap64 (n - 1) = n - 1 := by unfold wrap64; omega
  have HG : Hid (rgStealGive ⟨at_, size, 3, task, target, 6, hd, t, u, n, (took.length : Int), took, none⟩ x won = ⟨at_, size, 3, task, target, 60, hd, t, u, n, (took.length : Int), took ++ [x], none⟩) := Lib.hid (by simp [rgStealGive]; omega)
  rw [HG.out]
  clear h hto
  go_enter Tryz.func158, Tryz.ntmps158
  go_wp2_with (at_builtin; refine append_fresh rfl _ _ 46 rfl 0 26 _ 1 8 Tryz.underlying46 elemWd _ _ _ rfl HT.out #[.int .u64 x] rfl rfl (by simp [Value.oneCell']) ?c2 ?c3 ?_)
  case c2 => omega
  case c3 => omega
  intro v' w9 own9 k9 f9 _
  obtain ⟨pv, cv, rfl⟩ := (Sl.of_owns own9).len
  have hr9 := HR.out.keeps k9 hqno
  have z11 := hr9.cell (j := 11) rfl
  have y11 := hr9.frozen 11
  obtain ⟨W, hW⟩ : ∃ W, w9.setCell ⟨q, 11, none⟩ (.slice pv (took.length + 1) cv) = W := ⟨_, rfl⟩
  have kW : Keeps [q] w9 W := by rw [← hW]; exact (Keeps.refl [q] w9).set (by simp) _ _
  have rW : Row W q 155 (rfCells ⟨at_, size, 3, task, target, 6, hd, t, u, n, (took.length : Int), took ++ [x], none⟩ (.slice pv (took.length + 1) cv) false 0 0 (.slice none 0 0)) := by rw [← hW]; exact hr9.set 11 _
  have hnew : ∀ g, (Value.slice pv (took.length + 1) cv).ownBlock = some g → (tk.ownBlock = some g ∨ w.heap.size ≤ g) ∧ g ≠ q := fun g hg => by
    rcases f9 g hg with h | h
    · exact ⟨.inl h, htq g h⟩
    · have := HR.out.lt; exact ⟨.inr h, by omega⟩
  have oW : W.ownsRow 0 26 1 (.slice pv (took.length + 1) cv) (took.length + 1) (ints .u64 (took ++ [x])) := by simpa [ints] using owns_keeps own9 kW (fun g hg => by simpa using (hnew g hg).2)
  have HRW := Lib.hid rW
  have HOW := Lib.hid oW
  have HNew := Lib.hid hnew
  have HK : Hid (Keeps (q :: tk.ownBlock.toList) w W) := Lib.hid ((k9.mono (fun k hk _ => List.mem_cons_of_mem _ hk)).trans (kW.mono (by simp)))
  have d1 := rW.cell (j := 1) rfl
  have g1 := rW.frozen 1
  have d5 := rW.cell (j := 5) rfl
  have g5 := rW.frozen 5
  have d9 := rW.cell (j := 9) rfl
  have g9 := rW.frozen 9
  have d10 := rW.cell (j := 10) rfl
  have g10 := rW.frozen 10
  have d11 := rW.cell (j := 11) rfl
  have g11 := rW.frozen 11
  have d12 := rW.cell (j := 12) rfl
  have g12 := rW.frozen 12
  have d13 := rW.cell (j := 13) rfl
  have g13 := rW.frozen 13
  have d14 := rW.cell (j := 14) rfl
  have g14 := rW.frozen 14
  have d15 := rW.cell (j := 15) rfl
  have g15 := rW.frozen 15
  simp only at d1 d5 d9 d10 d11 d12 d13 d14 d15
  clear own9 k9 f9 hr9 kW rW oW hnew
  obtain ⟨V, hV⟩ : ∃ V, W.setCell ⟨q, 5, none⟩ (.int .i64 60) = V := ⟨_, rfl⟩
  have kV : Keeps [q] W V := by rw [← hV]; exact (Keeps.refl [q] W).set (by simp) _ _
  have rV : Row V q 155 (rfCells ⟨at_, size, 3, task, target, 60, hd, t, u, n, (took.length : Int), took ++ [x], none⟩ (.slice pv (took.length + 1) cv) false 0 0 (.slice none 0 0)) := by rw [← hV]; exact HRW.out.set 5 _
  have e1 := rV.cell (j := 1) rfl
  have e5 := rV.cell (j := 5) rfl
  have e9 := rV.cell (j := 9) rfl
  have e10 := rV.cell (j := 10) rfl
  simp only at e1 e5 e9 e10
  have HRV := Lib.hid rV
  have HKV := Lib.hid kV
  clear rV kV
  go_wp2_with fail
  clear hW hV
  go_quiet (fail)
  generalize hD : World.drewN _ _ = V2
  have kD : Keeps [] V V2 := by rw [← hD]; exact (Keeps.refl _ _).drewN
  clear hD
  have rD := HRV.out.keeps kD (by simp)
  have y1 := rD.cell (j := 1) rfl
  have x1 := rD.frozen 1
  have y5 := rD.cell (j := 5) rfl
  have x5 := rD.frozen 5
  have y9 := rD.cell (j := 9) rfl
  have x9 := rD.frozen 9
  have y10 := rD.cell (j := 10) rfl
  have x10 := rD.frozen 10
  have y11 := rD.cell (j := 11) rfl
  have x11 := rD.frozen 11
  simp only at y1 y5 y9 y10 y11
  have HF : Hid (Row (V2) q 155 (rfCells ⟨at_, size, 3, task, target, 60, hd, t, u, n, (took.length : Int), took ++ [x], none⟩ (.slice pv (took.length + 1) cv) false 0 0 (.slice none 0 0))) := Lib.hid (rD)
  have HKF : Hid (Keeps [q] W (V2)) := Lib.hid ((HKV.out.trans kD.nil))
  clear rD kD
  go_wp2
  first | go_end0 | refine bodyPost_ret (results_none rfl _ _ _) rfl ?_
  refine ⟨rfl, .slice pv (took.length + 1) cv, false, 0, 0, .slice none 0 0, HF.out, ?_, HNew.out, HK.out.trans (HKF.out.mono (by simp)), fun _ => ⟨rfl, rfl, rfl, rfl⟩, fun r h => by cases h⟩
  rw [List.length_append, List.length_singleton]
  exact owns_keeps HOW.out HKF.out (fun g hg => by simpa using (HNew.out g hg).2)

set_option maxHeartbeats 6400000 in
theorem rfStealG6Last (q : Nat) (at_ size task target hd t u n x : Int) (took : List Int) (tk : Value) (won : Bool) (w : World) (h : Row w q 155 (rfCells ⟨at_, size, 3, task, target, 6, hd, t, u, n, (took.length : Int), took, none⟩ tk false 0 0 (.slice none 0 0))) (hto : w.ownsRow 0 26 1 tk took.length (ints .u64 took)) (htq : ∀ g, tk.ownBlock = some g → g ≠ q) (htl : took.length ≤ 1000) (hm : (took.length : Int) = n - 1) (hn : n ≤ 256) :
    Calls Tryz.prog 158 #[.pointer (some ⟨q, 0, none⟩), .int .u64 x, .bool won] w fun e w' => e = .returned (.tuple #[]) ∧ RfTook q w (rgStealGive ⟨at_, size, 3, task, target, 6, hd, t, u, n, (took.length : Int), took, none⟩ x won) tk w' := by
  have c1 := h.cell (j := 1) rfl
  have f1 := h.frozen 1
  have c5 := h.cell (j := 5) rfl
  have f5 := h.frozen 5
  have c9 := h.cell (j := 9) rfl
  have f9 := h.frozen 9
  have c10 := h.cell (j := 10) rfl
  have f10 := h.frozen 10
  have c11 := h.cell (j := 11) rfl
  have f11 := h.frozen 11
  simp only at c1 c5 c9 c10 c11
  have HR := Lib.hid h
  have HT := Lib.hid hto
  have hqno : q ∉ tk.ownBlock.toList := fun hm => htq q ((ownBlock_toList _ _).1 hm) rfl
  have dA : ((took.length : Int) == n - 1) = true := beq_iff_eq.2 hm
  have hwn : wrap64 (n - 1) = n - 1 := by unfold wrap64; omega
  have HG : Hid (rgStealGive ⟨at_, size, 3, task, target, 6, hd, t, u, n, (took.length : Int), took, none⟩ x won = ⟨at_, size, 3, task, target, 7, hd, t, u, n, (took.length : Int), took ++ [x], none⟩) := Lib.hid (by simp [rgStealGive, hm])
  rw [HG.out]
  clear hm
  clear h hto
  go_enter Tryz.func158, Tryz.ntmps158
  go_wp2_with (at_builtin; refine append_fresh rfl _ _ 46 rfl 0 26 _ 1 8 Tryz.underlying46 elemWd _ _ _ rfl HT.out #[.int .u64 x] rfl rfl (by simp [Value.oneCell']) ?c2 ?c3 ?_)
  case c2 => omega
  case c3 => omega
  intro v' w9 own9 k9 f9 _
  obtain ⟨pv, cv, rfl⟩ := (Sl.of_owns own9).len
  have hr9 := HR.out.keeps k9 hqno
  have z11 := hr9.cell (j := 11) rfl
  have y11 := hr9.frozen 11
  obtain ⟨W, hW⟩ : ∃ W, w9.setCell ⟨q, 11, none⟩ (.slice pv (took.length + 1) cv) = W := ⟨_, rfl⟩
  have kW : Keeps [q] w9 W := by rw [← hW]; exact (Keeps.refl [q] w9).set (by simp) _ _
  have rW : Row W q 155 (rfCells ⟨at_, size, 3, task, target, 6, hd, t, u, n, (took.length : Int), took ++ [x], none⟩ (.slice pv (took.length + 1) cv) false 0 0 (.slice none 0 0)) := by rw [← hW]; exact hr9.set 11 _
  have hnew : ∀ g, (Value.slice pv (took.length + 1) cv).ownBlock = some g → (tk.ownBlock = some g ∨ w.heap.size ≤ g) ∧ g ≠ q := fun g hg => by
    rcases f9 g hg with h | h
    · exact ⟨.inl h, htq g h⟩
    · have := HR.out.lt; exact ⟨.inr h, by omega⟩
  have oW : W.ownsRow 0 26 1 (.slice pv (took.length + 1) cv) (took.length + 1) (ints .u64 (took ++ [x])) := by simpa [ints] using owns_keeps own9 kW (fun g hg => by simpa using (hnew g hg).2)
  have HRW := Lib.hid rW
  have HOW := Lib.hid oW
  have HNew := Lib.hid hnew
  have HK : Hid (Keeps (q :: tk.ownBlock.toList) w W) := Lib.hid ((k9.mono (fun k hk _ => List.mem_cons_of_mem _ hk)).trans (kW.mono (by simp)))
  have d1 := rW.cell (j := 1) rfl
  have g1 := rW.frozen 1
  have d5 := rW.cell (j := 5) rfl
  have g5 := rW.frozen 5
  have d9 := rW.cell (j := 9) rfl
  have g9 := rW.frozen 9
  have d10 := rW.cell (j := 10) rfl
  have g10 := rW.frozen 10
  have d11 := rW.cell (j := 11) rfl
  have g11 := rW.frozen 11
  have d12 := rW.cell (j := 12) rfl
  have g12 := rW.frozen 12
  have d13 := rW.cell (j := 13) rfl
  have g13 := rW.frozen 13
  have d14 := rW.cell (j := 14) rfl
  have g14 := rW.frozen 14
  have d15 := rW.cell (j := 15) rfl
  have g15 := rW.frozen 15
  simp only at d1 d5 d9 d10 d11 d12 d13 d14 d15
  clear own9 k9 f9 hr9 kW rW oW hnew
  obtain ⟨V, hV⟩ : ∃ V, W.setCell ⟨q, 5, none⟩ (.int .i64 60) = V := ⟨_, rfl⟩
  have kV : Keeps [q] W V := by rw [← hV]; exact (Keeps.refl [q] W).set (by simp) _ _
  have rV : Row V q 155 (rfCells ⟨at_, size, 3, task, target, 60, hd, t, u, n, (took.length : Int), took ++ [x], none⟩ (.slice pv (took.length + 1) cv) false 0 0 (.slice none 0 0)) := by rw [← hV]; exact HRW.out.set 5 _
  have e1 := rV.cell (j := 1) rfl
  have e5 := rV.cell (j := 5) rfl
  have e9 := rV.cell (j := 9) rfl
  have e10 := rV.cell (j := 10) rfl
  simp only at e1 e5 e9 e10
  have HRV := Lib.hid rV
  have HKV := Lib.hid kV
  clear rV kV
  go_wp2_with fail
  clear hW hV
  go_quiet (fail)
  generalize hD : World.drewN _ _ = V2
  have kD : Keeps [] V V2 := by rw [← hD]; exact (Keeps.refl _ _).drewN
  clear hD
  have rD := HRV.out.keeps kD (by simp)
  have y1 := rD.cell (j := 1) rfl
  have x1 := rD.frozen 1
  have y5 := rD.cell (j := 5) rfl
  have x5 := rD.frozen 5
  have y9 := rD.cell (j := 9) rfl
  have x9 := rD.frozen 9
  have y10 := rD.cell (j := 10) rfl
  have x10 := rD.frozen 10
  have y11 := rD.cell (j := 11) rfl
  have x11 := rD.frozen 11
  simp only at y1 y5 y9 y10 y11
  have HF : Hid (Row ((V2).setCell ⟨q, 5, none⟩ (.int .i64 7)) q 155 (rfCells ⟨at_, size, 3, task, target, 7, hd, t, u, n, (took.length : Int), took ++ [x], none⟩ (.slice pv (took.length + 1) cv) false 0 0 (.slice none 0 0))) := Lib.hid ((rD).set 5 _)
  have HKF : Hid (Keeps [q] W ((V2).setCell ⟨q, 5, none⟩ (.int .i64 7))) := Lib.hid (((HKV.out.trans kD.nil)).set (by simp) _ _)
  clear rD kD
  go_wp2
  first | go_end0 | refine bodyPost_ret (results_none rfl _ _ _) rfl ?_
  refine ⟨rfl, .slice pv (took.length + 1) cv, false, 0, 0, .slice none 0 0, HF.out, ?_, HNew.out, HK.out.trans (HKF.out.mono (by simp)), fun _ => ⟨rfl, rfl, rfl, rfl⟩, fun r h => by cases h⟩
  rw [List.length_append, List.length_singleton]
  exact owns_keeps HOW.out HKF.out (fun g hg => by simpa using (HNew.out g hg).2)

set_option maxHeartbeats 6400000 in
theorem rfPushG6 (q : Nat) (at_ size task target hd t u n x : Int) (took : List Int) (tk : Value) (won : Bool) (w : World) (h : Row w q 155 (rfCells ⟨at_, size, 1, task, target, 6, hd, t, u, n, (took.length : Int), took, none⟩ tk false 0 0 (.slice none 0 0))) (hto : w.ownsRow 0 26 1 tk took.length (ints .u64 took)) (htq : ∀ g, tk.ownBlock = some g → g ≠ q) (htl : took.length ≤ 1000) (hm : (took.length : Int) + 1 < size / 2) (hs2 : 2 ≤ size ∧ size ≤ 256) :
    Calls Tryz.prog 156 #[.pointer (some ⟨q, 0, none⟩), .int .u64 x, .bool won] w fun e w' => e = .returned (.tuple #[]) ∧ RfTook q w (rgPushGive ⟨at_, size, 1, task, target, 6, hd, t, u, n, (took.length : Int), took, none⟩ x won) tk w' := by
  have c1 := h.cell (j := 1) rfl
  have f1 := h.frozen 1
  have c5 := h.cell (j := 5) rfl
  have f5 := h.frozen 5
  have c9 := h.cell (j := 9) rfl
  have f9 := h.frozen 9
  have c10 := h.cell (j := 10) rfl
  have f10 := h.frozen 10
  have c11 := h.cell (j := 11) rfl
  have f11 := h.frozen 11
  simp only at c1 c5 c9 c10 c11
  have HR := Lib.hid h
  have HT := Lib.hid hto
  have hqno : q ∉ tk.ownBlock.toList := fun hm => htq q ((ownBlock_toList _ _).1 hm) rfl
  have dA : ((took.length : Int) + 1 == size / 2) = false := beq_eq_false_iff_ne.2 (by omega)
  have hhalf : wrap64 (size.tdiv 2) = size / 2 := by rw [Int.tdiv_eq_ediv_of_nonneg (by omega)]; unfold wrap64; omega
  have hwk : wrap64 ((took.length : Int) + 1) = (took.length : Int) + 1 := by unfold wrap64; omega
  have HG : Hid (rgPushGive ⟨at_, size, 1, task, target, 6, hd, t, u, n, (took.length : Int), took, none⟩ x won = ⟨at_, size, 1, task, target, 6, hd, t, u, n, (took.length : Int) + 1, took ++ [x], none⟩) := Lib.hid (by simp [rgPushGive]; omega)
  rw [HG.out]
  clear h hto
  go_enter Tryz.func156, Tryz.ntmps156
  go_wp2_with (at_builtin; refine append_fresh rfl _ _ 46 rfl 0 26 _ 1 8 Tryz.underlying46 elemWd _ _ _ rfl HT.out #[.int .u64 x] rfl rfl (by simp [Value.oneCell']) ?c2 ?c3 ?_)
  case c2 => omega
  case c3 => omega
  intro v' w9 own9 k9 f9 _
  obtain ⟨pv, cv, rfl⟩ := (Sl.of_owns own9).len
  have hr9 := HR.out.keeps k9 hqno
  have z11 := hr9.cell (j := 11) rfl
  have y11 := hr9.frozen 11
  obtain ⟨W, hW⟩ : ∃ W, w9.setCell ⟨q, 11, none⟩ (.slice pv (took.length + 1) cv) = W := ⟨_, rfl⟩
  have kW : Keeps [q] w9 W := by rw [← hW]; exact (Keeps.refl [q] w9).set (by simp) _ _
  have rW : Row W q 155 (rfCells ⟨at_, size, 1, task, target, 6, hd, t, u, n, (took.length : Int), took ++ [x], none⟩ (.slice pv (took.length + 1) cv) false 0 0 (.slice none 0 0)) := by rw [← hW]; exact hr9.set 11 _
  have hnew : ∀ g, (Value.slice pv (took.length + 1) cv).ownBlock = some g → (tk.ownBlock = some g ∨ w.heap.size ≤ g) ∧ g ≠ q := fun g hg => by
    rcases f9 g hg with h | h
    · exact ⟨.inl h, htq g h⟩
    · have := HR.out.lt; exact ⟨.inr h, by omega⟩
  have oW : W.ownsRow 0 26 1 (.slice pv (took.length + 1) cv) (took.length + 1) (ints .u64 (took ++ [x])) := by simpa [ints] using owns_keeps own9 kW (fun g hg => by simpa using (hnew g hg).2)
  have HRW := Lib.hid rW
  have HOW := Lib.hid oW
  have HNew := Lib.hid hnew
  have HK : Hid (Keeps (q :: tk.ownBlock.toList) w W) := Lib.hid ((k9.mono (fun k hk _ => List.mem_cons_of_mem _ hk)).trans (kW.mono (by simp)))
  have d1 := rW.cell (j := 1) rfl
  have g1 := rW.frozen 1
  have d5 := rW.cell (j := 5) rfl
  have g5 := rW.frozen 5
  have d9 := rW.cell (j := 9) rfl
  have g9 := rW.frozen 9
  have d10 := rW.cell (j := 10) rfl
  have g10 := rW.frozen 10
  have d11 := rW.cell (j := 11) rfl
  have g11 := rW.frozen 11
  have d12 := rW.cell (j := 12) rfl
  have g12 := rW.frozen 12
  have d13 := rW.cell (j := 13) rfl
  have g13 := rW.frozen 13
  have d14 := rW.cell (j := 14) rfl
  have g14 := rW.frozen 14
  have d15 := rW.cell (j := 15) rfl
  have g15 := rW.frozen 15
  simp only at d1 d5 d9 d10 d11 d12 d13 d14 d15
  clear own9 k9 f9 hr9 kW rW oW hnew
  obtain ⟨V, hV⟩ : ∃ V, W.setCell ⟨q, 10, none⟩ (.int .i64 ((took.length : Int) + 1)) = V := ⟨_, rfl⟩
  have kV : Keeps [q] W V := by rw [← hV]; exact (Keeps.refl [q] W).set (by simp) _ _
  have rV : Row V q 155 (rfCells ⟨at_, size, 1, task, target, 6, hd, t, u, n, ((took.length : Int) + 1), took ++ [x], none⟩ (.slice pv (took.length + 1) cv) false 0 0 (.slice none 0 0)) := by rw [← hV]; exact HRW.out.set 10 _
  have e1 := rV.cell (j := 1) rfl
  have e5 := rV.cell (j := 5) rfl
  have e9 := rV.cell (j := 9) rfl
  have e10 := rV.cell (j := 10) rfl
  simp only at e1 e5 e9 e10
  have HRV := Lib.hid rV
  have HKV := Lib.hid kV
  clear rV kV
  go_wp2_with fail
  clear hW hV
  go_quiet (fail)
  generalize hD : World.drewN _ _ = V2
  have kD : Keeps [] V V2 := by rw [← hD]; exact (Keeps.refl _ _).drewN
  clear hD
  have rD := HRV.out.keeps kD (by simp)
  have y1 := rD.cell (j := 1) rfl
  have x1 := rD.frozen 1
  have y5 := rD.cell (j := 5) rfl
  have x5 := rD.frozen 5
  have y9 := rD.cell (j := 9) rfl
  have x9 := rD.frozen 9
  have y10 := rD.cell (j := 10) rfl
  have x10 := rD.frozen 10
  have y11 := rD.cell (j := 11) rfl
  have x11 := rD.frozen 11
  simp only at y1 y5 y9 y10 y11
  have HF : Hid (Row (V2) q 155 (rfCells ⟨at_, size, 1, task, target, 6, hd, t, u, n, ((took.length : Int) + 1), took ++ [x], none⟩ (.slice pv (took.length + 1) cv) false 0 0 (.slice none 0 0))) := Lib.hid (rD)
  have HKF : Hid (Keeps [q] W (V2)) := Lib.hid ((HKV.out.trans kD.nil))
  clear rD kD
  go_wp2
  first | go_end0 | refine bodyPost_ret (results_none rfl _ _ _) rfl ?_
  refine ⟨rfl, .slice pv (took.length + 1) cv, false, 0, 0, .slice none 0 0, HF.out, ?_, HNew.out, HK.out.trans (HKF.out.mono (by simp)), fun _ => ⟨rfl, rfl, rfl, rfl⟩, fun r h => by cases h⟩
  rw [List.length_append, List.length_singleton]
  exact owns_keeps HOW.out HKF.out (fun g hg => by simpa using (HNew.out g hg).2)

set_option maxHeartbeats 6400000 in
theorem rfPushG6Last (q : Nat) (at_ size task target hd t u n x : Int) (took : List Int) (tk : Value) (won : Bool) (w : World) (h : Row w q 155 (rfCells ⟨at_, size, 1, task, target, 6, hd, t, u, n, (took.length : Int), took, none⟩ tk false 0 0 (.slice none 0 0))) (hto : w.ownsRow 0 26 1 tk took.length (ints .u64 took)) (htq : ∀ g, tk.ownBlock = some g → g ≠ q) (htl : took.length ≤ 1000) (hm : (took.length : Int) + 1 = size / 2) (hs2 : 2 ≤ size ∧ size ≤ 256) :
    Calls Tryz.prog 156 #[.pointer (some ⟨q, 0, none⟩), .int .u64 x, .bool won] w fun e w' => e = .returned (.tuple #[]) ∧ RfTook q w (rgPushGive ⟨at_, size, 1, task, target, 6, hd, t, u, n, (took.length : Int), took, none⟩ x won) tk w' := by
  have c1 := h.cell (j := 1) rfl
  have f1 := h.frozen 1
  have c5 := h.cell (j := 5) rfl
  have f5 := h.frozen 5
  have c9 := h.cell (j := 9) rfl
  have f9 := h.frozen 9
  have c10 := h.cell (j := 10) rfl
  have f10 := h.frozen 10
  have c11 := h.cell (j := 11) rfl
  have f11 := h.frozen 11
  simp only at c1 c5 c9 c10 c11
  have HR := Lib.hid h
  have HT := Lib.hid hto
  have hqno : q ∉ tk.ownBlock.toList := fun hm => htq q ((ownBlock_toList _ _).1 hm) rfl
  have dA : ((took.length : Int) + 1 == size / 2) = true := beq_iff_eq.2 hm
  have hhalf : wrap64 (size.tdiv 2) = size / 2 := by rw [Int.tdiv_eq_ediv_of_nonneg (by omega)]; unfold wrap64; omega
  have hwk : wrap64 ((took.length : Int) + 1) = (took.length : Int) + 1 := by unfold wrap64; omega
  have HG : Hid (rgPushGive ⟨at_, size, 1, task, target, 6, hd, t, u, n, (took.length : Int), took, none⟩ x won = ⟨at_, size, 1, task, target, 6, hd, t, u, n, (took.length : Int) + 1, took ++ [x], some ⟨4, 0, took ++ [x]⟩⟩) := Lib.hid (by simp [rgPushGive, hm])
  rw [HG.out]
  clear hm
  clear h hto
  go_enter Tryz.func156, Tryz.ntmps156
  go_wp2_with (at_builtin; refine append_fresh rfl _ _ 46 rfl 0 26 _ 1 8 Tryz.underlying46 elemWd _ _ _ rfl HT.out #[.int .u64 x] rfl rfl (by simp [Value.oneCell']) ?c2 ?c3 ?_)
  case c2 => omega
  case c3 => omega
  intro v' w9 own9 k9 f9 _
  obtain ⟨pv, cv, rfl⟩ := (Sl.of_owns own9).len
  have hr9 := HR.out.keeps k9 hqno
  have z11 := hr9.cell (j := 11) rfl
  have y11 := hr9.frozen 11
  obtain ⟨W, hW⟩ : ∃ W, w9.setCell ⟨q, 11, none⟩ (.slice pv (took.length + 1) cv) = W := ⟨_, rfl⟩
  have kW : Keeps [q] w9 W := by rw [← hW]; exact (Keeps.refl [q] w9).set (by simp) _ _
  have rW : Row W q 155 (rfCells ⟨at_, size, 1, task, target, 6, hd, t, u, n, (took.length : Int), took ++ [x], none⟩ (.slice pv (took.length + 1) cv) false 0 0 (.slice none 0 0)) := by rw [← hW]; exact hr9.set 11 _
  have hnew : ∀ g, (Value.slice pv (took.length + 1) cv).ownBlock = some g → (tk.ownBlock = some g ∨ w.heap.size ≤ g) ∧ g ≠ q := fun g hg => by
    rcases f9 g hg with h | h
    · exact ⟨.inl h, htq g h⟩
    · have := HR.out.lt; exact ⟨.inr h, by omega⟩
  have oW : W.ownsRow 0 26 1 (.slice pv (took.length + 1) cv) (took.length + 1) (ints .u64 (took ++ [x])) := by simpa [ints] using owns_keeps own9 kW (fun g hg => by simpa using (hnew g hg).2)
  have HRW := Lib.hid rW
  have HOW := Lib.hid oW
  have HNew := Lib.hid hnew
  have HK : Hid (Keeps (q :: tk.ownBlock.toList) w W) := Lib.hid ((k9.mono (fun k hk _ => List.mem_cons_of_mem _ hk)).trans (kW.mono (by simp)))
  have d1 := rW.cell (j := 1) rfl
  have g1 := rW.frozen 1
  have d5 := rW.cell (j := 5) rfl
  have g5 := rW.frozen 5
  have d9 := rW.cell (j := 9) rfl
  have g9 := rW.frozen 9
  have d10 := rW.cell (j := 10) rfl
  have g10 := rW.frozen 10
  have d11 := rW.cell (j := 11) rfl
  have g11 := rW.frozen 11
  have d12 := rW.cell (j := 12) rfl
  have g12 := rW.frozen 12
  have d13 := rW.cell (j := 13) rfl
  have g13 := rW.frozen 13
  have d14 := rW.cell (j := 14) rfl
  have g14 := rW.frozen 14
  have d15 := rW.cell (j := 15) rfl
  have g15 := rW.frozen 15
  simp only at d1 d5 d9 d10 d11 d12 d13 d14 d15
  clear own9 k9 f9 hr9 kW rW oW hnew
  obtain ⟨V, hV⟩ : ∃ V, W.setCell ⟨q, 10, none⟩ (.int .i64 ((took.length : Int) + 1)) = V := ⟨_, rfl⟩
  have kV : Keeps [q] W V := by rw [← hV]; exact (Keeps.refl [q] W).set (by simp) _ _
  have rV : Row V q 155 (rfCells ⟨at_, size, 1, task, target, 6, hd, t, u, n, ((took.length : Int) + 1), took ++ [x], none⟩ (.slice pv (took.length + 1) cv) false 0 0 (.slice none 0 0)) := by rw [← hV]; exact HRW.out.set 10 _
  have e1 := rV.cell (j := 1) rfl
  have e5 := rV.cell (j := 5) rfl
  have e9 := rV.cell (j := 9) rfl
  have e10 := rV.cell (j := 10) rfl
  simp only at e1 e5 e9 e10
  have HRV := Lib.hid rV
  have HKV := Lib.hid kV
  clear rV kV
  go_wp2_with fail
  clear hW hV
  go_quiet (fail)
  generalize hD : World.drewN _ _ = V2
  have kD : Keeps [] V V2 := by rw [← hD]; exact (Keeps.refl _ _).drewN
  clear hD
  have rD := HRV.out.keeps kD (by simp)
  have y1 := rD.cell (j := 1) rfl
  have x1 := rD.frozen 1
  have y5 := rD.cell (j := 5) rfl
  have x5 := rD.frozen 5
  have y9 := rD.cell (j := 9) rfl
  have x9 := rD.frozen 9
  have y10 := rD.cell (j := 10) rfl
  have x10 := rD.frozen 10
  have y11 := rD.cell (j := 11) rfl
  have x11 := rD.frozen 11
  simp only at y1 y5 y9 y10 y11
  have HN := Lib.hid (rfEnd_any q _ _ _ _ _ _ 4 V2 rD)
  have HKD := Lib.hid (HKV.out.trans kD.nil)
  clear rD kD
  go_wp2_with fail
  refine HN.out.mono ?_
  rintro e w2 ⟨rfl, r2, k2⟩
  have z11 := r2.cell (j := 11) rfl
  have z15 := r2.cell (j := 15) rfl
  have b15 := r2.frozen 15
  have HF := Lib.hid (r2.set 15 (.slice pv (took.length + 1) cv))
  have HKF := Lib.hid (Keeps.set (m := q) (HKD.out.trans k2) (by simp) 15 (.slice pv (took.length + 1) cv))
  clear r2 k2
  go_wp2
  first | go_end0 | refine bodyPost_ret (results_none rfl _ _ _) rfl ?_
  refine ⟨rfl, .slice pv (took.length + 1) cv, true, 4, 0, .slice pv (took.length + 1) cv, HF.out, ?_, HNew.out, HK.out.trans (HKF.out.mono (by simp)), fun h => (by cases h), fun r h => (by cases h; exact ⟨rfl, rfl, rfl, rfl, rfl⟩)⟩
  rw [List.length_append, List.length_singleton]
  exact owns_keeps HOW.out HKF.out (fun g hg => by simpa using (HNew.out g hg).2)

set_option maxHeartbeats 6400000 in
theorem rfLast_any (q g nt ct kN : Nat) (y : Int) (s : RgS) (w : World) (h : Row w q 155 (rfCells s (.slice (some ⟨g, 0, none⟩) nt ct) false 0 0 (.slice none 0 0))) (hn : s.n = (kN : Int) + 1) (hkn : kN < nt) (hk2 : kN ≤ 256) (hg : g ≠ q) (hgl : g < w.heap.size) (hx : w.cell? ⟨g, kN, none⟩ = some (.int .u64 y)) :
    Calls Tryz.prog 204 #[.pointer (some ⟨q, 0, none⟩)] w fun e w' => e = .returned (.tuple #[]) ∧ Row w' q 155 (rfCells s (.slice (some ⟨g, 0, none⟩) nt ct) true 0 y (.slice none 0 0)) ∧ Keeps [q] w w' := by
  have HN := Lib.hid (rfEnd_any q _ _ _ _ _ _ 0 w h)
  have hw1 : IntKind.i64.wrap (s.n - 1) = (kN : Int) := by rw [hn, show (kN : Int) + 1 - 1 = kN by omega]; exact IntWalk.i64_in _ (by omega)
  have i1 : (kN : Int) < (nt : Int) := by omega
  clear h hn
  go_enter Tryz.func204, Tryz.ntmps204
  go_wp2_with fail
  refine HN.out.mono ?_
  rintro e w2 ⟨rfl, r2, k2⟩
  have z9 := r2.cell (j := 9) rfl
  have z11 := r2.cell (j := 11) rfl
  have z14 := r2.cell (j := 14) rfl
  have b14 := r2.frozen 14
  have cx := (k2.cell (p := ⟨g, kN, none⟩) hgl (by simpa using hg)).trans hx
  have HF := Lib.hid ((r2.keeps (Keeps.refl [] _).drew (by simp)).set 14 (.int .u64 y))
  have HKF := Lib.hid (Keeps.set (m := q) k2.drew (by simp) 14 (.int .u64 y))
  clear r2 k2
  go_wp2
  go_still_tail 15, (by kernel_rfl)
  change wpList _ _ _ _ _ (w2).drew
  go_wp2
  first | go_end0 | refine bodyPost_ret (results_none rfl _ _ _) rfl ?_
  exact ⟨rfl, HF.out, HKF.out⟩
end Go.Proofs.YtjfgpplnlepnoaaGreat
