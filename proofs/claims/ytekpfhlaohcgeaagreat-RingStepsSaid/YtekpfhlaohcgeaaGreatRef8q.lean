/-
  Contracts: what a document's frame of a ring is told (written by wip/tools/rfgive.py).
-/
import Derived.Test.YtekpfhlaohcgeaaGreatRef8g
namespace Go.Proofs.YtekpfhlaohcgeaaGreat
set_option maxRecDepth 100000
set_option linter.unusedSimpArgs false
set_option linter.unusedVariables false
open Go.ChangeShapes Go.WideShapes Go.ChangeAt Go.RowKit

set_option maxHeartbeats 6400000 in
theorem rfPushG2Room (q : Nat) (at_ size task target hd t u n k x : Int) (took : List Int) (tk : Value) (won : Bool) (w : World) (h : Row w q 97 (rfCells ⟨at_, size, 1, task, target, 2, hd, t, u, n, k, took, none⟩ tk false 0 0 (.slice none 0 0))) (hu : M.U hd) (hx : M.U x) (wu : W32 u) (hA : M.aheadI (rgLo x) (rgHi hd) < size) :
    Calls Tryz.prog 93 #[.pointer (some ⟨q, 0, none⟩), .int .u64 x, .bool won] w fun e w' => e = .returned (.tuple #[]) ∧ RfGoes q w (rgPushGive ⟨at_, size, 1, task, target, 2, hd, t, u, n, k, took, none⟩ x won) tk w' := by
  have c1 := h.cell (j := 1) rfl
  have c5 := h.cell (j := 5) rfl
  have c6 := h.cell (j := 6) rfl
  have c7 := h.cell (j := 7) rfl
  have c8 := h.cell (j := 8) rfl
  have c9 := h.cell (j := 9) rfl
  have c10 := h.cell (j := 10) rfl
  have f5 := h.frozen 5
  have f6 := h.frozen 6
  have f7 := h.frozen 7
  have f8 := h.frozen 8
  have f9 := h.frozen 9
  have f10 := h.frozen 10
  simp only at c1 c5 c6 c7 c8 c9 c10
  have hlx := rgLo_range x
  have hhx := rgHi_range hx
  have hlh := rgLo_range hd
  have hhh := rgHi_range hu
  have HLo : Hid (∀ W, Calls Tryz.prog 63 #[.int .u64 x] W fun e w' => e = .returned (.int .u32 (rgLo x)) ∧ W = w') := Lib.hid (fun W => refLo_any x W hx.nn)
  have HHi : Hid (∀ W, Calls Tryz.prog 125 #[.int .u64 x] W fun e w' => e = .returned (.int .u32 (rgHi x)) ∧ W = w') := Lib.hid (fun W => refHi_any x W hx.nn hx)
  have HAh := Lib.hid (fun W => refAhead_any (rgLo x) (rgHi hd) W hlx.1 hlx.2 hhh.1 hhh.2)
  obtain ⟨W1, hW1⟩ : ∃ W1, ((w).setCell ⟨q, 7, none⟩ (.int .u32 (rgLo x))).setCell ⟨q, 5, none⟩ (.int .i64 5) = W1 := ⟨_, rfl⟩
  have k1 : Keeps [q] w W1 := by rw [← hW1]; exact ((Keeps.refl [q] w).set (by simp) _ _).set (by simp) _ _
  have r1 : Row W1 q 97 (rfCells ⟨at_, size, 1, task, target, 5, hd, (rgLo x), u, n, k, took, none⟩ tk false 0 0 (.slice none 0 0)) := by rw [← hW1]; exact ((h).set 7 _).set 5 _
  have HAt0a := Lib.hid (rfAt_any q _ _ _ _ _ _ w h hu)
  have HSa := Lib.hid (rfS_any q _ _ _ _ _ _ w h hu)
  have HAt0b := Lib.hid (rfAt_any q _ _ _ _ _ _ W1 r1 hu)
  have HSb := Lib.hid (rfS_any q _ _ _ _ _ _ W1 r1 hu)
  have d1 := r1.cell (j := 1) rfl
  have g1 := r1.frozen 1
  have d5 := r1.cell (j := 5) rfl
  have g5 := r1.frozen 5
  have d6 := r1.cell (j := 6) rfl
  have g6 := r1.frozen 6
  have d7 := r1.cell (j := 7) rfl
  have g7 := r1.frozen 7
  have d8 := r1.cell (j := 8) rfl
  have g8 := r1.frozen 8
  have d9 := r1.cell (j := 9) rfl
  have g9 := r1.frozen 9
  have d10 := r1.cell (j := 10) rfl
  have g10 := r1.frozen 10
  simp only at d1 d5 d6 d7 d8 d9 d10
  have HRow : Hid (Row ((W1).setCell ⟨q, 5, none⟩ (.int .i64 3)) q 97 (rfCells ⟨at_, size, 1, task, target, 3, hd, (rgLo x), u, n, k, took, none⟩ tk false 0 0 (.slice none 0 0))) := Lib.hid ((r1).set 5 _)
  have HK : Hid (Keeps [q] w ((W1).setCell ⟨q, 5, none⟩ (.int .i64 3))) := Lib.hid ((k1).set (by simp) _ _)
  have HG : Hid (rgPushGive ⟨at_, size, 1, task, target, 2, hd, t, u, n, k, took, none⟩ x won = ⟨at_, size, 1, task, target, 3, hd, (rgLo x), u, n, k, took, none⟩) := Lib.hid (by simp [rgPushGive, hA])
  rw [HG.out]
  have dA : decide (M.aheadI (rgLo x) (rgHi hd) < size) = true := decide_eq_true (by omega)
  have HR1 := Lib.hid r1
  have HK1 := Lib.hid k1
  have HSd := Lib.hid (fun W (kk : Keeps [] W1 W) => rfS_any q _ _ _ _ _ _ W (r1.keeps kk (by simp)) hu)
  have HAd := Lib.hid (fun W (kk : Keeps [] W1 W) => rfAt_any q _ _ _ _ _ _ W (r1.keeps kk (by simp)) hu)
  clear h r1 k1
  go_enter Tryz.func93, Tryz.ntmps93
  go_wp2_with (first | (go_at_call 63; refine (HLo.out _).mono ?_; rintro e w9 ⟨rfl, rfl⟩) | (go_at_call 125; refine (HHi.out _).mono ?_; rintro e w9 ⟨rfl, rfl⟩) | fail)
  go_quiet (first | (go_at_call 64; exact qs (HAh.out _)) | (go_at_call 124; exact qs (HSd.out _ ((Keeps.refl [] _).drewN))) | (go_at_call 123; exact qs (HAd.out _ ((Keeps.refl [] _).drewN))))
  generalize hV : World.drewN _ _ = W2
  have kV : Keeps [] W1 W2 := by rw [← hV]; exact (Keeps.refl _ _).drewN
  clear hV
  have r2 := HR1.out.keeps kV (by simp)
  have e1 := r2.cell (j := 1) rfl
  have y1 := r2.frozen 1
  have e5 := r2.cell (j := 5) rfl
  have y5 := r2.frozen 5
  have e6 := r2.cell (j := 6) rfl
  have y6 := r2.frozen 6
  have e7 := r2.cell (j := 7) rfl
  have y7 := r2.frozen 7
  have e8 := r2.cell (j := 8) rfl
  have y8 := r2.frozen 8
  have e9 := r2.cell (j := 9) rfl
  have y9 := r2.frozen 9
  have e10 := r2.cell (j := 10) rfl
  have y10 := r2.frozen 10
  simp only at e1 e5 e6 e7 e8 e9 e10
  have HR2 := Lib.hid r2
  have HK2 := Lib.hid (HK1.out.trans (kV.nil))
  clear r2
  go_wp2_with (first | (go_at_call 124; refine (HSd.out _ kV).mono ?_; rintro e w9 ⟨rfl, rfl⟩) | (go_at_call 123; refine (HAd.out _ kV).mono ?_; rintro e w9 ⟨rfl, rfl⟩) | fail)
  first | go_end0 | refine bodyPost_ret (results_none rfl _ _ _) rfl ?_
  exact ⟨rfl, _, _, _, _, (HR2.out).set 5 _, (HK2.out).set (by simp) _ _, fun _ => ⟨rfl, rfl, rfl, rfl⟩, fun r h => by cases h⟩

set_option maxHeartbeats 6400000 in
theorem rfPushG2Turn (q : Nat) (at_ size task target hd t u n k x : Int) (took : List Int) (tk : Value) (won : Bool) (w : World) (h : Row w q 97 (rfCells ⟨at_, size, 1, task, target, 2, hd, t, u, n, k, took, none⟩ tk false 0 0 (.slice none 0 0))) (hu : M.U hd) (hx : M.U x) (wu : W32 u) (hA : ¬ M.aheadI (rgLo x) (rgHi hd) < size) (hB : rgHi hd = rgLo hd) :
    Calls Tryz.prog 93 #[.pointer (some ⟨q, 0, none⟩), .int .u64 x, .bool won] w fun e w' => e = .returned (.tuple #[]) ∧ RfGoes q w (rgPushGive ⟨at_, size, 1, task, target, 2, hd, t, u, n, k, took, none⟩ x won) tk w' := by
  have c1 := h.cell (j := 1) rfl
  have c5 := h.cell (j := 5) rfl
  have c6 := h.cell (j := 6) rfl
  have c7 := h.cell (j := 7) rfl
  have c8 := h.cell (j := 8) rfl
  have c9 := h.cell (j := 9) rfl
  have c10 := h.cell (j := 10) rfl
  have f5 := h.frozen 5
  have f6 := h.frozen 6
  have f7 := h.frozen 7
  have f8 := h.frozen 8
  have f9 := h.frozen 9
  have f10 := h.frozen 10
  simp only at c1 c5 c6 c7 c8 c9 c10
  have hlx := rgLo_range x
  have hhx := rgHi_range hx
  have hlh := rgLo_range hd
  have hhh := rgHi_range hu
  have HLo : Hid (∀ W, Calls Tryz.prog 63 #[.int .u64 x] W fun e w' => e = .returned (.int .u32 (rgLo x)) ∧ W = w') := Lib.hid (fun W => refLo_any x W hx.nn)
  have HHi : Hid (∀ W, Calls Tryz.prog 125 #[.int .u64 x] W fun e w' => e = .returned (.int .u32 (rgHi x)) ∧ W = w') := Lib.hid (fun W => refHi_any x W hx.nn hx)
  have HAh := Lib.hid (fun W => refAhead_any (rgLo x) (rgHi hd) W hlx.1 hlx.2 hhh.1 hhh.2)
  obtain ⟨W1, hW1⟩ : ∃ W1, ((w).setCell ⟨q, 7, none⟩ (.int .u32 (rgLo x))).setCell ⟨q, 5, none⟩ (.int .i64 5) = W1 := ⟨_, rfl⟩
  have k1 : Keeps [q] w W1 := by rw [← hW1]; exact ((Keeps.refl [q] w).set (by simp) _ _).set (by simp) _ _
  have r1 : Row W1 q 97 (rfCells ⟨at_, size, 1, task, target, 5, hd, (rgLo x), u, n, k, took, none⟩ tk false 0 0 (.slice none 0 0)) := by rw [← hW1]; exact ((h).set 7 _).set 5 _
  have HAt0a := Lib.hid (rfAt_any q _ _ _ _ _ _ w h hu)
  have HSa := Lib.hid (rfS_any q _ _ _ _ _ _ w h hu)
  have HAt0b := Lib.hid (rfAt_any q _ _ _ _ _ _ W1 r1 hu)
  have HSb := Lib.hid (rfS_any q _ _ _ _ _ _ W1 r1 hu)
  have d1 := r1.cell (j := 1) rfl
  have g1 := r1.frozen 1
  have d5 := r1.cell (j := 5) rfl
  have g5 := r1.frozen 5
  have d6 := r1.cell (j := 6) rfl
  have g6 := r1.frozen 6
  have d7 := r1.cell (j := 7) rfl
  have g7 := r1.frozen 7
  have d8 := r1.cell (j := 8) rfl
  have g8 := r1.frozen 8
  have d9 := r1.cell (j := 9) rfl
  have g9 := r1.frozen 9
  have d10 := r1.cell (j := 10) rfl
  have g10 := r1.frozen 10
  simp only at d1 d5 d6 d7 d8 d9 d10
  have HRow : Hid (Row (W1) q 97 (rfCells ⟨at_, size, 1, task, target, 5, hd, (rgLo x), u, n, k, took, none⟩ tk false 0 0 (.slice none 0 0))) := Lib.hid (r1)
  have HK : Hid (Keeps [q] w (W1)) := Lib.hid (k1)
  have HG : Hid (rgPushGive ⟨at_, size, 1, task, target, 2, hd, t, u, n, k, took, none⟩ x won = ⟨at_, size, 1, task, target, 5, hd, (rgLo x), u, n, k, took, none⟩) := Lib.hid (by simp [rgPushGive, show ¬ M.aheadI (rgLo x) (rgLo hd) < size from hB ▸ hA, hB])
  rw [HG.out]
  have dA : decide (M.aheadI (rgLo x) (rgHi hd) < size) = false := decide_eq_false (by omega)
  have dB : (rgHi hd == rgLo hd) = true := beq_iff_eq.2 hB
  clear hB
  have HR1 := Lib.hid r1
  have HK1 := Lib.hid k1
  have HSd := Lib.hid (fun W (kk : Keeps [] W1 W) => rfS_any q _ _ _ _ _ _ W (r1.keeps kk (by simp)) hu)
  have HAd := Lib.hid (fun W (kk : Keeps [] W1 W) => rfAt_any q _ _ _ _ _ _ W (r1.keeps kk (by simp)) hu)
  clear h r1 k1
  go_enter Tryz.func93, Tryz.ntmps93
  go_wp2_with (first | (go_at_call 63; refine (HLo.out _).mono ?_; rintro e w9 ⟨rfl, rfl⟩) | (go_at_call 125; refine (HHi.out _).mono ?_; rintro e w9 ⟨rfl, rfl⟩) | fail)
  go_quiet (first | (go_at_call 64; exact qs (HAh.out _)) | (go_at_call 124; exact qs (HSd.out _ ((Keeps.refl [] _).drewN))) | (go_at_call 123; exact qs (HAd.out _ ((Keeps.refl [] _).drewN))))
  generalize hV : World.drewN _ _ = W2
  have kV : Keeps [] W1 W2 := by rw [← hV]; exact (Keeps.refl _ _).drewN
  clear hV
  have r2 := HR1.out.keeps kV (by simp)
  have e1 := r2.cell (j := 1) rfl
  have y1 := r2.frozen 1
  have e5 := r2.cell (j := 5) rfl
  have y5 := r2.frozen 5
  have e6 := r2.cell (j := 6) rfl
  have y6 := r2.frozen 6
  have e7 := r2.cell (j := 7) rfl
  have y7 := r2.frozen 7
  have e8 := r2.cell (j := 8) rfl
  have y8 := r2.frozen 8
  have e9 := r2.cell (j := 9) rfl
  have y9 := r2.frozen 9
  have e10 := r2.cell (j := 10) rfl
  have y10 := r2.frozen 10
  simp only at e1 e5 e6 e7 e8 e9 e10
  have HR2 := Lib.hid r2
  have HK2 := Lib.hid (HK1.out.trans (kV.nil))
  clear r2
  go_wp2_with (first | (go_at_call 124; refine (HSd.out _ kV).mono ?_; rintro e w9 ⟨rfl, rfl⟩) | (go_at_call 123; refine (HAd.out _ kV).mono ?_; rintro e w9 ⟨rfl, rfl⟩) | fail)
  first | go_end0 | refine bodyPost_ret (results_none rfl _ _ _) rfl ?_
  exact ⟨rfl, _, _, _, _, HR2.out, HK2.out, fun _ => ⟨rfl, rfl, rfl, rfl⟩, fun r h => by cases h⟩

set_option maxHeartbeats 6400000 in
theorem rfPushG2Busy (q : Nat) (at_ size task target hd t u n k x : Int) (took : List Int) (tk : Value) (won : Bool) (w : World) (h : Row w q 97 (rfCells ⟨at_, size, 1, task, target, 2, hd, t, u, n, k, took, none⟩ tk false 0 0 (.slice none 0 0))) (hu : M.U hd) (hx : M.U x) (wu : W32 u) (hA : ¬ M.aheadI (rgLo x) (rgHi hd) < size) (hB : rgHi hd ≠ rgLo hd) :
    Calls Tryz.prog 93 #[.pointer (some ⟨q, 0, none⟩), .int .u64 x, .bool won] w fun e w' => e = .returned (.tuple #[]) ∧ RfGoes q w (rgPushGive ⟨at_, size, 1, task, target, 2, hd, t, u, n, k, took, none⟩ x won) tk w' := by
  have c1 := h.cell (j := 1) rfl
  have c5 := h.cell (j := 5) rfl
  have c6 := h.cell (j := 6) rfl
  have c7 := h.cell (j := 7) rfl
  have c8 := h.cell (j := 8) rfl
  have c9 := h.cell (j := 9) rfl
  have c10 := h.cell (j := 10) rfl
  have f5 := h.frozen 5
  have f6 := h.frozen 6
  have f7 := h.frozen 7
  have f8 := h.frozen 8
  have f9 := h.frozen 9
  have f10 := h.frozen 10
  simp only at c1 c5 c6 c7 c8 c9 c10
  have hlx := rgLo_range x
  have hhx := rgHi_range hx
  have hlh := rgLo_range hd
  have hhh := rgHi_range hu
  have HLo : Hid (∀ W, Calls Tryz.prog 63 #[.int .u64 x] W fun e w' => e = .returned (.int .u32 (rgLo x)) ∧ W = w') := Lib.hid (fun W => refLo_any x W hx.nn)
  have HHi : Hid (∀ W, Calls Tryz.prog 125 #[.int .u64 x] W fun e w' => e = .returned (.int .u32 (rgHi x)) ∧ W = w') := Lib.hid (fun W => refHi_any x W hx.nn hx)
  have HAh := Lib.hid (fun W => refAhead_any (rgLo x) (rgHi hd) W hlx.1 hlx.2 hhh.1 hhh.2)
  obtain ⟨W1, hW1⟩ : ∃ W1, ((w).setCell ⟨q, 7, none⟩ (.int .u32 (rgLo x))).setCell ⟨q, 5, none⟩ (.int .i64 5) = W1 := ⟨_, rfl⟩
  have k1 : Keeps [q] w W1 := by rw [← hW1]; exact ((Keeps.refl [q] w).set (by simp) _ _).set (by simp) _ _
  have r1 : Row W1 q 97 (rfCells ⟨at_, size, 1, task, target, 5, hd, (rgLo x), u, n, k, took, none⟩ tk false 0 0 (.slice none 0 0)) := by rw [← hW1]; exact ((h).set 7 _).set 5 _
  have HAt0a := Lib.hid (rfAt_any q _ _ _ _ _ _ w h hu)
  have HSa := Lib.hid (rfS_any q _ _ _ _ _ _ w h hu)
  have HAt0b := Lib.hid (rfAt_any q _ _ _ _ _ _ W1 r1 hu)
  have HSb := Lib.hid (rfS_any q _ _ _ _ _ _ W1 r1 hu)
  have d1 := r1.cell (j := 1) rfl
  have g1 := r1.frozen 1
  have d5 := r1.cell (j := 5) rfl
  have g5 := r1.frozen 5
  have d6 := r1.cell (j := 6) rfl
  have g6 := r1.frozen 6
  have d7 := r1.cell (j := 7) rfl
  have g7 := r1.frozen 7
  have d8 := r1.cell (j := 8) rfl
  have g8 := r1.frozen 8
  have d9 := r1.cell (j := 9) rfl
  have g9 := r1.frozen 9
  have d10 := r1.cell (j := 10) rfl
  have g10 := r1.frozen 10
  simp only at d1 d5 d6 d7 d8 d9 d10
  have HRow : Hid (Row (W1) q 97 (rfCells ⟨at_, size, 1, task, target, 5, hd, (rgLo x), u, n, k, took, none⟩ tk false 0 0 (.slice none 0 0))) := Lib.hid (r1)
  have HK : Hid (Keeps [q] w (W1)) := Lib.hid (k1)
  have HG : Hid (rgPushGive ⟨at_, size, 1, task, target, 2, hd, t, u, n, k, took, none⟩ x won = ⟨at_, size, 1, task, target, 5, hd, (rgLo x), u, n, k, took, some ⟨8, 0, []⟩⟩) := Lib.hid (by simp [rgPushGive, hA, hB])
  rw [HG.out]
  have dA : decide (M.aheadI (rgLo x) (rgHi hd) < size) = false := decide_eq_false (by omega)
  have dB : (rgHi hd == rgLo hd) = false := beq_eq_false_iff_ne.2 hB
  clear hB
  have HN := Lib.hid (rfEnd_any q _ tk _ _ _ _ 8 _ HRow.out)
  have HR1 := Lib.hid r1
  have HK1 := Lib.hid k1
  have HSd := Lib.hid (fun W (kk : Keeps [] W1 W) => rfS_any q _ _ _ _ _ _ W (r1.keeps kk (by simp)) hu)
  have HAd := Lib.hid (fun W (kk : Keeps [] W1 W) => rfAt_any q _ _ _ _ _ _ W (r1.keeps kk (by simp)) hu)
  clear h r1 k1
  go_enter Tryz.func93, Tryz.ntmps93
  go_wp2_with (first | (go_at_call 63; refine (HLo.out _).mono ?_; rintro e w9 ⟨rfl, rfl⟩) | (go_at_call 125; refine (HHi.out _).mono ?_; rintro e w9 ⟨rfl, rfl⟩) | fail)
  go_quiet (first | (go_at_call 64; exact qs (HAh.out _)) | (go_at_call 124; exact qs (HSd.out _ ((Keeps.refl [] _).drewN))) | (go_at_call 123; exact qs (HAd.out _ ((Keeps.refl [] _).drewN))))
  generalize hV : World.drewN _ _ = W2
  have kV : Keeps [] W1 W2 := by rw [← hV]; exact (Keeps.refl _ _).drewN
  clear hV
  have r2 := HR1.out.keeps kV (by simp)
  have e1 := r2.cell (j := 1) rfl
  have y1 := r2.frozen 1
  have e5 := r2.cell (j := 5) rfl
  have y5 := r2.frozen 5
  have e6 := r2.cell (j := 6) rfl
  have y6 := r2.frozen 6
  have e7 := r2.cell (j := 7) rfl
  have y7 := r2.frozen 7
  have e8 := r2.cell (j := 8) rfl
  have y8 := r2.frozen 8
  have e9 := r2.cell (j := 9) rfl
  have y9 := r2.frozen 9
  have e10 := r2.cell (j := 10) rfl
  have y10 := r2.frozen 10
  simp only at e1 e5 e6 e7 e8 e9 e10
  have HN := Lib.hid (fun W (kk : Keeps [] W1 W) => rfEnd_any q _ tk _ _ _ _ 8 _ (HR1.out.keeps kk (by simp)))
  have HR2 := Lib.hid r2
  have HK2 := Lib.hid (HK1.out.trans (kV.nil))
  clear r2
  go_wp2_with (first | (go_at_call 124; refine (HSd.out _ kV).mono ?_; rintro e w9 ⟨rfl, rfl⟩) | (go_at_call 123; refine (HAd.out _ kV).mono ?_; rintro e w9 ⟨rfl, rfl⟩) | fail)
  refine (HN.out W2 kV).mono ?_
  rintro e w2 ⟨rfl, r2, k2⟩
  have HQ := Lib.hid (⟨r2, k2⟩ : _ ∧ _)
  clear r2 k2
  go_wp2
  first | go_end0 | refine bodyPost_ret (results_none rfl _ _ _) rfl ?_
  exact ⟨rfl, _, _, _, _, HQ.out.1, HK2.out.trans HQ.out.2, fun h => (by cases h), fun r h _ => (by cases h; exact ⟨rfl, rfl, rfl, rfl⟩)⟩

set_option maxHeartbeats 6400000 in
theorem rfStealG2No (q : Nat) (at_ size task target hd t u n k x : Int) (took : List Int) (tk : Value) (won : Bool) (w : World) (h : Row w q 97 (rfCells ⟨at_, size, 3, task, target, 2, hd, t, u, n, k, took, none⟩ tk false 0 0 (.slice none 0 0))) (hu : M.U hd) (hx : M.U x) (wu : W32 u) (hs2 : 2 ≤ size ∧ size ≤ 256)(hA : size / 2 < M.aheadI u (rgHi x)) :
    Calls Tryz.prog 95 #[.pointer (some ⟨q, 0, none⟩), .int .u64 x, .bool won] w fun e w' => e = .returned (.tuple #[]) ∧ RfGoes q w (rgStealGive ⟨at_, size, 3, task, target, 2, hd, t, u, n, k, took, none⟩ x won) tk w' := by
  have c1 := h.cell (j := 1) rfl
  have c5 := h.cell (j := 5) rfl
  have c6 := h.cell (j := 6) rfl
  have c7 := h.cell (j := 7) rfl
  have c8 := h.cell (j := 8) rfl
  have c9 := h.cell (j := 9) rfl
  have c10 := h.cell (j := 10) rfl
  have f5 := h.frozen 5
  have f6 := h.frozen 6
  have f7 := h.frozen 7
  have f8 := h.frozen 8
  have f9 := h.frozen 9
  have f10 := h.frozen 10
  simp only at c1 c5 c6 c7 c8 c9 c10
  have hlx := rgLo_range x
  have hhx := rgHi_range hx
  have hlh := rgLo_range hd
  have hhh := rgHi_range hu
  have HLo : Hid (∀ W, Calls Tryz.prog 63 #[.int .u64 x] W fun e w' => e = .returned (.int .u32 (rgLo x)) ∧ W = w') := Lib.hid (fun W => refLo_any x W hx.nn)
  have HHi : Hid (∀ W, Calls Tryz.prog 125 #[.int .u64 x] W fun e w' => e = .returned (.int .u32 (rgHi x)) ∧ W = w') := Lib.hid (fun W => refHi_any x W hx.nn hx)
  have HAh := Lib.hid (fun W => refAhead_any u (rgHi x) W wu.1 wu.2 hhx.1 hhx.2)
  obtain ⟨W1, hW1⟩ : ∃ W1, (w).setCell ⟨q, 5, none⟩ (.int .i64 3) = W1 := ⟨_, rfl⟩
  have k1 : Keeps [q] w W1 := by rw [← hW1]; exact (Keeps.refl [q] w).set (by simp) _ _
  have r1 : Row W1 q 97 (rfCells ⟨at_, size, 3, task, target, 3, hd, t, u, n, k, took, none⟩ tk false 0 0 (.slice none 0 0)) := by rw [← hW1]; exact (h).set 5 _
  have HAt0a := Lib.hid (rfAt_any q _ _ _ _ _ _ w h hu)
  have HSa := Lib.hid (rfS_any q _ _ _ _ _ _ w h hu)
  have HAt0b := Lib.hid (rfAt_any q _ _ _ _ _ _ W1 r1 hu)
  have HSb := Lib.hid (rfS_any q _ _ _ _ _ _ W1 r1 hu)
  have d1 := r1.cell (j := 1) rfl
  have g1 := r1.frozen 1
  have d5 := r1.cell (j := 5) rfl
  have g5 := r1.frozen 5
  have d6 := r1.cell (j := 6) rfl
  have g6 := r1.frozen 6
  have d7 := r1.cell (j := 7) rfl
  have g7 := r1.frozen 7
  have d8 := r1.cell (j := 8) rfl
  have g8 := r1.frozen 8
  have d9 := r1.cell (j := 9) rfl
  have g9 := r1.frozen 9
  have d10 := r1.cell (j := 10) rfl
  have g10 := r1.frozen 10
  simp only at d1 d5 d6 d7 d8 d9 d10
  have HRow : Hid (Row (W1) q 97 (rfCells ⟨at_, size, 3, task, target, 3, hd, t, u, n, k, took, none⟩ tk false 0 0 (.slice none 0 0))) := Lib.hid (r1)
  have HK : Hid (Keeps [q] w (W1)) := Lib.hid (k1)
  have HG : Hid (rgStealGive ⟨at_, size, 3, task, target, 2, hd, t, u, n, k, took, none⟩ x won = ⟨at_, size, 3, task, target, 3, hd, t, u, n, k, took, some ⟨4, 0, []⟩⟩) := Lib.hid (by simp [rgStealGive, hA])
  rw [HG.out]
  have hhalf : wrap64 (size.tdiv 2) = size / 2 := by rw [Int.tdiv_eq_ediv_of_nonneg (by omega)]; unfold wrap64; omega
  have dA : decide (size / 2 < M.aheadI u (rgHi x)) = true := decide_eq_true (by omega)
  have HN := Lib.hid (rfEnd_any q _ tk _ _ _ _ 4 _ HRow.out)
  have HR1 := Lib.hid r1
  have HK1 := Lib.hid k1
  have HSd := Lib.hid (fun W (kk : Keeps [] W1 W) => rfS_any q _ _ _ _ _ _ W (r1.keeps kk (by simp)) hu)
  have HAd := Lib.hid (fun W (kk : Keeps [] W1 W) => rfAt_any q _ _ _ _ _ _ W (r1.keeps kk (by simp)) hu)
  clear h r1 k1
  go_enter Tryz.func95, Tryz.ntmps95
  go_wp2_with (first | (go_at_call 63; refine (HLo.out _).mono ?_; rintro e w9 ⟨rfl, rfl⟩) | (go_at_call 125; refine (HHi.out _).mono ?_; rintro e w9 ⟨rfl, rfl⟩) | fail)
  go_quiet (first | (go_at_call 64; exact qs (HAh.out _)) | (go_at_call 125; exact qs (HHi.out _)))
  generalize hV : World.drewN _ _ = W2
  have kV : Keeps [] W1 W2 := by rw [← hV]; exact (Keeps.refl _ _).drewN
  clear hV
  have r2 := HR1.out.keeps kV (by simp)
  have e1 := r2.cell (j := 1) rfl
  have y1 := r2.frozen 1
  have e5 := r2.cell (j := 5) rfl
  have y5 := r2.frozen 5
  have e6 := r2.cell (j := 6) rfl
  have y6 := r2.frozen 6
  have e7 := r2.cell (j := 7) rfl
  have y7 := r2.frozen 7
  have e8 := r2.cell (j := 8) rfl
  have y8 := r2.frozen 8
  have e9 := r2.cell (j := 9) rfl
  have y9 := r2.frozen 9
  have e10 := r2.cell (j := 10) rfl
  have y10 := r2.frozen 10
  simp only at e1 e5 e6 e7 e8 e9 e10
  have HN := Lib.hid (fun W (kk : Keeps [] W1 W) => rfEnd_any q _ tk _ _ _ _ 4 _ (HR1.out.keeps kk (by simp)))
  have HR2 := Lib.hid r2
  have HK2 := Lib.hid (HK1.out.trans (kV.nil))
  clear r2
  go_wp2_with fail
  refine (HN.out W2 kV).mono ?_
  rintro e w2 ⟨rfl, r2, k2⟩
  have HQ := Lib.hid (⟨r2, k2⟩ : _ ∧ _)
  clear r2 k2
  go_wp2
  first | go_end0 | refine bodyPost_ret (results_none rfl _ _ _) rfl ?_
  exact ⟨rfl, _, _, _, _, HQ.out.1, HK2.out.trans HQ.out.2, fun h => (by cases h), fun r h _ => (by cases h; exact ⟨rfl, rfl, rfl, rfl⟩)⟩

set_option maxHeartbeats 6400000 in
theorem rfStealG2 (q : Nat) (at_ size task target hd t u n k x : Int) (took : List Int) (tk : Value) (won : Bool) (w : World) (h : Row w q 97 (rfCells ⟨at_, size, 3, task, target, 2, hd, t, u, n, k, took, none⟩ tk false 0 0 (.slice none 0 0))) (hu : M.U hd) (hx : M.U x) (wu : W32 u) (hs2 : 2 ≤ size ∧ size ≤ 256)(hA : ¬ size / 2 < M.aheadI u (rgHi x)) :
    Calls Tryz.prog 95 #[.pointer (some ⟨q, 0, none⟩), .int .u64 x, .bool won] w fun e w' => e = .returned (.tuple #[]) ∧ RfGoes q w (rgStealGive ⟨at_, size, 3, task, target, 2, hd, t, u, n, k, took, none⟩ x won) tk w' := by
  have c1 := h.cell (j := 1) rfl
  have c5 := h.cell (j := 5) rfl
  have c6 := h.cell (j := 6) rfl
  have c7 := h.cell (j := 7) rfl
  have c8 := h.cell (j := 8) rfl
  have c9 := h.cell (j := 9) rfl
  have c10 := h.cell (j := 10) rfl
  have f5 := h.frozen 5
  have f6 := h.frozen 6
  have f7 := h.frozen 7
  have f8 := h.frozen 8
  have f9 := h.frozen 9
  have f10 := h.frozen 10
  simp only at c1 c5 c6 c7 c8 c9 c10
  have hlx := rgLo_range x
  have hhx := rgHi_range hx
  have hlh := rgLo_range hd
  have hhh := rgHi_range hu
  have HLo : Hid (∀ W, Calls Tryz.prog 63 #[.int .u64 x] W fun e w' => e = .returned (.int .u32 (rgLo x)) ∧ W = w') := Lib.hid (fun W => refLo_any x W hx.nn)
  have HHi : Hid (∀ W, Calls Tryz.prog 125 #[.int .u64 x] W fun e w' => e = .returned (.int .u32 (rgHi x)) ∧ W = w') := Lib.hid (fun W => refHi_any x W hx.nn hx)
  have HAh := Lib.hid (fun W => refAhead_any u (rgHi x) W wu.1 wu.2 hhx.1 hhx.2)
  obtain ⟨W1, hW1⟩ : ∃ W1, (w).setCell ⟨q, 5, none⟩ (.int .i64 3) = W1 := ⟨_, rfl⟩
  have k1 : Keeps [q] w W1 := by rw [← hW1]; exact (Keeps.refl [q] w).set (by simp) _ _
  have r1 : Row W1 q 97 (rfCells ⟨at_, size, 3, task, target, 3, hd, t, u, n, k, took, none⟩ tk false 0 0 (.slice none 0 0)) := by rw [← hW1]; exact (h).set 5 _
  have HAt0a := Lib.hid (rfAt_any q _ _ _ _ _ _ w h hu)
  have HSa := Lib.hid (rfS_any q _ _ _ _ _ _ w h hu)
  have HAt0b := Lib.hid (rfAt_any q _ _ _ _ _ _ W1 r1 hu)
  have HSb := Lib.hid (rfS_any q _ _ _ _ _ _ W1 r1 hu)
  have d1 := r1.cell (j := 1) rfl
  have g1 := r1.frozen 1
  have d5 := r1.cell (j := 5) rfl
  have g5 := r1.frozen 5
  have d6 := r1.cell (j := 6) rfl
  have g6 := r1.frozen 6
  have d7 := r1.cell (j := 7) rfl
  have g7 := r1.frozen 7
  have d8 := r1.cell (j := 8) rfl
  have g8 := r1.frozen 8
  have d9 := r1.cell (j := 9) rfl
  have g9 := r1.frozen 9
  have d10 := r1.cell (j := 10) rfl
  have g10 := r1.frozen 10
  simp only at d1 d5 d6 d7 d8 d9 d10
  have HRow : Hid (Row (W1) q 97 (rfCells ⟨at_, size, 3, task, target, 3, hd, t, u, n, k, took, none⟩ tk false 0 0 (.slice none 0 0))) := Lib.hid (r1)
  have HK : Hid (Keeps [q] w (W1)) := Lib.hid (k1)
  have HG : Hid (rgStealGive ⟨at_, size, 3, task, target, 2, hd, t, u, n, k, took, none⟩ x won = ⟨at_, size, 3, task, target, 3, hd, t, u, n, k, took, none⟩) := Lib.hid (by simp [rgStealGive, hA])
  rw [HG.out]
  have hhalf : wrap64 (size.tdiv 2) = size / 2 := by rw [Int.tdiv_eq_ediv_of_nonneg (by omega)]; unfold wrap64; omega
  have dA : decide (size / 2 < M.aheadI u (rgHi x)) = false := decide_eq_false (by omega)
  have HR1 := Lib.hid r1
  have HK1 := Lib.hid k1
  have HSd := Lib.hid (fun W (kk : Keeps [] W1 W) => rfS_any q _ _ _ _ _ _ W (r1.keeps kk (by simp)) hu)
  have HAd := Lib.hid (fun W (kk : Keeps [] W1 W) => rfAt_any q _ _ _ _ _ _ W (r1.keeps kk (by simp)) hu)
  clear h r1 k1
  go_enter Tryz.func95, Tryz.ntmps95
  go_wp2_with (first | (go_at_call 63; refine (HLo.out _).mono ?_; rintro e w9 ⟨rfl, rfl⟩) | (go_at_call 125; refine (HHi.out _).mono ?_; rintro e w9 ⟨rfl, rfl⟩) | fail)
  go_quiet (first | (go_at_call 64; exact qs (HAh.out _)) | (go_at_call 125; exact qs (HHi.out _)))
  generalize hV : World.drewN _ _ = W2
  have kV : Keeps [] W1 W2 := by rw [← hV]; exact (Keeps.refl _ _).drewN
  clear hV
  have r2 := HR1.out.keeps kV (by simp)
  have e1 := r2.cell (j := 1) rfl
  have y1 := r2.frozen 1
  have e5 := r2.cell (j := 5) rfl
  have y5 := r2.frozen 5
  have e6 := r2.cell (j := 6) rfl
  have y6 := r2.frozen 6
  have e7 := r2.cell (j := 7) rfl
  have y7 := r2.frozen 7
  have e8 := r2.cell (j := 8) rfl
  have y8 := r2.frozen 8
  have e9 := r2.cell (j := 9) rfl
  have y9 := r2.frozen 9
  have e10 := r2.cell (j := 10) rfl
  have y10 := r2.frozen 10
  simp only at e1 e5 e6 e7 e8 e9 e10
  have HR2 := Lib.hid r2
  have HK2 := Lib.hid (HK1.out.trans (kV.nil))
  clear r2
  go_wp2_with fail
  first | go_end0 | refine bodyPost_ret (results_none rfl _ _ _) rfl ?_
  exact ⟨rfl, _, _, _, _, HR2.out, HK2.out, fun _ => ⟨rfl, rfl, rfl, rfl⟩, fun r h => by cases h⟩
end Go.Proofs.YtekpfhlaohcgeaaGreat
