import Derived.Test.YtjfgpplnlepnoaaGreatRef8
/-
  Contracts: what a document's frame of a ring is told (written by wip/tools/rfgive.py).
-/
namespace Go.Proofs.YtjfgpplnlepnoaaGreat
set_option maxRecDepth 100000
set_option linter.unusedSimpArgs false
set_option linter.unusedVariables false
open Go.ChangeShapes Go.WideShapes Go.ChangeAt Go.RowKit

set_option maxHeartbeats 6400000 in
theorem rfPushG1 (q : Nat) (at_ size task target hd t u n k x : Int) (took : List Int) (tk : Value) (won : Bool) (w : World) (h : Row w q 155 (rfCells ⟨at_, size, 1, task, target, 1, hd, t, u, n, k, took, none⟩ tk false 0 0 (.slice none 0 0))) (hu : M.U hd) (hx : M.U x) (wu : W32 u)  :
    Calls Tryz.prog 156 #[.pointer (some ⟨q, 0, none⟩), .int .u64 x, .bool won] w fun e w' => e = .returned (.tuple #[]) ∧ RfGoes q w (rgPushGive ⟨at_, size, 1, task, target, 1, hd, t, u, n, k, took, none⟩ x won) tk w' := by
  have c1 := h.cell (j := 1) rfl
  have c5 := h.cell (j := 5) rfl
  have c6 := h.cell (j := 6) rfl
  have c7 := h.cell (j := 7) rfl
  have c8 := h.cell (j := 8) rfl
  have c9 := h.cell (j := 9) rfl
  have c10 := h.cell (j := 10) rfl
  have f5 := h.frozen 5
  have f6 := h.frozen 6
  have f7 := h.frozen 7
  have f8 := h.frozen 8
  have f9 := h.frozen 9
  have f10 := h.frozen 10
  simp only at c1 c5 c6 c7 c8 c9 c10
  have hlx := rgLo_range x
  have hhx := rgHi_range hx
  have hlh := rgLo_range hd
  have hhh := rgHi_range hu
  have HLo : Hid (∀ W, Calls Tryz.prog 117 #[.int .u64 x] W fun e w' => e = .returned (.int .u32 (rgLo x)) ∧ W = w') := Lib.hid (fun W => refLo_any x W hx.nn)
  have HHi : Hid (∀ W, Calls Tryz.prog 165 #[.int .u64 x] W fun e w' => e = .returned (.int .u32 (rgHi x)) ∧ W = w') := Lib.hid (fun W => refHi_any x W hx.nn hx)
  obtain ⟨W1, hW1⟩ : ∃ W1, ((w).setCell ⟨q, 6, none⟩ (.int .u64 x)).setCell ⟨q, 5, none⟩ (.int .i64 2) = W1 := ⟨_, rfl⟩
  have k1 : Keeps [q] w W1 := by rw [← hW1]; exact ((Keeps.refl [q] w).set (by simp) _ _).set (by simp) _ _
  have r1 : Row W1 q 155 (rfCells ⟨at_, size, 1, task, target, 2, x, t, u, n, k, took, none⟩ tk false 0 0 (.slice none 0 0)) := by rw [← hW1]; exact ((h).set 6 _).set 5 _
  have HAt0a := Lib.hid (rfAt_any q _ _ _ _ _ _ w h hu)
  have HSa := Lib.hid (rfS_any q _ _ _ _ _ _ w h hu)
  have d1 := r1.cell (j := 1) rfl
  have g1 := r1.frozen 1
  have d5 := r1.cell (j := 5) rfl
  have g5 := r1.frozen 5
  have d6 := r1.cell (j := 6) rfl
  have g6 := r1.frozen 6
  have d7 := r1.cell (j := 7) rfl
  have g7 := r1.frozen 7
  have d8 := r1.cell (j := 8) rfl
  have g8 := r1.frozen 8
  have d9 := r1.cell (j := 9) rfl
  have g9 := r1.frozen 9
  have d10 := r1.cell (j := 10) rfl
  have g10 := r1.frozen 10
  simp only at d1 d5 d6 d7 d8 d9 d10
  have HRow : Hid (Row (W1) q 155 (rfCells ⟨at_, size, 1, task, target, 2, x, t, u, n, k, took, none⟩ tk false 0 0 (.slice none 0 0))) := Lib.hid (r1)
  have HK : Hid (Keeps [q] w (W1)) := Lib.hid (k1)
  have HG : Hid (rgPushGive ⟨at_, size, 1, task, target, 1, hd, t, u, n, k, took, none⟩ x won = ⟨at_, size, 1, task, target, 2, x, t, u, n, k, took, none⟩) := Lib.hid (by simp [rgPushGive])
  rw [HG.out]
  clear h r1 k1
  go_enter Tryz.func156, Tryz.ntmps156
  go_wp2_with fail
  first | go_end0 | refine bodyPost_ret (results_none rfl _ _ _) rfl ?_
  exact ⟨rfl, _, _, _, _, HRow.out, HK.out, fun _ => ⟨rfl, rfl, rfl, rfl⟩, fun r h => by cases h⟩

set_option maxHeartbeats 6400000 in
theorem rfPushG3 (q : Nat) (at_ size task target hd t u n k x : Int) (took : List Int) (tk : Value) (won : Bool) (w : World) (h : Row w q 155 (rfCells ⟨at_, size, 1, task, target, 3, hd, t, u, n, k, took, none⟩ tk false 0 0 (.slice none 0 0))) (hu : M.U hd) (hx : M.U x) (wu : W32 u)  :
    Calls Tryz.prog 156 #[.pointer (some ⟨q, 0, none⟩), .int .u64 x, .bool won] w fun e w' => e = .returned (.tuple #[]) ∧ RfGoes q w (rgPushGive ⟨at_, size, 1, task, target, 3, hd, t, u, n, k, took, none⟩ x won) tk w' := by
  have c1 := h.cell (j := 1) rfl
  have c5 := h.cell (j := 5) rfl
  have c6 := h.cell (j := 6) rfl
  have c7 := h.cell (j := 7) rfl
  have c8 := h.cell (j := 8) rfl
  have c9 := h.cell (j := 9) rfl
  have c10 := h.cell (j := 10) rfl
  have f5 := h.frozen 5
  have f6 := h.frozen 6
  have f7 := h.frozen 7
  have f8 := h.frozen 8
  have f9 := h.frozen 9
  have f10 := h.frozen 10
  simp only at c1 c5 c6 c7 c8 c9 c10
  have hlx := rgLo_range x
  have hhx := rgHi_range hx
  have hlh := rgLo_range hd
  have hhh := rgHi_range hu
  have HLo : Hid (∀ W, Calls Tryz.prog 117 #[.int .u64 x] W fun e w' => e = .returned (.int .u32 (rgLo x)) ∧ W = w') := Lib.hid (fun W => refLo_any x W hx.nn)
  have HHi : Hid (∀ W, Calls Tryz.prog 165 #[.int .u64 x] W fun e w' => e = .returned (.int .u32 (rgHi x)) ∧ W = w') := Lib.hid (fun W => refHi_any x W hx.nn hx)
  obtain ⟨W1, hW1⟩ : ∃ W1, (w).setCell ⟨q, 5, none⟩ (.int .i64 4) = W1 := ⟨_, rfl⟩
  have k1 : Keeps [q] w W1 := by rw [← hW1]; exact (Keeps.refl [q] w).set (by simp) _ _
  have r1 : Row W1 q 155 (rfCells ⟨at_, size, 1, task, target, 4, hd, t, u, n, k, took, none⟩ tk false 0 0 (.slice none 0 0)) := by rw [← hW1]; exact (h).set 5 _
  have HAt0a := Lib.hid (rfAt_any q _ _ _ _ _ _ w h hu)
  have HSa := Lib.hid (rfS_any q _ _ _ _ _ _ w h hu)
  have HAt0b := Lib.hid (rfAt_any q _ _ _ _ _ _ W1 r1 hu)
  have HSb := Lib.hid (rfS_any q _ _ _ _ _ _ W1 r1 hu)
  have d1 := r1.cell (j := 1) rfl
  have g1 := r1.frozen 1
  have d5 := r1.cell (j := 5) rfl
  have g5 := r1.frozen 5
  have d6 := r1.cell (j := 6) rfl
  have g6 := r1.frozen 6
  have d7 := r1.cell (j := 7) rfl
  have g7 := r1.frozen 7
  have d8 := r1.cell (j := 8) rfl
  have g8 := r1.frozen 8
  have d9 := r1.cell (j := 9) rfl
  have g9 := r1.frozen 9
  have d10 := r1.cell (j := 10) rfl
  have g10 := r1.frozen 10
  simp only at d1 d5 d6 d7 d8 d9 d10
  have HRow : Hid (Row (W1) q 155 (rfCells ⟨at_, size, 1, task, target, 4, hd, t, u, n, k, took, none⟩ tk false 0 0 (.slice none 0 0))) := Lib.hid (r1)
  have HK : Hid (Keeps [q] w (W1)) := Lib.hid (k1)
  have HG : Hid (rgPushGive ⟨at_, size, 1, task, target, 3, hd, t, u, n, k, took, none⟩ x won = ⟨at_, size, 1, task, target, 4, hd, t, u, n, k, took, none⟩) := Lib.hid (by simp [rgPushGive])
  rw [HG.out]
  clear h r1 k1
  go_enter Tryz.func156, Tryz.ntmps156
  go_wp2_with fail
  first | go_end0 | refine bodyPost_ret (results_none rfl _ _ _) rfl ?_
  exact ⟨rfl, _, _, _, _, HRow.out, HK.out, fun _ => ⟨rfl, rfl, rfl, rfl⟩, fun r h => by cases h⟩

set_option maxHeartbeats 6400000 in
theorem rfPushG4 (q : Nat) (at_ size task target hd t u n k x : Int) (took : List Int) (tk : Value) (won : Bool) (w : World) (h : Row w q 155 (rfCells ⟨at_, size, 1, task, target, 4, hd, t, u, n, k, took, none⟩ tk false 0 0 (.slice none 0 0))) (hu : M.U hd) (hx : M.U x) (wu : W32 u)  :
    Calls Tryz.prog 156 #[.pointer (some ⟨q, 0, none⟩), .int .u64 x, .bool won] w fun e w' => e = .returned (.tuple #[]) ∧ RfGoes q w (rgPushGive ⟨at_, size, 1, task, target, 4, hd, t, u, n, k, took, none⟩ x won) tk w' := by
  have c1 := h.cell (j := 1) rfl
  have c5 := h.cell (j := 5) rfl
  have c6 := h.cell (j := 6) rfl
  have c7 := h.cell (j := 7) rfl
  have c8 := h.cell (j := 8) rfl
  have c9 := h.cell (j := 9) rfl
  have c10 := h.cell (j := 10) rfl
  have f5 := h.frozen 5
  have f6 := h.frozen 6
  have f7 := h.frozen 7
  have f8 := h.frozen 8
  have f9 := h.frozen 9
  have f10 := h.frozen 10
  simp only at c1 c5 c6 c7 c8 c9 c10
  have hlx := rgLo_range x
  have hhx := rgHi_range hx
  have hlh := rgLo_range hd
  have hhh := rgHi_range hu
  have HLo : Hid (∀ W, Calls Tryz.prog 117 #[.int .u64 x] W fun e w' => e = .returned (.int .u32 (rgLo x)) ∧ W = w') := Lib.hid (fun W => refLo_any x W hx.nn)
  have HHi : Hid (∀ W, Calls Tryz.prog 165 #[.int .u64 x] W fun e w' => e = .returned (.int .u32 (rgHi x)) ∧ W = w') := Lib.hid (fun W => refHi_any x W hx.nn hx)
  obtain ⟨W1, hW1⟩ : ∃ W1, w = W1 := ⟨_, rfl⟩
  have k1 : Keeps [q] w W1 := by rw [← hW1]; exact Keeps.refl [q] w
  have r1 : Row W1 q 155 (rfCells ⟨at_, size, 1, task, target, 4, hd, t, u, n, k, took, none⟩ tk false 0 0 (.slice none 0 0)) := by rw [← hW1]; exact h
  have HAt0a := Lib.hid (rfAt_any q _ _ _ _ _ _ w h hu)
  have HSa := Lib.hid (rfS_any q _ _ _ _ _ _ w h hu)
  have HAt0b := Lib.hid (rfAt_any q _ _ _ _ _ _ W1 r1 hu)
  have HSb := Lib.hid (rfS_any q _ _ _ _ _ _ W1 r1 hu)
  have d1 := r1.cell (j := 1) rfl
  have g1 := r1.frozen 1
  have d5 := r1.cell (j := 5) rfl
  have g5 := r1.frozen 5
  have d6 := r1.cell (j := 6) rfl
  have g6 := r1.frozen 6
  have d7 := r1.cell (j := 7) rfl
  have g7 := r1.frozen 7
  have d8 := r1.cell (j := 8) rfl
  have g8 := r1.frozen 8
  have d9 := r1.cell (j := 9) rfl
  have g9 := r1.frozen 9
  have d10 := r1.cell (j := 10) rfl
  have g10 := r1.frozen 10
  simp only at d1 d5 d6 d7 d8 d9 d10
  have HRow : Hid (Row (W1) q 155 (rfCells ⟨at_, size, 1, task, target, 4, hd, t, u, n, k, took, none⟩ tk false 0 0 (.slice none 0 0))) := Lib.hid (r1)
  have HK : Hid (Keeps [q] w (W1)) := Lib.hid (k1)
  have HG : Hid (rgPushGive ⟨at_, size, 1, task, target, 4, hd, t, u, n, k, took, none⟩ x won = ⟨at_, size, 1, task, target, 4, hd, t, u, n, k, took, some ⟨0, 0, []⟩⟩) := Lib.hid (by simp [rgPushGive])
  rw [HG.out]
  have HN := Lib.hid (rfEnd_any q _ tk _ _ _ _ 0 _ HRow.out)
  clear h r1 k1
  go_enter Tryz.func156, Tryz.ntmps156
  go_wp2_with fail
  refine HN.out.mono ?_
  rintro e w2 ⟨rfl, r2, k2⟩
  have HQ := Lib.hid (⟨r2, k2⟩ : _ ∧ _)
  clear r2 k2
  go_wp2
  first | go_end0 | refine bodyPost_ret (results_none rfl _ _ _) rfl ?_
  exact ⟨rfl, _, _, _, _, HQ.out.1, HK.out.trans HQ.out.2, fun h => (by cases h), fun r h _ => (by cases h; exact ⟨rfl, rfl, rfl, rfl⟩)⟩

set_option maxHeartbeats 6400000 in
theorem rfPushG5Won (q : Nat) (at_ size task target hd t u n k x : Int) (took : List Int) (tk : Value) (w : World) (h : Row w q 155 (rfCells ⟨at_, size, 1, task, target, 5, hd, t, u, n, k, took, none⟩ tk false 0 0 (.slice none 0 0))) (hu : M.U hd) (hx : M.U x) (wu : W32 u)  :
    Calls Tryz.prog 156 #[.pointer (some ⟨q, 0, none⟩), .int .u64 x, .bool true] w fun e w' => e = .returned (.tuple #[]) ∧ RfGoes q w (rgPushGive ⟨at_, size, 1, task, target, 5, hd, t, u, n, k, took, none⟩ x true) tk w' := by
  have c1 := h.cell (j := 1) rfl
  have c5 := h.cell (j := 5) rfl
  have c6 := h.cell (j := 6) rfl
  have c7 := h.cell (j := 7) rfl
  have c8 := h.cell (j := 8) rfl
  have c9 := h.cell (j := 9) rfl
  have c10 := h.cell (j := 10) rfl
  have f5 := h.frozen 5
  have f6 := h.frozen 6
  have f7 := h.frozen 7
  have f8 := h.frozen 8
  have f9 := h.frozen 9
  have f10 := h.frozen 10
  simp only at c1 c5 c6 c7 c8 c9 c10
  have hlx := rgLo_range x
  have hhx := rgHi_range hx
  have hlh := rgLo_range hd
  have hhh := rgHi_range hu
  have HLo : Hid (∀ W, Calls Tryz.prog 117 #[.int .u64 x] W fun e w' => e = .returned (.int .u32 (rgLo x)) ∧ W = w') := Lib.hid (fun W => refLo_any x W hx.nn)
  have HHi : Hid (∀ W, Calls Tryz.prog 165 #[.int .u64 x] W fun e w' => e = .returned (.int .u32 (rgHi x)) ∧ W = w') := Lib.hid (fun W => refHi_any x W hx.nn hx)
  obtain ⟨W1, hW1⟩ : ∃ W1, (w).setCell ⟨q, 5, none⟩ (.int .i64 6) = W1 := ⟨_, rfl⟩
  have k1 : Keeps [q] w W1 := by rw [← hW1]; exact (Keeps.refl [q] w).set (by simp) _ _
  have r1 : Row W1 q 155 (rfCells ⟨at_, size, 1, task, target, 6, hd, t, u, n, k, took, none⟩ tk false 0 0 (.slice none 0 0)) := by rw [← hW1]; exact (h).set 5 _
  have HAt0a := Lib.hid (rfAt_any q _ _ _ _ _ _ w h hu)
  have HSa := Lib.hid (rfS_any q _ _ _ _ _ _ w h hu)
  have HAt0b := Lib.hid (rfAt_any q _ _ _ _ _ _ W1 r1 hu)
  have HSb := Lib.hid (rfS_any q _ _ _ _ _ _ W1 r1 hu)
  have d1 := r1.cell (j := 1) rfl
  have g1 := r1.frozen 1
  have d5 := r1.cell (j := 5) rfl
  have g5 := r1.frozen 5
  have d6 := r1.cell (j := 6) rfl
  have g6 := r1.frozen 6
  have d7 := r1.cell (j := 7) rfl
  have g7 := r1.frozen 7
  have d8 := r1.cell (j := 8) rfl
  have g8 := r1.frozen 8
  have d9 := r1.cell (j := 9) rfl
  have g9 := r1.frozen 9
  have d10 := r1.cell (j := 10) rfl
  have g10 := r1.frozen 10
  simp only at d1 d5 d6 d7 d8 d9 d10
  have HRow : Hid (Row (W1) q 155 (rfCells ⟨at_, size, 1, task, target, 6, hd, t, u, n, k, took, none⟩ tk false 0 0 (.slice none 0 0))) := Lib.hid (r1)
  have HK : Hid (Keeps [q] w (W1)) := Lib.hid (k1)
  have HG : Hid (rgPushGive ⟨at_, size, 1, task, target, 5, hd, t, u, n, k, took, none⟩ x true = ⟨at_, size, 1, task, target, 6, hd, t, u, n, k, took, none⟩) := Lib.hid (by simp [rgPushGive])
  rw [HG.out]
  clear h r1 k1
  go_enter Tryz.func156, Tryz.ntmps156
  go_wp2_with fail
  first | go_end0 | refine bodyPost_ret (results_none rfl _ _ _) rfl ?_
  exact ⟨rfl, _, _, _, _, HRow.out, HK.out, fun _ => ⟨rfl, rfl, rfl, rfl⟩, fun r h => by cases h⟩

set_option maxHeartbeats 6400000 in
theorem rfPushG5Lost (q : Nat) (at_ size task target hd t u n k x : Int) (took : List Int) (tk : Value) (w : World) (h : Row w q 155 (rfCells ⟨at_, size, 1, task, target, 5, hd, t, u, n, k, took, none⟩ tk false 0 0 (.slice none 0 0))) (hu : M.U hd) (hx : M.U x) (wu : W32 u)  :
    Calls Tryz.prog 156 #[.pointer (some ⟨q, 0, none⟩), .int .u64 x, .bool false] w fun e w' => e = .returned (.tuple #[]) ∧ RfGoes q w (rgPushGive ⟨at_, size, 1, task, target, 5, hd, t, u, n, k, took, none⟩ x false) tk w' := by
  have c1 := h.cell (j := 1) rfl
  have c5 := h.cell (j := 5) rfl
  have c6 := h.cell (j := 6) rfl
  have c7 := h.cell (j := 7) rfl
  have c8 := h.cell (j := 8) rfl
  have c9 := h.cell (j := 9) rfl
  have c10 := h.cell (j := 10) rfl
  have f5 := h.frozen 5
  have f6 := h.frozen 6
  have f7 := h.frozen 7
  have f8 := h.frozen 8
  have f9 := h.frozen 9
  have f10 := h.frozen 10
  simp only at c1 c5 c6 c7 c8 c9 c10
  have hlx := rgLo_range x
  have hhx := rgHi_range hx
  have hlh := rgLo_range hd
  have hhh := rgHi_range hu
  have HLo : Hid (∀ W, Calls Tryz.prog 117 #[.int .u64 x] W fun e w' => e = .returned (.int .u32 (rgLo x)) ∧ W = w') := Lib.hid (fun W => refLo_any x W hx.nn)
  have HHi : Hid (∀ W, Calls Tryz.prog 165 #[.int .u64 x] W fun e w' => e = .returned (.int .u32 (rgHi x)) ∧ W = w') := Lib.hid (fun W => refHi_any x W hx.nn hx)
  obtain ⟨W1, hW1⟩ : ∃ W1, (((w).setCell ⟨q, 5, none⟩ (.int .i64 6)).setCell ⟨q, 6, none⟩ (.int .u64 x)).setCell ⟨q, 5, none⟩ (.int .i64 2) = W1 := ⟨_, rfl⟩
  have k1 : Keeps [q] w W1 := by rw [← hW1]; exact (((Keeps.refl [q] w).set (by simp) _ _).set (by simp) _ _).set (by simp) _ _
  have r1 : Row W1 q 155 (rfCells ⟨at_, size, 1, task, target, 2, x, t, u, n, k, took, none⟩ tk false 0 0 (.slice none 0 0)) := by rw [← hW1]; exact (((h).set 5 _).set 6 _).set 5 _
  have HAt0a := Lib.hid (rfAt_any q _ _ _ _ _ _ w h hu)
  have HSa := Lib.hid (rfS_any q _ _ _ _ _ _ w h hu)
  have d1 := r1.cell (j := 1) rfl
  have g1 := r1.frozen 1
  have d5 := r1.cell (j := 5) rfl
  have g5 := r1.frozen 5
  have d6 := r1.cell (j := 6) rfl
  have g6 := r1.frozen 6
  have d7 := r1.cell (j := 7) rfl
  have g7 := r1.frozen 7
  have d8 := r1.cell (j := 8) rfl
  have g8 := r1.frozen 8
  have d9 := r1.cell (j := 9) rfl
  have g9 := r1.frozen 9
  have d10 := r1.cell (j := 10) rfl
  have g10 := r1.frozen 10
  simp only at d1 d5 d6 d7 d8 d9 d10
  have HRow : Hid (Row (W1) q 155 (rfCells ⟨at_, size, 1, task, target, 2, x, t, u, n, k, took, none⟩ tk false 0 0 (.slice none 0 0))) := Lib.hid (r1)
  have HK : Hid (Keeps [q] w (W1)) := Lib.hid (k1)
  have HG : Hid (rgPushGive ⟨at_, size, 1, task, target, 5, hd, t, u, n, k, took, none⟩ x false = ⟨at_, size, 1, task, target, 2, x, t, u, n, k, took, none⟩) := Lib.hid (by simp [rgPushGive])
  rw [HG.out]
  clear h r1 k1
  go_enter Tryz.func156, Tryz.ntmps156
  go_wp2_with fail
  first | go_end0 | refine bodyPost_ret (results_none rfl _ _ _) rfl ?_
  exact ⟨rfl, _, _, _, _, HRow.out, HK.out, fun _ => ⟨rfl, rfl, rfl, rfl⟩, fun r h => by cases h⟩
end Go.Proofs.YtjfgpplnlepnoaaGreat

/-
  Contracts: what a document's frame of a ring is told (written by wip/tools/rfgive.py).
-/
namespace Go.Proofs.YtjfgpplnlepnoaaGreat
set_option maxRecDepth 100000
set_option linter.unusedSimpArgs false
set_option linter.unusedVariables false
open Go.ChangeShapes Go.WideShapes Go.ChangeAt Go.RowKit

set_option maxHeartbeats 6400000 in
theorem rfStealG1 (q : Nat) (at_ size task target hd t u n k x : Int) (took : List Int) (tk : Value) (won : Bool) (w : World) (h : Row w q 155 (rfCells ⟨at_, size, 3, task, target, 1, hd, t, u, n, k, took, none⟩ tk false 0 0 (.slice none 0 0))) (hu : M.U hd) (hx : M.U x) (wu : W32 u)  :
    Calls Tryz.prog 158 #[.pointer (some ⟨q, 0, none⟩), .int .u64 x, .bool won] w fun e w' => e = .returned (.tuple #[]) ∧ RfGoes q w (rgStealGive ⟨at_, size, 3, task, target, 1, hd, t, u, n, k, took, none⟩ x won) tk w' := by
  have c1 := h.cell (j := 1) rfl
  have c5 := h.cell (j := 5) rfl
  have c6 := h.cell (j := 6) rfl
  have c7 := h.cell (j := 7) rfl
  have c8 := h.cell (j := 8) rfl
  have c9 := h.cell (j := 9) rfl
  have c10 := h.cell (j := 10) rfl
  have f5 := h.frozen 5
  have f6 := h.frozen 6
  have f7 := h.frozen 7
  have f8 := h.frozen 8
  have f9 := h.frozen 9
  have f10 := h.frozen 10
  simp only at c1 c5 c6 c7 c8 c9 c10
  have hlx := rgLo_range x
  have hhx := rgHi_range hx
  have hlh := rgLo_range hd
  have hhh := rgHi_range hu
  have HLo : Hid (∀ W, Calls Tryz.prog 117 #[.int .u64 x] W fun e w' => e = .returned (.int .u32 (rgLo x)) ∧ W = w') := Lib.hid (fun W => refLo_any x W hx.nn)
  have HHi : Hid (∀ W, Calls Tryz.prog 165 #[.int .u64 x] W fun e w' => e = .returned (.int .u32 (rgHi x)) ∧ W = w') := Lib.hid (fun W => refHi_any x W hx.nn hx)
  obtain ⟨W1, hW1⟩ : ∃ W1, ((w).setCell ⟨q, 8, none⟩ (.int .u32 (rgLo x))).setCell ⟨q, 5, none⟩ (.int .i64 2) = W1 := ⟨_, rfl⟩
  have k1 : Keeps [q] w W1 := by rw [← hW1]; exact ((Keeps.refl [q] w).set (by simp) _ _).set (by simp) _ _
  have r1 : Row W1 q 155 (rfCells ⟨at_, size, 3, task, target, 2, hd, t, (rgLo x), n, k, took, none⟩ tk false 0 0 (.slice none 0 0)) := by rw [← hW1]; exact ((h).set 8 _).set 5 _
  have HAt0a := Lib.hid (rfAt_any q _ _ _ _ _ _ w h hu)
  have HSa := Lib.hid (rfS_any q _ _ _ _ _ _ w h hu)
  have HAt0b := Lib.hid (rfAt_any q _ _ _ _ _ _ W1 r1 hu)
  have HSb := Lib.hid (rfS_any q _ _ _ _ _ _ W1 r1 hu)
  have d1 := r1.cell (j := 1) rfl
  have g1 := r1.frozen 1
  have d5 := r1.cell (j := 5) rfl
  have g5 := r1.frozen 5
  have d6 := r1.cell (j := 6) rfl
  have g6 := r1.frozen 6
  have d7 := r1.cell (j := 7) rfl
  have g7 := r1.frozen 7
  have d8 := r1.cell (j := 8) rfl
  have g8 := r1.frozen 8
  have d9 := r1.cell (j := 9) rfl
  have g9 := r1.frozen 9
  have d10 := r1.cell (j := 10) rfl
  have g10 := r1.frozen 10
  simp only at d1 d5 d6 d7 d8 d9 d10
  have HRow : Hid (Row (W1) q 155 (rfCells ⟨at_, size, 3, task, target, 2, hd, t, (rgLo x), n, k, took, none⟩ tk false 0 0 (.slice none 0 0))) := Lib.hid (r1)
  have HK : Hid (Keeps [q] w (W1)) := Lib.hid (k1)
  have HG : Hid (rgStealGive ⟨at_, size, 3, task, target, 1, hd, t, u, n, k, took, none⟩ x won = ⟨at_, size, 3, task, target, 2, hd, t, (rgLo x), n, k, took, none⟩) := Lib.hid (by simp [rgStealGive])
  rw [HG.out]
  clear h r1 k1
  go_enter Tryz.func158, Tryz.ntmps158
  go_wp2_with (first | (go_at_call 117; refine (HLo.out _).mono ?_; rintro e w9 ⟨rfl, rfl⟩) | fail)
  first | go_end0 | refine bodyPost_ret (results_none rfl _ _ _) rfl ?_
  exact ⟨rfl, _, _, _, _, HRow.out, HK.out, fun _ => ⟨rfl, rfl, rfl, rfl⟩, fun r h => by cases h⟩

set_option maxHeartbeats 6400000 in
theorem rfStealG3 (q : Nat) (at_ size task target hd t u n k x : Int) (took : List Int) (tk : Value) (won : Bool) (w : World) (h : Row w q 155 (rfCells ⟨at_, size, 3, task, target, 3, hd, t, u, n, k, took, none⟩ tk false 0 0 (.slice none 0 0))) (hu : M.U hd) (hx : M.U x) (wu : W32 u)  :
    Calls Tryz.prog 158 #[.pointer (some ⟨q, 0, none⟩), .int .u64 x, .bool won] w fun e w' => e = .returned (.tuple #[]) ∧ RfGoes q w (rgStealGive ⟨at_, size, 3, task, target, 3, hd, t, u, n, k, took, none⟩ x won) tk w' := by
  have c1 := h.cell (j := 1) rfl
  have c5 := h.cell (j := 5) rfl
  have c6 := h.cell (j := 6) rfl
  have c7 := h.cell (j := 7) rfl
  have c8 := h.cell (j := 8) rfl
  have c9 := h.cell (j := 9) rfl
  have c10 := h.cell (j := 10) rfl
  have f5 := h.frozen 5
  have f6 := h.frozen 6
  have f7 := h.frozen 7
  have f8 := h.frozen 8
  have f9 := h.frozen 9
  have f10 := h.frozen 10
  simp only at c1 c5 c6 c7 c8 c9 c10
  have hlx := rgLo_range x
  have hhx := rgHi_range hx
  have hlh := rgLo_range hd
  have hhh := rgHi_range hu
  have HLo : Hid (∀ W, Calls Tryz.prog 117 #[.int .u64 x] W fun e w' => e = .returned (.int .u32 (rgLo x)) ∧ W = w') := Lib.hid (fun W => refLo_any x W hx.nn)
  have HHi : Hid (∀ W, Calls Tryz.prog 165 #[.int .u64 x] W fun e w' => e = .returned (.int .u32 (rgHi x)) ∧ W = w') := Lib.hid (fun W => refHi_any x W hx.nn hx)
  obtain ⟨W1, hW1⟩ : ∃ W1, ((w).setCell ⟨q, 6, none⟩ (.int .u64 x)).setCell ⟨q, 5, none⟩ (.int .i64 4) = W1 := ⟨_, rfl⟩
  have k1 : Keeps [q] w W1 := by rw [← hW1]; exact ((Keeps.refl [q] w).set (by simp) _ _).set (by simp) _ _
  have r1 : Row W1 q 155 (rfCells ⟨at_, size, 3, task, target, 4, x, t, u, n, k, took, none⟩ tk false 0 0 (.slice none 0 0)) := by rw [← hW1]; exact ((h).set 6 _).set 5 _
  have HAt0a := Lib.hid (rfAt_any q _ _ _ _ _ _ w h hu)
  have HSa := Lib.hid (rfS_any q _ _ _ _ _ _ w h hu)
  have d1 := r1.cell (j := 1) rfl
  have g1 := r1.frozen 1
  have d5 := r1.cell (j := 5) rfl
  have g5 := r1.frozen 5
  have d6 := r1.cell (j := 6) rfl
  have g6 := r1.frozen 6
  have d7 := r1.cell (j := 7) rfl
  have g7 := r1.frozen 7
  have d8 := r1.cell (j := 8) rfl
  have g8 := r1.frozen 8
  have d9 := r1.cell (j := 9) rfl
  have g9 := r1.frozen 9
  have d10 := r1.cell (j := 10) rfl
  have g10 := r1.frozen 10
  simp only at d1 d5 d6 d7 d8 d9 d10
  have HRow : Hid (Row (W1) q 155 (rfCells ⟨at_, size, 3, task, target, 4, x, t, u, n, k, took, none⟩ tk false 0 0 (.slice none 0 0))) := Lib.hid (r1)
  have HK : Hid (Keeps [q] w (W1)) := Lib.hid (k1)
  have HG : Hid (rgStealGive ⟨at_, size, 3, task, target, 3, hd, t, u, n, k, took, none⟩ x won = ⟨at_, size, 3, task, target, 4, x, t, u, n, k, took, none⟩) := Lib.hid (by simp [rgStealGive])
  rw [HG.out]
  clear h r1 k1
  go_enter Tryz.func158, Tryz.ntmps158
  go_wp2_with fail
  first | go_end0 | refine bodyPost_ret (results_none rfl _ _ _) rfl ?_
  exact ⟨rfl, _, _, _, _, HRow.out, HK.out, fun _ => ⟨rfl, rfl, rfl, rfl⟩, fun r h => by cases h⟩

set_option maxHeartbeats 6400000 in
theorem rfStealG4Busy (q : Nat) (at_ size task target hd t u n k x : Int) (took : List Int) (tk : Value) (won : Bool) (w : World) (h : Row w q 155 (rfCells ⟨at_, size, 3, task, target, 4, hd, t, u, n, k, took, none⟩ tk false 0 0 (.slice none 0 0))) (hu : M.U hd) (hx : M.U x) (wu : W32 u) (hB : rgHi hd ≠ rgLo hd) :
    Calls Tryz.prog 158 #[.pointer (some ⟨q, 0, none⟩), .int .u64 x, .bool won] w fun e w' => e = .returned (.tuple #[]) ∧ RfGoes q w (rgStealGive ⟨at_, size, 3, task, target, 4, hd, t, u, n, k, took, none⟩ x won) tk w' := by
  have c1 := h.cell (j := 1) rfl
  have c5 := h.cell (j := 5) rfl
  have c6 := h.cell (j := 6) rfl
  have c7 := h.cell (j := 7) rfl
  have c8 := h.cell (j := 8) rfl
  have c9 := h.cell (j := 9) rfl
  have c10 := h.cell (j := 10) rfl
  have f5 := h.frozen 5
  have f6 := h.frozen 6
  have f7 := h.frozen 7
  have f8 := h.frozen 8
  have f9 := h.frozen 9
  have f10 := h.frozen 10
  simp only at c1 c5 c6 c7 c8 c9 c10
  have hlx := rgLo_range x
  have hhx := rgHi_range hx
  have hlh := rgLo_range hd
  have hhh := rgHi_range hu
  have HLo : Hid (∀ W, Calls Tryz.prog 117 #[.int .u64 x] W fun e w' => e = .returned (.int .u32 (rgLo x)) ∧ W = w') := Lib.hid (fun W => refLo_any x W hx.nn)
  have HHi : Hid (∀ W, Calls Tryz.prog 165 #[.int .u64 x] W fun e w' => e = .returned (.int .u32 (rgHi x)) ∧ W = w') := Lib.hid (fun W => refHi_any x W hx.nn hx)
  have HAh := Lib.hid (fun W => refAhead_any (rgLo x) (rgLo hd) W hlx.1 hlx.2 hlh.1 hlh.2)
  obtain ⟨W1, hW1⟩ : ∃ W1, ((w).setCell ⟨q, 9, none⟩ (.int .i64 (rgCount (M.aheadI (rgLo x) (rgLo hd))))).setCell ⟨q, 5, none⟩ (.int .i64 5) = W1 := ⟨_, rfl⟩
  have k1 : Keeps [q] w W1 := by rw [← hW1]; exact ((Keeps.refl [q] w).set (by simp) _ _).set (by simp) _ _
  have r1 : Row W1 q 155 (rfCells ⟨at_, size, 3, task, target, 5, hd, t, u, (rgCount (M.aheadI (rgLo x) (rgLo hd))), k, took, none⟩ tk false 0 0 (.slice none 0 0)) := by rw [← hW1]; exact ((h).set 9 _).set 5 _
  have HAt0a := Lib.hid (rfAt_any q _ _ _ _ _ _ w h hu)
  have HSa := Lib.hid (rfS_any q _ _ _ _ _ _ w h hu)
  have HAt0b := Lib.hid (rfAt_any q _ _ _ _ _ _ W1 r1 hu)
  have HSb := Lib.hid (rfS_any q _ _ _ _ _ _ W1 r1 hu)
  have d1 := r1.cell (j := 1) rfl
  have g1 := r1.frozen 1
  have d5 := r1.cell (j := 5) rfl
  have g5 := r1.frozen 5
  have d6 := r1.cell (j := 6) rfl
  have g6 := r1.frozen 6
  have d7 := r1.cell (j := 7) rfl
  have g7 := r1.frozen 7
  have d8 := r1.cell (j := 8) rfl
  have g8 := r1.frozen 8
  have d9 := r1.cell (j := 9) rfl
  have g9 := r1.frozen 9
  have d10 := r1.cell (j := 10) rfl
  have g10 := r1.frozen 10
  simp only at d1 d5 d6 d7 d8 d9 d10
  have HRow : Hid (Row (W1) q 155 (rfCells ⟨at_, size, 3, task, target, 5, hd, t, u, (rgCount (M.aheadI (rgLo x) (rgLo hd))), k, took, none⟩ tk false 0 0 (.slice none 0 0))) := Lib.hid (r1)
  have HK : Hid (Keeps [q] w (W1)) := Lib.hid (k1)
  have HG : Hid (rgStealGive ⟨at_, size, 3, task, target, 4, hd, t, u, n, k, took, none⟩ x won = ⟨at_, size, 3, task, target, 5, hd, t, u, (rgCount (M.aheadI (rgLo x) (rgLo hd))), k, took, some ⟨8, 0, []⟩⟩) := Lib.hid (by simp [rgStealGive, hB])
  rw [HG.out]
  obtain ⟨hw1, hw2⟩ := rgCount_wrap (M.aheadI (rgLo x) (rgLo hd)) (M.ahead_lo _ _) (M.ahead_hi _ _)
  have dB : (rgHi hd == rgLo hd) = false := beq_eq_false_iff_ne.2 hB
  clear hB
  have HN := Lib.hid (rfEnd_any q _ tk _ _ _ _ 8 _ HRow.out)
  clear h r1 k1
  go_enter Tryz.func158, Tryz.ntmps158
  go_wp2_with (first | (go_at_call 117; refine (HLo.out _).mono ?_; rintro e w9 ⟨rfl, rfl⟩) | (go_at_call 189; refine (HAt0a.out).mono ?_; rintro e w9 ⟨rfl, rfl⟩) | (go_at_call 189; refine (HAt0b.out).mono ?_; rintro e w9 ⟨rfl, rfl⟩) | (go_at_call 190; refine (HSa.out).mono ?_; rintro e w9 ⟨rfl, rfl⟩) | (go_at_call 190; refine (HSb.out).mono ?_; rintro e w9 ⟨rfl, rfl⟩) | (go_at_call 118; refine (HAh.out _).mono ?_; rintro e w9 ⟨rfl, rfl⟩) | fail)
  refine HN.out.mono ?_
  rintro e w2 ⟨rfl, r2, k2⟩
  have HQ := Lib.hid (⟨r2, k2⟩ : _ ∧ _)
  clear r2 k2
  go_wp2
  first | go_end0 | refine bodyPost_ret (results_none rfl _ _ _) rfl ?_
  exact ⟨rfl, _, _, _, _, HQ.out.1, HK.out.trans HQ.out.2, fun h => (by cases h), fun r h _ => (by cases h; exact ⟨rfl, rfl, rfl, rfl⟩)⟩

set_option maxHeartbeats 6400000 in
theorem rfStealG4Again (q : Nat) (at_ size task target hd t u n k x : Int) (took : List Int) (tk : Value) (won : Bool) (w : World) (h : Row w q 155 (rfCells ⟨at_, size, 3, task, target, 4, hd, t, u, n, k, took, none⟩ tk false 0 0 (.slice none 0 0))) (hu : M.U hd) (hx : M.U x) (wu : W32 u) (hB : rgHi hd = rgLo hd) (hA : size < (M.aheadI (rgLo x) (rgLo hd))) :
    Calls Tryz.prog 158 #[.pointer (some ⟨q, 0, none⟩), .int .u64 x, .bool won] w fun e w' => e = .returned (.tuple #[]) ∧ RfGoes q w (rgStealGive ⟨at_, size, 3, task, target, 4, hd, t, u, n, k, took, none⟩ x won) tk w' := by
  have c1 := h.cell (j := 1) rfl
  have c5 := h.cell (j := 5) rfl
  have c6 := h.cell (j := 6) rfl
  have c7 := h.cell (j := 7) rfl
  have c8 := h.cell (j := 8) rfl
  have c9 := h.cell (j := 9) rfl
  have c10 := h.cell (j := 10) rfl
  have f5 := h.frozen 5
  have f6 := h.frozen 6
  have f7 := h.frozen 7
  have f8 := h.frozen 8
  have f9 := h.frozen 9
  have f10 := h.frozen 10
  simp only at c1 c5 c6 c7 c8 c9 c10
  have hlx := rgLo_range x
  have hhx := rgHi_range hx
  have hlh := rgLo_range hd
  have hhh := rgHi_range hu
  have HLo : Hid (∀ W, Calls Tryz.prog 117 #[.int .u64 x] W fun e w' => e = .returned (.int .u32 (rgLo x)) ∧ W = w') := Lib.hid (fun W => refLo_any x W hx.nn)
  have HHi : Hid (∀ W, Calls Tryz.prog 165 #[.int .u64 x] W fun e w' => e = .returned (.int .u32 (rgHi x)) ∧ W = w') := Lib.hid (fun W => refHi_any x W hx.nn hx)
  have HAh := Lib.hid (fun W => refAhead_any (rgLo x) (rgLo hd) W hlx.1 hlx.2 hlh.1 hlh.2)
  obtain ⟨W1, hW1⟩ : ∃ W1, ((w).setCell ⟨q, 9, none⟩ (.int .i64 (rgCount (M.aheadI (rgLo x) (rgLo hd))))).setCell ⟨q, 5, none⟩ (.int .i64 5) = W1 := ⟨_, rfl⟩
  have k1 : Keeps [q] w W1 := by rw [← hW1]; exact ((Keeps.refl [q] w).set (by simp) _ _).set (by simp) _ _
  have r1 : Row W1 q 155 (rfCells ⟨at_, size, 3, task, target, 5, hd, t, u, (rgCount (M.aheadI (rgLo x) (rgLo hd))), k, took, none⟩ tk false 0 0 (.slice none 0 0)) := by rw [← hW1]; exact ((h).set 9 _).set 5 _
  have HAt0a := Lib.hid (rfAt_any q _ _ _ _ _ _ w h hu)
  have HSa := Lib.hid (rfS_any q _ _ _ _ _ _ w h hu)
  have HAt0b := Lib.hid (rfAt_any q _ _ _ _ _ _ W1 r1 hu)
  have HSb := Lib.hid (rfS_any q _ _ _ _ _ _ W1 r1 hu)
  have d1 := r1.cell (j := 1) rfl
  have g1 := r1.frozen 1
  have d5 := r1.cell (j := 5) rfl
  have g5 := r1.frozen 5
  have d6 := r1.cell (j := 6) rfl
  have g6 := r1.frozen 6
  have d7 := r1.cell (j := 7) rfl
  have g7 := r1.frozen 7
  have d8 := r1.cell (j := 8) rfl
  have g8 := r1.frozen 8
  have d9 := r1.cell (j := 9) rfl
  have g9 := r1.frozen 9
  have d10 := r1.cell (j := 10) rfl
  have g10 := r1.frozen 10
  simp only at d1 d5 d6 d7 d8 d9 d10
  have HRow : Hid (Row ((W1).setCell ⟨q, 5, none⟩ (.int .i64 3)) q 155 (rfCells ⟨at_, size, 3, task, target, 3, hd, t, u, (rgCount (M.aheadI (rgLo x) (rgLo hd))), k, took, none⟩ tk false 0 0 (.slice none 0 0))) := Lib.hid ((r1).set 5 _)
  have HK : Hid (Keeps [q] w ((W1).setCell ⟨q, 5, none⟩ (.int .i64 3))) := Lib.hid ((k1).set (by simp) _ _)
  have HG : Hid (rgStealGive ⟨at_, size, 3, task, target, 4, hd, t, u, n, k, took, none⟩ x won = ⟨at_, size, 3, task, target, 3, hd, t, u, (rgCount (M.aheadI (rgLo x) (rgLo hd))), k, took, none⟩) := Lib.hid (by simp [rgStealGive, hB, hA])
  rw [HG.out]
  obtain ⟨hw1, hw2⟩ := rgCount_wrap (M.aheadI (rgLo x) (rgLo hd)) (M.ahead_lo _ _) (M.ahead_hi _ _)
  have dA : decide (size < (M.aheadI (rgLo x) (rgLo hd))) = true := decide_eq_true (by omega)
  have dB : (rgHi hd == rgLo hd) = true := beq_iff_eq.2 hB
  clear hB
  clear hA
  clear h r1 k1
  go_enter Tryz.func158, Tryz.ntmps158
  go_wp2_with (first | (go_at_call 117; refine (HLo.out _).mono ?_; rintro e w9 ⟨rfl, rfl⟩) | (go_at_call 189; refine (HAt0a.out).mono ?_; rintro e w9 ⟨rfl, rfl⟩) | (go_at_call 189; refine (HAt0b.out).mono ?_; rintro e w9 ⟨rfl, rfl⟩) | (go_at_call 190; refine (HSa.out).mono ?_; rintro e w9 ⟨rfl, rfl⟩) | (go_at_call 190; refine (HSb.out).mono ?_; rintro e w9 ⟨rfl, rfl⟩) | (go_at_call 118; refine (HAh.out _).mono ?_; rintro e w9 ⟨rfl, rfl⟩) | fail)
  first | go_end0 | refine bodyPost_ret (results_none rfl _ _ _) rfl ?_
  exact ⟨rfl, _, _, _, _, HRow.out, HK.out, fun _ => ⟨rfl, rfl, rfl, rfl⟩, fun r h => by cases h⟩

set_option maxHeartbeats 6400000 in
theorem rfStealG4None (q : Nat) (at_ size task target hd t u n k x : Int) (took : List Int) (tk : Value) (won : Bool) (w : World) (h : Row w q 155 (rfCells ⟨at_, size, 3, task, target, 4, hd, t, u, n, k, took, none⟩ tk false 0 0 (.slice none 0 0))) (hu : M.U hd) (hx : M.U x) (wu : W32 u) (hs2 : 2 ≤ size ∧ size ≤ 256)(hB : rgHi hd = rgLo hd) (hA : (M.aheadI (rgLo x) (rgLo hd)) < 1) :
    Calls Tryz.prog 158 #[.pointer (some ⟨q, 0, none⟩), .int .u64 x, .bool won] w fun e w' => e = .returned (.tuple #[]) ∧ RfGoes q w (rgStealGive ⟨at_, size, 3, task, target, 4, hd, t, u, n, k, took, none⟩ x won) tk w' := by
  have c1 := h.cell (j := 1) rfl
  have c5 := h.cell (j := 5) rfl
  have c6 := h.cell (j := 6) rfl
  have c7 := h.cell (j := 7) rfl
  have c8 := h.cell (j := 8) rfl
  have c9 := h.cell (j := 9) rfl
  have c10 := h.cell (j := 10) rfl
  have f5 := h.frozen 5
  have f6 := h.frozen 6
  have f7 := h.frozen 7
  have f8 := h.frozen 8
  have f9 := h.frozen 9
  have f10 := h.frozen 10
  simp only at c1 c5 c6 c7 c8 c9 c10
  have hlx := rgLo_range x
  have hhx := rgHi_range hx
  have hlh := rgLo_range hd
  have hhh := rgHi_range hu
  have HLo : Hid (∀ W, Calls Tryz.prog 117 #[.int .u64 x] W fun e w' => e = .returned (.int .u32 (rgLo x)) ∧ W = w') := Lib.hid (fun W => refLo_any x W hx.nn)
  have HHi : Hid (∀ W, Calls Tryz.prog 165 #[.int .u64 x] W fun e w' => e = .returned (.int .u32 (rgHi x)) ∧ W = w') := Lib.hid (fun W => refHi_any x W hx.nn hx)
  have HAh := Lib.hid (fun W => refAhead_any (rgLo x) (rgLo hd) W hlx.1 hlx.2 hlh.1 hlh.2)
  obtain ⟨W1, hW1⟩ : ∃ W1, ((w).setCell ⟨q, 9, none⟩ (.int .i64 (rgCount (M.aheadI (rgLo x) (rgLo hd))))).setCell ⟨q, 5, none⟩ (.int .i64 5) = W1 := ⟨_, rfl⟩
  have k1 : Keeps [q] w W1 := by rw [← hW1]; exact ((Keeps.refl [q] w).set (by simp) _ _).set (by simp) _ _
  have r1 : Row W1 q 155 (rfCells ⟨at_, size, 3, task, target, 5, hd, t, u, (rgCount (M.aheadI (rgLo x) (rgLo hd))), k, took, none⟩ tk false 0 0 (.slice none 0 0)) := by rw [← hW1]; exact ((h).set 9 _).set 5 _
  have HAt0a := Lib.hid (rfAt_any q _ _ _ _ _ _ w h hu)
  have HSa := Lib.hid (rfS_any q _ _ _ _ _ _ w h hu)
  have HAt0b := Lib.hid (rfAt_any q _ _ _ _ _ _ W1 r1 hu)
  have HSb := Lib.hid (rfS_any q _ _ _ _ _ _ W1 r1 hu)
  have d1 := r1.cell (j := 1) rfl
  have g1 := r1.frozen 1
  have d5 := r1.cell (j := 5) rfl
  have g5 := r1.frozen 5
  have d6 := r1.cell (j := 6) rfl
  have g6 := r1.frozen 6
  have d7 := r1.cell (j := 7) rfl
  have g7 := r1.frozen 7
  have d8 := r1.cell (j := 8) rfl
  have g8 := r1.frozen 8
  have d9 := r1.cell (j := 9) rfl
  have g9 := r1.frozen 9
  have d10 := r1.cell (j := 10) rfl
  have g10 := r1.frozen 10
  simp only at d1 d5 d6 d7 d8 d9 d10
  have HRow : Hid (Row (W1) q 155 (rfCells ⟨at_, size, 3, task, target, 5, hd, t, u, (rgCount (M.aheadI (rgLo x) (rgLo hd))), k, took, none⟩ tk false 0 0 (.slice none 0 0))) := Lib.hid (r1)
  have HK : Hid (Keeps [q] w (W1)) := Lib.hid (k1)
  have HG : Hid (rgStealGive ⟨at_, size, 3, task, target, 4, hd, t, u, n, k, took, none⟩ x won = ⟨at_, size, 3, task, target, 5, hd, t, u, (rgCount (M.aheadI (rgLo x) (rgLo hd))), k, took, some ⟨5, 0, []⟩⟩) := Lib.hid (by simp [rgStealGive, hB, hA, show ¬ size < (M.aheadI (rgLo x) (rgLo hd)) by omega])
  rw [HG.out]
  obtain ⟨hw1, hw2⟩ := rgCount_wrap (M.aheadI (rgLo x) (rgLo hd)) (M.ahead_lo _ _) (M.ahead_hi _ _)
  have dC : decide (size < (M.aheadI (rgLo x) (rgLo hd))) = false := decide_eq_false (by omega)
  have dA : decide ((M.aheadI (rgLo x) (rgLo hd)) < 1) = true := decide_eq_true (by omega)
  have dB : (rgHi hd == rgLo hd) = true := beq_iff_eq.2 hB
  clear hB
  clear hA
  have HN := Lib.hid (rfEnd_any q _ tk _ _ _ _ 5 _ HRow.out)
  clear h r1 k1
  go_enter Tryz.func158, Tryz.ntmps158
  go_wp2_with (first | (go_at_call 117; refine (HLo.out _).mono ?_; rintro e w9 ⟨rfl, rfl⟩) | (go_at_call 189; refine (HAt0a.out).mono ?_; rintro e w9 ⟨rfl, rfl⟩) | (go_at_call 189; refine (HAt0b.out).mono ?_; rintro e w9 ⟨rfl, rfl⟩) | (go_at_call 190; refine (HSa.out).mono ?_; rintro e w9 ⟨rfl, rfl⟩) | (go_at_call 190; refine (HSb.out).mono ?_; rintro e w9 ⟨rfl, rfl⟩) | (go_at_call 118; refine (HAh.out _).mono ?_; rintro e w9 ⟨rfl, rfl⟩) | fail)
  refine HN.out.mono ?_
  rintro e w2 ⟨rfl, r2, k2⟩
  have HQ := Lib.hid (⟨r2, k2⟩ : _ ∧ _)
  clear r2 k2
  go_wp2
  first | go_end0 | refine bodyPost_ret (results_none rfl _ _ _) rfl ?_
  exact ⟨rfl, _, _, _, _, HQ.out.1, HK.out.trans HQ.out.2, fun h => (by cases h), fun r h _ => (by cases h; exact ⟨rfl, rfl, rfl, rfl⟩)⟩

set_option maxHeartbeats 6400000 in
theorem rfStealG4 (q : Nat) (at_ size task target hd t u n k x : Int) (took : List Int) (tk : Value) (won : Bool) (w : World) (h : Row w q 155 (rfCells ⟨at_, size, 3, task, target, 4, hd, t, u, n, k, took, none⟩ tk false 0 0 (.slice none 0 0))) (hu : M.U hd) (hx : M.U x) (wu : W32 u) (hB : rgHi hd = rgLo hd) (hC : ¬ size < (M.aheadI (rgLo x) (rgLo hd))) (hA : ¬ (M.aheadI (rgLo x) (rgLo hd)) < 1) :
    Calls Tryz.prog 158 #[.pointer (some ⟨q, 0, none⟩), .int .u64 x, .bool won] w fun e w' => e = .returned (.tuple #[]) ∧ RfGoes q w (rgStealGive ⟨at_, size, 3, task, target, 4, hd, t, u, n, k, took, none⟩ x won) tk w' := by
  have c1 := h.cell (j := 1) rfl
  have c5 := h.cell (j := 5) rfl
  have c6 := h.cell (j := 6) rfl
  have c7 := h.cell (j := 7) rfl
  have c8 := h.cell (j := 8) rfl
  have c9 := h.cell (j := 9) rfl
  have c10 := h.cell (j := 10) rfl
  have f5 := h.frozen 5
  have f6 := h.frozen 6
  have f7 := h.frozen 7
  have f8 := h.frozen 8
  have f9 := h.frozen 9
  have f10 := h.frozen 10
  simp only at c1 c5 c6 c7 c8 c9 c10
  have hlx := rgLo_range x
  have hhx := rgHi_range hx
  have hlh := rgLo_range hd
  have hhh := rgHi_range hu
  have HLo : Hid (∀ W, Calls Tryz.prog 117 #[.int .u64 x] W fun e w' => e = .returned (.int .u32 (rgLo x)) ∧ W = w') := Lib.hid (fun W => refLo_any x W hx.nn)
  have HHi : Hid (∀ W, Calls Tryz.prog 165 #[.int .u64 x] W fun e w' => e = .returned (.int .u32 (rgHi x)) ∧ W = w') := Lib.hid (fun W => refHi_any x W hx.nn hx)
  have HAh := Lib.hid (fun W => refAhead_any (rgLo x) (rgLo hd) W hlx.1 hlx.2 hlh.1 hlh.2)
  obtain ⟨W1, hW1⟩ : ∃ W1, ((w).setCell ⟨q, 9, none⟩ (.int .i64 (rgCount (M.aheadI (rgLo x) (rgLo hd))))).setCell ⟨q, 5, none⟩ (.int .i64 5) = W1 := ⟨_, rfl⟩
  have k1 : Keeps [q] w W1 := by rw [← hW1]; exact ((Keeps.refl [q] w).set (by simp) _ _).set (by simp) _ _
  have r1 : Row W1 q 155 (rfCells ⟨at_, size, 3, task, target, 5, hd, t, u, (rgCount (M.aheadI (rgLo x) (rgLo hd))), k, took, none⟩ tk false 0 0 (.slice none 0 0)) := by rw [← hW1]; exact ((h).set 9 _).set 5 _
  have HAt0a := Lib.hid (rfAt_any q _ _ _ _ _ _ w h hu)
  have HSa := Lib.hid (rfS_any q _ _ _ _ _ _ w h hu)
  have HAt0b := Lib.hid (rfAt_any q _ _ _ _ _ _ W1 r1 hu)
  have HSb := Lib.hid (rfS_any q _ _ _ _ _ _ W1 r1 hu)
  have d1 := r1.cell (j := 1) rfl
  have g1 := r1.frozen 1
  have d5 := r1.cell (j := 5) rfl
  have g5 := r1.frozen 5
  have d6 := r1.cell (j := 6) rfl
  have g6 := r1.frozen 6
  have d7 := r1.cell (j := 7) rfl
  have g7 := r1.frozen 7
  have d8 := r1.cell (j := 8) rfl
  have g8 := r1.frozen 8
  have d9 := r1.cell (j := 9) rfl
  have g9 := r1.frozen 9
  have d10 := r1.cell (j := 10) rfl
  have g10 := r1.frozen 10
  simp only at d1 d5 d6 d7 d8 d9 d10
  have HRow : Hid (Row (W1) q 155 (rfCells ⟨at_, size, 3, task, target, 5, hd, t, u, (rgCount (M.aheadI (rgLo x) (rgLo hd))), k, took, none⟩ tk false 0 0 (.slice none 0 0))) := Lib.hid (r1)
  have HK : Hid (Keeps [q] w (W1)) := Lib.hid (k1)
  have HG : Hid (rgStealGive ⟨at_, size, 3, task, target, 4, hd, t, u, n, k, took, none⟩ x won = ⟨at_, size, 3, task, target, 5, hd, t, u, (rgCount (M.aheadI (rgLo x) (rgLo hd))), k, took, none⟩) := Lib.hid (by simp [rgStealGive, hB, hC, hA])
  rw [HG.out]
  obtain ⟨hw1, hw2⟩ := rgCount_wrap (M.aheadI (rgLo x) (rgLo hd)) (M.ahead_lo _ _) (M.ahead_hi _ _)
  have dC : decide (size < (M.aheadI (rgLo x) (rgLo hd))) = false := decide_eq_false (by omega)
  have dA : decide ((M.aheadI (rgLo x) (rgLo hd)) < 1) = false := decide_eq_false (by omega)
  have dB : (rgHi hd == rgLo hd) = true := beq_iff_eq.2 hB
  clear hB
  clear hA
  clear hC
  clear h r1 k1
  go_enter Tryz.func158, Tryz.ntmps158
  go_wp2_with (first | (go_at_call 117; refine (HLo.out _).mono ?_; rintro e w9 ⟨rfl, rfl⟩) | (go_at_call 189; refine (HAt0a.out).mono ?_; rintro e w9 ⟨rfl, rfl⟩) | (go_at_call 189; refine (HAt0b.out).mono ?_; rintro e w9 ⟨rfl, rfl⟩) | (go_at_call 190; refine (HSa.out).mono ?_; rintro e w9 ⟨rfl, rfl⟩) | (go_at_call 190; refine (HSb.out).mono ?_; rintro e w9 ⟨rfl, rfl⟩) | (go_at_call 118; refine (HAh.out _).mono ?_; rintro e w9 ⟨rfl, rfl⟩) | fail)
  first | go_end0 | refine bodyPost_ret (results_none rfl _ _ _) rfl ?_
  exact ⟨rfl, _, _, _, _, HRow.out, HK.out, fun _ => ⟨rfl, rfl, rfl, rfl⟩, fun r h => by cases h⟩

set_option maxHeartbeats 6400000 in
theorem rfStealG5Won (q : Nat) (at_ size task target hd t u n k x : Int) (took : List Int) (tk : Value) (w : World) (h : Row w q 155 (rfCells ⟨at_, size, 3, task, target, 5, hd, t, u, n, k, took, none⟩ tk false 0 0 (.slice none 0 0))) (hu : M.U hd) (hx : M.U x) (wu : W32 u)  :
    Calls Tryz.prog 158 #[.pointer (some ⟨q, 0, none⟩), .int .u64 x, .bool true] w fun e w' => e = .returned (.tuple #[]) ∧ RfGoes q w (rgStealGive ⟨at_, size, 3, task, target, 5, hd, t, u, n, k, took, none⟩ x true) tk w' := by
  have c1 := h.cell (j := 1) rfl
  have c5 := h.cell (j := 5) rfl
  have c6 := h.cell (j := 6) rfl
  have c7 := h.cell (j := 7) rfl
  have c8 := h.cell (j := 8) rfl
  have c9 := h.cell (j := 9) rfl
  have c10 := h.cell (j := 10) rfl
  have f5 := h.frozen 5
  have f6 := h.frozen 6
  have f7 := h.frozen 7
  have f8 := h.frozen 8
  have f9 := h.frozen 9
  have f10 := h.frozen 10
  simp only at c1 c5 c6 c7 c8 c9 c10
  have hlx := rgLo_range x
  have hhx := rgHi_range hx
  have hlh := rgLo_range hd
  have hhh := rgHi_range hu
  have HLo : Hid (∀ W, Calls Tryz.prog 117 #[.int .u64 x] W fun e w' => e = .returned (.int .u32 (rgLo x)) ∧ W = w') := Lib.hid (fun W => refLo_any x W hx.nn)
  have HHi : Hid (∀ W, Calls Tryz.prog 165 #[.int .u64 x] W fun e w' => e = .returned (.int .u32 (rgHi x)) ∧ W = w') := Lib.hid (fun W => refHi_any x W hx.nn hx)
  obtain ⟨W1, hW1⟩ : ∃ W1, ((w).setCell ⟨q, 7, none⟩ (.int .u32 (rgLo hd))).setCell ⟨q, 5, none⟩ (.int .i64 6) = W1 := ⟨_, rfl⟩
  have k1 : Keeps [q] w W1 := by rw [← hW1]; exact ((Keeps.refl [q] w).set (by simp) _ _).set (by simp) _ _
  have r1 : Row W1 q 155 (rfCells ⟨at_, size, 3, task, target, 6, hd, (rgLo hd), u, n, k, took, none⟩ tk false 0 0 (.slice none 0 0)) := by rw [← hW1]; exact ((h).set 7 _).set 5 _
  have HAt0a := Lib.hid (rfAt_any q _ _ _ _ _ _ w h hu)
  have HSa := Lib.hid (rfS_any q _ _ _ _ _ _ w h hu)
  have HAt0b := Lib.hid (rfAt_any q _ _ _ _ _ _ W1 r1 hu)
  have HSb := Lib.hid (rfS_any q _ _ _ _ _ _ W1 r1 hu)
  have d1 := r1.cell (j := 1) rfl
  have g1 := r1.frozen 1
  have d5 := r1.cell (j := 5) rfl
  have g5 := r1.frozen 5
  have d6 := r1.cell (j := 6) rfl
  have g6 := r1.frozen 6
  have d7 := r1.cell (j := 7) rfl
  have g7 := r1.frozen 7
  have d8 := r1.cell (j := 8) rfl
  have g8 := r1.frozen 8
  have d9 := r1.cell (j := 9) rfl
  have g9 := r1.frozen 9
  have d10 := r1.cell (j := 10) rfl
  have g10 := r1.frozen 10
  simp only at d1 d5 d6 d7 d8 d9 d10
  have HRow : Hid (Row (W1) q 155 (rfCells ⟨at_, size, 3, task, target, 6, hd, (rgLo hd), u, n, k, took, none⟩ tk false 0 0 (.slice none 0 0))) := Lib.hid (r1)
  have HK : Hid (Keeps [q] w (W1)) := Lib.hid (k1)
  have HG : Hid (rgStealGive ⟨at_, size, 3, task, target, 5, hd, t, u, n, k, took, none⟩ x true = ⟨at_, size, 3, task, target, 6, hd, (rgLo hd), u, n, k, took, none⟩) := Lib.hid (by simp [rgStealGive])
  rw [HG.out]
  clear h r1 k1
  go_enter Tryz.func158, Tryz.ntmps158
  go_wp2_with (first | (go_at_call 189; refine (HAt0a.out).mono ?_; rintro e w9 ⟨rfl, rfl⟩) | (go_at_call 189; refine (HAt0b.out).mono ?_; rintro e w9 ⟨rfl, rfl⟩) | fail)
  first | go_end0 | refine bodyPost_ret (results_none rfl _ _ _) rfl ?_
  exact ⟨rfl, _, _, _, _, HRow.out, HK.out, fun _ => ⟨rfl, rfl, rfl, rfl⟩, fun r h => by cases h⟩

set_option maxHeartbeats 6400000 in
theorem rfStealG5Lost (q : Nat) (at_ size task target hd t u n k x : Int) (took : List Int) (tk : Value) (w : World) (h : Row w q 155 (rfCells ⟨at_, size, 3, task, target, 5, hd, t, u, n, k, took, none⟩ tk false 0 0 (.slice none 0 0))) (hu : M.U hd) (hx : M.U x) (wu : W32 u)  :
    Calls Tryz.prog 158 #[.pointer (some ⟨q, 0, none⟩), .int .u64 x, .bool false] w fun e w' => e = .returned (.tuple #[]) ∧ RfGoes q w (rgStealGive ⟨at_, size, 3, task, target, 5, hd, t, u, n, k, took, none⟩ x false) tk w' := by
  have c1 := h.cell (j := 1) rfl
  have c5 := h.cell (j := 5) rfl
  have c6 := h.cell (j := 6) rfl
  have c7 := h.cell (j := 7) rfl
  have c8 := h.cell (j := 8) rfl
  have c9 := h.cell (j := 9) rfl
  have c10 := h.cell (j := 10) rfl
  have f5 := h.frozen 5
  have f6 := h.frozen 6
  have f7 := h.frozen 7
  have f8 := h.frozen 8
  have f9 := h.frozen 9
  have f10 := h.frozen 10
  simp only at c1 c5 c6 c7 c8 c9 c10
  have hlx := rgLo_range x
  have hhx := rgHi_range hx
  have hlh := rgLo_range hd
  have hhh := rgHi_range hu
  have HLo : Hid (∀ W, Calls Tryz.prog 117 #[.int .u64 x] W fun e w' => e = .returned (.int .u32 (rgLo x)) ∧ W = w') := Lib.hid (fun W => refLo_any x W hx.nn)
  have HHi : Hid (∀ W, Calls Tryz.prog 165 #[.int .u64 x] W fun e w' => e = .returned (.int .u32 (rgHi x)) ∧ W = w') := Lib.hid (fun W => refHi_any x W hx.nn hx)
  obtain ⟨W1, hW1⟩ : ∃ W1, ((w).setCell ⟨q, 6, none⟩ (.int .u64 x)).setCell ⟨q, 5, none⟩ (.int .i64 4) = W1 := ⟨_, rfl⟩
  have k1 : Keeps [q] w W1 := by rw [← hW1]; exact ((Keeps.refl [q] w).set (by simp) _ _).set (by simp) _ _
  have r1 : Row W1 q 155 (rfCells ⟨at_, size, 3, task, target, 4, x, t, u, n, k, took, none⟩ tk false 0 0 (.slice none 0 0)) := by rw [← hW1]; exact ((h).set 6 _).set 5 _
  have HAt0a := Lib.hid (rfAt_any q _ _ _ _ _ _ w h hu)
  have HSa := Lib.hid (rfS_any q _ _ _ _ _ _ w h hu)
  have d1 := r1.cell (j := 1) rfl
  have g1 := r1.frozen 1
  have d5 := r1.cell (j := 5) rfl
  have g5 := r1.frozen 5
  have d6 := r1.cell (j := 6) rfl
  have g6 := r1.frozen 6
  have d7 := r1.cell (j := 7) rfl
  have g7 := r1.frozen 7
  have d8 := r1.cell (j := 8) rfl
  have g8 := r1.frozen 8
  have d9 := r1.cell (j := 9) rfl
  have g9 := r1.frozen 9
  have d10 := r1.cell (j := 10) rfl
  have g10 := r1.frozen 10
  simp only at d1 d5 d6 d7 d8 d9 d10
  have HRow : Hid (Row (W1) q 155 (rfCells ⟨at_, size, 3, task, target, 4, x, t, u, n, k, took, none⟩ tk false 0 0 (.slice none 0 0))) := Lib.hid (r1)
  have HK : Hid (Keeps [q] w (W1)) := Lib.hid (k1)
  have HG : Hid (rgStealGive ⟨at_, size, 3, task, target, 5, hd, t, u, n, k, took, none⟩ x false = ⟨at_, size, 3, task, target, 4, x, t, u, n, k, took, none⟩) := Lib.hid (by simp [rgStealGive])
  rw [HG.out]
  clear h r1 k1
  go_enter Tryz.func158, Tryz.ntmps158
  go_wp2_with fail
  first | go_end0 | refine bodyPost_ret (results_none rfl _ _ _) rfl ?_
  exact ⟨rfl, _, _, _, _, HRow.out, HK.out, fun _ => ⟨rfl, rfl, rfl, rfl⟩, fun r h => by cases h⟩

set_option maxHeartbeats 6400000 in
theorem rfStealG60 (q : Nat) (at_ size task target hd t u n k x : Int) (took : List Int) (tk : Value) (won : Bool) (w : World) (h : Row w q 155 (rfCells ⟨at_, size, 3, task, target, 60, hd, t, u, n, k, took, none⟩ tk false 0 0 (.slice none 0 0))) (hu : M.U hd) (hx : M.U x) (wu : W32 u) (hk : 0 ≤ k ∧ k ≤ 256) :
    Calls Tryz.prog 158 #[.pointer (some ⟨q, 0, none⟩), .int .u64 x, .bool won] w fun e w' => e = .returned (.tuple #[]) ∧ RfGoes q w (rgStealGive ⟨at_, size, 3, task, target, 60, hd, t, u, n, k, took, none⟩ x won) tk w' := by
  have c1 := h.cell (j := 1) rfl
  have c5 := h.cell (j := 5) rfl
  have c6 := h.cell (j := 6) rfl
  have c7 := h.cell (j := 7) rfl
  have c8 := h.cell (j := 8) rfl
  have c9 := h.cell (j := 9) rfl
  have c10 := h.cell (j := 10) rfl
  have f5 := h.frozen 5
  have f6 := h.frozen 6
  have f7 := h.frozen 7
  have f8 := h.frozen 8
  have f9 := h.frozen 9
  have f10 := h.frozen 10
  simp only at c1 c5 c6 c7 c8 c9 c10
  have hlx := rgLo_range x
  have hhx := rgHi_range hx
  have hlh := rgLo_range hd
  have hhh := rgHi_range hu
  have HLo : Hid (∀ W, Calls Tryz.prog 117 #[.int .u64 x] W fun e w' => e = .returned (.int .u32 (rgLo x)) ∧ W = w') := Lib.hid (fun W => refLo_any x W hx.nn)
  have HHi : Hid (∀ W, Calls Tryz.prog 165 #[.int .u64 x] W fun e w' => e = .returned (.int .u32 (rgHi x)) ∧ W = w') := Lib.hid (fun W => refHi_any x W hx.nn hx)
  obtain ⟨W1, hW1⟩ : ∃ W1, ((w).setCell ⟨q, 10, none⟩ (.int .i64 (k + 1))).setCell ⟨q, 5, none⟩ (.int .i64 6) = W1 := ⟨_, rfl⟩
  have k1 : Keeps [q] w W1 := by rw [← hW1]; exact ((Keeps.refl [q] w).set (by simp) _ _).set (by simp) _ _
  have r1 : Row W1 q 155 (rfCells ⟨at_, size, 3, task, target, 6, hd, t, u, n, (k + 1), took, none⟩ tk false 0 0 (.slice none 0 0)) := by rw [← hW1]; exact ((h).set 10 _).set 5 _
  have HAt0a := Lib.hid (rfAt_any q _ _ _ _ _ _ w h hu)
  have HSa := Lib.hid (rfS_any q _ _ _ _ _ _ w h hu)
  have HAt0b := Lib.hid (rfAt_any q _ _ _ _ _ _ W1 r1 hu)
  have HSb := Lib.hid (rfS_any q _ _ _ _ _ _ W1 r1 hu)
  have d1 := r1.cell (j := 1) rfl
  have g1 := r1.frozen 1
  have d5 := r1.cell (j := 5) rfl
  have g5 := r1.frozen 5
  have d6 := r1.cell (j := 6) rfl
  have g6 := r1.frozen 6
  have d7 := r1.cell (j := 7) rfl
  have g7 := r1.frozen 7
  have d8 := r1.cell (j := 8) rfl
  have g8 := r1.frozen 8
  have d9 := r1.cell (j := 9) rfl
  have g9 := r1.frozen 9
  have d10 := r1.cell (j := 10) rfl
  have g10 := r1.frozen 10
  simp only at d1 d5 d6 d7 d8 d9 d10
  have HRow : Hid (Row (W1) q 155 (rfCells ⟨at_, size, 3, task, target, 6, hd, t, u, n, (k + 1), took, none⟩ tk false 0 0 (.slice none 0 0))) := Lib.hid (r1)
  have HK : Hid (Keeps [q] w (W1)) := Lib.hid (k1)
  have HG : Hid (rgStealGive ⟨at_, size, 3, task, target, 60, hd, t, u, n, k, took, none⟩ x won = ⟨at_, size, 3, task, target, 6, hd, t, u, n, (k + 1), took, none⟩) := Lib.hid (by simp [rgStealGive])
  rw [HG.out]
  have hwk : wrap64 (k + 1) = k + 1 := by unfold wrap64; omega
  clear h r1 k1
  go_enter Tryz.func158, Tryz.ntmps158
  go_wp2_with fail
  first | go_end0 | refine bodyPost_ret (results_none rfl _ _ _) rfl ?_
  exact ⟨rfl, _, _, _, _, HRow.out, HK.out, fun _ => ⟨rfl, rfl, rfl, rfl⟩, fun r h => by cases h⟩

set_option maxHeartbeats 6400000 in
theorem rfStealG7 (q : Nat) (at_ size task target hd t u n k x : Int) (took : List Int) (tk : Value) (won : Bool) (w : World) (h : Row w q 155 (rfCells ⟨at_, size, 3, task, target, 7, hd, t, u, n, k, took, none⟩ tk false 0 0 (.slice none 0 0))) (hu : M.U hd) (hx : M.U x) (wu : W32 u)  :
    Calls Tryz.prog 158 #[.pointer (some ⟨q, 0, none⟩), .int .u64 x, .bool won] w fun e w' => e = .returned (.tuple #[]) ∧ RfGoes q w (rgStealGive ⟨at_, size, 3, task, target, 7, hd, t, u, n, k, took, none⟩ x won) tk w' := by
  have c1 := h.cell (j := 1) rfl
  have c5 := h.cell (j := 5) rfl
  have c6 := h.cell (j := 6) rfl
  have c7 := h.cell (j := 7) rfl
  have c8 := h.cell (j := 8) rfl
  have c9 := h.cell (j := 9) rfl
  have c10 := h.cell (j := 10) rfl
  have f5 := h.frozen 5
  have f6 := h.frozen 6
  have f7 := h.frozen 7
  have f8 := h.frozen 8
  have f9 := h.frozen 9
  have f10 := h.frozen 10
  simp only at c1 c5 c6 c7 c8 c9 c10
  have hlx := rgLo_range x
  have hhx := rgHi_range hx
  have hlh := rgLo_range hd
  have hhh := rgHi_range hu
  have HLo : Hid (∀ W, Calls Tryz.prog 117 #[.int .u64 x] W fun e w' => e = .returned (.int .u32 (rgLo x)) ∧ W = w') := Lib.hid (fun W => refLo_any x W hx.nn)
  have HHi : Hid (∀ W, Calls Tryz.prog 165 #[.int .u64 x] W fun e w' => e = .returned (.int .u32 (rgHi x)) ∧ W = w') := Lib.hid (fun W => refHi_any x W hx.nn hx)
  obtain ⟨W1, hW1⟩ : ∃ W1, ((w).setCell ⟨q, 6, none⟩ (.int .u64 x)).setCell ⟨q, 5, none⟩ (.int .i64 8) = W1 := ⟨_, rfl⟩
  have k1 : Keeps [q] w W1 := by rw [← hW1]; exact ((Keeps.refl [q] w).set (by simp) _ _).set (by simp) _ _
  have r1 : Row W1 q 155 (rfCells ⟨at_, size, 3, task, target, 8, x, t, u, n, k, took, none⟩ tk false 0 0 (.slice none 0 0)) := by rw [← hW1]; exact ((h).set 6 _).set 5 _
  have HAt0a := Lib.hid (rfAt_any q _ _ _ _ _ _ w h hu)
  have HSa := Lib.hid (rfS_any q _ _ _ _ _ _ w h hu)
  have d1 := r1.cell (j := 1) rfl
  have g1 := r1.frozen 1
  have d5 := r1.cell (j := 5) rfl
  have g5 := r1.frozen 5
  have d6 := r1.cell (j := 6) rfl
  have g6 := r1.frozen 6
  have d7 := r1.cell (j := 7) rfl
  have g7 := r1.frozen 7
  have d8 := r1.cell (j := 8) rfl
  have g8 := r1.frozen 8
  have d9 := r1.cell (j := 9) rfl
  have g9 := r1.frozen 9
  have d10 := r1.cell (j := 10) rfl
  have g10 := r1.frozen 10
  simp only at d1 d5 d6 d7 d8 d9 d10
  have HRow : Hid (Row (W1) q 155 (rfCells ⟨at_, size, 3, task, target, 8, x, t, u, n, k, took, none⟩ tk false 0 0 (.slice none 0 0))) := Lib.hid (r1)
  have HK : Hid (Keeps [q] w (W1)) := Lib.hid (k1)
  have HG : Hid (rgStealGive ⟨at_, size, 3, task, target, 7, hd, t, u, n, k, took, none⟩ x won = ⟨at_, size, 3, task, target, 8, x, t, u, n, k, took, none⟩) := Lib.hid (by simp [rgStealGive])
  rw [HG.out]
  clear h r1 k1
  go_enter Tryz.func158, Tryz.ntmps158
  go_wp2_with fail
  first | go_end0 | refine bodyPost_ret (results_none rfl _ _ _) rfl ?_
  exact ⟨rfl, _, _, _, _, HRow.out, HK.out, fun _ => ⟨rfl, rfl, rfl, rfl⟩, fun r h => by cases h⟩

set_option maxHeartbeats 6400000 in
theorem rfStealG8Lost (q : Nat) (at_ size task target hd t u n k x : Int) (took : List Int) (tk : Value) (w : World) (h : Row w q 155 (rfCells ⟨at_, size, 3, task, target, 8, hd, t, u, n, k, took, none⟩ tk false 0 0 (.slice none 0 0))) (hu : M.U hd) (hx : M.U x) (wu : W32 u)  :
    Calls Tryz.prog 158 #[.pointer (some ⟨q, 0, none⟩), .int .u64 x, .bool false] w fun e w' => e = .returned (.tuple #[]) ∧ RfGoes q w (rgStealGive ⟨at_, size, 3, task, target, 8, hd, t, u, n, k, took, none⟩ x false) tk w' := by
  have c1 := h.cell (j := 1) rfl
  have c5 := h.cell (j := 5) rfl
  have c6 := h.cell (j := 6) rfl
  have c7 := h.cell (j := 7) rfl
  have c8 := h.cell (j := 8) rfl
  have c9 := h.cell (j := 9) rfl
  have c10 := h.cell (j := 10) rfl
  have f5 := h.frozen 5
  have f6 := h.frozen 6
  have f7 := h.frozen 7
  have f8 := h.frozen 8
  have f9 := h.frozen 9
  have f10 := h.frozen 10
  simp only at c1 c5 c6 c7 c8 c9 c10
  have hlx := rgLo_range x
  have hhx := rgHi_range hx
  have hlh := rgLo_range hd
  have hhh := rgHi_range hu
  have HLo : Hid (∀ W, Calls Tryz.prog 117 #[.int .u64 x] W fun e w' => e = .returned (.int .u32 (rgLo x)) ∧ W = w') := Lib.hid (fun W => refLo_any x W hx.nn)
  have HHi : Hid (∀ W, Calls Tryz.prog 165 #[.int .u64 x] W fun e w' => e = .returned (.int .u32 (rgHi x)) ∧ W = w') := Lib.hid (fun W => refHi_any x W hx.nn hx)
  obtain ⟨W1, hW1⟩ : ∃ W1, (w).setCell ⟨q, 6, none⟩ (.int .u64 x) = W1 := ⟨_, rfl⟩
  have k1 : Keeps [q] w W1 := by rw [← hW1]; exact (Keeps.refl [q] w).set (by simp) _ _
  have r1 : Row W1 q 155 (rfCells ⟨at_, size, 3, task, target, 8, x, t, u, n, k, took, none⟩ tk false 0 0 (.slice none 0 0)) := by rw [← hW1]; exact (h).set 6 _
  have HAt0a := Lib.hid (rfAt_any q _ _ _ _ _ _ w h hu)
  have HSa := Lib.hid (rfS_any q _ _ _ _ _ _ w h hu)
  have d1 := r1.cell (j := 1) rfl
  have g1 := r1.frozen 1
  have d5 := r1.cell (j := 5) rfl
  have g5 := r1.frozen 5
  have d6 := r1.cell (j := 6) rfl
  have g6 := r1.frozen 6
  have d7 := r1.cell (j := 7) rfl
  have g7 := r1.frozen 7
  have d8 := r1.cell (j := 8) rfl
  have g8 := r1.frozen 8
  have d9 := r1.cell (j := 9) rfl
  have g9 := r1.frozen 9
  have d10 := r1.cell (j := 10) rfl
  have g10 := r1.frozen 10
  simp only at d1 d5 d6 d7 d8 d9 d10
  have HRow : Hid (Row (W1) q 155 (rfCells ⟨at_, size, 3, task, target, 8, x, t, u, n, k, took, none⟩ tk false 0 0 (.slice none 0 0))) := Lib.hid (r1)
  have HK : Hid (Keeps [q] w (W1)) := Lib.hid (k1)
  have HG : Hid (rgStealGive ⟨at_, size, 3, task, target, 8, hd, t, u, n, k, took, none⟩ x false = ⟨at_, size, 3, task, target, 8, x, t, u, n, k, took, none⟩) := Lib.hid (by simp [rgStealGive])
  rw [HG.out]
  clear h r1 k1
  go_enter Tryz.func158, Tryz.ntmps158
  go_wp2_with fail
  first | go_end0 | refine bodyPost_ret (results_none rfl _ _ _) rfl ?_
  exact ⟨rfl, _, _, _, _, HRow.out, HK.out, fun _ => ⟨rfl, rfl, rfl, rfl⟩, fun r h => by cases h⟩

set_option maxHeartbeats 6400000 in
theorem rfStealG8More (q : Nat) (at_ size task target hd t u n k x : Int) (took : List Int) (tk : Value) (w : World) (h : Row w q 155 (rfCells ⟨at_, size, 3, task, target, 8, hd, t, u, n, k, took, none⟩ tk false 0 0 (.slice none 0 0))) (hu : M.U hd) (hx : M.U x) (wu : W32 u) (hn : n ≠ 1) :
    Calls Tryz.prog 158 #[.pointer (some ⟨q, 0, none⟩), .int .u64 x, .bool true] w fun e w' => e = .returned (.tuple #[]) ∧ RfGoes q w (rgStealGive ⟨at_, size, 3, task, target, 8, hd, t, u, n, k, took, none⟩ x true) tk w' := by
  have c1 := h.cell (j := 1) rfl
  have c5 := h.cell (j := 5) rfl
  have c6 := h.cell (j := 6) rfl
  have c7 := h.cell (j := 7) rfl
  have c8 := h.cell (j := 8) rfl
  have c9 := h.cell (j := 9) rfl
  have c10 := h.cell (j := 10) rfl
  have f5 := h.frozen 5
  have f6 := h.frozen 6
  have f7 := h.frozen 7
  have f8 := h.frozen 8
  have f9 := h.frozen 9
  have f10 := h.frozen 10
  simp only at c1 c5 c6 c7 c8 c9 c10
  have hlx := rgLo_range x
  have hhx := rgHi_range hx
  have hlh := rgLo_range hd
  have hhh := rgHi_range hu
  have HLo : Hid (∀ W, Calls Tryz.prog 117 #[.int .u64 x] W fun e w' => e = .returned (.int .u32 (rgLo x)) ∧ W = w') := Lib.hid (fun W => refLo_any x W hx.nn)
  have HHi : Hid (∀ W, Calls Tryz.prog 165 #[.int .u64 x] W fun e w' => e = .returned (.int .u32 (rgHi x)) ∧ W = w') := Lib.hid (fun W => refHi_any x W hx.nn hx)
  obtain ⟨W1, hW1⟩ : ∃ W1, (w).setCell ⟨q, 5, none⟩ (.int .i64 9) = W1 := ⟨_, rfl⟩
  have k1 : Keeps [q] w W1 := by rw [← hW1]; exact (Keeps.refl [q] w).set (by simp) _ _
  have r1 : Row W1 q 155 (rfCells ⟨at_, size, 3, task, target, 9, hd, t, u, n, k, took, none⟩ tk false 0 0 (.slice none 0 0)) := by rw [← hW1]; exact (h).set 5 _
  have HAt0a := Lib.hid (rfAt_any q _ _ _ _ _ _ w h hu)
  have HSa := Lib.hid (rfS_any q _ _ _ _ _ _ w h hu)
  have HAt0b := Lib.hid (rfAt_any q _ _ _ _ _ _ W1 r1 hu)
  have HSb := Lib.hid (rfS_any q _ _ _ _ _ _ W1 r1 hu)
  have d1 := r1.cell (j := 1) rfl
  have g1 := r1.frozen 1
  have d5 := r1.cell (j := 5) rfl
  have g5 := r1.frozen 5
  have d6 := r1.cell (j := 6) rfl
  have g6 := r1.frozen 6
  have d7 := r1.cell (j := 7) rfl
  have g7 := r1.frozen 7
  have d8 := r1.cell (j := 8) rfl
  have g8 := r1.frozen 8
  have d9 := r1.cell (j := 9) rfl
  have g9 := r1.frozen 9
  have d10 := r1.cell (j := 10) rfl
  have g10 := r1.frozen 10
  simp only at d1 d5 d6 d7 d8 d9 d10
  have HRow : Hid (Row (W1) q 155 (rfCells ⟨at_, size, 3, task, target, 9, hd, t, u, n, k, took, none⟩ tk false 0 0 (.slice none 0 0))) := Lib.hid (r1)
  have HK : Hid (Keeps [q] w (W1)) := Lib.hid (k1)
  have HG : Hid (rgStealGive ⟨at_, size, 3, task, target, 8, hd, t, u, n, k, took, none⟩ x true = ⟨at_, size, 3, task, target, 9, hd, t, u, n, k, took, none⟩) := Lib.hid (by simp [rgStealGive, hn])
  rw [HG.out]
  have dn : (n == 1) = false := beq_eq_false_iff_ne.2 hn
  clear hn
  clear h r1 k1
  go_enter Tryz.func158, Tryz.ntmps158
  go_wp2_with fail
  first | go_end0 | refine bodyPost_ret (results_none rfl _ _ _) rfl ?_
  exact ⟨rfl, _, _, _, _, HRow.out, HK.out, fun _ => ⟨rfl, rfl, rfl, rfl⟩, fun r h => by cases h⟩
end Go.Proofs.YtjfgpplnlepnoaaGreat
