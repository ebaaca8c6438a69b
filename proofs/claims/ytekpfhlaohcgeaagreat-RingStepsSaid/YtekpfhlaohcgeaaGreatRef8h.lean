/-
  Contracts: what a document's frame of a ring is told (written by wip/tools/rfgive.py).
-/
import Derived.Test.YtekpfhlaohcgeaaGreatRef8g
namespace Go.Proofs.YtekpfhlaohcgeaaGreat
set_option maxRecDepth 100000
set_option linter.unusedSimpArgs false
set_option linter.unusedVariables false
open Go.ChangeShapes Go.WideShapes Go.ChangeAt Go.RowKit

set_option maxHeartbeats 6400000 in
theorem rfPushG1 (q : Nat) (at_ size task target hd t u n k x : Int) (took : List Int) (tk : Value) (won : Bool) (w : World) (h : Row w q 97 (rfCells ⟨at_, size, 1, task, target, 1, hd, t, u, n, k, took, none⟩ tk false 0 0 (.slice none 0 0))) (hu : M.U hd) (hx : M.U x) (wu : W32 u)  :
    Calls Tryz.prog 93 #[.pointer (some ⟨q, 0, none⟩), .int .u64 x, .bool won] w fun e w' => e = .returned (.tuple #[]) ∧ RfGoes q w (rgPushGive ⟨at_, size, 1, task, target, 1, hd, t, u, n, k, took, none⟩ x won) tk w' := by
  have c1 := h.cell (j := 1) rfl
  have c5 := h.cell (j := 5) rfl
  have c6 := h.cell (j := 6) rfl
  have c7 := h.cell (j := 7) rfl
  have c8 := h.cell (j := 8) rfl
  have c9 := h.cell (j := 9) rfl
  have c10 := h.cell (j := 10) rfl
  have f5 := h.frozen 5
  have f6 := h.frozen 6
  have f7 := h.frozen 7
  have f8 := h.frozen 8
  have f9 := h.frozen 9
  have f10 := h.frozen 10
  simp only at c1 c5 c6 c7 c8 c9 c10
  have hlx := rgLo_range x
  have hhx := rgHi_range hx
  have hlh := rgLo_range hd
  have hhh := rgHi_range hu
  have HLo : Hid (∀ W, Calls Tryz.prog 63 #[.int .u64 x] W fun e w' => e = .returned (.int .u32 (rgLo x)) ∧ W = w') := Lib.hid (fun W => refLo_any x W hx.nn)
  have HHi : Hid (∀ W, Calls Tryz.prog 125 #[.int .u64 x] W fun e w' => e = .returned (.int .u32 (rgHi x)) ∧ W = w') := Lib.hid (fun W => refHi_any x W hx.nn hx)
  obtain ⟨W1, hW1⟩ : ∃ W1, ((w).setCell ⟨q, 6, none⟩ (.int .u64 x)).setCell ⟨q, 5, none⟩ (.int .i64 2) = W1 := ⟨_, rfl⟩
  have k1 : Keeps [q] w W1 := by rw [← hW1]; exact ((Keeps.refl [q] w).set (by simp) _ _).set (by simp) _ _
  have r1 : Row W1 q 97 (rfCells ⟨at_, size, 1, task, target, 2, x, t, u, n, k, took, none⟩ tk false 0 0 (.slice none 0 0)) := by rw [← hW1]; exact ((h).set 6 _).set 5 _
  have HAt0a := Lib.hid (rfAt_any q _ _ _ _ _ _ w h hu)
  have HSa := Lib.hid (rfS_any q _ _ _ _ _ _ w h hu)
  have d1 := r1.cell (j := 1) rfl
  have g1 := r1.frozen 1
  have d5 := r1.cell (j := 5) rfl
  have g5 := r1.frozen 5
  have d6 := r1.cell (j := 6) rfl
  have g6 := r1.frozen 6
  have d7 := r1.cell (j := 7) rfl
  have g7 := r1.frozen 7
  have d8 := r1.cell (j := 8) rfl
  have g8 := r1.frozen 8
  have d9 := r1.cell (j := 9) rfl
  have g9 := r1.frozen 9
  have d10 := r1.cell (j := 10) rfl
  have g10 := r1.frozen 10
  simp only at d1 d5 d6 d7 d8 d9 d10
  have HRow : Hid (Row (W1) q 97 (rfCells ⟨at_, size, 1, task, target, 2, x, t, u, n, k, took, none⟩ tk false 0 0 (.slice none 0 0))) := Lib.hid (r1)
  have HK : Hid (Keeps [q] w (W1)) := Lib.hid (k1)
  have HG : Hid (rgPushGive ⟨at_, size, 1, task, target, 1, hd, t, u, n, k, took, none⟩ x won = ⟨at_, size, 1, task, target, 2, x, t, u, n, k, took, none⟩) := Lib.hid (by simp [rgPushGive])
  rw [HG.out]
  clear h r1 k1
  go_enter Tryz.func93, Tryz.ntmps93
  go_wp2_with fail
  first | go_end0 | refine bodyPost_ret (results_none rfl _ _ _) rfl ?_
  exact ⟨rfl, _, _, _, _, HRow.out, HK.out, fun _ => ⟨rfl, rfl, rfl, rfl⟩, fun r h => by cases h⟩

set_option maxHeartbeats 6400000 in
theorem rfPushG3 (q : Nat) (at_ size task target hd t u n k x : Int) (took : List Int) (tk : Value) (won : Bool) (w : World) (h : Row w q 97 (rfCells ⟨at_, size, 1, task, target, 3, hd, t, u, n, k, took, none⟩ tk false 0 0 (.slice none 0 0))) (hu : M.U hd) (hx : M.U x) (wu : W32 u)  :
    Calls Tryz.prog 93 #[.pointer (some ⟨q, 0, none⟩), .int .u64 x, .bool won] w fun e w' => e = .returned (.tuple #[]) ∧ RfGoes q w (rgPushGive ⟨at_, size, 1, task, target, 3, hd, t, u, n, k, took, none⟩ x won) tk w' := by
  have c1 := h.cell (j := 1) rfl
  have c5 := h.cell (j := 5) rfl
  have c6 := h.cell (j := 6) rfl
  have c7 := h.cell (j := 7) rfl
  have c8 := h.cell (j := 8) rfl
  have c9 := h.cell (j := 9) rfl
  have c10 := h.cell (j := 10) rfl
  have f5 := h.frozen 5
  have f6 := h.frozen 6
  have f7 := h.frozen 7
  have f8 := h.frozen 8
  have f9 := h.frozen 9
  have f10 := h.frozen 10
  simp only at c1 c5 c6 c7 c8 c9 c10
  have hlx := rgLo_range x
  have hhx := rgHi_range hx
  have hlh := rgLo_range hd
  have hhh := rgHi_range hu
  have HLo : Hid (∀ W, Calls Tryz.prog 63 #[.int .u64 x] W fun e w' => e = .returned (.int .u32 (rgLo x)) ∧ W = w') := Lib.hid (fun W => refLo_any x W hx.nn)
  have HHi : Hid (∀ W, Calls Tryz.prog 125 #[.int .u64 x] W fun e w' => e = .returned (.int .u32 (rgHi x)) ∧ W = w') := Lib.hid (fun W => refHi_any x W hx.nn hx)
  obtain ⟨W1, hW1⟩ : ∃ W1, (w).setCell ⟨q, 5, none⟩ (.int .i64 4) = W1 := ⟨_, rfl⟩
  have k1 : Keeps [q] w W1 := by rw [← hW1]; exact (Keeps.refl [q] w).set (by simp) _ _
  have r1 : Row W1 q 97 (rfCells ⟨at_, size, 1, task, target, 4, hd, t, u, n, k, took, none⟩ tk false 0 0 (.slice none 0 0)) := by rw [← hW1]; exact (h).set 5 _
  have HAt0a := Lib.hid (rfAt_any q _ _ _ _ _ _ w h hu)
  have HSa := Lib.hid (rfS_any q _ _ _ _ _ _ w h hu)
  have HAt0b := Lib.hid (rfAt_any q _ _ _ _ _ _ W1 r1 hu)
  have HSb := Lib.hid (rfS_any q _ _ _ _ _ _ W1 r1 hu)
  have d1 := r1.cell (j := 1) rfl
  have g1 := r1.frozen 1
  have d5 := r1.cell (j := 5) rfl
  have g5 := r1.frozen 5
  have d6 := r1.cell (j := 6) rfl
  have g6 := r1.frozen 6
  have d7 := r1.cell (j := 7) rfl
  have g7 := r1.frozen 7
  have d8 := r1.cell (j := 8) rfl
  have g8 := r1.frozen 8
  have d9 := r1.cell (j := 9) rfl
  have g9 := r1.frozen 9
  have d10 := r1.cell (j := 10) rfl
  have g10 := r1.frozen 10
  simp only at d1 d5 d6 d7 d8 d9 d10
  have HRow : Hid (Row (W1) q 97 (rfCells ⟨at_, size, 1, task, target, 4, hd, t, u, n, k, took, none⟩ tk false 0 0 (.slice none 0 0))) := Lib.hid (r1)
  have HK : Hid (Keeps [q] w (W1)) := Lib.hid (k1)
  have HG : Hid (rgPushGive ⟨at_, size, 1, task, target, 3, hd, t, u, n, k, took, none⟩ x won = ⟨at_, size, 1, task, target, 4, hd, t, u, n, k, took, none⟩) := Lib.hid (by simp [rgPushGive])
  rw [HG.out]
  clear h r1 k1
  go_enter Tryz.func93, Tryz.ntmps93
  go_wp2_with fail
  first | go_end0 | refine bodyPost_ret (results_none rfl _ _ _) rfl ?_
  exact ⟨rfl, _, _, _, _, HRow.out, HK.out, fun _ => ⟨rfl, rfl, rfl, rfl⟩, fun r h => by cases h⟩

set_option maxHeartbeats 6400000 in
theorem rfPushG4 (q : Nat) (at_ size task target hd t u n k x : Int) (took : List Int) (tk : Value) (won : Bool) (w : World) (h : Row w q 97 (rfCells ⟨at_, size, 1, task, target, 4, hd, t, u, n, k, took, none⟩ tk false 0 0 (.slice none 0 0))) (hu : M.U hd) (hx : M.U x) (wu : W32 u)  :
    Calls Tryz.prog 93 #[.pointer (some ⟨q, 0, none⟩), .int .u64 x, .bool won] w fun e w' => e = .returned (.tuple #[]) ∧ RfGoes q w (rgPushGive ⟨at_, size, 1, task, target, 4, hd, t, u, n, k, took, none⟩ x won) tk w' := by
  have c1 := h.cell (j := 1) rfl
  have c5 := h.cell (j := 5) rfl
  have c6 := h.cell (j := 6) rfl
  have c7 := h.cell (j := 7) rfl
  have c8 := h.cell (j := 8) rfl
  have c9 := h.cell (j := 9) rfl
  have c10 := h.cell (j := 10) rfl
  have f5 := h.frozen 5
  have f6 := h.frozen 6
  have f7 := h.frozen 7
  have f8 := h.frozen 8
  have f9 := h.frozen 9
  have f10 := h.frozen 10
  simp only at c1 c5 c6 c7 c8 c9 c10
  have hlx := rgLo_range x
  have hhx := rgHi_range hx
  have hlh := rgLo_range hd
  have hhh := rgHi_range hu
  have HLo : Hid (∀ W, Calls Tryz.prog 63 #[.int .u64 x] W fun e w' => e = .returned (.int .u32 (rgLo x)) ∧ W = w') := Lib.hid (fun W => refLo_any x W hx.nn)
  have HHi : Hid (∀ W, Calls Tryz.prog 125 #[.int .u64 x] W fun e w' => e = .returned (.int .u32 (rgHi x)) ∧ W = w') := Lib.hid (fun W => refHi_any x W hx.nn hx)
  obtain ⟨W1, hW1⟩ : ∃ W1, w = W1 := ⟨_, rfl⟩
  have k1 : Keeps [q] w W1 := by rw [← hW1]; exact Keeps.refl [q] w
  have r1 : Row W1 q 97 (rfCells ⟨at_, size, 1, task, target, 4, hd, t, u, n, k, took, none⟩ tk false 0 0 (.slice none 0 0)) := by rw [← hW1]; exact h
  have HAt0a := Lib.hid (rfAt_any q _ _ _ _ _ _ w h hu)
  have HSa := Lib.hid (rfS_any q _ _ _ _ _ _ w h hu)
  have HAt0b := Lib.hid (rfAt_any q _ _ _ _ _ _ W1 r1 hu)
  have HSb := Lib.hid (rfS_any q _ _ _ _ _ _ W1 r1 hu)
  have d1 := r1.cell (j := 1) rfl
  have g1 := r1.frozen 1
  have d5 := r1.cell (j := 5) rfl
  have g5 := r1.frozen 5
  have d6 := r1.cell (j := 6) rfl
  have g6 := r1.frozen 6
  have d7 := r1.cell (j := 7) rfl
  have g7 := r1.frozen 7
  have d8 := r1.cell (j := 8) rfl
  have g8 := r1.frozen 8
  have d9 := r1.cell (j := 9) rfl
  have g9 := r1.frozen 9
  have d10 := r1.cell (j := 10) rfl
  have g10 := r1.frozen 10
  simp only at d1 d5 d6 d7 d8 d9 d10
  have HRow : Hid (Row (W1) q 97 (rfCells ⟨at_, size, 1, task, target, 4, hd, t, u, n, k, took, none⟩ tk false 0 0 (.slice none 0 0))) := Lib.hid (r1)
  have HK : Hid (Keeps [q] w (W1)) := Lib.hid (k1)
  have HG : Hid (rgPushGive ⟨at_, size, 1, task, target, 4, hd, t, u, n, k, took, none⟩ x won = ⟨at_, size, 1, task, target, 4, hd, t, u, n, k, took, some ⟨0, 0, []⟩⟩) := Lib.hid (by simp [rgPushGive])
  rw [HG.out]
  have HN := Lib.hid (rfEnd_any q _ tk _ _ _ _ 0 _ HRow.out)
  clear h r1 k1
  go_enter Tryz.func93, Tryz.ntmps93
  go_wp2_with fail
  refine HN.out.mono ?_
  rintro e w2 ⟨rfl, r2, k2⟩
  have HQ := Lib.hid (⟨r2, k2⟩ : _ ∧ _)
  clear r2 k2
  go_wp2
  first | go_end0 | refine bodyPost_ret (results_none rfl _ _ _) rfl ?_
  exact ⟨rfl, _, _, _, _, HQ.out.1, HK.out.trans HQ.out.2, fun h => (by cases h), fun r h _ => (by cases h; exact ⟨rfl, rfl, rfl, rfl⟩)⟩

set_option maxHeartbeats 6400000 in
theorem rfPushG5Won (q : Nat) (at_ size task target hd t u n k x : Int) (took : List Int) (tk : Value) (w : World) (h : Row w q 97 (rfCells ⟨at_, size, 1, task, target, 5, hd, t, u, n, k, took, none⟩ tk false 0 0 (.slice none 0 0))) (hu : M.U hd) (hx : M.U x) (wu : W32 u)  :
    Calls Tryz.prog 93 #[.pointer (some ⟨q, 0, none⟩), .int .u64 x, .bool true] w fun e w' => e = .returned (.tuple #[]) ∧ RfGoes q w (rgPushGive ⟨at_, size, 1, task, target, 5, hd, t, u, n, k, took, none⟩ x true) tk w' := by
  have c1 := h.cell (j := 1) rfl
  have c5 := h.cell (j := 5) rfl
  have c6 := h.cell (j := 6) rfl
  have c7 := h.cell (j := 7) rfl
  have c8 := h.cell (j := 8) rfl
  have c9 := h.cell (j := 9) rfl
  have c10 := h.cell (j := 10) rfl
  have f5 := h.frozen 5
  have f6 := h.frozen 6
  have f7 := h.frozen 7
  have f8 := h.frozen 8
  have f9 := h.frozen 9
  have f10 := h.frozen 10
  simp only at c1 c5 c6 c7 c8 c9 c10
  have hlx := rgLo_range x
  have hhx := rgHi_range hx
  have hlh := rgLo_range hd
  have hhh := rgHi_range hu
  have HLo : Hid (∀ W, Calls Tryz.prog 63 #[.int .u64 x] W fun e w' => e = .returned (.int .u32 (rgLo x)) ∧ W = w') := Lib.hid (fun W => refLo_any x W hx.nn)
  have HHi : Hid (∀ W, Calls Tryz.prog 125 #[.int .u64 x] W fun e w' => e = .returned (.int .u32 (rgHi x)) ∧ W = w') := Lib.hid (fun W => refHi_any x W hx.nn hx)
  obtain ⟨W1, hW1⟩ : ∃ W1, (w).setCell ⟨q, 5, none⟩ (.int .i64 6) = W1 := ⟨_, rfl⟩
  have k1 : Keeps [q] w W1 := by rw [← hW1]; exact (Keeps.refl [q] w).set (by simp) _ _
  have r1 : Row W1 q 97 (rfCells ⟨at_, size, 1, task, target, 6, hd, t, u, n, k, took, none⟩ tk false 0 0 (.slice none 0 0)) := by rw [← hW1]; exact (h).set 5 _
  have HAt0a := Lib.hid (rfAt_any q _ _ _ _ _ _ w h hu)
  have HSa := Lib.hid (rfS_any q _ _ _ _ _ _ w h hu)
  have HAt0b := Lib.hid (rfAt_any q _ _ _ _ _ _ W1 r1 hu)
  have HSb := Lib.hid (rfS_any q _ _ _ _ _ _ W1 r1 hu)
  have d1 := r1.cell (j := 1) rfl
  have g1 := r1.frozen 1
  have d5 := r1.cell (j := 5) rfl
  have g5 := r1.frozen 5
  have d6 := r1.cell (j := 6) rfl
  have g6 := r1.frozen 6
  have d7 := r1.cell (j := 7) rfl
  have g7 := r1.frozen 7
  have d8 := r1.cell (j := 8) rfl
  have g8 := r1.frozen 8
  have d9 := r1.cell (j := 9) rfl
  have g9 := r1.frozen 9
  have d10 := r1.cell (j := 10) rfl
  have g10 := r1.frozen 10
  simp only at d1 d5 d6 d7 d8 d9 d10
  have HRow : Hid (Row (W1) q 97 (rfCells ⟨at_, size, 1, task, target, 6, hd, t, u, n, k, took, none⟩ tk false 0 0 (.slice none 0 0))) := Lib.hid (r1)
  have HK : Hid (Keeps [q] w (W1)) := Lib.hid (k1)
  have HG : Hid (rgPushGive ⟨at_, size, 1, task, target, 5, hd, t, u, n, k, took, none⟩ x true = ⟨at_, size, 1, task, target, 6, hd, t, u, n, k, took, none⟩) := Lib.hid (by simp [rgPushGive])
  rw [HG.out]
  clear h r1 k1
  go_enter Tryz.func93, Tryz.ntmps93
  go_wp2_with fail
  first | go_end0 | refine bodyPost_ret (results_none rfl _ _ _) rfl ?_
  exact ⟨rfl, _, _, _, _, HRow.out, HK.out, fun _ => ⟨rfl, rfl, rfl, rfl⟩, fun r h => by cases h⟩

set_option maxHeartbeats 6400000 in
theorem rfPushG5Lost (q : Nat) (at_ size task target hd t u n k x : Int) (took : List Int) (tk : Value) (w : World) (h : Row w q 97 (rfCells ⟨at_, size, 1, task, target, 5, hd, t, u, n, k, took, none⟩ tk false 0 0 (.slice none 0 0))) (hu : M.U hd) (hx : M.U x) (wu : W32 u)  :
    Calls Tryz.prog 93 #[.pointer (some ⟨q, 0, none⟩), .int .u64 x, .bool false] w fun e w' => e = .returned (.tuple #[]) ∧ RfGoes q w (rgPushGive ⟨at_, size, 1, task, target, 5, hd, t, u, n, k, took, none⟩ x false) tk w' := by
  have c1 := h.cell (j := 1) rfl
  have c5 := h.cell (j := 5) rfl
  have c6 := h.cell (j := 6) rfl
  have c7 := h.cell (j := 7) rfl
  have c8 := h.cell (j := 8) rfl
  have c9 := h.cell (j := 9) rfl
  have c10 := h.cell (j := 10) rfl
  have f5 := h.frozen 5
  have f6 := h.frozen 6
  have f7 := h.frozen 7
  have f8 := h.frozen 8
  have f9 := h.frozen 9
  have f10 := h.frozen 10
  simp only at c1 c5 c6 c7 c8 c9 c10
  have hlx := rgLo_range x
  have hhx := rgHi_range hx
  have hlh := rgLo_range hd
  have hhh := rgHi_range hu
  have HLo : Hid (∀ W, Calls Tryz.prog 63 #[.int .u64 x] W fun e w' => e = .returned (.int .u32 (rgLo x)) ∧ W = w') := Lib.hid (fun W => refLo_any x W hx.nn)
  have HHi : Hid (∀ W, Calls Tryz.prog 125 #[.int .u64 x] W fun e w' => e = .returned (.int .u32 (rgHi x)) ∧ W = w') := Lib.hid (fun W => refHi_any x W hx.nn hx)
  obtain ⟨W1, hW1⟩ : ∃ W1, (((w).setCell ⟨q, 5, none⟩ (.int .i64 6)).setCell ⟨q, 6, none⟩ (.int .u64 x)).setCell ⟨q, 5, none⟩ (.int .i64 2) = W1 := ⟨_, rfl⟩
  have k1 : Keeps [q] w W1 := by rw [← hW1]; exact (((Keeps.refl [q] w).set (by simp) _ _).set (by simp) _ _).set (by simp) _ _
  have r1 : Row W1 q 97 (rfCells ⟨at_, size, 1, task, target, 2, x, t, u, n, k, took, none⟩ tk false 0 0 (.slice none 0 0)) := by rw [← hW1]; exact (((h).set 5 _).set 6 _).set 5 _
  have HAt0a := Lib.hid (rfAt_any q _ _ _ _ _ _ w h hu)
  have HSa := Lib.hid (rfS_any q _ _ _ _ _ _ w h hu)
  have d1 := r1.cell (j := 1) rfl
  have g1 := r1.frozen 1
  have d5 := r1.cell (j := 5) rfl
  have g5 := r1.frozen 5
  have d6 := r1.cell (j := 6) rfl
  have g6 := r1.frozen 6
  have d7 := r1.cell (j := 7) rfl
  have g7 := r1.frozen 7
  have d8 := r1.cell (j := 8) rfl
  have g8 := r1.frozen 8
  have d9 := r1.cell (j := 9) rfl
  have g9 := r1.frozen 9
  have d10 := r1.cell (j := 10) rfl
  have g10 := r1.frozen 10
  simp only at d1 d5 d6 d7 d8 d9 d10
  have HRow : Hid (Row (W1) q 97 (rfCells ⟨at_, size, 1, task, target, 2, x, t, u, n, k, took, none⟩ tk false 0 0 (.slice none 0 0))) := Lib.hid (r1)
  have HK : Hid (Keeps [q] w (W1)) := Lib.hid (k1)
  have HG : Hid (rgPushGive ⟨at_, size, 1, task, target, 5, hd, t, u, n, k, took, none⟩ x false = ⟨at_, size, 1, task, target, 2, x, t, u, n, k, took, none⟩) := Lib.hid (by simp [rgPushGive])
  rw [HG.out]
  clear h r1 k1
  go_enter Tryz.func93, Tryz.ntmps93
  go_wp2_with fail
  first | go_end0 | refine bodyPost_ret (results_none rfl _ _ _) rfl ?_
  exact ⟨rfl, _, _, _, _, HRow.out, HK.out, fun _ => ⟨rfl, rfl, rfl, rfl⟩, fun r h => by cases h⟩
end Go.Proofs.YtekpfhlaohcgeaaGreat
