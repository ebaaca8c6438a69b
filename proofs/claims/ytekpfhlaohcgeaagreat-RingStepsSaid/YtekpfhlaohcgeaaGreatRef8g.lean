/-
  Contracts: what a document's frame of a ring is told (Push and Pop).
-/
import Derived.Test.YtekpfhlaohcgeaaGreatRef8
namespace Go.Proofs.YtekpfhlaohcgeaaGreat
set_option maxRecDepth 100000
set_option linter.unusedSimpArgs false
set_option linter.unusedVariables false
open Go.ChangeShapes Go.WideShapes Go.ChangeAt Go.RowKit

/-- Where a frame leads. -/
def RfGoes (q : Nat) (w : World) (s : RgS) (tk : Value) (w' : World) : Prop := ∃ dn c v l, Row w' q 97 (rfCells s tk dn c v l) ∧ Keeps [q] w w' ∧ (s.over = none → dn = false ∧ c = 0 ∧ v = 0 ∧ l = .slice none 0 0) ∧ ∀ r, s.over = some r → r.l = [] → dn = true ∧ c = r.code ∧ v = r.v ∧ l = .slice none 0 0
set_option maxHeartbeats 6400000 in
theorem rfPopGive (q : Nat) (s : RgS) (tk : Value) (x : Int) (won : Bool) (w : World) (h : Row w q 97 (rfCells s tk false 0 0 (.slice none 0 0))) (ho : s.over = none) (hst : s.step = 1 ∨ s.step = 2 ∨ s.step = 3 ∨ s.step = 4) (hu : M.U s.h) (hx : M.U x) :
    Calls Tryz.prog 94 #[.pointer (some ⟨q, 0, none⟩), .int .u64 x, .bool won] w fun e w' => e = .returned (.tuple #[]) ∧ RfGoes q w (rgPopGive s x won) tk w' := by
  obtain ⟨at_, size, kind, task, target, step, hd, t, u, n, k, took, over⟩ := s
  simp only at ho hst hu
  subst ho
  have c5 := h.cell (j := 5) rfl
  have c6 := h.cell (j := 6) rfl
  have f5 := h.frozen 5
  have f6 := h.frozen 6
  simp only at c5 c6
  have HR := Lib.hid h
  have hlx := rgLo_range x
  have hlh := rgLo_range hd
  have HE := Lib.hid (fun s dn c v l y W h => rfEnd_any q s tk l dn c v y W h)
  rcases hst with rfl | rfl | rfl | rfl
  · have hrow := (h.set 6 (.int .u64 x)).set 5 (.int .i64 2)
    have HRow : Hid (Row ((w.setCell ⟨q, 6, none⟩ (.int .u64 x)).setCell ⟨q, 5, none⟩ (.int .i64 2)) q 97 (rfCells ⟨at_, size, kind, task, target, 2, x, t, u, n, k, took, none⟩ tk false 0 0 (.slice none 0 0))) := Lib.hid hrow
    have HG : Hid (rgPopGive ⟨at_, size, kind, task, target, 1, hd, t, u, n, k, took, none⟩ x won = ⟨at_, size, kind, task, target, 2, x, t, u, n, k, took, none⟩) := Lib.hid (by simp [rgPopGive])
    rw [HG.out]
    clear h hrow
    go_enter Tryz.func94, Tryz.ntmps94
    go_wp2
    first | go_end0 | refine bodyPost_ret (results_none rfl _ _ _) rfl ?_
    exact ⟨rfl, _, _, _, _, HRow.out, ((Keeps.refl [q] w).set (by simp) _ _).set (by simp) _ _, fun _ => ⟨rfl, rfl, rfl, rfl⟩, fun r h => by cases h⟩
  · obtain ⟨W1, hW1⟩ : ∃ W1, w.setCell ⟨q, 5, none⟩ (.int .i64 3) = W1 := ⟨_, rfl⟩
    have k1 : Keeps [q] w W1 := by rw [← hW1]; exact (Keeps.refl _ _).set (by simp) _ _
    have r1 : Row W1 q 97 (rfCells ⟨at_, size, kind, task, target, 3, hd, t, u, n, k, took, none⟩ tk false 0 0 (.slice none 0 0)) := by rw [← hW1]; exact h.set 5 _
    have HRow := Lib.hid r1
    have HK := Lib.hid k1
    have HA := Lib.hid (rfAt_any q _ _ _ _ _ _ W1 r1 hu)
    have HLo : Hid (∀ W, Calls Tryz.prog 63 #[.int .u64 x] W fun e w' => e = .returned (.int .u32 (rgLo x)) ∧ W = w') := Lib.hid (fun W => refLo_any x W hx.nn)
    have HAh := Lib.hid (fun W => refAhead_any (rgLo x) (rgLo hd) W hlx.1 hlx.2 hlh.1 hlh.2)
    by_cases hA : M.aheadI (rgLo x) (rgLo hd) < 1
    · have HG : Hid (rgPopGive ⟨at_, size, kind, task, target, 2, hd, t, u, n, k, took, none⟩ x won = ⟨at_, size, kind, task, target, 3, hd, t, u, n, k, took, some ⟨5, 0, []⟩⟩) := Lib.hid (by simp [rgPopGive, hA])
      rw [HG.out]
      have dA : decide (M.aheadI (rgLo x) (rgLo hd) < 1) = true := decide_eq_true hA
      have HN := Lib.hid (HE.out _ _ _ _ _ 5 W1 r1)
      clear h k1 r1
      go_enter Tryz.func94, Tryz.ntmps94
      go_wp2_with (first | (go_at_call 63; refine (HLo.out _).mono ?_; rintro e w2 ⟨rfl, rfl⟩) | (go_at_call 123; refine (HA.out).mono ?_; rintro e w2 ⟨rfl, rfl⟩) | (go_at_call 64; refine (HAh.out _).mono ?_; rintro e w2 ⟨rfl, rfl⟩) | fail)
      refine HN.out.mono ?_
      rintro e w2 ⟨rfl, r2, k2⟩
      have HQ := Lib.hid (⟨r2, k2⟩ : _ ∧ _)
      clear r2 k2
      go_wp2
      first | go_end0 | refine bodyPost_ret (results_none rfl _ _ _) rfl ?_
      exact ⟨rfl, _, _, _, _, HQ.out.1, HK.out.trans HQ.out.2, fun h => (by cases h), fun r h _ => (by cases h; exact ⟨rfl, rfl, rfl, rfl⟩)⟩
    · have HG : Hid (rgPopGive ⟨at_, size, kind, task, target, 2, hd, t, u, n, k, took, none⟩ x won = ⟨at_, size, kind, task, target, 3, hd, t, u, n, k, took, none⟩) := Lib.hid (by simp [rgPopGive, hA])
      rw [HG.out]
      have dA : decide (M.aheadI (rgLo x) (rgLo hd) < 1) = false := decide_eq_false hA
      clear h k1 r1
      go_enter Tryz.func94, Tryz.ntmps94
      go_wp2_with (first | (go_at_call 63; refine (HLo.out _).mono ?_; rintro e w2 ⟨rfl, rfl⟩) | (go_at_call 123; refine (HA.out).mono ?_; rintro e w2 ⟨rfl, rfl⟩) | (go_at_call 64; refine (HAh.out _).mono ?_; rintro e w2 ⟨rfl, rfl⟩) | fail)
      first | go_end0 | refine bodyPost_ret (results_none rfl _ _ _) rfl ?_
      exact ⟨rfl, _, _, _, _, HRow.out, HK.out, fun _ => ⟨rfl, rfl, rfl, rfl⟩, fun r h => by cases h⟩
  · cases won with
    | true =>
      have HRow : Hid (Row (w.setCell ⟨q, 5, none⟩ (.int .i64 4)) q 97 (rfCells ⟨at_, size, kind, task, target, 4, hd, t, u, n, k, took, none⟩ tk false 0 0 (.slice none 0 0))) := Lib.hid (h.set 5 _)
      have HG : Hid (rgPopGive ⟨at_, size, kind, task, target, 3, hd, t, u, n, k, took, none⟩ x true = ⟨at_, size, kind, task, target, 4, hd, t, u, n, k, took, none⟩) := Lib.hid (by simp [rgPopGive])
      rw [HG.out]
      clear h
      go_enter Tryz.func94, Tryz.ntmps94
      go_wp2
      first | go_end0 | refine bodyPost_ret (results_none rfl _ _ _) rfl ?_
      exact ⟨rfl, _, _, _, _, HRow.out, (Keeps.refl [q] w).set (by simp) _ _, fun _ => ⟨rfl, rfl, rfl, rfl⟩, fun r h => by cases h⟩
    | false =>
      have HRow : Hid (Row (((w.setCell ⟨q, 5, none⟩ (.int .i64 4)).setCell ⟨q, 6, none⟩ (.int .u64 x)).setCell ⟨q, 5, none⟩ (.int .i64 2)) q 97 (rfCells ⟨at_, size, kind, task, target, 2, x, t, u, n, k, took, none⟩ tk false 0 0 (.slice none 0 0))) := Lib.hid (((h.set 5 _).set 6 _).set 5 _)
      have HG : Hid (rgPopGive ⟨at_, size, kind, task, target, 3, hd, t, u, n, k, took, none⟩ x false = ⟨at_, size, kind, task, target, 2, x, t, u, n, k, took, none⟩) := Lib.hid (by simp [rgPopGive])
      rw [HG.out]
      clear h
      go_enter Tryz.func94, Tryz.ntmps94
      go_wp2
      first | go_end0 | refine bodyPost_ret (results_none rfl _ _ _) rfl ?_
      exact ⟨rfl, _, _, _, _, HRow.out, ((((Keeps.refl [q] w).set (by simp) _ _).set (by simp) _ _).set (by simp) _ _), fun _ => ⟨rfl, rfl, rfl, rfl⟩, fun r h => by cases h⟩
  · have HG : Hid (rgPopGive ⟨at_, size, kind, task, target, 4, hd, t, u, n, k, took, none⟩ x won = ⟨at_, size, kind, task, target, 4, hd, t, u, n, k, took, some ⟨0, x, []⟩⟩) := Lib.hid (by simp [rgPopGive])
    rw [HG.out]
    have HN := Lib.hid (HE.out _ _ _ _ _ 0 w h)
    clear h
    go_enter Tryz.func94, Tryz.ntmps94
    go_wp2_with fail
    refine HN.out.mono ?_
    rintro e w2 ⟨rfl, r2, k2⟩
    have c14 := r2.cell (j := 14) rfl
    have f14 := r2.frozen 14
    have HQ := Lib.hid (⟨r2.set 14 (.int .u64 x), k2⟩ : _ ∧ _)
    clear r2 k2
    go_wp2
    first | go_end0 | refine bodyPost_ret (results_none rfl _ _ _) rfl ?_
    exact ⟨rfl, _, _, _, _, HQ.out.1, HQ.out.2.set (by simp) _ _, fun h => (by cases h), fun r h _ => (by cases h; exact ⟨rfl, rfl, rfl, rfl⟩)⟩
end Go.Proofs.YtekpfhlaohcgeaaGreat
