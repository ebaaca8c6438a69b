import Derived.Test.YtjfgpplnlepnoaaGreatSeen
import Derived.Test.YtjfgpplnlepnoaaGreatDqM
import Derived.IntWalk
import Derived.Deep.CutRange
import Derived.Test.YtjfgpplnlepnoaaGreatDraw
import Derived.Test.YtjfgpplnlepnoaaGreatFresh
import Derived.Test.YtjfgpplnlepnoaaGreatMach
/-
  Contracts: the document's frames of a deque go as the machine of Push, Pop and Steal goes.
-/
namespace Go.Proofs.YtjfgpplnlepnoaaGreat
set_option maxRecDepth 100000
set_option linter.unusedSimpArgs false
set_option linter.unusedVariables false
open Go.ChangeShapes Go.WideShapes Go.ChangeAt Go.RowKit

def dqCells (s : DqS) : List Value := [.int .i64 s.at_, .int .i64 s.size, .int .i64 s.kind, .int .u64 s.task, .int .i64 s.step, .int .u64 s.b, .int .u64 s.t, .int .u64 s.v, .bool s.won, .bool s.over.isSome, .int .i64 (s.over.getD Rs.zero).code, .int .u64 (s.over.getD Rs.zero).v, .slice none 0 0]
def refDqJ (p : Nat) (w : World) (S : List Nat) (s : DqS) : Prop :=
  S = [p] ∧ Row w p 152 (dqCells s) ∧ (∀ r, s.over = some r → r.l = []) ∧
    (s.over = none → dqRight s.at_ s.size ∧ (s.kind = 1 ∧ (s.step = 1 ∨ s.step = 2 ∨ s.step = 3 ∨ s.step = 4) ∨ s.kind = 2 ∧ (s.step = 1 ∨ s.step = 2 ∨ s.step = 3 ∨ s.step = 4 ∨ s.step = 5 ∨ s.step = 6) ∨ s.kind = 3 ∧ (s.step = 1 ∨ s.step = 2 ∨ s.step = 3 ∨ s.step = 4))) ∧
    M.U s.task ∧ M.U s.b ∧ M.U s.t ∧ M.U s.v

theorem refDqEnd_any (p : Nat) (s : DqS) (code v : Int) (w : World) (h : Row w p 152 (dqCells s)) :
    Calls Tryz.prog 87 #[.pointer (some ⟨p, 0, none⟩), .int .i64 code, .int .u64 v] w fun e w' => e = .returned (.tuple #[]) ∧ Row w' p 152 (dqCells { s with over := some ⟨code, v, []⟩ }) ∧ Keeps [p] w w' := by
  have h9 := h.cell (j := 9) rfl
  have h10 := h.cell (j := 10) rfl
  have h11 := h.cell (j := 11) rfl
  have h12 := h.cell (j := 12) rfl
  have f9 := h.frozen 9
  have f10 := h.frozen 10
  have f11 := h.frozen 11
  have f12 := h.frozen 12
  have HR := Lib.hid h
  clear h
  go_enter Tryz.func87, Tryz.ntmps87
  go_wp2
  first | go_end0 | refine bodyPost_ret (results_none rfl _ _ _) rfl ?_
  exact ⟨rfl, (((HR.out.set 9 (.bool true)).set 10 (.int .i64 code)).set 11 (.int .u64 v)).set 12 (.slice none 0 0), (((((Keeps.refl [p] w).set (by simp) _ _).set (by simp) _ _).set (by simp) _ _).set (by simp) _ _)⟩

theorem refDqAhead_any (b t : Int) (w : World) (hb : M.U b) (ht : M.U t) :
    Calls Tryz.prog 115 #[.int .u64 b, .int .u64 t] w fun e w' => e = .returned (.int .i64 (dqAhead b t)) ∧ w = w' := by
  have b0 := hb.nn
  have b1 := hb.lt
  have t0 := ht.nn
  have t1 := ht.lt
  have hw : IntKind.i64.wrap (IntKind.u64.wrap (b - t)) = dqAhead b t := by
    unfold dqAhead
    simp [IntKind.wrap, IntKind.signed, IntKind.bits]
    split <;> omega
  go_enter Tryz.func115, Tryz.ntmps115
  go_wp2
  go_ret
  exact ⟨rfl, rfl⟩
theorem refDqSlot_any (at_ size n : Int) (w : World) (hr : dqRight at_ size) (hn : M.U n) :
    Calls Tryz.prog 116 #[.int .i64 at_, .int .i64 size, .int .u64 n] w fun e w' => e = .returned (.int .i64 (dqSlot at_ size n)) ∧ w = w' := by
  obtain ⟨hs, a0, a1⟩ := hr
  have n0 := hn.nn
  have hs0 : 0 < size ∧ size ≤ 256 := by omega
  obtain ⟨q, hq⟩ : ∃ q, n % size = q := ⟨_, rfl⟩
  have q0 : 0 ≤ q := by rw [← hq]; exact Int.emod_nonneg n (by omega)
  have q1 : q < size := by rw [← hq]; exact Int.emod_lt_of_pos n (by omega)
  have HS : Hid (dqSlot at_ size n = at_ + 2 + q) := Lib.hid (by unfold dqSlot; rw [hq])
  rw [HS.out]
  have hw64 : IntKind.u64.wrap size = size := by show size % 18446744073709551616 = size; omega
  clear hs hn
  go_enter Tryz.func116, Tryz.ntmps116
  go_wp2
  go_ret
  exact ⟨rfl, rfl⟩

theorem refDq_over (p : Nat) (s : DqS) (w : World) (S : List Nat) (h : refDqJ p w S s) :
    Calls Tryz.prog 101 #[.pointer (some ⟨p, 0, none⟩)] w fun e w' => ∃ q n c,
      e = .returned (.tuple #[.agg #[.int .i64 ((dequeM.res s).getD Rs.zero).code, .int .u64 ((dequeM.res s).getD Rs.zero).v, .slice q n c], .bool (dequeM.res s).isSome]) ∧ Keeps [] w w' ∧
      ∀ r, dequeM.res s = some r → Sl w' 1 (.slice q n c) r.l.length (ints .u64 r.l) ∧ r.l.length ≤ maxLen ∧ ∀ g, (Value.slice q n c).ownBlock = some g → g ∈ S ∨ w.heap.size ≤ g := by
  obtain ⟨-, hrow, hnil, -⟩ := h
  have hlt := hrow.lt
  have fin : ∀ w' r, dequeM.res s = some r → Sl w' 1 (.slice none 0 0) r.l.length (ints .u64 r.l) ∧ r.l.length ≤ maxLen ∧ ∀ g, (Value.slice none 0 0).ownBlock = some g → g ∈ S ∨ w.heap.size ≤ g := by
    intro w' r hr
    have := hnil r hr
    rw [this]
    exact ⟨⟨rfl, .inl ⟨_, _, rfl, rfl⟩⟩, Nat.zero_le _, fun g hg => by cases hg⟩
  have HF := Lib.hid fin
  obtain ⟨rr, hrr⟩ : ∃ rr, (dequeM.res s).getD Rs.zero = rr := ⟨_, rfl⟩
  obtain ⟨br, hbr⟩ : ∃ br, (dequeM.res s).isSome = br := ⟨_, rfl⟩
  obtain ⟨W0, hW0⟩ : ∃ W0, w.alloc (.cells #[.int .i64 0, .int .u64 0, .slice none 0 0] 66) = W0 := ⟨_, rfl⟩
  have k0 : Keeps [] w W0 := by rw [← hW0]; exact (Keeps.refl _ _).alloc _
  have r0 : Row W0 w.heap.size 66 [.int .i64 0, .int .u64 0, .slice none 0 0] := by rw [← hW0]; exact Row.new _ _ _
  have hr0 := hrow.keeps k0 (by simp)
  have c7 := hr0.cell (j := 9) rfl
  have c8 := hr0.cell (j := 10) rfl
  have c9 := hr0.cell (j := 11) rfl
  have c10 := hr0.cell (j := 12) rfl
  rw [show s.over.getD Rs.zero = rr from hrr] at c8 c9
  rw [show s.over.isSome = br from hbr] at c7
  rw [hrr, hbr]
  have q0 := r0.cell (j := 0) rfl
  have q1 := r0.cell (j := 1) rfl
  have q2 := r0.cell (j := 2) rfl
  have e0 := r0.frozen 0
  have e1 := r0.frozen 1
  have e2 := r0.frozen 2
  have hl0 := r0.lt
  have HK := Lib.hid k0
  clear hrow hnil fin hrr hbr hr0 r0 k0
  go_enter Tryz.func101, Tryz.ntmps101
  go_wp2
  go_region
  go_wp2
  refine bodyPost_ret (v := .tuple #[.agg #[.int .i64 rr.code, .int .u64 rr.v, .slice none 0 0], .bool br]) (by simp [results, Tryz.results101, go_sem, q0, q1, q2]) rfl ⟨none, 0, 0, rfl, ?_, HF.out _⟩
  exact HK.out.drew.step (S := [w.heap.size]) ((((Keeps.refl _ _).set (by simp) _ _).set (by simp) _ _).set (by simp) _ _) (by simp)
end Go.Proofs.YtjfgpplnlepnoaaGreat

/-
  Contracts: the steps of the document's frames of a deque.
-/
namespace Go.Proofs.YtjfgpplnlepnoaaGreat
set_option maxRecDepth 100000
set_option linter.unusedSimpArgs false
set_option linter.unusedVariables false
open Go.ChangeShapes Go.WideShapes Go.ChangeAt Go.RowKit

set_option maxHeartbeats 1600000 in
theorem refDq_push (p : Nat) (s : DqS) (v : Int) (won : Bool) (w : World) (h : Row w p 152 (dqCells s)) (ho : s.over = none) (hk : s.kind = 1) (hst : s.step = 1 ∨ s.step = 2 ∨ s.step = 3 ∨ s.step = 4) (hr : dqRight s.at_ s.size) (hb : M.U s.b) (hv : M.U v) :
    Calls Tryz.prog 153 #[.pointer (some ⟨p, 0, none⟩), .int .u64 v] w fun e w' => e = .returned (.tuple #[]) ∧ Row w' p 152 (dqCells (dqGive s v won)) ∧ Keeps [p] w w' := by
  obtain ⟨at_, size, kind, task, step, b, t, vv, won0, over⟩ := s
  simp only at ho hk hst hr hb
  subst ho hk
  have HE := Lib.hid (fun s c u W h => refDqEnd_any p s c u W h)
  have HA := Lib.hid (fun W => refDqAhead_any b v W hb hv)
  have c1 := h.cell (j := 1) rfl
  have c4 := h.cell (j := 4) rfl
  have c5 := h.cell (j := 5) rfl
  have c6 := h.cell (j := 6) rfl
  have f4 := h.frozen 4
  have f5 := h.frozen 5
  have f6 := h.frozen 6
  simp only at c1 c4 c5 c6
  have HR := Lib.hid h
  have hs2 : 2 ≤ size ∧ size ≤ 256 := by obtain ⟨h1, -⟩ := hr; omega
  clear h hb hv hr
  rcases hst with rfl | rfl | rfl | rfl
  · have HG : Hid (dqGive ⟨at_, size, 1, task, 1, b, t, vv, won0, none⟩ v won = ⟨at_, size, 1, task, 2, v, t, vv, won0, none⟩) := Lib.hid rfl
    rw [HG.out]
    have hrow := (HR.out.set 5 (.int .u64 v)).set 4 (.int .i64 2)
    have HRow := Lib.hid hrow
    clear hrow
    go_enter Tryz.func153, Tryz.ntmps153
    go_wp2
    first | go_end0 | refine bodyPost_ret (results_none rfl _ _ _) rfl ?_
    exact ⟨rfl, HRow.out, ((Keeps.refl [p] w).set (by simp) _ _).set (by simp) _ _⟩
  · obtain ⟨d, hd⟩ : ∃ d, dqAhead b v = d := ⟨_, rfl⟩
    have hrow := HR.out.set 6 (.int .u64 v)
    obtain ⟨W1, hW1⟩ : ∃ W1, w.setCell ⟨p, 6, none⟩ (.int .u64 v) = W1 := ⟨_, rfl⟩
    have k1 : Keeps [p] w W1 := by rw [← hW1]; exact (Keeps.refl _ _).set (by simp) _ _
    rw [hW1] at hrow
    have r1 : Row W1 p 152 (dqCells ⟨at_, size, 1, task, 2, b, v, vv, won0, none⟩) := hrow
    have e1 := r1.cell (j := 1) rfl
    have e4 := r1.cell (j := 4) rfl
    have e5 := r1.cell (j := 5) rfl
    have e6 := r1.cell (j := 6) rfl
    have g4 := r1.frozen 4
    simp only at e1 e4 e5 e6
    have HR1 := Lib.hid r1
    have HK1 := Lib.hid k1
    rw [hd] at HA
    clear hrow r1 k1
    by_cases hf : size ≤ d
    · have HG : Hid (dqGive ⟨at_, size, 1, task, 2, b, t, vv, won0, none⟩ v won = ⟨at_, size, 1, task, 3, b, v, vv, won0, some ⟨4, 0, []⟩⟩) := Lib.hid (by simp [dqGive, hd, hf])
      rw [HG.out]
      have dd : decide (size ≤ d) = true := decide_eq_true hf
      clear hd
      go_enter Tryz.func153, Tryz.ntmps153
      go_wp2
      refine wp_region_mid 13 (by kernel_rfl) (by kernel_rfl) ?_
      simp only [List.take_succ_cons, List.take_zero, List.drop_succ_cons, List.drop_zero]
      repeat still_step
      still_call (stillOf (HA.out _))
      repeat still_step
      refine wpStill_nil ?_
      go_wp2
      show wpStill _ _ _ _ _ _
      repeat still_step
      refine wpStill_nil ?_
      go_wp2_with fail
      refine (HE.out _ 4 0 W1.drew HR1.out).mono ?_
      rintro e w2 ⟨rfl, hr2, k2⟩
      have x4 := hr2.cell (j := 4) rfl
      have y4 := hr2.frozen 4
      simp only at x4
      have HQ := Lib.hid (⟨hr2.set 4 (.int .i64 3), HK1.out.trans (k2.undrew)⟩ : _ ∧ _)
      clear hr2 k2
      go_wp2
      first | go_end0 | refine bodyPost_ret (results_none rfl _ _ _) rfl ?_
      exact ⟨rfl, HQ.out.1, HQ.out.2.set (by simp) _ _⟩
    · have HG : Hid (dqGive ⟨at_, size, 1, task, 2, b, t, vv, won0, none⟩ v won = ⟨at_, size, 1, task, 3, b, v, vv, won0, none⟩) := Lib.hid (by simp [dqGive, hd, hf])
      rw [HG.out]
      have dd : decide (size ≤ d) = false := decide_eq_false hf
      clear hd
      go_enter Tryz.func153, Tryz.ntmps153
      go_wp2
      refine wp_region_mid 13 (by kernel_rfl) (by kernel_rfl) ?_
      simp only [List.take_succ_cons, List.take_zero, List.drop_succ_cons, List.drop_zero]
      repeat still_step
      still_call (stillOf (HA.out _))
      repeat still_step
      refine wpStill_nil ?_
      go_wp2
      show wpStill _ _ _ _ _ _
      repeat still_step
      refine wpStill_nil ?_
      go_wp2
      first | go_end0 | refine bodyPost_ret (results_none rfl _ _ _) rfl ?_
      exact ⟨rfl, (HR1.out.keeps (Keeps.refl [] W1).drew (by simp)).set 4 _, (HK1.out.trans ((Keeps.refl [p] W1).drew)).set (by simp) _ _⟩
  · have HG : Hid (dqGive ⟨at_, size, 1, task, 3, b, t, vv, won0, none⟩ v won = ⟨at_, size, 1, task, 4, b, t, vv, won0, none⟩) := Lib.hid rfl
    rw [HG.out]
    go_enter Tryz.func153, Tryz.ntmps153
    go_wp2
    first | go_end0 | refine bodyPost_ret (results_none rfl _ _ _) rfl ?_
    exact ⟨rfl, HR.out.set 4 _, (Keeps.refl [p] w).set (by simp) _ _⟩
  · have HG : Hid (dqGive ⟨at_, size, 1, task, 4, b, t, vv, won0, none⟩ v won = ⟨at_, size, 1, task, 5, b, t, vv, won0, some ⟨0, 0, []⟩⟩) := Lib.hid rfl
    rw [HG.out]
    go_enter Tryz.func153, Tryz.ntmps153
    go_wp2_with fail
    refine (HE.out _ 0 0 w HR.out).mono ?_
    rintro e w2 ⟨rfl, hr2, k2⟩
    have x4 := hr2.cell (j := 4) rfl
    have y4 := hr2.frozen 4
    simp only at x4
    have HQ := Lib.hid (⟨hr2.set 4 (.int .i64 5), k2⟩ : _ ∧ _)
    clear hr2 k2
    go_wp2
    first | go_end0 | refine bodyPost_ret (results_none rfl _ _ _) rfl ?_
    exact ⟨rfl, HQ.out.1, HQ.out.2.set (by simp) _ _⟩

set_option maxHeartbeats 1600000 in
theorem refDq_steal (p : Nat) (s : DqS) (v : Int) (won : Bool) (w : World) (h : Row w p 152 (dqCells s)) (ho : s.over = none) (hk : s.kind = 3) (hst : s.step = 1 ∨ s.step = 2 ∨ s.step = 3 ∨ s.step = 4) (ht : M.U s.t) (hv : M.U v) :
    Calls Tryz.prog 155 #[.pointer (some ⟨p, 0, none⟩), .int .u64 v, .bool won] w fun e w' => e = .returned (.tuple #[]) ∧ Row w' p 152 (dqCells (dqGive s v won)) ∧ Keeps [p] w w' := by
  obtain ⟨at_, size, kind, task, step, b, t, vv, won0, over⟩ := s
  simp only at ho hk hst ht
  subst ho hk
  have HE := Lib.hid (fun s c u W h => refDqEnd_any p s c u W h)
  have HA := Lib.hid (fun W => refDqAhead_any v t W hv ht)
  have c4 := h.cell (j := 4) rfl
  have c5 := h.cell (j := 5) rfl
  have c6 := h.cell (j := 6) rfl
  have c7 := h.cell (j := 7) rfl
  have f4 := h.frozen 4
  have f5 := h.frozen 5
  have f6 := h.frozen 6
  have f7 := h.frozen 7
  simp only at c4 c5 c6 c7
  have HR := Lib.hid h
  clear h ht hv
  rcases hst with rfl | rfl | rfl | rfl
  · have HG : Hid (dqGive ⟨at_, size, 3, task, 1, b, t, vv, won0, none⟩ v won = ⟨at_, size, 3, task, 2, b, v, vv, won0, none⟩) := Lib.hid rfl
    rw [HG.out]
    have HRow := Lib.hid ((HR.out.set 6 (.int .u64 v)).set 4 (.int .i64 2))
    go_enter Tryz.func155, Tryz.ntmps155
    go_wp2
    first | go_end0 | refine bodyPost_ret (results_none rfl _ _ _) rfl ?_
    exact ⟨rfl, HRow.out, ((Keeps.refl [p] w).set (by simp) _ _).set (by simp) _ _⟩
  · obtain ⟨d, hd⟩ : ∃ d, dqAhead v t = d := ⟨_, rfl⟩
    have hrow := HR.out.set 5 (.int .u64 v)
    obtain ⟨W1, hW1⟩ : ∃ W1, w.setCell ⟨p, 5, none⟩ (.int .u64 v) = W1 := ⟨_, rfl⟩
    have k1 : Keeps [p] w W1 := by rw [← hW1]; exact (Keeps.refl _ _).set (by simp) _ _
    rw [hW1] at hrow
    have r1 : Row W1 p 152 (dqCells ⟨at_, size, 3, task, 2, v, t, vv, won0, none⟩) := hrow
    have e4 := r1.cell (j := 4) rfl
    have e5 := r1.cell (j := 5) rfl
    have e6 := r1.cell (j := 6) rfl
    have g4 := r1.frozen 4
    simp only at e4 e5 e6
    have HR1 := Lib.hid r1
    have HK1 := Lib.hid k1
    rw [hd] at HA
    clear hrow r1 k1
    by_cases hf : d < 1
    · have HG : Hid (dqGive ⟨at_, size, 3, task, 2, b, t, vv, won0, none⟩ v won = ⟨at_, size, 3, task, 3, v, t, vv, won0, some ⟨5, 0, []⟩⟩) := Lib.hid (by simp [dqGive, hd, hf])
      rw [HG.out]
      have dd : decide (d < 1) = true := decide_eq_true hf
      clear hd
      go_enter Tryz.func155, Tryz.ntmps155
      go_wp2
      refine wp_region_mid 9 (by kernel_rfl) (by kernel_rfl) ?_
      simp only [List.take_succ_cons, List.take_zero, List.drop_succ_cons, List.drop_zero]
      repeat still_step
      still_call (stillOf (HA.out _))
      repeat still_step
      refine wpStill_nil ?_
      go_wp2
      show wpStill _ _ _ _ _ _
      repeat still_step
      refine wpStill_nil ?_
      go_wp2_with fail
      refine (HE.out _ 5 0 W1.drew HR1.out).mono ?_
      rintro e w2 ⟨rfl, hr2, k2⟩
      have x4 := hr2.cell (j := 4) rfl
      have y4 := hr2.frozen 4
      simp only at x4
      have HQ := Lib.hid (⟨hr2.set 4 (.int .i64 3), HK1.out.trans (k2.undrew)⟩ : _ ∧ _)
      clear hr2 k2
      go_wp2
      first | go_end0 | refine bodyPost_ret (results_none rfl _ _ _) rfl ?_
      exact ⟨rfl, HQ.out.1, HQ.out.2.set (by simp) _ _⟩
    · have HG : Hid (dqGive ⟨at_, size, 3, task, 2, b, t, vv, won0, none⟩ v won = ⟨at_, size, 3, task, 3, v, t, vv, won0, none⟩) := Lib.hid (by simp [dqGive, hd, hf])
      rw [HG.out]
      have dd : decide (d < 1) = false := decide_eq_false hf
      clear hd
      go_enter Tryz.func155, Tryz.ntmps155
      go_wp2
      refine wp_region_mid 9 (by kernel_rfl) (by kernel_rfl) ?_
      simp only [List.take_succ_cons, List.take_zero, List.drop_succ_cons, List.drop_zero]
      repeat still_step
      still_call (stillOf (HA.out _))
      repeat still_step
      refine wpStill_nil ?_
      go_wp2
      show wpStill _ _ _ _ _ _
      repeat still_step
      refine wpStill_nil ?_
      go_wp2
      first | go_end0 | refine bodyPost_ret (results_none rfl _ _ _) rfl ?_
      exact ⟨rfl, (HR1.out.keeps (Keeps.refl [] W1).drew (by simp)).set 4 _, (HK1.out.trans ((Keeps.refl [p] W1).drew)).set (by simp) _ _⟩
  · have HG : Hid (dqGive ⟨at_, size, 3, task, 3, b, t, vv, won0, none⟩ v won = ⟨at_, size, 3, task, 4, b, t, v, won0, none⟩) := Lib.hid rfl
    rw [HG.out]
    have HRow := Lib.hid ((HR.out.set 7 (.int .u64 v)).set 4 (.int .i64 4))
    go_enter Tryz.func155, Tryz.ntmps155
    go_wp2
    first | go_end0 | refine bodyPost_ret (results_none rfl _ _ _) rfl ?_
    exact ⟨rfl, HRow.out, ((Keeps.refl [p] w).set (by simp) _ _).set (by simp) _ _⟩
  · cases won with
    | true =>
      have HG : Hid (dqGive ⟨at_, size, 3, task, 4, b, t, vv, won0, none⟩ v true = ⟨at_, size, 3, task, 5, b, t, vv, won0, some ⟨0, vv, []⟩⟩) := Lib.hid rfl
      rw [HG.out]
      go_enter Tryz.func155, Tryz.ntmps155
      go_wp2_with fail
      refine (HE.out _ 0 vv w HR.out).mono ?_
      rintro e w2 ⟨rfl, hr2, k2⟩
      have x4 := hr2.cell (j := 4) rfl
      have y4 := hr2.frozen 4
      simp only at x4
      have HQ := Lib.hid (⟨hr2.set 4 (.int .i64 5), k2⟩ : _ ∧ _)
      clear hr2 k2
      go_wp2
      first | go_end0 | refine bodyPost_ret (results_none rfl _ _ _) rfl ?_
      exact ⟨rfl, HQ.out.1, HQ.out.2.set (by simp) _ _⟩
    | false =>
      have HG : Hid (dqGive ⟨at_, size, 3, task, 4, b, t, vv, won0, none⟩ v false = ⟨at_, size, 3, task, 5, b, t, vv, won0, some ⟨6, 0, []⟩⟩) := Lib.hid rfl
      rw [HG.out]
      go_enter Tryz.func155, Tryz.ntmps155
      go_wp2_with fail
      refine (HE.out _ 6 0 w HR.out).mono ?_
      rintro e w2 ⟨rfl, hr2, k2⟩
      have x4 := hr2.cell (j := 4) rfl
      have y4 := hr2.frozen 4
      simp only at x4
      have HQ := Lib.hid (⟨hr2.set 4 (.int .i64 5), k2⟩ : _ ∧ _)
      clear hr2 k2
      go_wp2
      first | go_end0 | refine bodyPost_ret (results_none rfl _ _ _) rfl ?_
      exact ⟨rfl, HQ.out.1, HQ.out.2.set (by simp) _ _⟩

set_option maxHeartbeats 3200000 in
theorem refDq_pop (p : Nat) (s : DqS) (v : Int) (won : Bool) (w : World) (h : Row w p 152 (dqCells s)) (ho : s.over = none) (hk : s.kind = 2) (hst : s.step = 1 ∨ s.step = 2 ∨ s.step = 3 ∨ s.step = 4 ∨ s.step = 5 ∨ s.step = 6) (hb : M.U s.b) (ht : M.U s.t) (hv : M.U v) :
    Calls Tryz.prog 154 #[.pointer (some ⟨p, 0, none⟩), .int .u64 v, .bool won] w fun e w' => e = .returned (.tuple #[]) ∧ Row w' p 152 (dqCells (dqGive s v won)) ∧ Keeps [p] w w' := by
  obtain ⟨at_, size, kind, task, step, b, t, vv, won0, over⟩ := s
  simp only at ho hk hst hb ht
  subst ho hk
  have HE := Lib.hid (fun s c u W h => refDqEnd_any p s c u W h)
  have HA := Lib.hid (fun W => refDqAhead_any b t W hb ht)
  have v0 := hv.nn
  have v1 := hv.lt
  have c4 := h.cell (j := 4) rfl
  have c5 := h.cell (j := 5) rfl
  have c6 := h.cell (j := 6) rfl
  have c7 := h.cell (j := 7) rfl
  have c8 := h.cell (j := 8) rfl
  have f4 := h.frozen 4
  have f5 := h.frozen 5
  have f6 := h.frozen 6
  have f7 := h.frozen 7
  have f8 := h.frozen 8
  simp only at c4 c5 c6 c7 c8
  have HR := Lib.hid h
  clear h hb ht hv
  rcases hst with rfl | rfl | rfl | rfl | rfl | rfl
  · have HG : Hid (dqGive ⟨at_, size, 2, task, 1, b, t, vv, won0, none⟩ v won = ⟨at_, size, 2, task, 2, (v - 1) % 18446744073709551616, t, vv, won0, none⟩) := Lib.hid rfl
    rw [HG.out]
    have HRow := Lib.hid ((HR.out.set 5 (.int .u64 ((v - 1) % 18446744073709551616))).set 4 (.int .i64 2))
    go_enter Tryz.func154, Tryz.ntmps154
    go_wp2
    first | go_end0 | refine bodyPost_ret (results_none rfl _ _ _) rfl ?_
    exact ⟨rfl, HRow.out, ((Keeps.refl [p] w).set (by simp) _ _).set (by simp) _ _⟩
  · have HG : Hid (dqGive ⟨at_, size, 2, task, 2, b, t, vv, won0, none⟩ v won = ⟨at_, size, 2, task, 3, b, t, vv, won0, none⟩) := Lib.hid rfl
    rw [HG.out]
    go_enter Tryz.func154, Tryz.ntmps154
    go_wp2
    first | go_end0 | refine bodyPost_ret (results_none rfl _ _ _) rfl ?_
    exact ⟨rfl, HR.out.set 4 _, (Keeps.refl [p] w).set (by simp) _ _⟩
  · have HG : Hid (dqGive ⟨at_, size, 2, task, 3, b, t, vv, won0, none⟩ v won = ⟨at_, size, 2, task, 4, b, v, vv, won0, none⟩) := Lib.hid rfl
    rw [HG.out]
    have HRow := Lib.hid ((HR.out.set 6 (.int .u64 v)).set 4 (.int .i64 4))
    go_enter Tryz.func154, Tryz.ntmps154
    go_wp2
    first | go_end0 | refine bodyPost_ret (results_none rfl _ _ _) rfl ?_
    exact ⟨rfl, HRow.out, ((Keeps.refl [p] w).set (by simp) _ _).set (by simp) _ _⟩
  · obtain ⟨d, hd⟩ : ∃ d, dqAhead b t = d := ⟨_, rfl⟩
    rw [hd] at HA
    by_cases hneg : d < 0
    · have HG : Hid (dqGive ⟨at_, size, 2, task, 4, b, t, vv, won0, none⟩ v won = ⟨at_, size, 2, task, 4, b, t, vv, won0, some ⟨5, 0, []⟩⟩) := Lib.hid (by simp [dqGive, hd, hneg])
      rw [HG.out]
      have dd : decide (d < 0) = true := decide_eq_true hneg
      clear hd
      go_enter Tryz.func154, Tryz.ntmps154
      go_wp2
      refine wp_region_mid 9 (by kernel_rfl) (by kernel_rfl) ?_
      simp only [List.take_succ_cons, List.take_zero, List.drop_succ_cons, List.drop_zero]
      repeat still_step
      still_call (stillOf (HA.out _))
      repeat still_step
      refine wpStill_nil ?_
      go_wp2
      show wpStill _ _ _ _ _ _
      repeat still_step
      refine wpStill_nil ?_
      go_wp2_with fail
      refine (HE.out _ 5 0 w.drew HR.out).mono ?_
      rintro e w2 ⟨rfl, hr2, k2⟩
      have HQ := Lib.hid (⟨hr2, k2.undrew⟩ : _ ∧ _)
      clear hr2 k2
      go_wp2
      first | go_end0 | refine bodyPost_ret (results_none rfl _ _ _) rfl ?_
      exact ⟨rfl, HQ.out⟩
    · have dd : decide (d < 0) = false := decide_eq_false hneg
      have hrow := HR.out.set 7 (.int .u64 v)
      obtain ⟨W1, hW1⟩ : ∃ W1, w.drew.setCell ⟨p, 7, none⟩ (.int .u64 v) = W1 := ⟨_, rfl⟩
      have k1 : Keeps [p] w W1 := by rw [← hW1]; exact ((Keeps.refl [p] w).drew).set (by simp) _ _
      have r1 : Row W1 p 152 (dqCells ⟨at_, size, 2, task, 4, b, t, v, won0, none⟩) := by
        rw [← hW1]; exact (HR.out.keeps (Keeps.refl [] w).drew (by simp)).set 7 (.int .u64 v)
      have e4 := r1.cell (j := 4) rfl
      have e5 := r1.cell (j := 5) rfl
      have e6 := r1.cell (j := 6) rfl
      have g4 := r1.frozen 4
      simp only at e4 e5 e6
      have HR1 := Lib.hid r1
      have HK1 := Lib.hid k1
      clear hrow r1 k1
      by_cases hpos : 0 < d
      · have HG : Hid (dqGive ⟨at_, size, 2, task, 4, b, t, vv, won0, none⟩ v won = ⟨at_, size, 2, task, 5, b, t, v, won0, some ⟨0, v, []⟩⟩) := Lib.hid (by simp [dqGive, hd, hneg, hpos])
        rw [HG.out]
        have dp : decide (0 < d) = true := decide_eq_true hpos
        clear hd
        go_enter Tryz.func154, Tryz.ntmps154
        go_wp2
        refine wp_region_mid 9 (by kernel_rfl) (by kernel_rfl) ?_
        simp only [List.take_succ_cons, List.take_zero, List.drop_succ_cons, List.drop_zero]
        repeat still_step
        still_call (stillOf (HA.out _))
        repeat still_step
        refine wpStill_nil ?_
        go_wp2
        show wpStill _ _ _ _ _ _
        repeat still_step
        refine wpStill_nil ?_
        go_wp2
        refine wp_region_mid 9 (by kernel_rfl) (by kernel_rfl) ?_
        simp only [List.take_succ_cons, List.take_zero, List.drop_succ_cons, List.drop_zero]
        repeat still_step
        still_call (stillOf (HA.out _))
        repeat still_step
        refine wpStill_nil ?_
        go_wp2
        show wpStill _ _ _ _ _ _
        repeat still_step
        refine wpStill_nil ?_
        go_wp2_with fail
        refine (HE.out _ 0 v W1.drew HR1.out).mono ?_
        rintro e w2 ⟨rfl, hr2, k2⟩
        have x4 := hr2.cell (j := 4) rfl
        have y4 := hr2.frozen 4
        simp only at x4
        have HQ := Lib.hid (⟨hr2.set 4 (.int .i64 5), HK1.out.trans (k2.undrew)⟩ : _ ∧ _)
        clear hr2 k2
        go_wp2
        first | go_end0 | refine bodyPost_ret (results_none rfl _ _ _) rfl ?_
        exact ⟨rfl, HQ.out.1, HQ.out.2.set (by simp) _ _⟩
      · have HG : Hid (dqGive ⟨at_, size, 2, task, 4, b, t, vv, won0, none⟩ v won = ⟨at_, size, 2, task, 5, b, t, v, won0, none⟩) := Lib.hid (by simp [dqGive, hd, hneg, hpos])
        rw [HG.out]
        have dp : decide (0 < d) = false := decide_eq_false hpos
        clear hd
        go_enter Tryz.func154, Tryz.ntmps154
        go_wp2
        refine wp_region_mid 9 (by kernel_rfl) (by kernel_rfl) ?_
        simp only [List.take_succ_cons, List.take_zero, List.drop_succ_cons, List.drop_zero]
        repeat still_step
        still_call (stillOf (HA.out _))
        repeat still_step
        refine wpStill_nil ?_
        go_wp2
        show wpStill _ _ _ _ _ _
        repeat still_step
        refine wpStill_nil ?_
        go_wp2
        refine wp_region_mid 9 (by kernel_rfl) (by kernel_rfl) ?_
        simp only [List.take_succ_cons, List.take_zero, List.drop_succ_cons, List.drop_zero]
        repeat still_step
        still_call (stillOf (HA.out _))
        repeat still_step
        refine wpStill_nil ?_
        go_wp2
        show wpStill _ _ _ _ _ _
        repeat still_step
        refine wpStill_nil ?_
        go_wp2
        first | go_end0 | refine bodyPost_ret (results_none rfl _ _ _) rfl ?_
        exact ⟨rfl, (HR1.out.keeps (Keeps.refl [] W1).drew (by simp)).set 4 _, (HK1.out.trans ((Keeps.refl [p] W1).drew)).set (by simp) _ _⟩
  · have HG : Hid (dqGive ⟨at_, size, 2, task, 5, b, t, vv, won0, none⟩ v won = ⟨at_, size, 2, task, 6, b, t, vv, won, none⟩) := Lib.hid rfl
    rw [HG.out]
    have HRow := Lib.hid ((HR.out.set 8 (.bool won)).set 4 (.int .i64 6))
    go_enter Tryz.func154, Tryz.ntmps154
    go_wp2
    first | go_end0 | refine bodyPost_ret (results_none rfl _ _ _) rfl ?_
    exact ⟨rfl, HRow.out, ((Keeps.refl [p] w).set (by simp) _ _).set (by simp) _ _⟩
  · cases won0 with
    | true =>
      have HG : Hid (dqGive ⟨at_, size, 2, task, 6, b, t, vv, true, none⟩ v won = ⟨at_, size, 2, task, 7, b, t, vv, true, some ⟨0, vv, []⟩⟩) := Lib.hid rfl
      rw [HG.out]
      go_enter Tryz.func154, Tryz.ntmps154
      go_wp2_with fail
      refine (HE.out _ 0 vv w HR.out).mono ?_
      rintro e w2 ⟨rfl, hr2, k2⟩
      have x4 := hr2.cell (j := 4) rfl
      have y4 := hr2.frozen 4
      simp only at x4
      have HQ := Lib.hid (⟨hr2.set 4 (.int .i64 7), k2⟩ : _ ∧ _)
      clear hr2 k2
      go_wp2
      first | go_end0 | refine bodyPost_ret (results_none rfl _ _ _) rfl ?_
      exact ⟨rfl, HQ.out.1, HQ.out.2.set (by simp) _ _⟩
    | false =>
      have HG : Hid (dqGive ⟨at_, size, 2, task, 6, b, t, vv, false, none⟩ v won = ⟨at_, size, 2, task, 7, b, t, vv, false, some ⟨5, 0, []⟩⟩) := Lib.hid rfl
      rw [HG.out]
      go_enter Tryz.func154, Tryz.ntmps154
      go_wp2_with fail
      refine (HE.out _ 5 0 w HR.out).mono ?_
      rintro e w2 ⟨rfl, hr2, k2⟩
      have x4 := hr2.cell (j := 4) rfl
      have y4 := hr2.frozen 4
      simp only at x4
      have HQ := Lib.hid (⟨hr2.set 4 (.int .i64 7), k2⟩ : _ ∧ _)
      clear hr2 k2
      go_wp2
      first | go_end0 | refine bodyPost_ret (results_none rfl _ _ _) rfl ?_
      exact ⟨rfl, HQ.out.1, HQ.out.2.set (by simp) _ _⟩
end Go.Proofs.YtjfgpplnlepnoaaGreat

/-
  Contracts: what a document's frame of a deque is told, holds, wants.
-/
namespace Go.Proofs.YtjfgpplnlepnoaaGreat
set_option maxRecDepth 100000
set_option linter.unusedSimpArgs false
set_option linter.unusedVariables false
open Go.ChangeShapes Go.WideShapes Go.ChangeAt Go.RowKit

def dqSteps (s : DqS) : Prop := s.kind = 1 ∧ (s.step = 1 ∨ s.step = 2 ∨ s.step = 3 ∨ s.step = 4) ∨ s.kind = 2 ∧ (s.step = 1 ∨ s.step = 2 ∨ s.step = 3 ∨ s.step = 4 ∨ s.step = 5 ∨ s.step = 6) ∨ s.kind = 3 ∧ (s.step = 1 ∨ s.step = 2 ∨ s.step = 3 ∨ s.step = 4)
theorem dqGive_ok (s : DqS) (v : Int) (won : Bool) (ho : s.over = none) (h : dqSteps s) (u1 : M.U s.task) (u2 : M.U s.b) (u3 : M.U s.t) (u4 : M.U s.v) (hv : M.U v) :
    (dqGive s v won).at_ = s.at_ ∧ (dqGive s v won).size = s.size ∧ (∀ r, (dqGive s v won).over = some r → r.l = []) ∧ ((dqGive s v won).over = none → dqSteps (dqGive s v won)) ∧
      M.U (dqGive s v won).task ∧ M.U (dqGive s v won).b ∧ M.U (dqGive s v won).t ∧ M.U (dqGive s v won).v := by
  obtain ⟨at_, size, kind, task, step, b, t, vv, won0, over⟩ := s
  simp only at ho u1 u2 u3 u4
  subst ho
  have um : M.U ((v - 1) % 18446744073709551616) := ⟨by omega, by omega⟩
  unfold dqSteps at h
  simp only at h
  rcases h with ⟨rfl, rfl | rfl | rfl | rfl⟩ | ⟨rfl, rfl | rfl | rfl | rfl | rfl | rfl⟩ | ⟨rfl, rfl | rfl | rfl | rfl⟩
  · exact ⟨rfl, rfl, fun r h => (by cases h), fun _ => .inl ⟨rfl, .inr (.inl rfl)⟩, u1, hv, u3, u4⟩
  · by_cases c : size ≤ dqAhead b v
    · have e : dqGive ⟨at_, size, 1, task, 2, b, t, vv, won0, none⟩ v won = ⟨at_, size, 1, task, 3, b, v, vv, won0, some ⟨4, 0, []⟩⟩ := by simp [dqGive, c]
      rw [e]
      exact ⟨rfl, rfl, fun r h => (by cases h; rfl), fun h => (by cases h), u1, u2, hv, u4⟩
    · have e : dqGive ⟨at_, size, 1, task, 2, b, t, vv, won0, none⟩ v won = ⟨at_, size, 1, task, 3, b, v, vv, won0, none⟩ := by simp [dqGive, c]
      rw [e]
      exact ⟨rfl, rfl, fun r h => (by cases h), fun _ => .inl ⟨rfl, .inr (.inr (.inl rfl))⟩, u1, u2, hv, u4⟩
  · exact ⟨rfl, rfl, fun r h => (by cases h), fun _ => .inl ⟨rfl, .inr (.inr (.inr rfl))⟩, u1, u2, u3, u4⟩
  · exact ⟨rfl, rfl, fun r h => (by cases h; rfl), fun h => (by cases h), u1, u2, u3, u4⟩
  · exact ⟨rfl, rfl, fun r h => (by cases h), fun _ => .inr (.inl ⟨rfl, .inr (.inl rfl)⟩), u1, um, u3, u4⟩
  · exact ⟨rfl, rfl, fun r h => (by cases h), fun _ => .inr (.inl ⟨rfl, .inr (.inr (.inl rfl))⟩), u1, u2, u3, u4⟩
  · exact ⟨rfl, rfl, fun r h => (by cases h), fun _ => .inr (.inl ⟨rfl, .inr (.inr (.inr (.inl rfl)))⟩), u1, u2, hv, u4⟩
  · by_cases c : dqAhead b t < 0
    · have e : dqGive ⟨at_, size, 2, task, 4, b, t, vv, won0, none⟩ v won = ⟨at_, size, 2, task, 4, b, t, vv, won0, some ⟨5, 0, []⟩⟩ := by simp [dqGive, c]
      rw [e]
      exact ⟨rfl, rfl, fun r h => (by cases h; rfl), fun h => (by cases h), u1, u2, u3, u4⟩
    · by_cases c2 : 0 < dqAhead b t
      · have e : dqGive ⟨at_, size, 2, task, 4, b, t, vv, won0, none⟩ v won = ⟨at_, size, 2, task, 5, b, t, v, won0, some ⟨0, v, []⟩⟩ := by simp [dqGive, c, c2]
        rw [e]
        exact ⟨rfl, rfl, fun r h => (by cases h; rfl), fun h => (by cases h), u1, u2, u3, hv⟩
      · have e : dqGive ⟨at_, size, 2, task, 4, b, t, vv, won0, none⟩ v won = ⟨at_, size, 2, task, 5, b, t, v, won0, none⟩ := by simp [dqGive, c, c2]
        rw [e]
        exact ⟨rfl, rfl, fun r h => (by cases h), fun _ => .inr (.inl ⟨rfl, .inr (.inr (.inr (.inr (.inl rfl))))⟩), u1, u2, u3, hv⟩
  · exact ⟨rfl, rfl, fun r h => (by cases h), fun _ => .inr (.inl ⟨rfl, .inr (.inr (.inr (.inr (.inr rfl))))⟩), u1, u2, u3, u4⟩
  · exact ⟨rfl, rfl, fun r h => (by cases won0 <;> cases h <;> rfl), fun h => (by cases h), u1, u2, u3, u4⟩
  · exact ⟨rfl, rfl, fun r h => (by cases h), fun _ => .inr (.inr ⟨rfl, .inr (.inl rfl)⟩), u1, u2, hv, u4⟩
  · by_cases c : dqAhead v t < 1
    · have e : dqGive ⟨at_, size, 3, task, 2, b, t, vv, won0, none⟩ v won = ⟨at_, size, 3, task, 3, v, t, vv, won0, some ⟨5, 0, []⟩⟩ := by simp [dqGive, c]
      rw [e]
      exact ⟨rfl, rfl, fun r h => (by cases h; rfl), fun h => (by cases h), u1, hv, u3, u4⟩
    · have e : dqGive ⟨at_, size, 3, task, 2, b, t, vv, won0, none⟩ v won = ⟨at_, size, 3, task, 3, v, t, vv, won0, none⟩ := by simp [dqGive, c]
      rw [e]
      exact ⟨rfl, rfl, fun r h => (by cases h), fun _ => .inr (.inr ⟨rfl, .inr (.inr (.inl rfl))⟩), u1, hv, u3, u4⟩
  · exact ⟨rfl, rfl, fun r h => (by cases h), fun _ => .inr (.inr ⟨rfl, .inr (.inr (.inr rfl))⟩), u1, u2, u3, hv⟩
  · exact ⟨rfl, rfl, fun r h => (by cases won <;> cases h <;> rfl), fun h => (by cases h), u1, u2, u3, u4⟩

set_option maxHeartbeats 800000 in
theorem refDq_give (p : Nat) (s : DqS) (w : World) (S : List Nat) (tv : Int) (won : Bool) (h : refDqJ p w S s) (hv : M.U tv) :
    Calls Tryz.prog 109 #[.pointer (some ⟨p, 0, none⟩), .int .u64 tv, .bool won] w fun e w' => e = .returned (.tuple #[]) ∧ ∃ S', refDqJ p w' S' (dequeM.give s tv won) ∧ Keeps (if (dequeM.res s).isSome then [] else S) w w' ∧ ∀ k ∈ S', k ∈ S ∨ w.heap.size ≤ k := by
  have H0 := Lib.hid h
  obtain ⟨hS, hrow, hnil, hg, u1, u2, u3, u4⟩ := h
  cases ho : s.over with
  | some r =>
    have e : dequeM.give s tv won = s := by simp [dequeM, ho]
    have e2 : (dequeM.res s).isSome = true := by simp [dequeM, ho]
    rw [e, if_pos e2]
    have c9 := hrow.cell (j := 9) (u := .bool true) (by simp [dqCells, ho])
    clear hrow hnil hg u1 u2 u3 u4 e e2 ho hS
    go_enter Tryz.func109, Tryz.ntmps109
    go_wp2
    first | go_end0 | refine bodyPost_ret (results_none rfl _ _ _) rfl ?_
    exact ⟨rfl, S, H0.out, Keeps.refl _ _, fun k hk => .inl hk⟩
  | none =>
    obtain ⟨hr, hst⟩ := hg ho
    have e : dequeM.give s tv won = dqGive s tv won := by simp [dequeM, ho]
    have e2 : (dequeM.res s).isSome = false := by simp [dequeM, ho]
    rw [e, if_neg (by rw [e2]; simp)]
    have hok := dqGive_ok s tv won ho hst u1 u2 u3 u4 hv
    have HOk := Lib.hid hok
    have c9 := hrow.cell (j := 9) (u := .bool false) (by simp [dqCells, ho])
    have c2 := hrow.cell (j := 2) (u := .int .i64 s.kind) rfl
    have HR := Lib.hid hr
    have hall : ∀ w', Row w' p 152 (dqCells (dqGive s tv won)) → Keeps [p] w w' → ∃ S', refDqJ p w' S' (dqGive s tv won) ∧ Keeps S w w' ∧ ∀ k ∈ S', k ∈ S ∨ w.heap.size ≤ k := fun w' h1 h2 => by
      obtain ⟨a1, a2, a3, a4, a5, a6, a7, a8⟩ := HOk.out
      exact ⟨[p], ⟨rfl, h1, a3, fun h => ⟨by rw [a1, a2]; exact HR.out, a4 h⟩, a5, a6, a7, a8⟩, by rw [hS]; exact h2, fun k hk => .inl (by rw [hS]; exact hk)⟩
    have HAll := Lib.hid hall
    have HRow := Lib.hid hrow
    have HP := Lib.hid (fun h1 h2 => refDq_push p s tv won w HRow.out ho h1 h2 hr u2 hv)
    have HQ := Lib.hid (fun h1 h2 => refDq_pop p s tv won w HRow.out ho h1 h2 u2 u3 hv)
    have HT := Lib.hid (fun h1 h2 => refDq_steal p s tv won w HRow.out ho h1 h2 u3 hv)
    clear hrow hnil hg u1 u2 u3 u4 e e2 hok hall hr hS H0
    rcases hst with ⟨hk, hs⟩ | ⟨hk, hs⟩ | ⟨hk, hs⟩
    · have hc := HP.out hk hs
      rw [hk] at c2
      clear hk hs HP HQ HT
      go_enter Tryz.func109, Tryz.ntmps109
      go_wp2_with fail
      refine hc.mono ?_
      rintro e w1 ⟨rfl, hr1, k1⟩
      have HQ1 := Lib.hid (⟨hr1, k1⟩ : _ ∧ _)
      clear hr1 k1
      go_wp2
      first | go_end0 | refine bodyPost_ret (results_none rfl _ _ _) rfl ?_
      exact ⟨rfl, HAll.out _ HQ1.out.1 HQ1.out.2⟩
    · have hc := HQ.out hk hs
      rw [hk] at c2
      clear hk hs HP HQ HT
      go_enter Tryz.func109, Tryz.ntmps109
      go_wp2_with fail
      refine hc.mono ?_
      rintro e w1 ⟨rfl, hr1, k1⟩
      have HQ1 := Lib.hid (⟨hr1, k1⟩ : _ ∧ _)
      clear hr1 k1
      go_wp2
      first | go_end0 | refine bodyPost_ret (results_none rfl _ _ _) rfl ?_
      exact ⟨rfl, HAll.out _ HQ1.out.1 HQ1.out.2⟩
    · have hc := HT.out hk hs
      rw [hk] at c2
      clear hk hs HP HQ HT
      go_enter Tryz.func109, Tryz.ntmps109
      go_wp2_with fail
      refine hc.mono ?_
      rintro e w1 ⟨rfl, hr1, k1⟩
      have HQ1 := Lib.hid (⟨hr1, k1⟩ : _ ∧ _)
      clear hr1 k1
      go_wp2
      first | go_end0 | refine bodyPost_ret (results_none rfl _ _ _) rfl ?_
      exact ⟨rfl, HAll.out _ HQ1.out.1 HQ1.out.2⟩
theorem refDq_held (p : Nat) (s : DqS) (w : World) (S : List Nat) (h : refDqJ p w S s) :
    Calls Tryz.prog 106 #[.pointer (some ⟨p, 0, none⟩)] w fun e w' => ∃ q c, e = .returned (.slice q (dequeM.held s).length c) ∧ Sl w' 1 (.slice q (dequeM.held s).length c) (dequeM.held s).length (ints .u64 (dequeM.held s)) ∧ Keeps [] w w' := by
  obtain ⟨-, hrow, -, -⟩ := h
  obtain ⟨at_, size, kind, task, step, b, t, vv, won0, over⟩ := s
  have c2 := hrow.cell (j := 2) rfl
  have c3 := hrow.cell (j := 3) rfl
  have c4 := hrow.cell (j := 4) rfl
  have c7 := hrow.cell (j := 7) rfl
  have c8 := hrow.cell (j := 8) rfl
  have c9 := hrow.cell (j := 9) rfl
  simp only at c2 c3 c4 c7 c8 c9
  clear hrow
  have none_ : ∀ W : World, Sl W 1 (.slice none 0 0) 0 (ints .u64 []) := fun W => ⟨rfl, .inl ⟨_, _, rfl, rfl⟩⟩
  have HNone := Lib.hid none_
  clear none_
  cases over with
  | some r =>
    simp only [Option.isSome_some] at c9
    show Calls Tryz.prog 106 #[.pointer (some ⟨p, 0, none⟩)] w fun e w' => ∃ q c, e = .returned (.slice q 0 c) ∧ Sl w' 1 (.slice q 0 c) 0 (ints .u64 []) ∧ Keeps [] w w'
    go_enter Tryz.func106, Tryz.ntmps106
    go_wp2
    go_ret
    exact ⟨none, 0, rfl, HNone.out _, Keeps.refl _ _⟩
  | none =>
    simp only [Option.isSome_none] at c9
    by_cases k1 : kind = 1
    · have HH : Hid (dequeM.held ⟨at_, size, kind, task, step, b, t, vv, won0, none⟩ = [task]) := Lib.hid (by simp [dequeM, dqHeld, k1])
      rw [HH.out]
      subst k1
      go_enter Tryz.func106, Tryz.ntmps106
      go_wp2
      go_ret
      exact ⟨_, _, rfl, Sl.lit w #[.int .u64 task] 26 1 1 1 rfl, (Keeps.refl _ _).alloc _⟩
    · have b1 : (kind == 1) = false := by simp [k1]
      have HK1 := Lib.hid k1
      clear k1
      by_cases k2 : kind = 2 ∧ step = 6 ∧ won0 = true
      · obtain ⟨rfl, rfl, rfl⟩ := k2
        have HH : Hid (dequeM.held ⟨at_, size, 2, task, 6, b, t, vv, true, none⟩ = [vv]) := Lib.hid (by simp [dequeM, dqHeld])
        rw [HH.out]
        go_enter Tryz.func106, Tryz.ntmps106
        go_wp2
        go_ret
        exact ⟨_, _, rfl, Sl.lit w #[.int .u64 vv] 26 1 1 1 rfl, (Keeps.refl _ _).alloc _⟩
      · have HH : Hid (dequeM.held ⟨at_, size, kind, task, step, b, t, vv, won0, none⟩ = []) := Lib.hid (by simp [dequeM, dqHeld, HK1.out]; exact fun a b => by cases won0; rfl; exact absurd ⟨a, b, rfl⟩ k2)
        rw [HH.out]
        have hcase : Hid ((kind == 2) = false ∨ (kind == 2) = true ∧ (step == 6) = false ∨ (kind == 2) = true ∧ (step == 6) = true ∧ won0 = false) := Lib.hid (by
          by_cases a : kind = 2
          · by_cases b : step = 6
            · right; right; exact ⟨by simp [a], by simp [b], by cases won0; rfl; exact absurd ⟨a, b, rfl⟩ k2⟩
            · right; left; exact ⟨by simp [a], by simp [b]⟩
          · left; simp [a])
        clear k2
        rcases hcase.out with a | ⟨a, b⟩ | ⟨a, b, rfl⟩
        all_goals
          go_enter Tryz.func106, Tryz.ntmps106
          go_wp2
          go_ret
          exact ⟨none, 0, rfl, HNone.out _, Keeps.refl _ _⟩
end Go.Proofs.YtjfgpplnlepnoaaGreat
