/-
  Contracts: the document's frames of a deque go as the machine of Push, Pop and Steal goes.
-/
import Derived.Test.YtdejgkjckhkihaaGreatSeen
import Derived.Test.YtdejgkjckhkihaaGreatDqM
import Derived.IntWalk
import Derived.Deep.CutRange
import Derived.Test.YtdejgkjckhkihaaGreatDraw
import Derived.Test.YtdejgkjckhkihaaGreatFresh
namespace Go.Proofs.YtdejgkjckhkihaaGreat
set_option maxRecDepth 100000
set_option linter.unusedSimpArgs false
set_option linter.unusedVariables false
open Go.ChangeShapes Go.WideShapes Go.ChangeAt Go.RowKit

def dqCells (s : DqS) : List Value := [.int .i64 s.at_, .int .i64 s.size, .int .i64 s.kind, .int .u64 s.task, .int .i64 s.step, .int .u64 s.b, .int .u64 s.t, .int .u64 s.v, .bool s.won, .bool s.over.isSome, .int .i64 (s.over.getD Rs.zero).code, .int .u64 (s.over.getD Rs.zero).v, .slice none 0 0]
def refDqJ (p : Nat) (w : World) (S : List Nat) (s : DqS) : Prop :=
  S = [p] ∧ Row w p 73 (dqCells s) ∧ (∀ r, s.over = some r → r.l = []) ∧
    (s.over = none → dqRight s.at_ s.size ∧ (s.kind = 1 ∧ (s.step = 1 ∨ s.step = 2 ∨ s.step = 3 ∨ s.step = 4) ∨ s.kind = 2 ∧ (s.step = 1 ∨ s.step = 2 ∨ s.step = 3 ∨ s.step = 4 ∨ s.step = 5 ∨ s.step = 6) ∨ s.kind = 3 ∧ (s.step = 1 ∨ s.step = 2 ∨ s.step = 3 ∨ s.step = 4))) ∧
    M.U s.task ∧ M.U s.b ∧ M.U s.t ∧ M.U s.v

theorem refDqEnd_any (p : Nat) (s : DqS) (code v : Int) (w : World) (h : Row w p 73 (dqCells s)) :
    Calls Tryz.prog 27 #[.pointer (some ⟨p, 0, none⟩), .int .i64 code, .int .u64 v] w fun e w' => e = .returned (.tuple #[]) ∧ Row w' p 73 (dqCells { s with over := some ⟨code, v, []⟩ }) ∧ Keeps [p] w w' := by
  have h9 := h.cell (j := 9) rfl
  have h10 := h.cell (j := 10) rfl
  have h11 := h.cell (j := 11) rfl
  have h12 := h.cell (j := 12) rfl
  have f9 := h.frozen 9
  have f10 := h.frozen 10
  have f11 := h.frozen 11
  have f12 := h.frozen 12
  have HR := Lib.hid h
  clear h
  go_enter Tryz.func27, Tryz.ntmps27
  go_wp2
  first | go_end0 | refine bodyPost_ret (results_none rfl _ _ _) rfl ?_
  exact ⟨rfl, (((HR.out.set 9 (.bool true)).set 10 (.int .i64 code)).set 11 (.int .u64 v)).set 12 (.slice none 0 0), (((((Keeps.refl [p] w).set (by simp) _ _).set (by simp) _ _).set (by simp) _ _).set (by simp) _ _)⟩

theorem refDqAhead_any (b t : Int) (w : World) (hb : M.U b) (ht : M.U t) :
    Calls Tryz.prog 54 #[.int .u64 b, .int .u64 t] w fun e w' => e = .returned (.int .i64 (dqAhead b t)) ∧ w = w' := by
  have b0 := hb.nn
  have b1 := hb.lt
  have t0 := ht.nn
  have t1 := ht.lt
  have hw : IntKind.i64.wrap (IntKind.u64.wrap (b - t)) = dqAhead b t := by
    unfold dqAhead
    simp [IntKind.wrap, IntKind.signed, IntKind.bits]
    split <;> omega
  go_enter Tryz.func54, Tryz.ntmps54
  go_wp2
  go_ret
  exact ⟨rfl, rfl⟩
theorem refDqSlot_any (at_ size n : Int) (w : World) (hr : dqRight at_ size) (hn : M.U n) :
    Calls Tryz.prog 53 #[.int .i64 at_, .int .i64 size, .int .u64 n] w fun e w' => e = .returned (.int .i64 (dqSlot at_ size n)) ∧ w = w' := by
  obtain ⟨hs, a0, a1⟩ := hr
  have n0 := hn.nn
  have hs0 : 0 < size ∧ size ≤ 256 := by omega
  obtain ⟨q, hq⟩ : ∃ q, n % size = q := ⟨_, rfl⟩
  have q0 : 0 ≤ q := by rw [← hq]; exact Int.emod_nonneg n (by omega)
  have q1 : q < size := by rw [← hq]; exact Int.emod_lt_of_pos n (by omega)
  have HS : Hid (dqSlot at_ size n = at_ + 2 + q) := Lib.hid (by unfold dqSlot; rw [hq])
  rw [HS.out]
  have hw64 : IntKind.u64.wrap size = size := by show size % 18446744073709551616 = size; omega
  clear hs hn
  go_enter Tryz.func53, Tryz.ntmps53
  go_wp2
  go_ret
  exact ⟨rfl, rfl⟩

theorem refDq_over (p : Nat) (s : DqS) (w : World) (S : List Nat) (h : refDqJ p w S s) :
    Calls Tryz.prog 29 #[.pointer (some ⟨p, 0, none⟩)] w fun e w' => ∃ q n c,
      e = .returned (.tuple #[.agg #[.int .i64 ((dequeM.res s).getD Rs.zero).code, .int .u64 ((dequeM.res s).getD Rs.zero).v, .slice q n c], .bool (dequeM.res s).isSome]) ∧ Keeps [] w w' ∧
      ∀ r, dequeM.res s = some r → Sl w' 1 (.slice q n c) r.l.length (ints .u64 r.l) ∧ r.l.length ≤ maxLen ∧ ∀ g, (Value.slice q n c).ownBlock = some g → g ∈ S ∨ w.heap.size ≤ g := by
  obtain ⟨-, hrow, hnil, -⟩ := h
  have hlt := hrow.lt
  have fin : ∀ w' r, dequeM.res s = some r → Sl w' 1 (.slice none 0 0) r.l.length (ints .u64 r.l) ∧ r.l.length ≤ maxLen ∧ ∀ g, (Value.slice none 0 0).ownBlock = some g → g ∈ S ∨ w.heap.size ≤ g := by
    intro w' r hr
    have := hnil r hr
    rw [this]
    exact ⟨⟨rfl, .inl ⟨_, _, rfl, rfl⟩⟩, Nat.zero_le _, fun g hg => by cases hg⟩
  have HF := Lib.hid fin
  obtain ⟨rr, hrr⟩ : ∃ rr, (dequeM.res s).getD Rs.zero = rr := ⟨_, rfl⟩
  obtain ⟨br, hbr⟩ : ∃ br, (dequeM.res s).isSome = br := ⟨_, rfl⟩
  obtain ⟨W0, hW0⟩ : ∃ W0, w.alloc (.cells #[.int .i64 0, .int .u64 0, .slice none 0 0] 49) = W0 := ⟨_, rfl⟩
  have k0 : Keeps [] w W0 := by rw [← hW0]; exact (Keeps.refl _ _).alloc _
  have r0 : Row W0 w.heap.size 49 [.int .i64 0, .int .u64 0, .slice none 0 0] := by rw [← hW0]; exact Row.new _ _ _
  have hr0 := hrow.keeps k0 (by simp)
  have c7 := hr0.cell (j := 9) rfl
  have c8 := hr0.cell (j := 10) rfl
  have c9 := hr0.cell (j := 11) rfl
  have c10 := hr0.cell (j := 12) rfl
  rw [show s.over.getD Rs.zero = rr from hrr] at c8 c9
  rw [show s.over.isSome = br from hbr] at c7
  rw [hrr, hbr]
  have q0 := r0.cell (j := 0) rfl
  have q1 := r0.cell (j := 1) rfl
  have q2 := r0.cell (j := 2) rfl
  have e0 := r0.frozen 0
  have e1 := r0.frozen 1
  have e2 := r0.frozen 2
  have hl0 := r0.lt
  have HK := Lib.hid k0
  clear hrow hnil fin hrr hbr hr0 r0 k0
  go_enter Tryz.func29, Tryz.ntmps29
  go_wp2
  go_region
  go_wp2
  refine bodyPost_ret (v := .tuple #[.agg #[.int .i64 rr.code, .int .u64 rr.v, .slice none 0 0], .bool br]) (by simp [results, Tryz.results29, go_sem, q0, q1, q2]) rfl ⟨none, 0, 0, rfl, ?_, HF.out _⟩
  exact HK.out.drew.step (S := [w.heap.size]) ((((Keeps.refl _ _).set (by simp) _ _).set (by simp) _ _).set (by simp) _ _) (by simp)
end Go.Proofs.YtdejgkjckhkihaaGreat
