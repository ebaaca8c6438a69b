import Derived.Test.YtjfgpplnlepnoaaGreatRef7d
import Derived.Test.YtjfgpplnlepnoaaGreatRef7f
import Derived.Test.YtjfgpplnlepnoaaGreatRef7a
/-
  Contracts: the document's frames of a deque go as the machine; how they are made.
-/
namespace Go.Proofs.YtjfgpplnlepnoaaGreat
set_option maxRecDepth 100000
set_option linter.unusedSimpArgs false
set_option linter.unusedVariables false
open Go.ChangeShapes Go.WideShapes Go.ChangeAt Go.RowKit

theorem refDq_wantDone (p : Nat) (s : DqS) (w : World) (S : List Nat) (h : refDqJ p w S s) (hov : s.over ≠ none) :
    Calls Tryz.prog 95 #[.pointer (some ⟨p, 0, none⟩)] w fun e w' => e = .returned (.tuple #[((dequeM.want s).getD zacc).val, .bool (dequeM.want s).isSome]) ∧ Keeps [] w w' := by
  have hs : s.over.isSome = true := by cases h : s.over with
    | none => exact absurd h hov
    | some r => rfl
  have hw : Hid (dequeM.want s = none) := Lib.hid (by simp [dequeM, hs])
  rw [hw.out]
  have hrow := h.2.1
  have c9 := hrow.cell (j := 9) rfl
  rw [hs] at c9
  have hlt := hrow.lt
  clear h hrow
  go_enter Tryz.func95, Tryz.ntmps95
  go_wp2
  refine bodyPost_ret (v := .tuple #[.agg #[.int .i64 0, .int .i64 0, .int .u64 0, .int .u64 0], .bool false]) (by simp [results, Tryz.results95, go_sem]) rfl ⟨rfl, ?_⟩
  exact (Keeps.refl _ _).alloc _
theorem refDq_want (p : Nat) (s : DqS) (w : World) (S : List Nat) (h : refDqJ p w S s) :
    Calls Tryz.prog 95 #[.pointer (some ⟨p, 0, none⟩)] w fun e w' => e = .returned (.tuple #[((dequeM.want s).getD zacc).val, .bool (dequeM.want s).isSome]) ∧ Keeps [] w w' := by
  cases hov : s.over with
  | some r => exact refDq_wantDone p s w S h (by rw [hov]; simp)
  | none =>
    obtain ⟨-, hst⟩ := h.2.2.2.1 hov
    rcases hst with ⟨hk, hst⟩ | ⟨hk, hst⟩ | ⟨hk, hst⟩
    · exact refDq_want1 p s w S h hov hk hst
    · rcases hst with h1 | h1 | h1 | h1 | h1 | h1
      · exact refDq_want2a p s w S h hov hk (.inl h1)
      · exact refDq_want2a p s w S h hov hk (.inr (.inl h1))
      · exact refDq_want2a p s w S h hov hk (.inr (.inr h1))
      · exact refDq_want2b p s w S h hov hk (.inl h1)
      · exact refDq_want2b p s w S h hov hk (.inr (.inl h1))
      · exact refDq_want2b p s w S h hov hk (.inr (.inr h1))
    · exact refDq_want3 p s w S h hov hk hst
theorem refDqRuns (p : Nat) : RefRuns dequeM (refDqJ p) (fun _ => False) p 95 101 106 109 where
  lt := fun ⟨hS, h, _⟩ k hk => by rw [hS] at hk; simp at hk; subst hk; exact h.lt
  frame := fun ⟨hS, h, a, b, c⟩ hk hT _ => ⟨hS, h.keeps hk (hT p (by rw [hS]; simp)), a, b, c⟩
  stays := fun s v won h => by
    have h' : s.over.isSome = true := h
    show (dequeM.give s v won).over.isSome = true
    simp [dequeM, h']
  few := fun {w S s} _ => by
    show (dqHeld s).length ≤ 1000000
    unfold dqHeld
    repeat' split
    all_goals simp
  want := fun w S s h => refDq_want p s w S h
  over := fun w S s h => refDq_over p s w S h
  held := fun w S s h => refDq_held p s w S h
  give := fun w S s v won h hv => refDq_give p s w S v won h hv
theorem refDqNew_any (at_ size kind v : Int) (w : World) (hk : kind = 1 ∨ kind = 2 ∨ kind = 3) (hv : M.U v) :
    Calls Tryz.prog 48 #[.int .i64 at_, .int .i64 size, .int .i64 kind, .int .u64 v] w fun e w' => ∃ p, e = .returned (.pointer (some ⟨p, 0, none⟩)) ∧ refDqJ p w' [p] (dqNew at_ size kind v) ∧ Keeps [] w w' ∧ w.heap.size ≤ p := by
  have HR := Lib.hid (fun W => rRight_any at_ size W)
  have U0 : M.U 0 := ⟨by decide, by decide⟩
  obtain ⟨W0, hW0⟩ : ∃ W0, w.alloc (.cells #[.int .i64 at_, .int .i64 size, .int .i64 kind, .int .u64 v, .int .i64 1, .int .u64 0, .int .u64 0, .int .u64 0, .bool false, .bool false, .int .i64 0, .int .u64 0, .slice none 0 0] 152) = W0 := ⟨_, rfl⟩
  have r0 : Row W0 w.heap.size 152 (dqCells ⟨at_, size, kind, v, 1, 0, 0, 0, false, none⟩) := by rw [← hW0]; exact Row.new _ _ _
  have HK : Hid (Keeps [] w W0) := Lib.hid (by rw [← hW0]; exact (Keeps.refl _ _).alloc _)
  have HE := Lib.hid (refDqEnd_any w.heap.size _ 2 0 W0 r0)
  have HR0 := Lib.hid r0
  have HKd := Lib.hid hk
  have HV := Lib.hid hv
  clear r0 hk hv
  by_cases hr : dqRight at_ size
  · have hd : decide (dqRight at_ size) = true := decide_eq_true hr
    rw [hd] at HR
    have HT : Hid (dqNew at_ size kind v = ⟨at_, size, kind, v, 1, 0, 0, 0, false, none⟩) := Lib.hid (by simp [dqNew, hr])
    have HH := Lib.hid hr
    clear hr hd
    go_enter Tryz.func48, Tryz.ntmps48
    go_wp2_with fail
    refine (HR.out W0).mono ?_
    rintro e w1 ⟨rfl, rfl⟩
    go_wp2
    go_ret
    refine ⟨w.heap.size, rfl, ?_, HK.out, Nat.le_refl _⟩
    rw [HT.out]
    refine ⟨rfl, HR0.out, fun r h => (by cases h), fun _ => ⟨HH.out, ?_⟩, HV.out, U0, U0, U0⟩
    rcases HKd.out with rfl | rfl | rfl
    · exact .inl ⟨rfl, .inl rfl⟩
    · exact .inr (.inl ⟨rfl, .inl rfl⟩)
    · exact .inr (.inr ⟨rfl, .inl rfl⟩)
  · have hd : decide (dqRight at_ size) = false := decide_eq_false hr
    rw [hd] at HR
    have HT : Hid (dqNew at_ size kind v = ⟨at_, size, kind, v, 1, 0, 0, 0, false, some ⟨2, 0, []⟩⟩) := Lib.hid (by simp [dqNew, hr])
    clear hr hd
    go_enter Tryz.func48, Tryz.ntmps48
    go_wp2_with fail
    refine (HR.out W0).mono ?_
    rintro e w1 ⟨rfl, rfl⟩
    go_wp2_with fail
    refine HE.out.mono ?_
    rintro e w2 ⟨rfl, hr2, k2⟩
    have HQ := Lib.hid (⟨hr2, HK.out.step k2 (by simp)⟩ : _ ∧ _)
    clear hr2 k2 hW0
    go_wp2
    go_ret
    refine ⟨w.heap.size, rfl, ?_, HQ.out.2, Nat.le_refl _⟩
    rw [HT.out]
    exact ⟨rfl, HQ.out.1, fun r h => by (cases h; rfl), fun h => by (cases h), HV.out, U0, U0, U0⟩
end Go.Proofs.YtjfgpplnlepnoaaGreat
