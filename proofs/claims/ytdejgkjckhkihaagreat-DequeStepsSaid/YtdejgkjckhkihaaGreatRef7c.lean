/-
  Contracts: what a document's frame of a deque is told, holds, wants.
-/
import Derived.Test.YtdejgkjckhkihaaGreatRef7b
namespace Go.Proofs.YtdejgkjckhkihaaGreat
set_option maxRecDepth 100000
set_option linter.unusedSimpArgs false
set_option linter.unusedVariables false
open Go.ChangeShapes Go.WideShapes Go.ChangeAt Go.RowKit

def dqSteps (s : DqS) : Prop := s.kind = 1 ∧ (s.step = 1 ∨ s.step = 2 ∨ s.step = 3 ∨ s.step = 4) ∨ s.kind = 2 ∧ (s.step = 1 ∨ s.step = 2 ∨ s.step = 3 ∨ s.step = 4 ∨ s.step = 5 ∨ s.step = 6) ∨ s.kind = 3 ∧ (s.step = 1 ∨ s.step = 2 ∨ s.step = 3 ∨ s.step = 4)
theorem dqGive_ok (s : DqS) (v : Int) (won : Bool) (ho : s.over = none) (h : dqSteps s) (u1 : M.U s.task) (u2 : M.U s.b) (u3 : M.U s.t) (u4 : M.U s.v) (hv : M.U v) :
    (dqGive s v won).at_ = s.at_ ∧ (dqGive s v won).size = s.size ∧ (∀ r, (dqGive s v won).over = some r → r.l = []) ∧ ((dqGive s v won).over = none → dqSteps (dqGive s v won)) ∧
      M.U (dqGive s v won).task ∧ M.U (dqGive s v won).b ∧ M.U (dqGive s v won).t ∧ M.U (dqGive s v won).v := by
  obtain ⟨at_, size, kind, task, step, b, t, vv, won0, over⟩ := s
  simp only at ho u1 u2 u3 u4
  subst ho
  have um : M.U ((v - 1) % 18446744073709551616) := ⟨by omega, by omega⟩
  unfold dqSteps at h
  simp only at h
  rcases h with ⟨rfl, rfl | rfl | rfl | rfl⟩ | ⟨rfl, rfl | rfl | rfl | rfl | rfl | rfl⟩ | ⟨rfl, rfl | rfl | rfl | rfl⟩
  · exact ⟨rfl, rfl, fun r h => (by cases h), fun _ => .inl ⟨rfl, .inr (.inl rfl)⟩, u1, hv, u3, u4⟩
  · by_cases c : size ≤ dqAhead b v
    · have e : dqGive ⟨at_, size, 1, task, 2, b, t, vv, won0, none⟩ v won = ⟨at_, size, 1, task, 3, b, v, vv, won0, some ⟨4, 0, []⟩⟩ := by simp [dqGive, c]
      rw [e]
      exact ⟨rfl, rfl, fun r h => (by cases h; rfl), fun h => (by cases h), u1, u2, hv, u4⟩
    · have e : dqGive ⟨at_, size, 1, task, 2, b, t, vv, won0, none⟩ v won = ⟨at_, size, 1, task, 3, b, v, vv, won0, none⟩ := by simp [dqGive, c]
      rw [e]
      exact ⟨rfl, rfl, fun r h => (by cases h), fun _ => .inl ⟨rfl, .inr (.inr (.inl rfl))⟩, u1, u2, hv, u4⟩
  · exact ⟨rfl, rfl, fun r h => (by cases h), fun _ => .inl ⟨rfl, .inr (.inr (.inr rfl))⟩, u1, u2, u3, u4⟩
  · exact ⟨rfl, rfl, fun r h => (by cases h; rfl), fun h => (by cases h), u1, u2, u3, u4⟩
  · exact ⟨rfl, rfl, fun r h => (by cases h), fun _ => .inr (.inl ⟨rfl, .inr (.inl rfl)⟩), u1, um, u3, u4⟩
  · exact ⟨rfl, rfl, fun r h => (by cases h), fun _ => .inr (.inl ⟨rfl, .inr (.inr (.inl rfl))⟩), u1, u2, u3, u4⟩
  · exact ⟨rfl, rfl, fun r h => (by cases h), fun _ => .inr (.inl ⟨rfl, .inr (.inr (.inr (.inl rfl)))⟩), u1, u2, hv, u4⟩
  · by_cases c : dqAhead b t < 0
    · have e : dqGive ⟨at_, size, 2, task, 4, b, t, vv, won0, none⟩ v won = ⟨at_, size, 2, task, 4, b, t, vv, won0, some ⟨5, 0, []⟩⟩ := by simp [dqGive, c]
      rw [e]
      exact ⟨rfl, rfl, fun r h => (by cases h; rfl), fun h => (by cases h), u1, u2, u3, u4⟩
    · by_cases c2 : 0 < dqAhead b t
      · have e : dqGive ⟨at_, size, 2, task, 4, b, t, vv, won0, none⟩ v won = ⟨at_, size, 2, task, 5, b, t, v, won0, some ⟨0, v, []⟩⟩ := by simp [dqGive, c, c2]
        rw [e]
        exact ⟨rfl, rfl, fun r h => (by cases h; rfl), fun h => (by cases h), u1, u2, u3, hv⟩
      · have e : dqGive ⟨at_, size, 2, task, 4, b, t, vv, won0, none⟩ v won = ⟨at_, size, 2, task, 5, b, t, v, won0, none⟩ := by simp [dqGive, c, c2]
        rw [e]
        exact ⟨rfl, rfl, fun r h => (by cases h), fun _ => .inr (.inl ⟨rfl, .inr (.inr (.inr (.inr (.inl rfl))))⟩), u1, u2, u3, hv⟩
  · exact ⟨rfl, rfl, fun r h => (by cases h), fun _ => .inr (.inl ⟨rfl, .inr (.inr (.inr (.inr (.inr rfl))))⟩), u1, u2, u3, u4⟩
  · exact ⟨rfl, rfl, fun r h => (by cases won0 <;> cases h <;> rfl), fun h => (by cases h), u1, u2, u3, u4⟩
  · exact ⟨rfl, rfl, fun r h => (by cases h), fun _ => .inr (.inr ⟨rfl, .inr (.inl rfl)⟩), u1, u2, hv, u4⟩
  · by_cases c : dqAhead v t < 1
    · have e : dqGive ⟨at_, size, 3, task, 2, b, t, vv, won0, none⟩ v won = ⟨at_, size, 3, task, 3, v, t, vv, won0, some ⟨5, 0, []⟩⟩ := by simp [dqGive, c]
      rw [e]
      exact ⟨rfl, rfl, fun r h => (by cases h; rfl), fun h => (by cases h), u1, hv, u3, u4⟩
    · have e : dqGive ⟨at_, size, 3, task, 2, b, t, vv, won0, none⟩ v won = ⟨at_, size, 3, task, 3, v, t, vv, won0, none⟩ := by simp [dqGive, c]
      rw [e]
      exact ⟨rfl, rfl, fun r h => (by cases h), fun _ => .inr (.inr ⟨rfl, .inr (.inr (.inl rfl))⟩), u1, hv, u3, u4⟩
  · exact ⟨rfl, rfl, fun r h => (by cases h), fun _ => .inr (.inr ⟨rfl, .inr (.inr (.inr rfl))⟩), u1, u2, u3, hv⟩
  · exact ⟨rfl, rfl, fun r h => (by cases won <;> cases h <;> rfl), fun h => (by cases h), u1, u2, u3, u4⟩

set_option maxHeartbeats 800000 in
theorem refDq_give (p : Nat) (s : DqS) (w : World) (S : List Nat) (tv : Int) (won : Bool) (h : refDqJ p w S s) (hv : M.U tv) :
    Calls Tryz.prog 31 #[.pointer (some ⟨p, 0, none⟩), .int .u64 tv, .bool won] w fun e w' => e = .returned (.tuple #[]) ∧ ∃ S', refDqJ p w' S' (dequeM.give s tv won) ∧ Keeps (if (dequeM.res s).isSome then [] else S) w w' ∧ ∀ k ∈ S', k ∈ S ∨ w.heap.size ≤ k := by
  have H0 := Lib.hid h
  obtain ⟨hS, hrow, hnil, hg, u1, u2, u3, u4⟩ := h
  cases ho : s.over with
  | some r =>
    have e : dequeM.give s tv won = s := by simp [dequeM, ho]
    have e2 : (dequeM.res s).isSome = true := by simp [dequeM, ho]
    rw [e, if_pos e2]
    have c9 := hrow.cell (j := 9) (u := .bool true) (by simp [dqCells, ho])
    clear hrow hnil hg u1 u2 u3 u4 e e2 ho hS
    go_enter Tryz.func31, Tryz.ntmps31
    go_wp2
    first | go_end0 | refine bodyPost_ret (results_none rfl _ _ _) rfl ?_
    exact ⟨rfl, S, H0.out, Keeps.refl _ _, fun k hk => .inl hk⟩
  | none =>
    obtain ⟨hr, hst⟩ := hg ho
    have e : dequeM.give s tv won = dqGive s tv won := by simp [dequeM, ho]
    have e2 : (dequeM.res s).isSome = false := by simp [dequeM, ho]
    rw [e, if_neg (by rw [e2]; simp)]
    have hok := dqGive_ok s tv won ho hst u1 u2 u3 u4 hv
    have HOk := Lib.hid hok
    have c9 := hrow.cell (j := 9) (u := .bool false) (by simp [dqCells, ho])
    have c2 := hrow.cell (j := 2) (u := .int .i64 s.kind) rfl
    have HR := Lib.hid hr
    have hall : ∀ w', Row w' p 73 (dqCells (dqGive s tv won)) → Keeps [p] w w' → ∃ S', refDqJ p w' S' (dqGive s tv won) ∧ Keeps S w w' ∧ ∀ k ∈ S', k ∈ S ∨ w.heap.size ≤ k := fun w' h1 h2 => by
      obtain ⟨a1, a2, a3, a4, a5, a6, a7, a8⟩ := HOk.out
      exact ⟨[p], ⟨rfl, h1, a3, fun h => ⟨by rw [a1, a2]; exact HR.out, a4 h⟩, a5, a6, a7, a8⟩, by rw [hS]; exact h2, fun k hk => .inl (by rw [hS]; exact hk)⟩
    have HAll := Lib.hid hall
    have HRow := Lib.hid hrow
    have HP := Lib.hid (fun h1 h2 => refDq_push p s tv won w HRow.out ho h1 h2 hr u2 hv)
    have HQ := Lib.hid (fun h1 h2 => refDq_pop p s tv won w HRow.out ho h1 h2 u2 u3 hv)
    have HT := Lib.hid (fun h1 h2 => refDq_steal p s tv won w HRow.out ho h1 h2 u3 hv)
    clear hrow hnil hg u1 u2 u3 u4 e e2 hok hall hr hS H0
    rcases hst with ⟨hk, hs⟩ | ⟨hk, hs⟩ | ⟨hk, hs⟩
    · have hc := HP.out hk hs
      rw [hk] at c2
      clear hk hs HP HQ HT
      go_enter Tryz.func31, Tryz.ntmps31
      go_wp2_with fail
      refine hc.mono ?_
      rintro e w1 ⟨rfl, hr1, k1⟩
      have HQ1 := Lib.hid (⟨hr1, k1⟩ : _ ∧ _)
      clear hr1 k1
      go_wp2
      first | go_end0 | refine bodyPost_ret (results_none rfl _ _ _) rfl ?_
      exact ⟨rfl, HAll.out _ HQ1.out.1 HQ1.out.2⟩
    · have hc := HQ.out hk hs
      rw [hk] at c2
      clear hk hs HP HQ HT
      go_enter Tryz.func31, Tryz.ntmps31
      go_wp2_with fail
      refine hc.mono ?_
      rintro e w1 ⟨rfl, hr1, k1⟩
      have HQ1 := Lib.hid (⟨hr1, k1⟩ : _ ∧ _)
      clear hr1 k1
      go_wp2
      first | go_end0 | refine bodyPost_ret (results_none rfl _ _ _) rfl ?_
      exact ⟨rfl, HAll.out _ HQ1.out.1 HQ1.out.2⟩
    · have hc := HT.out hk hs
      rw [hk] at c2
      clear hk hs HP HQ HT
      go_enter Tryz.func31, Tryz.ntmps31
      go_wp2_with fail
      refine hc.mono ?_
      rintro e w1 ⟨rfl, hr1, k1⟩
      have HQ1 := Lib.hid (⟨hr1, k1⟩ : _ ∧ _)
      clear hr1 k1
      go_wp2
      first | go_end0 | refine bodyPost_ret (results_none rfl _ _ _) rfl ?_
      exact ⟨rfl, HAll.out _ HQ1.out.1 HQ1.out.2⟩
theorem refDq_held (p : Nat) (s : DqS) (w : World) (S : List Nat) (h : refDqJ p w S s) :
    Calls Tryz.prog 30 #[.pointer (some ⟨p, 0, none⟩)] w fun e w' => ∃ q c, e = .returned (.slice q (dequeM.held s).length c) ∧ Sl w' 1 (.slice q (dequeM.held s).length c) (dequeM.held s).length (ints .u64 (dequeM.held s)) ∧ Keeps [] w w' := by
  obtain ⟨-, hrow, -, -⟩ := h
  obtain ⟨at_, size, kind, task, step, b, t, vv, won0, over⟩ := s
  have c2 := hrow.cell (j := 2) rfl
  have c3 := hrow.cell (j := 3) rfl
  have c4 := hrow.cell (j := 4) rfl
  have c7 := hrow.cell (j := 7) rfl
  have c8 := hrow.cell (j := 8) rfl
  have c9 := hrow.cell (j := 9) rfl
  simp only at c2 c3 c4 c7 c8 c9
  clear hrow
  have none_ : ∀ W : World, Sl W 1 (.slice none 0 0) 0 (ints .u64 []) := fun W => ⟨rfl, .inl ⟨_, _, rfl, rfl⟩⟩
  have HNone := Lib.hid none_
  clear none_
  cases over with
  | some r =>
    simp only [Option.isSome_some] at c9
    show Calls Tryz.prog 30 #[.pointer (some ⟨p, 0, none⟩)] w fun e w' => ∃ q c, e = .returned (.slice q 0 c) ∧ Sl w' 1 (.slice q 0 c) 0 (ints .u64 []) ∧ Keeps [] w w'
    go_enter Tryz.func30, Tryz.ntmps30
    go_wp2
    go_ret
    exact ⟨none, 0, rfl, HNone.out _, Keeps.refl _ _⟩
  | none =>
    simp only [Option.isSome_none] at c9
    by_cases k1 : kind = 1
    · have HH : Hid (dequeM.held ⟨at_, size, kind, task, step, b, t, vv, won0, none⟩ = [task]) := Lib.hid (by simp [dequeM, dqHeld, k1])
      rw [HH.out]
      subst k1
      go_enter Tryz.func30, Tryz.ntmps30
      go_wp2
      go_ret
      exact ⟨_, _, rfl, Sl.lit w #[.int .u64 task] 24 1 1 1 rfl, (Keeps.refl _ _).alloc _⟩
    · have b1 : (kind == 1) = false := by simp [k1]
      have HK1 := Lib.hid k1
      clear k1
      by_cases k2 : kind = 2 ∧ step = 6 ∧ won0 = true
      · obtain ⟨rfl, rfl, rfl⟩ := k2
        have HH : Hid (dequeM.held ⟨at_, size, 2, task, 6, b, t, vv, true, none⟩ = [vv]) := Lib.hid (by simp [dequeM, dqHeld])
        rw [HH.out]
        go_enter Tryz.func30, Tryz.ntmps30
        go_wp2
        go_ret
        exact ⟨_, _, rfl, Sl.lit w #[.int .u64 vv] 24 1 1 1 rfl, (Keeps.refl _ _).alloc _⟩
      · have HH : Hid (dequeM.held ⟨at_, size, kind, task, step, b, t, vv, won0, none⟩ = []) := Lib.hid (by simp [dequeM, dqHeld, HK1.out]; exact fun a b => by cases won0; rfl; exact absurd ⟨a, b, rfl⟩ k2)
        rw [HH.out]
        have hcase : Hid ((kind == 2) = false ∨ (kind == 2) = true ∧ (step == 6) = false ∨ (kind == 2) = true ∧ (step == 6) = true ∧ won0 = false) := Lib.hid (by
          by_cases a : kind = 2
          · by_cases b : step = 6
            · right; right; exact ⟨by simp [a], by simp [b], by cases won0; rfl; exact absurd ⟨a, b, rfl⟩ k2⟩
            · right; left; exact ⟨by simp [a], by simp [b]⟩
          · left; simp [a])
        clear k2
        rcases hcase.out with a | ⟨a, b⟩ | ⟨a, b, rfl⟩
        all_goals
          go_enter Tryz.func30, Tryz.ntmps30
          go_wp2
          go_ret
          exact ⟨none, 0, rfl, HNone.out _, Keeps.refl _ _⟩
end Go.Proofs.YtdejgkjckhkihaaGreat
