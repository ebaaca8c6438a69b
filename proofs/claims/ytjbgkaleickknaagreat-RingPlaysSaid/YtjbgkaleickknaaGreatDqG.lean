import Derived.Test.YtjbgkaleickknaaGreatDqI
/-
  Where each task is: out, in the deque, or in the owner's hand.
-/
namespace Go.Proofs.YtjbgkaleickknaaGreat
set_option maxRecDepth 100000
set_option linter.unusedSimpArgs false
set_option linter.unusedVariables false
open Go

def updZ (f : Int → Int) (v c : Int) : Int → Int := fun x => if x = v then c else f x
theorem updZ_same (f : Int → Int) (v c : Int) : updZ f v c v = c := by simp [updZ]
theorem updZ_ne (f : Int → Int) {v x : Int} (c : Int) (h : x ≠ v) : updZ f v c x = f x := by simp [updZ, h]

/-- lim tasks are about; hand: one that a pop took and has not told yet. -/
structure Play (lim : Int) (hand : Option Int) (T B : Int) (A : Int → Int) (cnt : Int → Int) (stolen : Int) : Prop where
  rise : ∀ x y, T ≤ x → x < y → y < B → A x < A y
  mem : ∀ x, T ≤ x → x < B → 1 ≤ A x ∧ A x ≤ lim ∧ cnt (A x) = 0 ∧ stolen < A x ∧ hand ≠ some (A x)
  st : 0 ≤ stolen ∧ stolen ≤ lim
  once : ∀ v, 1 ≤ v → v ≤ lim → cnt v = 1 ∨ (∃ x, T ≤ x ∧ x < B ∧ A x = v) ∨ hand = some v
  none_ : ∀ v, v < 1 ∨ lim < v → cnt v = 0
  held : ∀ v, hand = some v → 1 ≤ v ∧ v ≤ lim ∧ cnt v = 0
section
variable {lim : Int} {hand : Option Int} {T B : Int} {A cnt : Int → Int} {stolen : Int}
theorem Play.begin_ : Play 0 none 0 0 (fun _ => 0) (fun _ => 0) 0 :=
  ⟨fun x y h1 h2 h3 => by omega, fun x h1 h2 => by omega, ⟨by omega, by omega⟩, fun v h1 h2 => by omega, fun _ _ => rfl, fun v h => by cases h⟩
theorem Play.steal (h : Play lim hand T B A cnt stolen) (hTB : T < B) : Play lim hand (T + 1) B A (updZ cnt (A T) 1) (A T) := by
  obtain ⟨m1, m2, m3, m4, m5⟩ := h.mem T (Int.le_refl _) hTB
  refine ⟨fun x y h1 h2 h3 => h.rise x y (by omega) h2 h3, fun x h1 h2 => ?_, ⟨by omega, m2⟩, fun v h1 h2 => ?_, fun v hv => ?_, fun v hv => ?_⟩
  · obtain ⟨n1, n2, n3, n4, n5⟩ := h.mem x (by omega) h2
    have := h.rise T x (Int.le_refl _) (by omega) h2
    exact ⟨n1, n2, by rw [updZ_ne _ _ (by omega)]; exact n3, by omega, n5⟩
  · by_cases e : v = A T
    · left; rw [e, updZ_same]
    · rw [updZ_ne _ _ e]
      rcases h.once v h1 h2 with a | ⟨x, a, b, c⟩ | a
      · exact .inl a
      · refine .inr (.inl ⟨x, ?_, b, c⟩)
        rcases Int.lt_or_eq_of_le a with a | a
        · omega
        · subst a; exact absurd c.symm e
      · exact .inr (.inr a)
  · rw [updZ_ne _ _ (by omega)]; exact h.none_ v hv
  · obtain ⟨n1, n2, n3⟩ := h.held v hv
    exact ⟨n1, n2, by rw [updZ_ne _ _ (fun e => m5 (by rw [hv, e]))]; exact n3⟩
theorem Play.push (h : Play lim none T B A cnt stolen) (hTB : T ≤ B) : Play (lim + 1) none T (B + 1) (fun x => if x = B then lim + 1 else A x) cnt stolen := by
  refine ⟨fun x y h1 h2 h3 => ?_, fun x h1 h2 => ?_, ⟨h.st.1, by have := h.st.2; omega⟩, fun v h1 h2 => ?_, fun v hv => h.none_ v (by omega), fun v hv => by cases hv⟩
  · show (if x = B then lim + 1 else A x) < if y = B then lim + 1 else A y
    rw [if_neg (by omega)]
    by_cases e : y = B
    · rw [if_pos e]
      have := (h.mem x h1 (by omega)).2.1
      omega
    · rw [if_neg e]; exact h.rise x y h1 h2 (by omega)
  · show 1 ≤ (if x = B then lim + 1 else A x) ∧ (if x = B then lim + 1 else A x) ≤ lim + 1 ∧ cnt (if x = B then lim + 1 else A x) = 0 ∧ stolen < (if x = B then lim + 1 else A x) ∧ none ≠ some (if x = B then lim + 1 else A x)
    have := h.st
    by_cases e : x = B
    · rw [if_pos e]; exact ⟨by omega, by omega, h.none_ _ (by omega), by omega, by simp⟩
    · rw [if_neg e]
      obtain ⟨n1, n2, n3, n4, n5⟩ := h.mem x h1 (by omega)
      exact ⟨n1, by omega, n3, n4, n5⟩
  · by_cases e : v = lim + 1
    · exact .inr (.inl ⟨B, hTB, by omega, by simp [e]⟩)
    · rcases h.once v h1 (by omega) with a | ⟨x, a, b, c⟩ | a
      · exact .inl a
      · exact .inr (.inl ⟨x, a, by omega, by simp [show x ≠ B by omega, c]⟩)
      · cases a
theorem Play.full (h : Play lim none T B A cnt stolen) (hl : 0 ≤ lim) : Play (lim + 1) none T B A (updZ cnt (lim + 1) 1) stolen := by
  refine ⟨h.rise, fun x h1 h2 => ?_, ⟨h.st.1, by have := h.st.2; omega⟩, fun v h1 h2 => ?_, fun v hv => ?_, fun v hv => by cases hv⟩
  · obtain ⟨n1, n2, n3, n4, n5⟩ := h.mem x h1 h2
    exact ⟨n1, by omega, by rw [updZ_ne _ _ (by omega)]; exact n3, n4, n5⟩
  · by_cases e : v = lim + 1
    · left; rw [e, updZ_same]
    · rw [updZ_ne _ _ e]; exact h.once v h1 (by omega)
  · rw [updZ_ne _ _ (by omega)]; exact h.none_ v (by omega)
theorem Play.pop (h : Play lim none T B A cnt stolen) (hTB : T ≤ B - 1) : Play lim none T (B - 1) A (updZ cnt (A (B - 1)) 1) stolen := by
  obtain ⟨m1, m2, m3, m4, m5⟩ := h.mem (B - 1) hTB (by omega)
  refine ⟨fun x y h1 h2 h3 => h.rise x y h1 h2 (by omega), fun x h1 h2 => ?_, h.st, fun v h1 h2 => ?_, fun v hv => ?_, fun v hv => by cases hv⟩
  · obtain ⟨n1, n2, n3, n4, n5⟩ := h.mem x h1 (by omega)
    have := h.rise x (B - 1) h1 (by omega) (by omega)
    exact ⟨n1, n2, by rw [updZ_ne _ _ (by omega)]; exact n3, n4, n5⟩
  · by_cases e : v = A (B - 1)
    · left; rw [e, updZ_same]
    · rw [updZ_ne _ _ e]
      rcases h.once v h1 h2 with a | ⟨x, a, b, c⟩ | a
      · exact .inl a
      · refine .inr (.inl ⟨x, a, ?_, c⟩)
        by_cases hx : x = B - 1
        · subst hx; exact absurd c.symm e
        · omega
      · cases a
  · rw [updZ_ne _ _ (by omega)]; exact h.none_ v hv
theorem Play.take (h : Play lim none T B A cnt stolen) (hTB : T = B - 1) : Play lim (some (A T)) B B A cnt stolen := by
  obtain ⟨m1, m2, m3, m4, m5⟩ := h.mem T (Int.le_refl _) (by omega)
  refine ⟨fun x y h1 h2 h3 => by omega, fun x h1 h2 => by omega, h.st, fun v h1 h2 => ?_, h.none_, fun v hv => ?_⟩
  · rcases h.once v h1 h2 with a | ⟨x, a, b, c⟩ | a
    · exact .inl a
    · obtain rfl : x = T := by omega
      exact .inr (.inr (by rw [c]))
    · cases a
  · cases hv; exact ⟨m1, m2, m3⟩
theorem Play.took {v : Int} (h : Play lim (some v) T B A cnt stolen) (hTB : T = B) : Play lim none T B A (updZ cnt v 1) stolen := by
  obtain ⟨m1, m2, m3⟩ := h.held v rfl
  refine ⟨fun x y h1 h2 h3 => by omega, fun x h1 h2 => by omega, h.st, fun u h1 h2 => ?_, fun u hu => ?_, fun u hu => by cases hu⟩
  · by_cases e : u = v
    · left; rw [e, updZ_same]
    · rw [updZ_ne _ _ e]
      rcases h.once u h1 h2 with a | ⟨x, a, b, c⟩ | a
      · exact .inl a
      · omega
      · cases a; exact absurd rfl e
  · rw [updZ_ne _ _ (by omega)]; exact h.none_ u hu

/-- What the owner is at. -/
structure PlayR (next : Int) (pushes : Bool) (o : Option DqS) (lim : Int) (hand : Option Int) : Prop where
  idle : (∀ s, o = some s → s.over ≠ none) → lim = next ∧ hand = none
  work : ∀ s, o = some s → s.over = none → (pushes = true ∧ s.kind = 1 ∧ s.task = next ∧ lim = next - 1 ∧ hand = none) ∨
    (pushes = false ∧ s.kind = 2 ∧ lim = next ∧ (s.step = 6 ∧ s.won = true → hand = some s.v) ∧ (¬ (s.step = 6 ∧ s.won = true) → hand = none))
theorem PlayR.over {next : Int} {s : DqS} (p : Bool) (h : s.over ≠ none) : PlayR next p (some s) next none :=
  ⟨fun _ => ⟨rfl, rfl⟩, fun u hu ho => by cases hu; exact absurd ho h⟩
end
end Go.Proofs.YtjbgkaleickknaaGreat
