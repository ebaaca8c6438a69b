/-
  What any deed makes of a deque whose workers are alone.
-/
import Derived.Test.YtdejgkjckhkihaaDqS
namespace Go.Proofs.Ytdejgkjckhkihaa
set_option maxRecDepth 100000
set_option linter.unusedSimpArgs false
set_option linter.unusedVariables false
open Go

/-- Which walk a number stands for: 1 a Pop, 2 a Steal, others a Push. -/
def dqK1 (r : Int) : Int := if r = 1 then 2 else 1
def dqT1 (r v : Int) : Int := if r = 1 then 0 else v
def dqK2 (r : Int) : Int := if r = 2 then 3 else dqK1 r
def dqT2 (r v : Int) : Int := if r = 2 then 0 else dqT1 r v
/-- What such a walk tells, and what is in it then. -/
inductive DqDeed (size : Nat) (r v : Int) (xs : List Int) (c u : Int) (ys : List Int) : Prop
  | full : (r = 0 ∨ r = 3) → xs.length = size → c = 4 → u = 0 → ys = xs → DqDeed size r v xs c u ys
  | push : (r = 0 ∨ r = 3) → xs.length < size → c = 0 → u = 0 → ys = xs ++ [v] → DqDeed size r v xs c u ys
  | none_ : (r = 1 ∨ r = 2) → xs = [] → c = 5 → u = 0 → ys = [] → DqDeed size r v xs c u ys
  | pop : r = 1 → xs = ys ++ [u] → c = 0 → DqDeed size r v xs c u ys
  | steal : r = 2 → xs = u :: ys → c = 0 → DqDeed size r v xs c u ys
theorem DqL.deed {size : Nat} {fr T : Int} {us xs : List Int} (h : DqL size fr T us xs) (r v : Int) (hr : r = 0 ∨ r = 1 ∨ r = 2 ∨ r = 3) (hv : M.U v) :
    ∃ (n : Nat) (us' : List Int) (s' : DqS) (c u : Int) (ys : List Int) (T' : Int), 0 < n ∧ n ≤ 6 ∧ Solo dequeM us (dqNew 0 size (dqK2 r) (dqT2 r v)) n us' s' ∧ s'.over = some ⟨c, u, []⟩ ∧ DqL size fr T' us' ys ∧ T' ≤ T + 1 ∧ DqDeed size r v xs c u ys := by
  have push : ∀ r, (r = 0 ∨ r = 3) → dqK2 r = 1 → dqT2 r v = v → ∃ (n : Nat) (us' : List Int) (s' : DqS) (c u : Int) (ys : List Int) (T' : Int), 0 < n ∧ n ≤ 6 ∧ Solo dequeM us (dqNew 0 size (dqK2 r) (dqT2 r v)) n us' s' ∧ s'.over = some ⟨c, u, []⟩ ∧ DqL size fr T' us' ys ∧ T' ≤ T + 1 ∧ DqDeed size r v xs c u ys := by
    intro r hr e1 e2
    rw [e1, e2]
    obtain ⟨n, us', s', n0, n6, hs, hc⟩ := h.push v hv
    rcases hc with ⟨hf, ho, rfl⟩ | ⟨hf, ho, hq⟩
    · exact ⟨n, _, s', 4, 0, xs, T, n0, n6, hs, ho, h, by omega, .full hr hf rfl rfl rfl⟩
    · exact ⟨n, us', s', 0, 0, _, T, n0, n6, hs, ho, hq, by omega, .push hr hf rfl rfl rfl⟩
  rcases hr with rfl | rfl | rfl | rfl
  · exact push 0 (.inl rfl) (by decide) (by simp [dqT2, dqT1])
  · rw [show dqK2 1 = 2 from rfl, show dqT2 1 v = 0 from rfl]
    obtain ⟨n, us', s', n0, n6, hs, hc⟩ := h.pop
    rcases hc with ⟨e, ho, hq⟩ | ⟨y, ys, e, ho, T', ht, hq⟩
    · exact ⟨n, us', s', 5, 0, [], T, n0, n6, hs, ho, hq, by omega, .none_ (.inl rfl) e rfl rfl rfl⟩
    · exact ⟨n, us', s', 0, y, ys, T', n0, n6, hs, ho, hq, ht, .pop rfl e rfl⟩
  · rw [show dqK2 2 = 3 from rfl, show dqT2 2 v = 0 from rfl]
    obtain ⟨n, us', s', n0, n6, hs, hc⟩ := h.steal
    rcases hc with ⟨e, ho, rfl⟩ | ⟨y, ys, e, ho, hq⟩
    · exact ⟨n, _, s', 5, 0, [], T, n0, n6, hs, ho, e ▸ h, by omega, .none_ (.inr rfl) e rfl rfl rfl⟩
    · exact ⟨n, us', s', 0, y, ys, T + 1, n0, n6, hs, ho, hq, by omega, .steal rfl e rfl⟩
  · exact push 3 (.inr rfl) (by decide) (by simp [dqT2, dqT1])
end Go.Proofs.Ytdejgkjckhkihaa
