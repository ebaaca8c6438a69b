import Derived.Test.YtnlkbmjelkbfkaaQuF
import Derived.Test.YtnlkbmjelkbfkaaWord
import Derived.Test.YtnlkbmjelkbfkaaSeen
import Derived.Test.YtnlkbmjelkbfkaaArM
import Derived.IntWalk
import Derived.Deep.CutRange
import Derived.LoopTactic
import Derived.Test.YtnlkbmjelkbfkaaDraw
import Derived.Test.YtnlkbmjelkbfkaaFresh
import Derived.Test.YtnlkbmjelkbfkaaKeep
/-
  Contracts: whether there can be a queue, and what is in it, as the document says.
-/
namespace Go.Proofs.Ytnlkbmjelkbfkaa
set_option maxRecDepth 100000
set_option linter.unusedSimpArgs false
set_option linter.unusedVariables false
open Go.ChangeShapes Go.WideShapes Go.ChangeAt Go.RowKit


/-- Where the document's All stands: seen: the nodes that came up; i: the next one. -/
structure Seen9 (us : List Int) (n : Nat) (seen : List Nat) (out : List Int) (i : Nat) (O : Option (List Int)) : Prop where
  nodup : seen.Nodup
  range : ∀ x ∈ seen, 1 ≤ x ∧ x ≤ n
  next : ∀ x ∈ seen, (∃ y ∈ seen, quNx us 0 n (x : Int) = (y : Int)) ∨ quNx us 0 n (x : Int) = (i : Int)
  lt : i < 4294967296
  first : seen = [] → out = [] ∧ O = if 1 ≤ i ∧ i ≤ n then quFollow us 0 n (n - 1) (quNx us 0 n (i : Int)) [] else none
  rest : seen ≠ [] → i ≠ 0 ∧ O = quFollow us 0 n (n - seen.length) (i : Int) out
theorem Seen9.few {us : List Int} {n i : Nat} {seen : List Nat} {out : List Int} {O : Option (List Int)} (h : Seen9 us n seen out i O) (hr : 1 ≤ i ∧ i ≤ n) (hi : i ∉ seen) : seen.length < n := by
  have := nodup_len n (seen ++ [i]) (List.nodup_append.2 ⟨h.nodup, by simp, fun a ha b hb => by simp at hb; subst hb; exact fun e => hi (e ▸ ha)⟩) (fun x hx => by
    rcases List.mem_append.1 hx with hx | hx
    · exact h.range x hx
    · simp at hx; subst hx; exact hr)
  simp at this
  omega
theorem Seen9.go {us : List Int} {n i j : Nat} {seen : List Nat} {out : List Int} {O : Option (List Int)} (h : Seen9 us n seen out i O) (hr : 1 ≤ i ∧ i ≤ n) (hi : i ∉ seen) (hj : quNx us 0 n (i : Int) = (j : Int)) :
    (j = 0 → O = some (if seen = [] then out else out ++ [quTk us 0 n (i : Int)])) ∧ (j ≠ 0 → Seen9 us n (seen ++ [i]) (if seen = [] then out else out ++ [quTk us 0 n (i : Int)]) j O) := by
  have hf := h.few hr hi
  have hO : O = quFollow us 0 n (n - (seen ++ [i]).length) (j : Int) (if seen = [] then out else out ++ [quTk us 0 n (i : Int)]) := by
    by_cases hs : seen = []
    · obtain ⟨h1, h2⟩ := h.first hs
      rw [h2, if_pos hr, if_pos hs, hj, h1, hs]
      rfl
    · obtain ⟨h1, h2⟩ := h.rest hs
      rw [h2, if_neg hs, show n - seen.length = (n - (seen ++ [i]).length) + 1 by simp; omega]
      conv => lhs; unfold quFollow
      rw [if_neg (by omega), if_pos (by omega), hj]
  refine ⟨fun h0 => ?_, fun h0 => ⟨?_, ?_, ?_, ?_, fun h => by simp at h, fun _ => ⟨h0, hO⟩⟩⟩
  · rw [hO, h0]
    cases n - (seen ++ [i]).length <;> simp [quFollow]
  · exact List.nodup_append.2 ⟨h.nodup, by simp, fun a ha b hb => by simp at hb; subst hb; exact fun e => hi (e ▸ ha)⟩
  · intro x hx
    rcases List.mem_append.1 hx with hx | hx
    · exact h.range x hx
    · simp at hx; subst hx; exact hr
  · intro x hx
    rcases List.mem_append.1 hx with hx | hx
    · rcases h.next x hx with ⟨y, hy, e⟩ | e
      · exact .inl ⟨y, List.mem_append_left _ hy, e⟩
      · exact .inl ⟨i, by simp, e⟩
    · simp at hx; subst hx; exact .inr hj
  · have := quNode_nn (us.getD (0 + 2 + 2 * n + (i : Int).toNat) 0)
    unfold quNx at hj
    omega

end Go.Proofs.Ytnlkbmjelkbfkaa

/-
  Contract: what is in a queue, as the document says.
-/
namespace Go.Proofs.Ytnlkbmjelkbfkaa
set_option maxRecDepth 100000
set_option linter.unusedSimpArgs false
set_option linter.unusedVariables false
open Go.ChangeShapes Go.WideShapes Go.ChangeAt Go.RowKit

def refTold9 (w w' : World) (e : Ending) (O : Option (List Int)) : Prop :=
  (O = none → e = .returned (.tuple #[.slice none 0 0, .bool false])) ∧ ∀ xs, O = some xs → ∃ l, e = .returned (.tuple #[l, .bool true]) ∧ w'.ownsRow w.heap.size 58 1 l xs.length (ints .u64 xs)
theorem refTold9.some {w w' : World} {e : Ending} {v : Value} {l : List Int} (h : e = .returned (.tuple #[v, .bool true])) (ho : w'.ownsRow w.heap.size 58 1 v l.length (ints .u64 l)) : refTold9 w w' e (Option.some l) := ⟨(fun h => by cases h), (fun xs hx => by cases hx; exact ⟨v, h, ho⟩)⟩
end Go.Proofs.Ytnlkbmjelkbfkaa
