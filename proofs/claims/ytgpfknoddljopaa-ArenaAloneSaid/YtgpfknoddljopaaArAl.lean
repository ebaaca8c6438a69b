/-
  One who is alone at an arena, and keeps two rows of its own: those that are free, and those that it has.
-/
import Derived.Test.YtgpfknoddljopaaArS
import Derived.Test.YtgpfknoddljopaaAppend
namespace Go.Proofs.Ytgpfknoddljopaa
set_option maxRecDepth 100000
open Go.ChangeShapes Go.WideShapes Go.ChangeAt Go.RowKit

theorem range_down (N : Nat) : (List.range' 1 N).reverse = (List.range N).map fun j => N - j := by
  rw [List.reverse_range']
  apply List.map_congr_left
  intro j _
  omega
theorem nodes_take (l : List Nat) (n : Nat) : (nodes l).take n = nodes (l.take n) := by simp [nodes, ints, List.map_take]
theorem nodes_drop (l : List Nat) (n : Nat) : (nodes l).drop n = nodes (l.drop n) := by simp [nodes, ints, List.map_drop]
/-- Who is alone: the loom, what is free (fv), what is had (hv); E: blocks that nobody writes. -/
structure Solo (E : Nat → Prop) (l g m b n P : Nat) (w : World) (fv hv : Value) (L : LSt) (ss : Nat → Option ArS) (hs : Nat → List Nat) (tag : Nat) (F : List Nat) : Prop where
  loom : Loom (fun x => E x ∨ x ∈ fv.ownBlock.toList ++ hv.ownBlock.toList) w L
  ar : ArLoom l g m b n 1 L ss hs tag F
  fly : flies (ss 0) = false
  free : w.ownsRow P 3 1 fv F.length (nodes F.reverse)
  had : w.ownsRow P 3 1 hv (hs 0).length (nodes (hs 0))
  apart : ∀ g, fv.ownBlock = some g → hv.ownBlock ≠ some g
  low : (∀ k, E k → k < P) ∧ m < P

section
variable {E : Nat → Prop} {l g m b n P : Nat} {w w' : World} {fv hv fv' hv' : Value} {L M : LSt} {ss ss' : Nat → Option ArS} {hs hs' : Nat → List Nat} {tag tag' : Nat} {F F' : List Nat}
theorem Solo.keeps (h : Solo E l g m b n P w fv hv L ss hs tag F) (hk : Keeps [] w w') : Solo E l g m b n P w' fv hv L ss hs tag F :=
  { h with loom := h.loom.keeps hk, free := owns_keeps h.free hk (by simp), had := owns_keeps h.had hk (by simp) }
theorem Solo.own (h : Solo E l g m b n P w fv hv L ss hs tag F) : ∀ k ∈ fv.ownBlock.toList ++ hv.ownBlock.toList, P ≤ k ∧ k < w.heap.size := by
  intro k hk
  rcases List.mem_append.1 hk with hk | hk
  · exact h.free.lt k ((ownBlock_toList _ _).1 hk)
  · exact h.had.lt k ((ownBlock_toList _ _).1 hk)
/-- Another loom, and other rows: in their own blocks, or in new ones. -/
theorem Solo.next {W : World} {X : List Nat} (hL : Loom (fun x => E x ∨ x ∈ fv.ownBlock.toList ++ hv.ownBlock.toList) W M) (hA : ArLoom l g m b n 1 M ss' hs' tag' F') (hfly : flies (ss' 0) = false)
    (hX : ∀ k ∈ X, k ∈ fv.ownBlock.toList ++ hv.ownBlock.toList) (hk : Keeps X W w') (hP : ∀ k ∈ fv.ownBlock.toList ++ hv.ownBlock.toList, P ≤ k)
    (hf : w'.ownsRow P 3 1 fv' F'.length (nodes F'.reverse)) (hh : w'.ownsRow P 3 1 hv' (hs' 0).length (nodes (hs' 0)))
    (hown : ∀ k, fv'.ownBlock = some k ∨ hv'.ownBlock = some k → k ∈ fv.ownBlock.toList ++ hv.ownBlock.toList ∨ W.heap.size ≤ k)
    (hap : ∀ g, fv'.ownBlock = some g → hv'.ownBlock ≠ some g) (hlow : (∀ k, E k → k < P) ∧ m < P) :
    Held E W w' ∧ Solo E l g m b n P w' fv' hv' M ss' hs' tag' F' := by
  refine ⟨hk.held (fun k hk => hL.dom k (.inl hk)) (fun k hk he => ?_), ⟨hL.widenX hk (fun k hk => .inr (hX k hk)) (fun hm => ?_) (fun k hk' => ?_), hA, hfly, hf, hh, hap, hlow⟩⟩
  · have h1 := hP k (hX k hk)
    have h2 := hlow.1 k he
    omega
  · rw [hA.m] at hm
    have h1 := hP m (hX m hm)
    have h2 := hlow.2
    omega
  · rcases hk' with hk' | hk'
    · exact .inl (.inl hk')
    · have hlt : k < w'.heap.size := by
        rcases List.mem_append.1 hk' with h | h
        · exact (hf.lt k ((ownBlock_toList _ _).1 h)).2
        · exact (hh.lt k ((ownBlock_toList _ _).1 h)).2
      have ho : fv'.ownBlock = some k ∨ hv'.ownBlock = some k := by
        rcases List.mem_append.1 hk' with h | h
        · exact .inl ((ownBlock_toList _ _).1 h)
        · exact .inr ((ownBlock_toList _ _).1 h)
      rcases hown k ho with h | h
      · exact .inl (.inr h)
      · exact .inr ⟨h, hlt⟩
/-- The rows, where only others than these blocks have been written. -/
theorem Solo.rows (h : Solo E l g m b n P w fv hv L ss hs tag F) (hh : Held (fun x => E x ∨ x ∈ fv.ownBlock.toList ++ hv.ownBlock.toList) w w') : w'.ownsRow P 3 1 fv F.length (nodes F.reverse) ∧ w'.ownsRow P 3 1 hv (hs 0).length (nodes (hs 0)) :=
  ⟨owns_block h.free fun g hg => hh.block g (.inr (List.mem_append_left _ ((ownBlock_toList _ _).2 hg))), owns_block h.had fun g hg => hh.block g (.inr (List.mem_append_right _ ((ownBlock_toList _ _).2 hg)))⟩
end
end Go.Proofs.Ytgpfknoddljopaa
