/-
  Contracts: Hold, and Break, of a walk that goes as a machine goes.
-/
import Derived.Test.YtahjnpopncninaaKinds3
namespace Go.Proofs.Ytahjnpopncninaa
open Go.ChangeShapes Go.WideShapes Go.ChangeAt Go.RowKit

theorem lone_hold {σ : Type} (K : Mach σ) (E : World → List Nat → Value → σ → Prop) (m : Nat) (hold : σ → List Int → σ) (hE : ∀ w w' T A nx s, E w T nx s → Keeps A w w' → (∀ k ∈ T, k ∉ A) → E w' T nx s)
    (hf : ∀ s us, K.face (hold s us) = ⟨K.want s, K.res s, us⟩) (hEh : ∀ w T nx s us, E w T nx s → E w T nx (hold s us)) (w : World) (U : List Nat) (s : σ) (l : Value) (us : List Int)
    (h : LoneI K E m w U s) (hl : Sl w 1 l us.length (ints .u64 us)) (hn : us.length ≤ 10000000) :
    Calls Try.prog 19 #[.pointer (some ⟨m, 0, none⟩), l] w fun e w' => e = .returned (.tuple #[]) ∧ ∃ U', LoneI K E m w' U' (hold s us) ∧ Keeps [m] w w' ∧ m ∈ U ∧ ∀ k ∈ U', k ∈ U ∨ w.heap.size ≤ k := by
  obtain ⟨S, T, st, rfl, hL, h1, h2, h3, h4⟩ := h
  refine (wHold m st l us.length us w hL.wk hl hn).mono ?_
  rintro e w' ⟨rfl, t, hw, ho, hk⟩
  have hm := hL.wk.lt
  have hown : ∀ g, t.ownBlock = some g → w.heap.size ≤ g ∧ g < w'.heap.size := ho.lt
  have hmT : m ∉ T := h3 m hL.mem
  refine ⟨rfl, (t.ownBlock.toList ++ S) ++ T, ⟨t.ownBlock.toList ++ S, T, { st with tasks := t }, rfl, ?_, ?_, ?_, ?_, ?_⟩, hk, List.mem_append_left _ hL.mem, ?_⟩
  · rw [hf]
    exact { wk := hw, sub := hL.sub, outer := hL.outer, under := hL.under, mem := List.mem_append_right _ hL.mem, tasks := Sl.of_owns ho
            tasksOwn := fun g hg => ⟨by simp [show t.ownBlock = some g from hg], by have := (hown g hg).1; omega⟩
            tasksFew := hn, over := hL.over
            res := fun r hr => ⟨(hL.res r hr).1, (hL.res r hr).2.1, (hL.res r hr).2.2.1.but hk (fun g hg => by simpa using (hL.resOwn g hg).2), (hL.res r hr).2.2.2⟩
            resOwn := fun g hg => ⟨List.mem_append_right _ (hL.resOwn g hg).1, (hL.resOwn g hg).2⟩
            none_ := hL.none_, some_ := hL.some_ }
  · intro k hk'
    rcases List.mem_append.1 hk' with h | h
    · exact (hown k (by simpa using h)).2
    · exact Nat.lt_of_lt_of_le (h1 k h) hk.size
  · exact fun k hk' => Nat.lt_of_lt_of_le (h2 k hk') hk.size
  · intro k hk' hkT
    rcases List.mem_append.1 hk' with h | h
    · have := (hown k (by simpa using h)).1
      have := h2 k hkT
      omega
    · exact h3 k h hkT
  · exact hEh _ _ _ _ _ (hE _ _ _ _ _ _ h4 hk (fun k hk' hm' => by simp at hm'; exact hmT (hm' ▸ hk')))
  · intro k hk'
    rcases List.mem_append.1 hk' with h | h
    · rcases List.mem_append.1 h with h | h
      · exact .inr (hown k (by simpa using h)).1
      · exact .inl (List.mem_append_left _ h)
    · exact .inl (List.mem_append_right _ h)
end Go.Proofs.Ytahjnpopncninaa
