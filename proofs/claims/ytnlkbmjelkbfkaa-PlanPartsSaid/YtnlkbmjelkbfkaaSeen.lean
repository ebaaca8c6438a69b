import Derived.Test.YtnlkbmjelkbfkaaLook
import Derived.Test.YtnlkbmjelkbfkaaFresh
/-
  Contracts: what is seen of the document's machines, step by step.
-/
namespace Go.Proofs.Ytnlkbmjelkbfkaa
set_option maxRecDepth 100000
set_option linter.unusedSimpArgs false
set_option linter.unusedVariables false
open Go.ChangeShapes Go.WideShapes Go.ChangeAt Go.RowKit

/-- What was seen, with the lists as they lie. -/
structure SeenT where
  f : Fc
  l : Value
  h : Value
@[reducible] def SeenT.cells (t : SeenT) : List Value := seenCells t.f t.l t.h
/-- What holds of each of them while more are seen: B bounds the blocks that are new, S is what the machine may write, v is the row of what was seen. -/
structure SeenGood (w : World) (B : Nat) (S0 S : List Nat) (v : Value) (t : SeenT) : Prop where
  shape : ∃ p n c, t.l = .slice p n c
  shapeH : ∃ p c, t.h = .slice p t.f.held.length c
  res : ∀ r, t.f.res = some r → Sl w 1 t.l r.l.length (ints .u64 r.l) ∧ r.l.length ≤ maxLen ∧ (r.l ≠ [] → ∀ g, t.l.ownBlock = some g → (g ∈ S0 ∨ B ≤ g) ∧ g < w.heap.size ∧ v.ownBlock ≠ some g)
  held : Sl w 1 t.h t.f.held.length (ints .u64 t.f.held)
  few : t.f.held.length ≤ maxLen
  own : t.f.held ≠ [] → ∀ g, t.h.ownBlock = some g → B ≤ g ∧ g < w.heap.size ∧ g ∉ S ∧ v.ownBlock ≠ some g
theorem SeenGood.keeps {w w' : World} {B : Nat} {S0 S S' T : List Nat} {v v' : Value} {t : SeenT} (h : SeenGood w B S0 S v t) (hk : Keeps T w w') (hT : ∀ r, t.f.res = some r → ∀ g, g < w.heap.size → v.ownBlock ≠ some g → g ∉ T ∧ v'.ownBlock ≠ some g)
    (hH : ∀ g, g ∉ S → g < w.heap.size → v.ownBlock ≠ some g → g ∉ T ∧ g ∉ S' ∧ v'.ownBlock ≠ some g) : SeenGood w' B S0 S' v' t where
  shape := h.shape
  shapeH := h.shapeH
  res := fun r hr => ⟨(h.res r hr).1.words hk (fun he g hg => by obtain ⟨h1, h2, h3⟩ := (h.res r hr).2.2 he g hg; exact (hT r hr g h2 h3).1), (h.res r hr).2.1, fun he g hg => by
    obtain ⟨h1, h2, h3⟩ := (h.res r hr).2.2 he g hg
    exact ⟨h1, Nat.lt_of_lt_of_le h2 hk.size, (hT r hr g h2 h3).2⟩⟩
  held := h.held.words hk (fun he g hg => by obtain ⟨h1, h2, h3, h4⟩ := h.own he g hg; exact (hH g h3 h2 h4).1)
  few := h.few
  own := fun he g hg => by
    obtain ⟨h1, h2, h3, h4⟩ := h.own he g hg
    exact ⟨h1, Nat.lt_of_lt_of_le h2 hk.size, (hH g h3 h2 h4).2⟩
/-- Behind the append of what is seen at one step. -/
def SeenMid (W : World) (B : Nat) (e : TypeId) (v : Value) (n : Nat) (rows : List Value) (f : Fc) (l v' : Value) (w' : World) : Prop :=
  ∃ h, (∃ p c, h = .slice p f.held.length c) ∧ Sl w' 1 h f.held.length (ints .u64 f.held) ∧ (f.held ≠ [] → ∀ g, h.ownBlock = some g → W.heap.size ≤ g ∧ g < w'.heap.size ∧ v'.ownBlock ≠ some g) ∧
    w'.ownsRow B e 10 v' (n + 1) (rows ++ seenCells f l h) ∧ Keeps v.ownBlock.toList W w' ∧ (∀ k, v'.ownBlock = some k → v.ownBlock = some k ∨ W.heap.size ≤ k) ∧ v' ≠ .slice none 0 0
theorem SeenMid.mk {W w4 w5 w7 : World} {B : Nat} {e : TypeId} {v v' : Value} {n : Nat} {rows : List Value} {f : Fc} {l : Value} {p : Option Addr} {c : Nat} {o : Obj} (hv : ∀ g, v.ownBlock = some g → g < W.heap.size)
    (h4 : Keeps v.ownBlock.toList W w4) (h45 : Keeps [] w4 w5) (hs : Sl w5 1 (.slice p f.held.length c) f.held.length (ints .u64 f.held)) (hf : ∀ k, (Value.slice p f.held.length c).ownBlock = some k → f.held.length = 0 ∨ w4.heap.size ≤ k)
    (h7 : w7.ownsRow B e 10 v' (n + 1) (rows ++ seenCells f l (.slice p f.held.length c))) (k7 : Keeps v.ownBlock.toList (w5.alloc o) w7) (f7 : ∀ k, v'.ownBlock = some k → v.ownBlock = some k ∨ (w5.alloc o).heap.size ≤ k) (hne : v' ≠ .slice none 0 0) :
    SeenMid W B e v n rows f l v' w7 := by
  have s4 := h4.size
  have s5 := h45.size
  have hsz : (w5.alloc o).heap.size = w5.heap.size + 1 := by simp
  have hblk : f.held ≠ [] → ∀ g, (Value.slice p f.held.length c).ownBlock = some g → W.heap.size ≤ g ∧ g < w5.heap.size := fun he g hg => by
    have hl : f.held.length ≠ 0 := fun h => he (List.eq_nil_of_length_eq_zero h)
    refine ⟨?_, ?_⟩
    · rcases hf g hg with h | h
      · exact absurd h hl
      · omega
    · obtain ⟨b, off, cap, he', hb, -⟩ := hs.some (by omega)
      rw [he'] at hg; simp [Value.ownBlock] at hg; omega
  have hnv : f.held ≠ [] → ∀ g, (Value.slice p f.held.length c).ownBlock = some g → g ∉ v.ownBlock.toList := fun he g hg hm => by
    have := hv g (by simpa using hm)
    have := (hblk he g hg).1
    omega
  refine ⟨_, ⟨_, _, rfl⟩, ?_, fun he g hg => ⟨(hblk he g hg).1, ?_, fun h => ?_⟩, h7, ((h4.trans h45.nil).trans ((Keeps.refl _ _).alloc o)).trans k7, fun k hk => ?_, hne⟩
  · by_cases he : f.held = []
    · rw [he] at hs ⊢
      exact ⟨hs.1, hs.2.elim .inl fun ⟨b, off, cap, hv, _, _⟩ => .inl ⟨_, _, hv, rfl⟩⟩
    · exact (hs.but ((Keeps.refl [] _).alloc o) (by simp)).but k7 (fun g hg => hnv he g hg)
  · have := k7.size
    have := (hblk he g hg).2
    omega
  · rcases f7 g h with h | h
    · exact hnv he g hg (by simpa using h)
    · have := (hblk he g hg).2
      omega
  · rcases f7 k hk with h | h
    · exact .inl h
    · exact .inr (by omega)


end Go.Proofs.Ytnlkbmjelkbfkaa
