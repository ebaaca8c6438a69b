import Derived.Test.YtjbgkaleickknaaGreatMach
import Derived.Test.YtjbgkaleickknaaGreatFresh
/-
  Contracts: SameResult of layer 4's statements; what is seen of a walk, as it lies in memory.
-/
namespace Go.Proofs.YtjbgkaleickknaaGreat
set_option maxRecDepth 100000
set_option linter.unusedSimpArgs false
set_option linter.unusedVariables false
open Go.ChangeShapes Go.WideShapes Go.ChangeAt Go.RowKit

/-- What an answer is as cells. -/
def tolds (ts : List (Int × Bool)) : List Value := ts.flatMap fun t => [.int .u64 t.1, .bool t.2]
theorem tolds_len (ts : List (Int × Bool)) : (tolds ts).length = ts.length * 2 := by
  induction ts with
  | nil => rfl
  | cons t ts ih => unfold tolds at ih ⊢; rw [List.flatMap_cons, List.length_append, ih]; simp; omega
theorem tolds_at (ts : List (Int × Bool)) (i : Nat) (t : Int × Bool) (h : ts[i]? = some t) : (tolds ts)[i * 2]? = some (.int .u64 t.1) ∧ (tolds ts)[i * 2 + 1]? = some (.bool t.2) := by
  induction ts generalizing i with
  | nil => simp at h
  | cons y ys ih =>
    cases i with
    | zero => obtain rfl : y = t := by simpa using h
              simp [tolds]
    | succ i =>
      have := ih i (by simpa using h)
      have e : ∀ j, (tolds (y :: ys))[(i + 1) * 2 + j]? = (tolds ys)[i * 2 + j]? := fun j => by
        unfold tolds
        rw [List.flatMap_cons, List.getElem?_append_right (by simp; omega)]
        congr 1
        simp; omega
      exact ⟨(e 0).trans this.1, (e 1).trans this.2⟩

/-- The cells of what is seen at a step. -/
@[reducible] def seenCells (f : Fc) (l h : Value) : List Value :=
  [.int .i64 (f.want.getD zacc).k, .int .i64 (f.want.getD zacc).c, .int .u64 (f.want.getD zacc).a, .int .u64 (f.want.getD zacc).b, .bool f.want.isSome,
   .int .i64 (f.res.getD Rs.zero).code, .int .u64 (f.res.getD Rs.zero).v, l, .bool f.res.isSome, h]
/-- The lists of what is seen at a step: those of what came of it count where something came of it. -/
structure SeenOne (w : World) (D : Nat → Prop) (f : Fc) (l h : Value) : Prop where
  shape : ∃ p n c, l = .slice p n c
  res : ∀ r, f.res = some r → Sl w 1 l r.l.length (ints .u64 r.l) ∧ r.l.length ≤ maxLen ∧ (r.l ≠ [] → ∀ g, l.ownBlock = some g → D g)
  held : Sl w 1 h f.held.length (ints .u64 f.held)
  few : f.held.length ≤ maxLen
  own : f.held ≠ [] → ∀ g, h.ownBlock = some g → D g
/-- The slice v is of what is seen, step by step. -/
structure SeenAt (w : World) (D : Nat → Prop) (v : Value) (fs : List Fc) : Prop where
  shape : ∃ b c, v = .slice (some ⟨b, 0, none⟩) fs.length c ∧ D b ∧ b < w.heap.size ∧
    ∀ i f, fs[i]? = some f → ∃ l h, SeenOne w D f l h ∧ ∀ j u, (seenCells f l h)[j]? = some u → w.cell? ⟨b, i * 10 + j, none⟩ = some u
/-- A slice whose block isn't touched, if it has elements. -/
theorem Sl.but0 {T : List Nat} {w w' : World} {size n : Nat} {v : Value} {xs : List Value} (h : Sl w size v n xs) (hk : Keeps T w w') (hn : n ≠ 0 → ∀ g, v.ownBlock = Option.some g → g ∉ T) : Sl w' size v n xs := by
  by_cases h0 : n = 0
  · subst h0
    exact ⟨h.1, h.2.elim .inl fun ⟨b, off, cap, hv, _, _⟩ => .inl ⟨_, _, hv, rfl⟩⟩
  · exact h.but hk (hn h0)
/-- A list of words that can be read; an empty one wherever it lies. -/
theorem Sl.words {w w' : World} {T : List Nat} {v : Value} {us : List Int} (h : Sl w 1 v us.length (ints .u64 us)) (hk : Keeps T w w') (hT : us ≠ [] → ∀ g, v.ownBlock = Option.some g → g ∉ T) : Sl w' 1 v us.length (ints .u64 us) := by
  by_cases he : us = []
  · rw [he] at h ⊢
    exact ⟨h.1, h.2.elim .inl fun ⟨b, off, cap, hv, _, _⟩ => .inl ⟨_, _, hv, rfl⟩⟩
  · exact h.but hk (hT he)
theorem SeenOne.keeps {w w' : World} {D : Nat → Prop} {T : List Nat} {f : Fc} {l h : Value} (hs : SeenOne w D f l h) (hk : Keeps T w w') (hD : ∀ k, D k → k ∉ T) : SeenOne w' D f l h :=
  { hs with
    res := fun r hr => ⟨(hs.res r hr).1.words hk (fun he g hg => hD g ((hs.res r hr).2.2 he g hg)), (hs.res r hr).2⟩
    held := hs.held.words hk (fun he g hg => hD g (hs.own he g hg)) }
theorem SeenAt.keeps {w w' : World} {D : Nat → Prop} {T : List Nat} {v : Value} {fs : List Fc} (h : SeenAt w D v fs) (hk : Keeps T w w') (hD : ∀ k, D k → k ∉ T) : SeenAt w' D v fs := by
  obtain ⟨b, c, hv, hb, hlt, hi⟩ := h.shape
  refine ⟨b, c, hv, hb, Nat.lt_of_lt_of_le hlt hk.size, fun i f hf => ?_⟩
  obtain ⟨l, h, ho, hc⟩ := hi i f hf
  exact ⟨l, h, ho.keeps hk hD, fun j u hu => (hk.cell (p := ⟨b, i * 10 + j, none⟩) hlt (hD b hb)).trans (hc j u hu)⟩

theorem Keeps.comb {S T : List Nat} {a b c : World} (h : Keeps S a b) (k : Keeps T b c) (hn : ∀ j ∈ T, j ∈ S ∨ a.heap.size ≤ j) : Keeps S a c := by
  refine ((h.mono (T := S ++ T) (fun j hj _ => List.mem_append_left _ hj)).trans (k.mono (fun j hj _ => List.mem_append_right _ hj))).mono ?_
  intro j hj hl
  rcases List.mem_append.1 hj with h | h
  · exact h
  · rcases hn j h with h | h
    · exact h
    · omega
end Go.Proofs.YtjbgkaleickknaaGreat
