import Derived.Test.YtjbgkaleickknaaGreatLoom5
import Derived.Test.YtjbgkaleickknaaGreatAcs
/-
  A loom all of whose workers go as one machine.
-/
namespace Go.Proofs.YtjbgkaleickknaaGreat
set_option maxRecDepth 100000
set_option linter.unusedSimpArgs false
set_option linter.unusedVariables false
open Go.ChangeShapes Go.WideShapes Go.ChangeAt Go.RowKit

section
variable {σ : Type} {K : Mach σ} {I : Nat → World → List Nat → σ → Prop} {R : ∀ m, Runs K (I m) m} {W : Nat} {L : LSt} {ss : Nat → Option σ}
/-- The workers of L go as K; ss: their states. -/
structure Crew (K : Mach σ) (I : Nat → World → List Nat → σ → Prop) (R : ∀ m, Runs K (I m) m) (W : Nat) (L : LSt) (ss : Nat → Option σ) : Prop where
  len : L.ts.length = W
  th : ∀ i, i < W → (ss i = none ∧ ∃ o, L.ts[i]? = some o ∧ busy o = false) ∨ ∃ m s, ss i = some s ∧ L.ts[i]? = some (some ⟨σ, K, I m, m, R m, s⟩)
/-- Whether a worker of such a state is at work. -/
def atWork (K : Mach σ) (o : Option σ) : Bool := match o with
  | none => false
  | some s => !(K.res s).isSome
theorem Crew.at (h : Crew K I R W L ss) {i : Nat} (hi : i < W) : ∃ o, L.ts[i]? = some o ∧ busy o = atWork K (ss i) := by
  rcases h.th i hi with ⟨h1, o, h2, h3⟩ | ⟨m, s, h1, h2⟩
  · exact ⟨o, h2, by rw [h1]; exact h3⟩
  · exact ⟨_, h2, by rw [h1]; rfl⟩
theorem Crew.res (h : Crew K I R W L ss) {i : Nat} (hi : i < W) {s : σ} (hs : ss i = some s) : ∃ o, L.ts[i]? = some o ∧ o.bind Strand.res = K.res s := by
  rcases h.th i hi with ⟨h1, -⟩ | ⟨m, s', h1, h2⟩
  · rw [hs] at h1; cases h1
  · rw [hs] at h1; cases h1; exact ⟨_, h2, rfl⟩
theorem Crew.result (h : Crew K I R W L ss) (D : Nat → Prop) (w : World) (hL : Loom D w L) {i : Nat} (hi : i < W) {s : σ} (hs : ss i = some s) {o : Option Rs} (ho : K.res s = o) :
    Calls Tryz.prog 14 #[.pointer (some ⟨L.l, 0, none⟩), .int .i64 (i : Int)] w fun e w' => ∃ q c,
      e = .returned (.tuple #[.agg #[.int .i64 (o.getD Rs.zero).code, .int .u64 (o.getD Rs.zero).v, .slice q (o.getD Rs.zero).l.length c], .bool o.isSome]) ∧
        w'.ownsRow w.heap.size 34 1 (.slice q (o.getD Rs.zero).l.length c) (o.getD Rs.zero).l.length (ints .u64 (o.getD Rs.zero).l) ∧ Keeps [] w w' := by
  subst ho
  obtain ⟨o, h1, h2⟩ := h.res hi hs
  have := loomResult_at D L i o w hL h1
  rw [h2] at this
  refine this.mono ?_
  rintro e w' ⟨lv, rfl, hown, hk⟩
  obtain ⟨q, c, rfl⟩ := (Sl.of_owns hown).len
  exact ⟨q, c, rfl, hown, hk⟩
theorem Crew.start (h : Crew K I R W L ss) {i : Nat} (hi : i < W) (m : Nat) (s : σ) : Crew K I R W { L with ts := L.ts.set i (some ⟨σ, K, I m, m, R m, s⟩) } (updG ss i (some s)) := by
  refine ⟨by simpa using h.len, fun j hj => ?_⟩
  show _ ∨ ∃ m' s', _ ∧ (L.ts.set i _)[j]? = _
  by_cases e : j = i
  · subst e
    rw [updG_same, List.getElem?_set_self (by rw [h.len]; exact hi)]
    exact .inr ⟨m, s, rfl, rfl⟩
  · rw [updG_ne _ _ e]
    show (_ ∧ ∃ o, (L.ts.set i _)[j]? = _ ∧ _) ∨ _
    rw [List.getElem?_set_ne (Ne.symm e)]
    exact h.th j hj
theorem Crew.new (l g mm b : Nat) (us : List Int) (W n : Nat) : Crew K I R W ⟨l, g, mm, b, us, List.replicate W none, n⟩ fun _ => none :=
  ⟨by simp, fun i hi => .inl ⟨rfl, none, by simp [hi], rfl⟩⟩
theorem Crew.step (h : Crew K I R W L ss) {i : Nat} (hi : i < W) {s : σ} (hs : ss i = some s) {x : C.Acc} (hw : K.want s = some x) (hx : x.ok) (hc : C.code L.us x = 0) (hk : x.k ≠ 7) :
    ∃ M, OneStep i L M ∧ Crew K I R W M (updG ss i (some (K.give s (C.told L.us x) (C.won L.us x)))) ∧ M.us = C.next L.us x ∧ M.mm = L.mm ∧ M.b = L.b := by
  rcases h.th i hi with ⟨h1, -⟩ | ⟨m, s', h1, h2⟩
  · rw [hs] at h1; cases h1
  · rw [hs] at h1
    cases h1
    refine ⟨L.after i ⟨σ, K, I m, m, R m, s⟩ x, ⟨_, x, h2, hw, hx, hc, by simp [parks, hk], rfl⟩, ?_, rfl, rfl, rfl⟩
    have := h.start hi m (K.give s (C.told L.us x) (C.won L.us x))
    exact ⟨this.len, this.th⟩
end
end Go.Proofs.YtjbgkaleickknaaGreat
