/-
  Workers of a loom who take and put back nodes.
-/
import Derived.Test.YtoomefclbemnlaaGreatLoom5
import Derived.Test.YtoomefclbemnlaaGreatArM
namespace Go.Proofs.YtoomefclbemnlaaGreat
set_option maxRecDepth 100000
set_option linter.unusedSimpArgs false
set_option linter.unusedVariables false
open Go.ChangeShapes Go.WideShapes Go.ChangeAt Go.RowKit

/-- A walk that goes as the machine of an arena. -/
def IsAr (t : Strand) (s : ArS) : Prop := ∃ (I : World → List Nat → ArS → Prop) (m : Nat) (runs : Runs arenaM I m), t = ⟨ArS, arenaM, I, m, runs, s⟩
theorem IsAr.want {t : Strand} {s : ArS} (h : IsAr t s) : t.want = arenaM.want s := by obtain ⟨I, m, r, rfl⟩ := h; rfl
theorem IsAr.res {t : Strand} {s : ArS} (h : IsAr t s) : t.res = s.over := by obtain ⟨I, m, r, rfl⟩ := h; rfl
theorem IsAr.go {t : Strand} {s : ArS} (h : IsAr t s) (v : Int) (won : Bool) : IsAr (t.go v won) (arenaM.give s v won) := by obtain ⟨I, m, r, rfl⟩ := h; exact ⟨I, m, r, rfl⟩
/-- A worker's walk, as the state says. -/
def ArAt (o : Option Strand) (u : Option ArS) : Prop := match u with
  | none => o = none
  | some s => ∃ t, o = some t ∧ IsAr t s

/-- A loom whose workers take and put back nodes of an arena at its cell 0. -/
structure ArLoom (l g m b n W : Nat) (L : LSt) (ss : Nat → Option ArS) (has : Nat → List Nat) (tag : Nat) (F : List Nat) : Prop where
  l : L.l = l
  g : L.g = g
  m : L.mm = m
  b : L.b = b
  len : L.ts.length = W
  at_ : ∀ i, i < W → ∃ o, L.ts[i]? = some o ∧ ArAt o (ss i)
  inv : ArInv n W L.us ss has tag F

section
variable {l g m b n W : Nat} {L : LSt} {ss : Nat → Option ArS} {has : Nat → List Nat} {tag : Nat} {F : List Nat}

theorem ArLoom.worker (h : ArLoom l g m b n W L ss has tag F) {who : Nat} (hw : who < W) {s : ArS} (hs : ss who = some s) : ∃ t, L.ts[who]? = some (some t) ∧ IsAr t s := by
  obtain ⟨o, h1, h2⟩ := h.at_ who hw
  rw [hs] at h2
  obtain ⟨t, rfl, ht⟩ := h2
  exact ⟨t, h1, ht⟩
/-- Who isn't under way isn't busy. -/
theorem ArLoom.busy (h : ArLoom l g m b n W L ss has tag F) {who : Nat} (hw : who < W) : ∃ o, L.ts[who]? = some o ∧ busy o = flies (ss who) := by
  obtain ⟨o, h1, h2⟩ := h.at_ who hw
  refine ⟨o, h1, ?_⟩
  cases hs : ss who with
  | none => rw [hs] at h2; rw [show o = none from h2]; rfl
  | some s =>
    rw [hs] at h2
    obtain ⟨t, rfl, ht⟩ := h2
    simp only [Go.Proofs.YtoomefclbemnlaaGreat.busy, ht.res, flies]
/-- One step of a worker who is under way. -/
theorem ArLoom.one (h : ArLoom l g m b n W L ss has tag F) (ht : tag + 1 < 4294967296) {who : Nat} (hw : who < W) {s : ArS} (hs : ss who = some s) (ho : s.over = none) :
    ∃ M s' tag' F' has', OneStep who L M ∧ tag' ≤ tag + 1 ∧ ArLoom l g m b n W M (updO ss who (some s')) has' tag' F' ∧ ArEnd s who F F' has has' s'.over ∧ arLeft M.us F' s' + 1 = arLeft L.us F s ∧ s'.puts = s.puts ∧ s'.node = s.node := by
  obtain ⟨t, h1, h2⟩ := h.worker hw hs
  have hlt := (List.getElem?_eq_some_iff.1 h1).1
  obtain ⟨x1, x2, x3, s', tag', F', has', hg, htag, hinv, hend, hleft⟩ := h.inv.step ht hw hs ho
  have hgive := arTake_give s ho (C.told L.us (arWant s)) (C.won L.us (arWant s))
  rw [hg] at hgive
  refine ⟨L.after who t (arWant s), s', tag', F', has', ⟨t, arWant s, h1, ?_, x1, x2, ?_, rfl⟩, htag, ⟨h.l, h.g, h.m, h.b, ?_, fun i hi => ?_, hinv⟩, hend, hleft, ?_⟩
  · rw [h2.want]; exact arTake_want s ho
  · simp [parks, x3]
  · simpa [LSt.after] using h.len
  · show ∃ o, (L.ts.set who _)[i]? = some o ∧ _
    by_cases e : i = who
    · subst e
      rw [List.getElem?_set_self hlt, updO_same]
      exact ⟨_, rfl, _, rfl, by have := h2.go (C.told L.us (arWant s)) (C.won L.us (arWant s)); rwa [hgive] at this⟩
    · rw [List.getElem?_set_ne (Ne.symm e), updO_ne _ _ e]
      exact h.at_ i hi
  · rw [← hg]; exact arGive_same s _ _
theorem updO_updO (ss : Nat → Option ArS) (who : Nat) (a b : Option ArS) : updO (updO ss who a) who b = updO ss who b := by
  funext i; unfold updO; split <;> rfl
theorem ArEnd.same {s s' : ArS} {who : Nat} {F F' : List Nat} {has has' : Nat → List Nat} {o : Option Rs} (h : ArEnd s' who F F' has has' o) (hp : s'.puts = s.puts) (hn : s'.node = s.node) : ArEnd s who F F' has has' o := by
  cases h with
  | go a b => exact .go a b
  | put a b c => exact .put (hp ▸ a) (hn ▸ b) c
  | empty a b c d => exact .empty (hp ▸ a) b c d
  | take y a b c => exact .take y (hp ▸ a) b c
/-- A worker who is alone ends its walk. -/
theorem ArLoom.alone (k : Nat) : ∀ {L : LSt} {ss : Nat → Option ArS} {s : ArS} {tag : Nat}, ArLoom l g m b n W L ss has tag F → tag + k < 4294967296 → ∀ {who : Nat}, who < W → ss who = some s → s.over = none → arLeft L.us F s = k →
    0 < k ∧ ∃ (Ls : Nat → LSt) (s' : ArS) (tag' : Nat) (F' : List Nat) (has' : Nat → List Nat), Ls 0 = L ∧ (∀ i, i < k → OneStep who (Ls i) (Ls (i + 1))) ∧ tag' ≤ tag + k ∧
      ArLoom l g m b n W (Ls k) (updO ss who (some s')) has' tag' F' ∧ ArEnd s who F F' has has' s'.over ∧ s'.over.isSome = true := by
  have l0 : ∀ {L : LSt} {ss : Nat → Option ArS} {s : ArS} {tag : Nat}, ArLoom l g m b n W L ss has tag F → ∀ {who : Nat}, who < W → ss who = some s → s.over = none → 0 < arLeft L.us F s := by
    intro L ss s tag h who hw hs ho
    simp only [arLeft, ho]
    rw [if_neg (by simp)]
    (repeat' split) <;> omega
  induction k with
  | zero =>
    intro L ss s tag h ht who hw hs ho hk
    have := l0 h hw hs ho
    omega
  | succ k ih =>
    intro L ss s tag h ht who hw hs ho hk
    obtain ⟨M, s', tag', F', has', hone, htag, hl, hend, h1, hp, hn⟩ := h.one (by omega) hw hs ho
    refine ⟨by omega, ?_⟩
    cases ho' : s'.over with
    | none =>
      have hend' := hend
      rw [ho'] at hend'
      cases hend' with
      | go e1 e2 =>
        subst e1 e2
        obtain ⟨hk0, Ls, s2, tag2, F2, has2, c0, c1, c2, c3, c4, c5⟩ := ih hl (by omega) hw (updO_same _ _ _) ho' (by omega)
        rw [updO_updO] at c3
        refine ⟨fun i => if i = 0 then L else Ls (i - 1), s2, tag2, F2, has2, rfl, fun i hi => ?_, by omega, by simpa using c3, c4.same hp hn, c5⟩
        cases i with
        | zero => simpa [c0] using hone
        | succ i => simpa using c1 i (by omega)
    | some r =>
      have hr : s'.over.isSome = true := by rw [ho']; rfl
      rw [arLeft_over _ _ hr] at h1
      obtain rfl : k = 0 := by omega
      refine ⟨fun i => if i = 0 then L else M, s', tag', F', has', rfl, fun i hi => ?_, by omega, by simpa using hl, hend, hr⟩
      obtain rfl : i = 0 := by omega
      simpa using hone
end
end Go.Proofs.YtoomefclbemnlaaGreat
