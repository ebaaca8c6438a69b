import Derived.Test.YtjbgkaleickknaaGreatDqM
/-
  What the workers at a deque keep, whoever steps: worker 0 pushes and pops, all may steal.
-/
namespace Go.Proofs.YtjbgkaleickknaaGreat
set_option maxRecDepth 100000
set_option linter.unusedSimpArgs false
set_option linter.unusedVariables false
open Go

def dqPow (size : Int) : Prop := size = 2 ∨ size = 4 ∨ size = 8 ∨ size = 16 ∨ size = 32 ∨ size = 64 ∨ size = 128 ∨ size = 256
/-- The cell of a number's slot, in a deque at cell 0. -/
def dqCell (size : Nat) (fr x : Int) : Nat := (dqSlot 0 size (dqU fr x)).toNat

/-- A steal under way. -/
structure DqT (size : Nat) (fr T B : Int) (A : Int → Int) (s : DqS) : Prop where
  at0 : s.at_ = 0
  sz : s.size = size
  kind : s.kind = 3
  st : s.step = 1 ∨ s.step = 2 ∨ s.step = 3 ∨ s.step = 4
  top : s.step ≠ 1 → ∃ x, 0 ≤ x ∧ x ≤ T ∧ s.t = dqU fr x ∧ (3 ≤ s.step → x = T → x < B ∧ (s.step = 4 → s.v = A x))
/-- A push under way. -/
structure DqP (size : Nat) (fr : Int) (us : List Int) (T B : Int) (s : DqS) : Prop where
  at0 : s.at_ = 0
  sz : s.size = size
  kind : s.kind = 1
  task : M.U s.task
  st : s.step = 1 ∨ s.step = 2 ∨ s.step = 3 ∨ s.step = 4
  b : s.step ≠ 1 → s.b = dqU fr B
  room : 3 ≤ s.step → B < T + size
  laid : s.step = 4 → us.getD (dqCell size fr B) 0 = s.task
/-- A pop under way; nc: no steal has seen the last number as the top, and the bottom ahead of it. -/
structure DqQ (size : Nat) (fr T B : Int) (A : Int → Int) (nc : Prop) (s : DqS) : Prop where
  at0 : s.at_ = 0
  sz : s.size = size
  kind : s.kind = 2
  st : s.step = 1 ∨ s.step = 2 ∨ s.step = 3 ∨ s.step = 4 ∨ s.step = 5 ∨ s.step = 6
  b : s.step ≠ 1 → s.b = dqU fr (B - 1)
  s4 : s.step = 4 → ∃ x, 0 ≤ x ∧ x ≤ T ∧ s.t = dqU fr x ∧ (x < B - 1 → T ≤ B - 1 ∧ nc)
  s5 : s.step = 5 → 0 ≤ B - 1 ∧ B - 1 ≤ T ∧ s.t = dqU fr (B - 1) ∧ (T = B - 1 → s.v = A (B - 1))
  s6 : s.step = 6 → T = B
/-- Whether the bottom that all see is one less. -/
def dqLow (o : Option DqS) : Prop := ∃ s, o = some s ∧ s.over = none ∧ s.kind = 2 ∧ 3 ≤ s.step
/-- No steal has seen the number x as the top, and the bottom ahead of it. -/
def dqNc (W : Nat) (fr : Int) (ss : Nat → Option DqS) (x : Int) : Prop := ∀ i s, i < W → ss i = some s → s.over = none → s.kind = 3 → 3 ≤ s.step → s.t ≠ dqU fr x

structure DqInv (size W : Nat) (fr : Int) (us : List Int) (ss : Nat → Option DqS) (T B : Int) (A : Int → Int) : Prop where
  size_ : dqPow size
  len : us.length = size + 2
  top : us.getD 0 0 = dqU fr T
  range : 0 ≤ T ∧ T ≤ B ∧ B ≤ T + size ∧ B ≤ 1000000
  slots : ∀ x, T ≤ x → x < B → us.getD (dqCell size fr x) 0 = A x
  tasks : ∀ x, M.U (A x)
  low : dqLow (ss 0) → us.getD 1 0 = dqU fr (B - 1)
  high : ¬ dqLow (ss 0) → us.getD 1 0 = dqU fr B
  wk : ∀ i s, i < W → ss i = some s → s.over = none → DqT size fr T B A s ∨ i = 0 ∧ (DqP size fr us T B s ∨ DqQ size fr T B A (dqNc W fr ss (B - 1)) s)

theorem dqCell_lt {size : Nat} (hs : dqPow size) (fr x : Int) : 2 ≤ dqCell size fr x ∧ dqCell size fr x < size + 2 := by
  have h0 : (0 : Int) < size := by unfold dqPow at hs; omega
  have := dqSlot_range (at_ := 0) (n := dqU fr x) h0
  unfold dqCell
  omega
theorem dqCell_ne {size : Nat} (hs : dqPow size) {fr x y : Int} (h1 : x < y) (h2 : y - x < size) : dqCell size fr x ≠ dqCell size fr y := by
  have h0 : (0 : Int) < size := by unfold dqPow at hs; omega
  have := dqSlot_ne (fr := fr) hs h1 h2
  have h3 := dqSlot_range (at_ := 0) (n := dqU fr x) h0
  have h4 := dqSlot_range (at_ := 0) (n := dqU fr y) h0
  unfold dqCell
  omega
/-- What a step does to what is in it. -/
inductive DqEv (s : DqS) (s' : DqS) (T B T' B' : Int) (A A' : Int → Int) : Prop
  | go : s'.over = none → T' = T → B' = B → A' = A → s'.won = s.won → (s.kind = 2 → s.step ≤ 4) → DqEv s s' T B T' B' A A'
  | push : s.kind = 1 → s'.over = some ⟨0, 0, []⟩ → T' = T → B' = B + 1 → A' = (fun x => if x = B then s.task else A x) → DqEv s s' T B T' B' A A'
  | lost : s.kind = 2 → s.step = 5 → s'.over = none → s'.won = false → T = B → T' = T → B' = B → A' = A → DqEv s s' T B T' B' A A'
  | full : s.kind = 1 → s'.over = some ⟨4, 0, []⟩ → T' = T → B' = B → A' = A → B - T = s.size → DqEv s s' T B T' B' A A'
  | pop : s.kind = 2 → s.step = 4 → T ≤ B - 1 → s'.over = some ⟨0, A (B - 1), []⟩ → T' = T → B' = B - 1 → A' = A → DqEv s s' T B T' B' A A'
  | take : s.kind = 2 → s.step = 5 → s'.over = none → s'.won = true → s'.v = A T → T = B - 1 → T' = B → B' = B → A' = A → DqEv s s' T B T' B' A A'
  | took : s.kind = 2 → s.step = 6 → s.won = true → T = B → s'.over = some ⟨0, s.v, []⟩ → T' = T → B' = B → A' = A → DqEv s s' T B T' B' A A'
  | empty : s.kind = 2 → ¬ (s.step = 6 ∧ s.won = true) → T = B → s'.over = some ⟨5, 0, []⟩ → T' = T → B' = B → A' = A → DqEv s s' T B T' B' A A'
  | steal : s.kind = 3 → T < B → s'.over = some ⟨0, A T, []⟩ → T' = T + 1 → B' = B → A' = A → DqEv s s' T B T' B' A A'
  | none_ : s.kind = 3 → B - 1 ≤ T → s'.over = some ⟨5, 0, []⟩ → T' = T → B' = B → A' = A → DqEv s s' T B T' B' A A'
  | abort : s.kind = 3 → s'.over = some ⟨6, 0, []⟩ → T' = T → B' = B → A' = A → DqEv s s' T B T' B' A A'

section
variable {size W : Nat} {fr : Int} {us us' : List Int} {ss : Nat → Option DqS} {T B T' B' : Int} {A A' : Int → Int} {s s' : DqS}
theorem DqT.far (h : DqT size fr T B A s) (hT : T < T') : DqT size fr T' B' A' s := by
  refine { h with top := fun h1 => ?_ }
  obtain ⟨x, a, b, c, -⟩ := h.top h1
  exact ⟨x, a, by omega, c, fun _ he => by omega⟩
theorem DqT.near (h : DqT size fr T B A s) (hq : 3 ≤ s.step → s.t = dqU fr T → T < B → T < B' ∧ A' T = A T) : DqT size fr T B' A' s := by
  refine { h with top := fun h1 => ?_ }
  obtain ⟨x, a, b, c, d⟩ := h.top h1
  refine ⟨x, a, b, c, fun h3 he => ?_⟩
  obtain ⟨d1, d2⟩ := d h3 he
  subst he
  obtain ⟨e1, e2⟩ := hq h3 c d1
  exact ⟨e1, fun h4 => by rw [d2 h4, e2]⟩
theorem DqQ.imp {nc nc' : Prop} (h : DqQ size fr T B A nc s) (hn : nc → nc') : DqQ size fr T B A nc' s := by
  refine { h with s4 := fun h4 => ?_ }
  obtain ⟨x, a, b, c, d⟩ := h.s4 h4
  exact ⟨x, a, b, c, fun hx => ⟨(d hx).1, hn (d hx).2⟩⟩
/-- One worker's state is another one, and what is in it may be. -/
theorem DqInv.upd (h : DqInv size W fr us ss T B A) {i : Nat} (hi : i < W) (hlen : us'.length = us.length) (htop : us'.getD 0 0 = dqU fr T') (hrange : 0 ≤ T' ∧ T' ≤ B' ∧ B' ≤ T' + size ∧ B' ≤ 1000000)
    (hslots : ∀ x, T' ≤ x → x < B' → us'.getD (dqCell size fr x) 0 = A' x) (htasks : ∀ x, M.U (A' x))
    (hlow : dqLow (updG ss i (some s') 0) → us'.getD 1 0 = dqU fr (B' - 1)) (hhigh : ¬ dqLow (updG ss i (some s') 0) → us'.getD 1 0 = dqU fr B')
    (hwi : s'.over = none → DqT size fr T' B' A' s' ∨ i = 0 ∧ (DqP size fr us' T' B' s' ∨ DqQ size fr T' B' A' (dqNc W fr (updG ss i (some s')) (B' - 1)) s'))
    (hT : ∀ j u, j ≠ i → j < W → ss j = some u → u.over = none → DqT size fr T B A u → DqT size fr T' B' A' u)
    (hP : ∀ u, 0 ≠ i → 0 < W → ss 0 = some u → u.over = none → DqP size fr us T B u → DqP size fr us' T' B' u)
    (hQ : ∀ u, 0 ≠ i → 0 < W → ss 0 = some u → u.over = none → DqQ size fr T B A (dqNc W fr ss (B - 1)) u → DqQ size fr T' B' A' (dqNc W fr (updG ss i (some s')) (B' - 1)) u) :
    DqInv size W fr us' (updG ss i (some s')) T' B' A' where
  size_ := h.size_
  len := hlen.trans h.len
  top := htop
  range := hrange
  slots := hslots
  tasks := htasks
  low := hlow
  high := hhigh
  wk := fun j u hj hu ho => by
    by_cases e : j = i
    · subst e
      rw [updG_same] at hu
      cases hu
      exact hwi ho
    · rw [updG_ne _ _ e] at hu
      rcases h.wk j u hj hu ho with h1 | ⟨rfl, h1 | h1⟩
      · exact .inl (hT j u e hj hu ho h1)
      · exact .inr ⟨rfl, .inl (hP u e hj hu ho h1)⟩
      · exact .inr ⟨rfl, .inr (hQ u e hj hu ho h1)⟩
/-- No claim is lost where the worker's new state claims nothing. -/
theorem dqNc.upd {i : Nat} {x : Int} (h : dqNc W fr ss x) (hs : s'.over = none → s'.kind = 3 → 3 ≤ s'.step → s'.t ≠ dqU fr x) : dqNc W fr (updG ss i (some s')) x := by
  intro j u hj hu ho hk h3
  by_cases e : j = i
  · subst e
    rw [updG_same] at hu
    cases hu
    exact hs ho hk h3
  · rw [updG_ne _ _ e] at hu
    exact h j u hj hu ho hk h3
theorem dqLow_thief {i : Nat} (hs : ss i = some s) (hk : s.kind = 3) (hk' : s'.kind = 3) : dqLow (updG ss i (some s') 0) ↔ dqLow (ss 0) := by
  by_cases e : (0 : Nat) = i
  · subst e
    rw [updG_same, hs]
    constructor
    · rintro ⟨u, hu, -, h2, -⟩; cases hu; omega
    · rintro ⟨u, hu, -, h2, -⟩; cases hu; omega
  · rw [updG_ne _ _ e]

/-- A steal's step. -/
theorem DqInv.thief (h : DqInv size W fr us ss T B A) {i : Nat} (hi : i < W) (hs : ss i = some s) (ho : s.over = none) (hk : DqT size fr T B A s) :
    (dqWant s).ok ∧ C.code us (dqWant s) = 0 ∧ (dqWant s).k ≠ 7 ∧ ∃ s' T' B' A', dqGive s (C.told us (dqWant s)) (C.won us (dqWant s)) = s' ∧ T' ≤ T + 1 ∧ B' ≤ B + 1 ∧
      DqInv size W fr (C.next us (dqWant s)) (updG ss i (some s')) T' B' A' ∧ DqEv s s' T B T' B' A A' ∧ s'.kind = s.kind ∧ s'.task = s.task := by
  have hs3 := hk.kind
  have U0 : M.U 0 := ⟨by decide, by decide⟩
  have hlen := h.len
  obtain ⟨r1, r2, r3, r4⟩ := h.range
  have nk1 : ¬ s.kind = 1 := by omega
  have nk2 : ¬ s.kind = 2 := by omega
  -- nothing but the state changes
  have same : ∀ s' : DqS, s'.kind = 3 → (s'.over = none → DqT size fr T B A s') → (s'.over = none → 3 ≤ s'.step → dqNc W fr ss (B - 1) → dqLow (ss 0) → s'.t ≠ dqU fr (B - 1)) → DqInv size W fr us (updG ss i (some s')) T B A := fun s' h1 h2 h3 =>
    h.upd hi rfl h.top ⟨r1, r2, r3, r4⟩ h.slots h.tasks (fun hl => h.low ((dqLow_thief hs hs3 h1).1 hl)) (fun hl => h.high fun hl' => hl ((dqLow_thief hs hs3 h1).2 hl')) (fun ho' => .inl (h2 ho')) (fun _ _ _ _ _ _ h => h) (fun _ _ _ _ _ h => h)
      (fun u h0 _ hu hou hq => by
        by_cases h4 : u.step = 4
        · refine { hq with s4 := fun _ => ?_ }
          obtain ⟨x, a, b, c, d⟩ := hq.s4 h4
          exact ⟨x, a, b, c, fun hx => ⟨(d hx).1, (d hx).2.upd fun e1 e2 e3 => h3 e1 e3 (d hx).2 ⟨u, hu, hou, hq.kind, by omega⟩⟩⟩
        · exact { hq with s4 := fun h => absurd h h4 })
  rcases hk.st with h1 | h1 | h1 | h1
  · -- the top
    have l0 := C.load_at us 0 (by omega) 0 0
    have hw : dqWant s = ⟨1, ((0 : Nat) : Int), 0, 0⟩ := by simp [dqWant, hs3, h1, hk.at0]
    rw [hw]
    refine ⟨⟨U0, U0⟩, l0.1, by simp, _, T, B, A, rfl, by omega, by omega, ?_, ?_⟩
    · rw [l0.2.1, l0.2.2, h.top]
      have hg : ∀ won, dqGive s (dqU fr T) won = { s with t := dqU fr T, step := 2 } := fun won => by unfold dqGive; rw [if_neg nk1, if_neg nk2, if_pos h1]
      rw [hg]
      exact same _ hs3 (fun _ => ⟨hk.at0, hk.sz, hk.kind, .inr (.inl rfl), fun _ => ⟨T, r1, Int.le_refl _, rfl, fun h => by simp at h⟩⟩) (fun _ h => by simp at h)
    · have hg : ∀ v won, dqGive s v won = { s with t := v, step := 2 } := fun v won => by unfold dqGive; rw [if_neg nk1, if_neg nk2, if_pos h1]
      rw [hg]
      exact ⟨.go ho rfl rfl rfl rfl (fun _ => by omega), rfl, rfl⟩
  · -- the bottom
    obtain ⟨x, x1, x2, x3, -⟩ := hk.top (by omega)
    obtain ⟨c, hc, hc1, hcl⟩ : ∃ c, us.getD 1 0 = dqU fr c ∧ (c = B ∨ c = B - 1) ∧ (dqLow (ss 0) → c = B - 1) := by
      by_cases hl : dqLow (ss 0)
      · exact ⟨B - 1, h.low hl, .inr rfl, fun _ => rfl⟩
      · exact ⟨B, h.high hl, .inl rfl, fun h => absurd h hl⟩
    have l0 := C.load_at us 1 (by omega) 0 0
    have hw : dqWant s = ⟨1, ((1 : Nat) : Int), 0, 0⟩ := by simp [dqWant, hs3, h1, hk.at0]
    have ha : dqAhead (dqU fr c) s.t = c - x := by rw [x3]; exact dqAhead_U fr c x (by omega) (by omega)
    rw [hw]
    refine ⟨⟨U0, U0⟩, l0.1, by simp, _, T, B, A, rfl, by omega, by omega, ?_⟩
    rw [l0.2.1, l0.2.2, hc]
    by_cases hlt : c - x < 1
    · have hg : ∀ won, dqGive s (dqU fr c) won = { s with b := dqU fr c, step := 3, over := some ⟨5, 0, []⟩ } := fun won => by unfold dqGive; rw [if_neg nk1, if_neg nk2, if_neg (by omega), if_pos h1, if_pos (by rw [ha]; exact hlt)]
      rw [hg]
      exact ⟨same _ hs3 (fun h => by simp at h) (fun h => by simp at h), .none_ hs3 (by omega) rfl rfl rfl rfl, rfl, rfl⟩
    · have hg : ∀ won, dqGive s (dqU fr c) won = { s with b := dqU fr c, step := 3 } := fun won => by unfold dqGive; rw [if_neg nk1, if_neg nk2, if_neg (by omega), if_pos h1, if_neg (by rw [ha]; exact hlt)]
      rw [hg]
      refine ⟨same _ hs3 (fun _ => ⟨hk.at0, hk.sz, hk.kind, .inr (.inr (.inl rfl)), fun _ => ⟨x, x1, x2, x3, fun _ he => ⟨by omega, fun h => by simp at h⟩⟩⟩) (fun _ _ _ hl => ?_), .go ho rfl rfl rfl rfl (fun _ => by omega), rfl, rfl⟩
      show s.t ≠ dqU fr (B - 1)
      rw [x3]
      intro he
      have := hcl hl
      have := dqU_inj fr x (B - 1) he (by omega) (by omega)
      omega
  · -- the slot
    obtain ⟨x, x1, x2, x3, x4⟩ := hk.top (by omega)
    have hcell := dqCell_lt h.size_ fr x
    have hz : (0 : Int) < size := by have := h.size_; unfold dqPow at this; omega
    have hsl := dqSlot_range (at_ := 0) (n := dqU fr x) hz
    have l0 := C.load_at us (dqCell size fr x) (by omega) 0 0
    have hce : ((dqCell size fr x : Nat) : Int) = dqSlot 0 size (dqU fr x) := by unfold dqCell; omega
    have hw : dqWant s = ⟨1, ((dqCell size fr x : Nat) : Int), 0, 0⟩ := by rw [hce]; simp [dqWant, hs3, h1, hk.at0, hk.sz, x3]
    rw [hw]
    refine ⟨⟨U0, U0⟩, l0.1, by simp, _, T, B, A, rfl, by omega, by omega, ?_⟩
    rw [l0.2.1, l0.2.2]
    have hg : ∀ v won, dqGive s v won = { s with v := v, step := 4 } := fun v won => by unfold dqGive; rw [if_neg nk1, if_neg nk2, if_neg (by omega), if_neg (by omega), if_pos h1]
    rw [hg]
    have hcl : ∀ y : Int, dqNc W fr ss y → s.t ≠ dqU fr y := fun y hn => hn i s hi hs ho hs3 (by omega)
    refine ⟨same _ hs3 (fun _ => ⟨hk.at0, hk.sz, hk.kind, .inr (.inr (.inr rfl)), fun _ => ⟨x, x1, x2, x3, fun _ he => ⟨(x4 (by omega) he).1, fun _ => ?_⟩⟩⟩) (fun _ _ hn _ => hcl _ hn), .go ho rfl rfl rfl rfl (fun _ => by omega), rfl, rfl⟩
    exact h.slots x (by omega) (x4 (by omega) he).1
  · -- the swap
    obtain ⟨x, x1, x2, x3, x4⟩ := hk.top (by omega)
    have l0 := C.cas_at us 0 (by omega) s.t (dqUp s.t)
    have hw : dqWant s = ⟨3, ((0 : Nat) : Int), s.t, dqUp s.t⟩ := by simp [dqWant, hs3, h1, hk.at0]
    have hup : dqUp s.t = dqU fr (x + 1) := by rw [x3]; exact dqU_up fr x
    have hok : (⟨3, ((0 : Nat) : Int), s.t, dqUp s.t⟩ : C.Acc).ok := by
      rw [hup, x3]
      have a := dqU_range fr x
      have b := dqU_range fr (x + 1)
      exact ⟨⟨a.1, a.2⟩, ⟨b.1, b.2⟩⟩
    have hg : ∀ v won, dqGive s v won = { s with step := 5, over := some (if won then ⟨0, s.v, []⟩ else ⟨6, 0, []⟩) } := fun v won => by unfold dqGive; rw [if_neg nk1, if_neg nk2, if_neg (by omega), if_neg (by omega), if_neg (by omega)]
    rw [hw]
    by_cases he : x = T
    · obtain ⟨x5, x6⟩ := x4 (by omega) he
      have x7 := x6 h1
      subst he
      obtain ⟨e1, e2⟩ := l0.2.2.1 (by rw [h.top, x3])
      refine ⟨hok, l0.1, by simp, _, x + 1, B, A, rfl, by omega, by omega, ?_⟩
      rw [e1, e2, hg, hup]
      have g0 : (us.set 0 (dqU fr (x + 1))).getD 0 0 = dqU fr (x + 1) := by
        rw [List.getD, List.getElem?_set_self (by omega)]; rfl
      have gn : ∀ k, k ≠ 0 → (us.set 0 (dqU fr (x + 1))).getD k 0 = us.getD k 0 := fun k hk0 => by
        rw [List.getD, List.getD, List.getElem?_set_ne (by omega)]
      have hcell := fun y => dqCell_lt h.size_ fr y
      have hk3 : ({ s with step := 5, over := some (if true = true then ⟨0, s.v, []⟩ else ⟨6, 0, []⟩) } : DqS).kind = 3 := hs3
      refine ⟨h.upd hi (by simp) g0 ⟨by omega, by omega, by omega, r4⟩ (fun y h1 h2 => by rw [gn _ (by have := hcell y; omega)]; exact h.slots y (by omega) h2) h.tasks
        (fun hl => by rw [gn 1 (by omega)]; exact h.low ((dqLow_thief hs hs3 hk3).1 hl)) (fun hl => by rw [gn 1 (by omega)]; exact h.high fun hl' => hl ((dqLow_thief hs hs3 hk3).2 hl')) (fun ho' => by simp at ho')
        (fun j u _ _ _ _ hu => hu.far (by omega)) (fun u h0 _ hu hou hp => ?_) (fun u h0 _ hu hou hq => ?_), .steal hs3 x5 (by simp [x7]) rfl rfl rfl, rfl, rfl⟩
      · refine { hp with room := fun h => by have := hp.room h; omega, laid := fun h => by rw [gn _ (by have := hcell B; omega)]; exact hp.laid h }
      · refine { hq with s4 := fun h4 => ?_, s5 := fun h5 => ?_, s6 := fun h6 => ?_ }
        · obtain ⟨y, y1, y2, y3, y4⟩ := hq.s4 h4
          refine ⟨y, y1, by omega, y3, fun hy => ?_⟩
          obtain ⟨z1, z2⟩ := y4 hy
          have hne : s.t ≠ dqU fr (B - 1) := z2 i s hi hs ho hs3 (by omega)
          rw [x3] at hne
          have : x ≠ B - 1 := fun he => hne (by rw [he])
          exact ⟨by omega, z2.upd fun e1 => by simp at e1⟩
        · obtain ⟨y1, y2, y3, y4⟩ := hq.s5 h5
          exact ⟨y1, by omega, y3, fun he => by omega⟩
        · have := hq.s6 h6; omega
    · obtain ⟨e1, e2⟩ := l0.2.2.2 (by rw [h.top, x3]; exact fun e => he (dqU_inj fr x T e.symm (by omega) (by omega)))
      refine ⟨hok, l0.1, by simp, _, T, B, A, rfl, by omega, by omega, ?_⟩
      rw [e1, e2, hg]
      exact ⟨same _ hs3 (fun h => by simp at h) (fun h => by simp at h), .abort hs3 (by simp) rfl rfl rfl, rfl, rfl⟩

theorem getD_set_same (us : List Int) (k : Nat) (v : Int) (h : k < us.length) : (us.set k v).getD k 0 = v := by rw [List.getD, List.getElem?_set_self h]; rfl
theorem getD_set_ne (us : List Int) {k j : Nat} (v : Int) (h : j ≠ k) : (us.set k v).getD j 0 = us.getD j 0 := by rw [List.getD, List.getD, List.getElem?_set_ne (by omega)]
/-- A push's step. -/
theorem DqInv.push (h : DqInv size W fr us ss T B A) (h0 : 0 < W) (hs : ss 0 = some s) (ho : s.over = none) (hk : DqP size fr us T B s) (hB : B < 1000000) :
    (dqWant s).ok ∧ C.code us (dqWant s) = 0 ∧ (dqWant s).k ≠ 7 ∧ ∃ s' T' B' A', dqGive s (C.told us (dqWant s)) (C.won us (dqWant s)) = s' ∧ T' ≤ T + 1 ∧ B' ≤ B + 1 ∧
      DqInv size W fr (C.next us (dqWant s)) (updG ss 0 (some s')) T' B' A' ∧ DqEv s s' T B T' B' A A' ∧ s'.kind = s.kind ∧ s'.task = s.task := by
  have hs1 := hk.kind
  have U0 : M.U 0 := ⟨by decide, by decide⟩
  have hlen := h.len
  obtain ⟨r1, r2, r3, r4⟩ := h.range
  have hz : (0 : Int) < size := by have := h.size_; unfold dqPow at this; omega
  have hlow0 : ¬ dqLow (ss 0) := by rw [hs]; rintro ⟨u, hu, -, h2, -⟩; cases hu; omega
  have hlow' : ∀ s' : DqS, s'.kind = 1 → ¬ dqLow (updG ss 0 (some s') 0) := fun s' h1 => by rw [updG_same]; rintro ⟨u, hu, -, h2, -⟩; cases hu; omega
  have hb := h.high hlow0
  have same : ∀ s' : DqS, s'.kind = 1 → (s'.over = none → DqP size fr us T B s') → DqInv size W fr us (updG ss 0 (some s')) T B A := fun s' h1 h2 =>
    h.upd h0 rfl h.top ⟨r1, r2, r3, r4⟩ h.slots h.tasks (fun hl => absurd hl (hlow' s' h1)) (fun _ => hb) (fun ho' => .inr ⟨rfl, .inl (h2 ho')⟩) (fun _ _ _ _ _ _ h => h) (fun _ h => absurd rfl h) (fun _ h => absurd rfl h)
  have hcell := fun y => dqCell_lt h.size_ fr y
  rcases hk.st with h1 | h1 | h1 | h1
  · -- the bottom
    have l0 := C.load_at us 1 (by omega) 0 0
    have hw : dqWant s = ⟨1, ((1 : Nat) : Int), 0, 0⟩ := by simp [dqWant, hs1, h1, hk.at0]
    have hg : ∀ v won, dqGive s v won = { s with b := v, step := 2 } := fun v won => by unfold dqGive; rw [if_pos hs1, if_pos h1]
    rw [hw]
    refine ⟨⟨U0, U0⟩, l0.1, by simp, _, T, B, A, rfl, by omega, by omega, ?_⟩
    rw [l0.2.1, l0.2.2, hb, hg]
    exact ⟨same _ hs1 (fun _ => ⟨hk.at0, hk.sz, hk.kind, hk.task, .inr (.inl rfl), fun _ => rfl, fun h => by simp at h, fun h => by simp at h⟩), .go ho rfl rfl rfl rfl (fun _ => by omega), rfl, rfl⟩
  · -- the top
    have l0 := C.load_at us 0 (by omega) 0 0
    have hw : dqWant s = ⟨1, ((0 : Nat) : Int), 0, 0⟩ := by simp [dqWant, hs1, h1, hk.at0]
    have hsb := hk.b (by omega)
    have ha : dqAhead s.b (dqU fr T) = B - T := by rw [hsb]; exact dqAhead_U fr B T (by omega) (by omega)
    have hsz := hk.sz
    rw [hw]
    refine ⟨⟨U0, U0⟩, l0.1, by simp, _, T, B, A, rfl, by omega, by omega, ?_⟩
    rw [l0.2.1, l0.2.2, h.top]
    by_cases hf : s.size ≤ B - T
    · have hg : ∀ won, dqGive s (dqU fr T) won = { s with t := dqU fr T, step := 3, over := some ⟨4, 0, []⟩ } := fun won => by unfold dqGive; rw [if_pos hs1, if_neg (by omega), if_pos h1, if_pos (by rw [ha]; exact hf)]
      rw [hg]
      exact ⟨same _ hs1 (fun h => by simp at h), .full hs1 rfl rfl rfl rfl (by omega), rfl, rfl⟩
    · have hg : ∀ won, dqGive s (dqU fr T) won = { s with t := dqU fr T, step := 3 } := fun won => by unfold dqGive; rw [if_pos hs1, if_neg (by omega), if_pos h1, if_neg (by rw [ha]; exact hf)]
      rw [hg]
      exact ⟨same _ hs1 (fun _ => ⟨hk.at0, hk.sz, hk.kind, hk.task, .inr (.inr (.inl rfl)), fun _ => hsb, fun _ => by omega, fun h => by simp at h⟩), .go ho rfl rfl rfl rfl (fun _ => by omega), rfl, rfl⟩
  · -- the slot
    have hsb := hk.b (by omega)
    have hroom := hk.room (by omega)
    have hcB := hcell B
    have hsl := dqSlot_range (at_ := 0) (n := dqU fr B) hz
    have l0 := C.store_at us (dqCell size fr B) (by omega) s.task 0
    have hce : ((dqCell size fr B : Nat) : Int) = dqSlot 0 size (dqU fr B) := by unfold dqCell; omega
    have hw : dqWant s = ⟨2, ((dqCell size fr B : Nat) : Int), s.task, 0⟩ := by rw [hce]; simp [dqWant, hs1, h1, hk.at0, hk.sz, hsb]
    have hg : ∀ v won, dqGive s v won = { s with step := 4 } := fun v won => by unfold dqGive; rw [if_pos hs1, if_neg (by omega), if_neg (by omega), if_pos h1]
    rw [hw]
    refine ⟨⟨hk.task, U0⟩, l0.1, by simp, _, T, B, A, rfl, by omega, by omega, ?_⟩
    rw [l0.2.1, hg]
    refine ⟨h.upd h0 (by simp) (by rw [getD_set_ne _ _ (by omega)]; exact h.top) ⟨r1, r2, r3, r4⟩ (fun x x1 x2 => by rw [getD_set_ne _ _ (dqCell_ne h.size_ x2 (by omega))]; exact h.slots x x1 x2) h.tasks (fun hl => absurd hl (hlow' _ hs1)) (fun _ => by rw [getD_set_ne _ _ (by omega)]; exact hb)
      (fun _ => .inr ⟨rfl, .inl ⟨hk.at0, hk.sz, hk.kind, hk.task, .inr (.inr (.inr rfl)), fun _ => hsb, fun _ => hroom, fun _ => getD_set_same _ _ _ (by omega)⟩⟩) (fun _ _ _ _ _ _ h => h) (fun _ h => absurd rfl h) (fun _ h => absurd rfl h), .go ho rfl rfl rfl rfl (fun _ => by omega), rfl, rfl⟩
  · -- the bottom, one more
    have hsb := hk.b (by omega)
    have hroom := hk.room (by omega)
    have hlaid := hk.laid h1
    have l0 := C.store_at us 1 (by omega) (dqUp s.b) 0
    have hup : dqUp s.b = dqU fr (B + 1) := by rw [hsb]; exact dqU_up fr B
    have hw : dqWant s = ⟨2, ((1 : Nat) : Int), dqUp s.b, 0⟩ := by simp [dqWant, hs1, h1, hk.at0]
    have hg : ∀ v won, dqGive s v won = { s with step := 5, over := some ⟨0, 0, []⟩ } := fun v won => by unfold dqGive; rw [if_pos hs1, if_neg (by omega), if_neg (by omega), if_neg (by omega)]
    have hok : M.U (dqUp s.b) := by rw [hup]; exact dqU_range fr (B + 1)
    rw [hw]
    refine ⟨⟨hok, U0⟩, l0.1, by simp, _, T, B + 1, (fun x => if x = B then s.task else A x), rfl, by omega, by omega, ?_⟩
    rw [l0.2.1, hg, hup]
    refine ⟨h.upd h0 (by simp) (by rw [getD_set_ne _ _ (by omega)]; exact h.top) ⟨r1, by omega, by omega, by omega⟩ (fun x x1 x2 => ?_) (fun x => ?_) (fun hl => absurd hl (hlow' _ hs1)) (fun _ => getD_set_same _ _ _ (by omega)) (fun ho' => by simp at ho')
      (fun j u _ _ _ _ hu => hu.near fun _ _ hlt => ⟨by omega, if_neg (by omega)⟩) (fun _ h => absurd rfl h) (fun _ h => absurd rfl h), .push hs1 rfl rfl rfl rfl, rfl, rfl⟩
    · rw [getD_set_ne _ _ (by have := hcell x; omega)]
      by_cases e : x = B
      · rw [if_pos e, e]; exact hlaid
      · rw [if_neg e]; exact h.slots x x1 (by omega)
    · show M.U (if x = B then s.task else A x)
      split
      · exact hk.task
      · exact h.tasks x
/-- A pop's step. -/
theorem DqInv.pop (h : DqInv size W fr us ss T B A) (h0 : 0 < W) (hs : ss 0 = some s) (ho : s.over = none) (hk : DqQ size fr T B A (dqNc W fr ss (B - 1)) s) :
    (dqWant s).ok ∧ C.code us (dqWant s) = 0 ∧ (dqWant s).k ≠ 7 ∧ ∃ s' T' B' A', dqGive s (C.told us (dqWant s)) (C.won us (dqWant s)) = s' ∧ T' ≤ T + 1 ∧ B' ≤ B + 1 ∧
      DqInv size W fr (C.next us (dqWant s)) (updG ss 0 (some s')) T' B' A' ∧ DqEv s s' T B T' B' A A' ∧ s'.kind = s.kind ∧ s'.task = s.task := by
  have hs2 := hk.kind
  have nk1 : ¬ s.kind = 1 := by omega
  have U0 : M.U 0 := ⟨by decide, by decide⟩
  have hlen := h.len
  obtain ⟨r1, r2, r3, r4⟩ := h.range
  have hz : (0 : Int) < size := by have := h.size_; unfold dqPow at this; omega
  have hlow0 : dqLow (ss 0) ↔ 3 ≤ s.step := by
    rw [hs]
    constructor
    · rintro ⟨u, hu, -, -, h3⟩; cases hu; exact h3
    · intro h3; exact ⟨s, rfl, ho, hs2, h3⟩
  have hlow' : ∀ s' : DqS, s'.kind = 2 → (dqLow (updG ss 0 (some s') 0) ↔ s'.over = none ∧ 3 ≤ s'.step) := fun s' h1 => by
    rw [updG_same]
    constructor
    · rintro ⟨u, hu, h2, -, h3⟩; cases hu; exact ⟨h2, h3⟩
    · rintro ⟨h2, h3⟩; exact ⟨s', rfl, h2, h1, h3⟩
  have hcell := fun y => dqCell_lt h.size_ fr y
  have thieves : ∀ j u, j ≠ 0 → j < W → ss j = some u → u.over = none → DqT size fr T B A u := fun j u hj hjW hu hou => by
    rcases h.wk j u hjW hu hou with h1 | ⟨rfl, -⟩
    · exact h1
    · exact absurd rfl hj
  have ncUp : ∀ (s' : DqS) (x : Int), s'.kind = 2 → dqNc W fr ss x → dqNc W fr (updG ss 0 (some s')) x := fun s' x h1 hn => hn.upd fun _ e => by omega
  -- nothing but the state changes
  have same : ∀ s' : DqS, s'.kind = 2 → (dqLow (updG ss 0 (some s') 0) ↔ dqLow (ss 0)) → (s'.over = none → DqQ size fr T B A (dqNc W fr (updG ss 0 (some s')) (B - 1)) s') → DqInv size W fr us (updG ss 0 (some s')) T B A := fun s' h1 hl h2 =>
    h.upd h0 rfl h.top ⟨r1, r2, r3, r4⟩ h.slots h.tasks (fun hl' => h.low (hl.1 hl')) (fun hl' => h.high fun e => hl' (hl.2 e)) (fun ho' => .inr ⟨rfl, .inr (h2 ho')⟩) (fun _ _ _ _ _ _ h => h) (fun _ h => absurd rfl h) (fun _ h => absurd rfl h)
  rcases hk.st with h1 | h1 | h1 | h1 | h1 | h1
  · -- the bottom
    have hb := h.high (fun e => by have := hlow0.1 e; omega)
    have l0 := C.load_at us 1 (by omega) 0 0
    have hw : dqWant s = ⟨1, ((1 : Nat) : Int), 0, 0⟩ := by simp [dqWant, hs2, h1, hk.at0]
    have hg : ∀ v won, dqGive s v won = { s with b := (v - 1) % 18446744073709551616, step := 2 } := fun v won => by unfold dqGive; rw [if_neg nk1, if_pos hs2, if_pos h1]
    rw [hw]
    refine ⟨⟨U0, U0⟩, l0.1, by simp, _, T, B, A, rfl, by omega, by omega, ?_⟩
    rw [l0.2.1, l0.2.2, hb, hg, dqU_down]
    exact ⟨same _ hs2 (by refine (hlow' _ (by exact hs2)).trans (Iff.trans ?_ hlow0.symm); simp [h1]) (fun _ => ⟨hk.at0, hk.sz, hk.kind, .inr (.inl rfl), fun _ => rfl, fun h => by simp at h, fun h => by simp at h, fun h => by simp at h⟩), .go ho rfl rfl rfl rfl (fun _ => by omega), rfl, rfl⟩
  · -- the bottom, one less
    have hsb := hk.b (by omega)
    have l0 := C.store_at us 1 (by omega) s.b 0
    have hw : dqWant s = ⟨2, ((1 : Nat) : Int), s.b, 0⟩ := by simp [dqWant, hs2, h1, hk.at0]
    have hg : ∀ v won, dqGive s v won = { s with step := 3 } := fun v won => by unfold dqGive; rw [if_neg nk1, if_pos hs2, if_neg (by omega), if_pos h1]
    have hok : M.U s.b := by rw [hsb]; exact dqU_range fr (B - 1)
    rw [hw]
    refine ⟨⟨hok, U0⟩, l0.1, by simp, _, T, B, A, rfl, by omega, by omega, ?_⟩
    rw [l0.2.1, hg]
    refine ⟨h.upd h0 (by simp) (by rw [getD_set_ne _ _ (by omega)]; exact h.top) ⟨r1, r2, r3, r4⟩ (fun x x1 x2 => by rw [getD_set_ne _ _ (by have := hcell x; omega)]; exact h.slots x x1 x2) h.tasks (fun _ => by rw [getD_set_same _ _ _ (by omega)]; exact hsb) (fun hl => (hl ((hlow' _ (by exact hs2)).2 ⟨ho, by simp⟩)).elim)
      (fun _ => .inr ⟨rfl, .inr ⟨hk.at0, hk.sz, hk.kind, .inr (.inr (.inl rfl)), fun _ => hsb, fun h => by simp at h, fun h => by simp at h, fun h => by simp at h⟩⟩) (fun _ _ _ _ _ _ h => h) (fun _ h => absurd rfl h) (fun _ h => absurd rfl h), .go ho rfl rfl rfl rfl (fun _ => by omega), rfl, rfl⟩
  · -- the top
    have hsb := hk.b (by omega)
    have l0 := C.load_at us 0 (by omega) 0 0
    have hw : dqWant s = ⟨1, ((0 : Nat) : Int), 0, 0⟩ := by simp [dqWant, hs2, h1, hk.at0]
    have hg : ∀ v won, dqGive s v won = { s with t := v, step := 4 } := fun v won => by unfold dqGive; rw [if_neg nk1, if_pos hs2, if_neg (by omega), if_neg (by omega), if_pos h1]
    rw [hw]
    refine ⟨⟨U0, U0⟩, l0.1, by simp, _, T, B, A, rfl, by omega, by omega, ?_⟩
    rw [l0.2.1, l0.2.2, h.top, hg]
    refine ⟨same _ hs2 (by refine (hlow' _ (by exact hs2)).trans (Iff.trans ?_ hlow0.symm); simp [h1, ho]) (fun _ => ⟨hk.at0, hk.sz, hk.kind, .inr (.inr (.inr (.inl rfl))), fun _ => hsb, fun _ => ⟨T, r1, Int.le_refl _, rfl, fun hx => ⟨by omega, ncUp _ _ hs2 fun j u hj hu hou hku h3 he => ?_⟩⟩, fun h => by simp at h, fun h => by simp at h⟩), .go ho rfl rfl rfl rfl (fun _ => by omega), rfl, rfl⟩
    rcases Nat.eq_zero_or_pos j with rfl | hj0
    · rw [hs] at hu; cases hu; omega
    · obtain ⟨x, x1, x2, x3, -⟩ := (thieves j u (by omega) hj hu hou).top (by omega)
      rw [x3] at he
      have := dqU_inj fr x (B - 1) he (by omega) (by omega)
      omega
  · -- the slot, or the bottom again
    have hsb := hk.b (by omega)
    obtain ⟨x, x1, x2, x3, x4⟩ := hk.s4 h1
    have hlo := h.low (hlow0.2 (by omega))
    have ha : dqAhead s.b s.t = B - 1 - x := by rw [hsb, x3]; exact dqAhead_U fr (B - 1) x (by omega) (by omega)
    by_cases hneg : B - 1 - x < 0
    · have hTB : T = B := by omega
      have l0 := C.store_at us 1 (by omega) (dqUp s.b) 0
      have hup : dqUp s.b = dqU fr B := by rw [hsb, dqU_up]; congr 1; omega
      have hw : dqWant s = ⟨2, ((1 : Nat) : Int), dqUp s.b, 0⟩ := by
        unfold dqWant
        rw [if_neg nk1, if_pos hs2, if_neg (by omega), if_neg (by omega), if_neg (by omega), if_pos h1, if_pos (by rw [ha]; exact hneg)]
        simp [hk.at0]
      have hg : ∀ v won, dqGive s v won = { s with over := some ⟨5, 0, []⟩ } := fun v won => by unfold dqGive; rw [if_neg nk1, if_pos hs2, if_neg (by omega), if_neg (by omega), if_neg (by omega), if_pos h1, if_pos (by rw [ha]; exact hneg)]
      have hok : M.U (dqUp s.b) := by rw [hup]; exact dqU_range fr B
      rw [hw]
      refine ⟨⟨hok, U0⟩, l0.1, by simp, _, T, B, A, rfl, by omega, by omega, ?_⟩
      rw [l0.2.1, hg, hup]
      exact ⟨h.upd h0 (by simp) (by rw [getD_set_ne _ _ (by omega)]; exact h.top) ⟨r1, r2, r3, r4⟩ (fun y y1 y2 => by omega) h.tasks (fun hl => by have := ((hlow' _ (by exact hs2)).1 hl).1; simp at this) (fun _ => getD_set_same _ _ _ (by omega)) (fun ho' => by simp at ho') (fun _ _ _ _ _ _ h => h) (fun _ h => absurd rfl h) (fun _ h => absurd rfl h), .empty hs2 (fun h => by omega) hTB rfl rfl rfl rfl, rfl, rfl⟩
    · have hcB := hcell (B - 1)
      have hsl := dqSlot_range (at_ := 0) (n := dqU fr (B - 1)) hz
      have l0 := C.load_at us (dqCell size fr (B - 1)) (by omega) 0 0
      have hce : ((dqCell size fr (B - 1) : Nat) : Int) = dqSlot 0 size (dqU fr (B - 1)) := by unfold dqCell; omega
      have hw : dqWant s = ⟨1, ((dqCell size fr (B - 1) : Nat) : Int), 0, 0⟩ := by
        unfold dqWant
        rw [if_neg nk1, if_pos hs2, if_neg (by omega), if_neg (by omega), if_neg (by omega), if_pos h1, if_neg (by rw [ha]; exact hneg), hce, hk.at0, hk.sz, hsb]
      rw [hw]
      by_cases hpos : 0 < B - 1 - x
      · obtain ⟨y1, y2⟩ := x4 (by omega)
        have hv := h.slots (B - 1) y1 (by omega)
        have hg : ∀ v won, dqGive s v won = { s with v := v, step := 5, over := some ⟨0, v, []⟩ } := fun v won => by unfold dqGive; rw [if_neg nk1, if_pos hs2, if_neg (by omega), if_neg (by omega), if_neg (by omega), if_pos h1, if_neg (by rw [ha]; exact hneg), if_pos (by rw [ha]; exact hpos)]
        refine ⟨⟨U0, U0⟩, l0.1, by simp, _, T, B - 1, A, rfl, by omega, by omega, ?_⟩
        rw [l0.2.1, l0.2.2, hv, hg]
        refine ⟨h.upd h0 rfl h.top ⟨r1, by omega, by omega, by omega⟩ (fun y z1 z2 => h.slots y z1 (by omega)) h.tasks (fun hl => by have := ((hlow' _ (by exact hs2)).1 hl).1; simp at this) (fun _ => hlo) (fun ho' => by simp at ho') (fun j u hj hjW hu hou ht => ht.near fun h3 he hlt => ⟨?_, rfl⟩) (fun _ h => absurd rfl h) (fun _ h => absurd rfl h), .pop hs2 h1 y1 rfl rfl rfl rfl, rfl, rfl⟩
        have hne := y2 j u hjW hu hou ht.kind h3
        rw [he] at hne
        have : T ≠ B - 1 := fun e => hne (by rw [e])
        omega
      · have hxB : x = B - 1 := by omega
        have hg : ∀ v won, dqGive s v won = { s with v := v, step := 5 } := fun v won => by unfold dqGive; rw [if_neg nk1, if_pos hs2, if_neg (by omega), if_neg (by omega), if_neg (by omega), if_pos h1, if_neg (by rw [ha]; exact hneg), if_neg (by rw [ha]; exact hpos)]
        refine ⟨⟨U0, U0⟩, l0.1, by simp, _, T, B, A, rfl, by omega, by omega, ?_⟩
        rw [l0.2.1, l0.2.2, hg]
        exact ⟨same _ hs2 (by refine (hlow' _ (by exact hs2)).trans (Iff.trans ?_ hlow0.symm); simp [h1, ho]) (fun _ => ⟨hk.at0, hk.sz, hk.kind, .inr (.inr (.inr (.inr (.inl rfl)))), fun _ => hsb, fun h => by simp at h, fun _ => ⟨by omega, by omega, by rw [← hxB]; exact x3, fun he => h.slots (B - 1) (by omega) (by omega)⟩, fun h => by simp at h⟩), .go ho rfl rfl rfl rfl (fun _ => by omega), rfl, rfl⟩
  · -- the swap
    have hsb := hk.b (by omega)
    obtain ⟨y1, y2, y3, y4⟩ := hk.s5 h1
    have hlo := h.low (hlow0.2 (by omega))
    have l0 := C.cas_at us 0 (by omega) s.t (dqUp s.t)
    have hw : dqWant s = ⟨3, ((0 : Nat) : Int), s.t, dqUp s.t⟩ := by simp [dqWant, hs2, h1, hk.at0]
    have hup : dqUp s.t = dqU fr B := by rw [y3, dqU_up]; congr 1; omega
    have hok : (⟨3, ((0 : Nat) : Int), s.t, dqUp s.t⟩ : C.Acc).ok := by
      rw [hup, y3]
      have a := dqU_range fr (B - 1)
      have b := dqU_range fr B
      exact ⟨⟨a.1, a.2⟩, ⟨b.1, b.2⟩⟩
    have hg : ∀ v won, dqGive s v won = { s with won := won, step := 6 } := fun v won => by unfold dqGive; rw [if_neg nk1, if_pos hs2, if_neg (by omega), if_neg (by omega), if_neg (by omega), if_neg (by omega), if_pos h1]
    rw [hw]
    by_cases he : T = B - 1
    · obtain ⟨e1, e2⟩ := l0.2.2.1 (by rw [h.top, y3, he])
      refine ⟨hok, l0.1, by simp, _, B, B, A, rfl, by omega, by omega, ?_⟩
      rw [e1, e2, hg, hup]
      refine ⟨h.upd h0 (by simp) (getD_set_same _ _ _ (by omega)) ⟨by omega, by omega, by omega, r4⟩ (fun y z1 z2 => by omega) h.tasks (fun _ => by rw [getD_set_ne _ _ (by omega)]; exact hlo) (fun hl => (hl ((hlow' _ (by exact hs2)).2 ⟨ho, by simp⟩)).elim)
        (fun _ => .inr ⟨rfl, .inr ⟨hk.at0, hk.sz, hk.kind, .inr (.inr (.inr (.inr (.inr rfl)))), fun _ => hsb, fun h => by simp at h, fun h => by simp at h, fun _ => rfl⟩⟩) (fun j u hj hjW hu hou ht => ht.far (by omega)) (fun _ h => absurd rfl h) (fun _ h => absurd rfl h), .take hs2 h1 ho rfl (by rw [he]; exact y4 he) he rfl rfl rfl, rfl, rfl⟩
    · obtain ⟨e1, e2⟩ := l0.2.2.2 (by rw [h.top, y3]; exact fun e => he (dqU_inj fr T (B - 1) e (by omega) (by omega)))
      refine ⟨hok, l0.1, by simp, _, T, B, A, rfl, by omega, by omega, ?_⟩
      rw [e1, e2, hg]
      exact ⟨same _ hs2 (by refine (hlow' _ (by exact hs2)).trans (Iff.trans ?_ hlow0.symm); simp [h1, ho]) (fun _ => ⟨hk.at0, hk.sz, hk.kind, .inr (.inr (.inr (.inr (.inr rfl)))), fun _ => hsb, fun h => by simp at h, fun h => by simp at h, fun _ => by omega⟩), .lost hs2 h1 ho rfl (by omega) rfl rfl rfl, rfl, rfl⟩
  · -- the bottom again
    have hsb := hk.b (by omega)
    have hTB := hk.s6 h1
    have l0 := C.store_at us 1 (by omega) (dqUp s.b) 0
    have hup : dqUp s.b = dqU fr B := by rw [hsb, dqU_up]; congr 1; omega
    have hw : dqWant s = ⟨2, ((1 : Nat) : Int), dqUp s.b, 0⟩ := by simp [dqWant, hs2, h1, hk.at0]
    have hg : ∀ v won, dqGive s v won = { s with step := 7, over := some (if s.won then ⟨0, s.v, []⟩ else ⟨5, 0, []⟩) } := fun v won => by unfold dqGive; rw [if_neg nk1, if_pos hs2, if_neg (by omega), if_neg (by omega), if_neg (by omega), if_neg (by omega), if_neg (by omega)]
    have hok : M.U (dqUp s.b) := by rw [hup]; exact dqU_range fr B
    rw [hw]
    refine ⟨⟨hok, U0⟩, l0.1, by simp, _, T, B, A, rfl, by omega, by omega, ?_⟩
    rw [l0.2.1, hg, hup]
    refine ⟨h.upd h0 (by simp) (by rw [getD_set_ne _ _ (by omega)]; exact h.top) ⟨r1, r2, r3, r4⟩ (fun y y1 y2 => by omega) h.tasks (fun hl => by have := ((hlow' _ (by exact hs2)).1 hl).1; simp at this) (fun _ => getD_set_same _ _ _ (by omega)) (fun ho' => by simp at ho') (fun _ _ _ _ _ _ h => h) (fun _ h => absurd rfl h) (fun _ h => absurd rfl h), ?_, rfl, rfl⟩
    cases hwon : s.won with
    | true => exact .took hs2 h1 hwon hTB rfl rfl rfl rfl
    | false => exact .empty hs2 (fun h => by rw [hwon] at h; exact absurd h.2 (by decide)) hTB rfl rfl rfl rfl
/-- Any worker's step. -/
theorem DqInv.step (h : DqInv size W fr us ss T B A) {i : Nat} (hi : i < W) (hs : ss i = some s) (ho : s.over = none) (hB : B < 1000000) :
    (dqWant s).ok ∧ C.code us (dqWant s) = 0 ∧ (dqWant s).k ≠ 7 ∧ ∃ s' T' B' A', dqGive s (C.told us (dqWant s)) (C.won us (dqWant s)) = s' ∧ T' ≤ T + 1 ∧ B' ≤ B + 1 ∧
      DqInv size W fr (C.next us (dqWant s)) (updG ss i (some s')) T' B' A' ∧ DqEv s s' T B T' B' A A' ∧ s'.kind = s.kind ∧ s'.task = s.task := by
  rcases h.wk i s hi hs ho with h1 | ⟨rfl, h1 | h1⟩
  · exact h.thief hi hs ho h1
  · exact h.push hi hs ho h1 hB
  · exact h.pop hi hs ho h1
end
end Go.Proofs.YtjbgkaleickknaaGreat
