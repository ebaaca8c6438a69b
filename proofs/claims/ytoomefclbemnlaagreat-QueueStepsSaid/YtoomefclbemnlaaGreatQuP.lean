/-
  A queue's Put and Take go as their machine.
-/
import Derived.Test.YtoomefclbemnlaaGreatQuK
namespace Go.Proofs.YtoomefclbemnlaaGreat
set_option maxRecDepth 100000
set_option linter.unusedSimpArgs false
set_option linter.unusedVariables false
open Go.ChangeShapes Go.WideShapes Go.ChangeAt Go.RowKit

theorem arOk_give {t : ArS} {v : Int} {won : Bool} (h : arOk t) (ho : t.over = none) (hv : M.U v) (hg : (arGive t v won).over = none) : arOk (arGive t v won) ∧ (arGive t v won).puts = t.puts ∧ (arGive t v won).n = t.n ∧ (arGive t v won).at_ = t.at_ := by
  obtain ⟨at_, n, puts, node, step, hh, link, over⟩ := t
  obtain ⟨a1, a2, a3, a4, a5, a6⟩ := h
  simp only at a1 a2 a3 a4 a5 a6 ho
  subst ho
  have hd : ∀ st : Int, (arHead ⟨at_, n, puts, node, st, hh, link, none⟩ v).over = none → arOk (arHead ⟨at_, n, puts, node, st, hh, link, none⟩ v) ∧ (arHead ⟨at_, n, puts, node, st, hh, link, none⟩ v).puts = puts ∧ (arHead ⟨at_, n, puts, node, st, hh, link, none⟩ v).n = n ∧ (arHead ⟨at_, n, puts, node, st, hh, link, none⟩ v).at_ = at_ := by
    intro st hx
    unfold arHead at hx ⊢
    simp only at hx ⊢
    by_cases hp : puts = true
    · rw [if_pos hp]
      exact ⟨⟨a1, a2, .inr (.inl rfl), hv, a5, fun _ h => by rw [hp] at h; cases h⟩, rfl, rfl, rfl⟩
    · rw [if_neg hp] at hx ⊢
      by_cases h0 : v % 4294967296 = 0
      · rw [if_pos h0] at hx; cases hx
      · rw [if_neg h0] at hx ⊢
        by_cases h1 : n < v % 4294967296
        · rw [if_pos h1] at hx; cases hx
        · rw [if_neg h1]
          exact ⟨⟨a1, a2, .inr (.inl rfl), hv, a5, fun _ _ => ⟨by show 1 ≤ v % 4294967296; omega, by show v % 4294967296 ≤ n; omega⟩⟩, rfl, rfl, rfl⟩
  unfold arGive at hg ⊢
  simp only at hg ⊢
  rcases a3 with h | h | h
  · subst h
    simp only [if_true] at hg ⊢
    exact hd 1 hg
  · subst h
    rw [if_neg (by decide), if_pos rfl]
    exact ⟨⟨a1, a2, .inr (.inr rfl), a4, hv, fun _ h => a6 (by decide) h⟩, rfl, rfl, rfl⟩
  · subst h
    rw [if_neg (by decide), if_neg (by decide)] at hg ⊢
    cases won with
    | true => simp at hg
    | false =>
      simp only [Bool.false_eq_true, if_false] at hg ⊢
      exact hd 3 hg
theorem arRes_give {t : ArS} {v : Int} {won : Bool} {r : Rs} (h : arOk t) (ho : t.over = none) (hg : (arGive t v won).over = some r) : r.l = [] ∧ M.U r.v ∧ (t.puts = false → r.code = 0 → 1 ≤ r.v ∧ r.v ≤ t.n) := by
  obtain ⟨at_, n, puts, node, step, hh, link, over⟩ := t
  obtain ⟨a1, a2, a3, a4, a5, a6⟩ := h
  simp only at a1 a2 a3 a4 a5 a6 ho
  subst ho
  have U0 : M.U 0 := ⟨by decide, by decide⟩
  have hd : ∀ st : Int, (arHead ⟨at_, n, puts, node, st, hh, link, none⟩ v).over = some r → r.l = [] ∧ M.U r.v ∧ (puts = false → r.code = 0 → 1 ≤ r.v ∧ r.v ≤ n) := by
    intro st hx
    unfold arHead at hx
    simp only at hx
    split at hx
    · cases hx
    · split at hx
      · cases hx; exact ⟨rfl, U0, fun _ h => by simp at h⟩
      · split at hx
        · cases hx; exact ⟨rfl, U0, fun _ h => by simp at h⟩
        · cases hx
  unfold arGive at hg
  simp only at hg
  rcases a3 with h | h | h
  · subst h
    simp only [if_true] at hg
    exact hd 1 hg
  · subst h
    rw [if_neg (by decide), if_pos rfl] at hg
    cases hg
  · subst h
    rw [if_neg (by decide), if_neg (by decide)] at hg
    cases won with
    | false =>
      simp only [Bool.false_eq_true, if_false] at hg
      exact hd 3 hg
    | true =>
      simp only [if_true] at hg
      cases puts with
      | true =>
        simp only [if_true, Option.some.injEq] at hg
        subst hg
        exact ⟨rfl, U0, fun h => by cases h⟩
      | false =>
        simp only [Bool.false_eq_true, if_false, Option.some.injEq] at hg
        subst hg
        have := a6 (by decide) rfl
        have h0 := a4.nn
        exact ⟨rfl, ⟨by show 0 ≤ hh % 4294967296; omega, by show hh % 4294967296 < _; omega⟩, fun _ _ => this⟩

/-- A Put that can stand so. -/
structure QuPutOk (s : QuS) : Prop where
  few : 1 ≤ s.l.length ∧ s.l.length ≤ 300
  words : ∀ u ∈ s.l, M.U u
  nodes : ∀ i ∈ s.nodes, 1 ≤ i ∧ i ≤ s.n
  at_ : (∃ a, s.sub = some a ∧ a.over = none ∧ arOk a ∧ s.inn = false ∧ s.nodes.length < s.l.length ∧ ((s.step = 1 ∧ a.puts = false ∧ a.n = s.n ∧ s.k = 0) ∨ (s.step = 10 ∧ s.k ≤ s.nodes.length))) ∨
    (s.sub = none ∧ s.nodes.length = s.l.length ∧ (((s.step = 20 ∨ s.step = 21 ∨ s.step = 22) ∧ s.inn = false ∧ s.k < s.nodes.length) ∨ (s.step = 3 ∧ s.inn = false) ∨
      ((s.step = 4 ∨ s.step = 5) ∧ s.inn = false ∧ ¬ quWrong s.n s.t) ∨ (s.step = 6 ∧ s.inn = false ∧ ¬ quWrong s.n s.t ∧ quNode s.x ≤ s.n) ∨ (s.step = 7 ∧ s.inn = true ∧ ¬ quWrong s.n s.t)))
structure QuTakeOk (s : QuS) : Prop where
  at_ : (∃ a, s.sub = some a ∧ a.over = none ∧ arOk a ∧ s.inn = true ∧ s.step = 6) ∨
    (s.sub = none ∧ s.inn = false ∧ (s.step = 1 ∨ ((s.step = 2 ∨ s.step = 3 ∨ s.step = 4) ∧ ¬ quWrong s.n s.h) ∨ (s.step = 50 ∧ ¬ quWrong s.n s.x) ∨ ((s.step = 5 ∨ s.step = 6) ∧ ¬ quWrong s.n s.h ∧ ¬ quWrong s.n s.x)))
structure QuOk (s : QuS) : Prop where
  right : quRight s.at_ s.n
  uh : M.U s.h
  ut : M.U s.t
  ux : M.U s.x
  uv : M.U s.v
  put : s.puts = true → QuPutOk s
  take : s.puts = false → QuTakeOk s
/-- What it does next. -/
def quFn (s : QuS) : FuncId :=
  if s.sub.isSome then (if s.puts then (if s.step = 10 then 148 else 75) else 154)
  else if s.puts then (if s.step = 20 then 150 else if s.step = 21 then 166 else if s.step = 22 then 169 else if s.step = 3 then 89 else if s.step = 4 then 65
    else if s.step = 5 then 104 else if s.step = 6 then (if quNode s.x = 0 then 69 else 106) else 108)
  else (if s.step = 1 then 89 else if s.step = 2 then 86 else if s.step = 3 then 65 else if s.step = 4 then 104 else if s.step = 50 then 106
    else if s.step = 5 then 88 else 137)
theorem quFn_ok (s : QuS) : ∀ args w, (callFunc (quFn s) args).run Tryz.prog w = .ok (.enter (quFn s) args) w := by
  unfold quFn
  repeat' split
  all_goals exact fun _ _ => by kernel_rfl
@[reducible] def quM (F : FuncId) (p : Nat) : Value := .func (.func F) #[.pointer (some ⟨p, 0, none⟩)] #[]
/-- What a Put knows. -/
structure QuPutKnows (m p : Nat) (w : World) (T : List Nat) (ov : Value) (s : QuS) (en nd nx : Int) (tv nv : Value) (dn cd : Int) : Prop where
  row : Row w p 80 (quPCells m s.at_ s.n (s.at_ + 1) en nd nx (quM 32 p) (quM 33 p) tv nv dn cd)
  tail : s.step = 4 ∨ s.step = 5 ∨ s.step = 6 ∨ s.step = 7 → en = s.t ∧ nd = quNode s.t
  next : s.step = 5 ∨ s.step = 6 → nx = s.x
  tasks : Sl w 1 tv s.l.length (ints .u64 s.l)
  tasksIn : ∀ g, tv.ownBlock = some g → g ∈ T ∧ g ≠ p
  grows : s.step = 1 → w.ownsRow 0 3 1 nv s.nodes.length (ints .i64 s.nodes) ∧ dn = 0
  nodes : s.step ≠ 1 → ∃ q nl nc, nv = .slice q nl nc ∧ nl ≤ nc ∧ nl = s.nodes.length - (if s.step = 10 then s.k else 0) ∧ Sl w 1 nv nl (ints .i64 (s.nodes.drop (if s.step = 10 then s.k else 0)))
  nodesIn : ∀ g, nv.ownBlock = some g → g ∈ T ∧ g ≠ p
  count : s.step = 20 ∨ s.step = 21 → dn = (s.k : Int)
  count2 : s.step = 22 → dn = ((s.k + 1 : Nat) : Int)
  code : s.step = 10 → cd = s.code
  apart : s.step = 1 → (∀ g, nv.ownBlock = some g → tv.ownBlock ≠ some g) ∧ ∃ T', (∀ k ∈ T', k ∈ T ∧ nv.ownBlock ≠ some k) ∧ quSeen w m p T' ov
  seen : quSeen w m p T ov
structure QuTakeKnows (m p : Nat) (w : World) (T : List Nat) (ov : Value) (s : QuS) (en nd nx tl tk : Int) : Prop where
  row : Row w p 90 (quTCells m s.at_ s.n s.at_ en nd nx (quM 43 p) (quM 44 p) tl tk)
  head : s.step ≠ 1 ∧ s.step ≠ 50 → en = s.h ∧ nd = quNode s.h
  next : s.step = 4 ∨ s.step = 5 ∨ s.step = 6 → nx = s.x
  tail : s.step = 3 ∨ s.step = 4 → tl = s.t
  task : s.step = 6 → tk = s.v
  seen : s.inn = true → quSeen w m p T ov
  none_ : s.inn = false → ov = .slice none 0 0
theorem QuPutKnows.keeps {m p : Nat} {w w' : World} {T A : List Nat} {ov : Value} {s : QuS} {en nd nx : Int} {tv nv : Value} {dn cd : Int} (h : QuPutKnows m p w T ov s en nd nx tv nv dn cd) (hp : p ∈ T) (hk : Keeps A w w') (hA : ∀ k ∈ T, k ∉ A) : QuPutKnows m p w' T ov s en nd nx tv nv dn cd :=
  { h with
    row := h.row.keeps hk (hA p hp)
    tasks := h.tasks.but hk (fun g hg => hA g (h.tasksIn g hg).1)
    grows := fun e => ⟨owns_keeps (h.grows e).1 hk (fun g hg => hA g (h.nodesIn g hg).1), (h.grows e).2⟩
    nodes := fun e => by
      obtain ⟨q, nl, nc, a, b, c, d⟩ := h.nodes e
      exact ⟨q, nl, nc, a, b, c, d.but hk (fun g hg => hA g (h.nodesIn g hg).1)⟩
    apart := fun e => by
      obtain ⟨a, T', b, c⟩ := h.apart e
      exact ⟨a, T', b, c.keeps hk (fun k hk' _ => hA k (b k hk').1)⟩
    seen := h.seen.keeps hk (fun k hk' _ => hA k hk') }
theorem QuTakeKnows.keeps {m p : Nat} {w w' : World} {T A : List Nat} {ov : Value} {s : QuS} {en nd nx tl tk : Int} (h : QuTakeKnows m p w T ov s en nd nx tl tk) (hp : p ∈ T) (hk : Keeps A w w') (hA : ∀ k ∈ T, k ∉ A) : QuTakeKnows m p w' T ov s en nd nx tl tk :=
  { h with
    row := h.row.keeps hk (hA p hp)
    seen := fun e => (h.seen e).keeps hk (fun k hk' _ => hA k hk') }
/-- What a walk of a queue knows, while it has not ended. -/
def quE (m : Nat) (w : World) (T : List Nat) (nx ov : Value) (s : QuS) : Prop :=
  s.over = none → QuOk s ∧ ∃ p, p ∈ T ∧ nx = quM (quFn s) p ∧ (s.puts = true → ∃ en nd x tv nv dn cd, QuPutKnows m p w T ov s en nd x tv nv dn cd) ∧ (s.puts = false → ∃ en nd x tl tk, QuTakeKnows m p w T ov s en nd x tl tk)
theorem quE_keeps (m : Nat) : ∀ w w' T A nx ov s, quE m w T nx ov s → Keeps A w w' → (∀ k ∈ T, k ∉ A) → quE m w' T nx ov s := by
  intro w w' T A nx ov s h hk hT hg
  obtain ⟨h0, p, h1, h2, h3, h4⟩ := h hg
  refine ⟨h0, p, h1, h2, fun e => ?_, fun e => ?_⟩
  · obtain ⟨en, nd, x, tv, nv, dn, cd, h⟩ := h3 e
    exact ⟨en, nd, x, tv, nv, dn, cd, h.keeps h1 hk hT⟩
  · obtain ⟨en, nd, x, tl, tk, h⟩ := h4 e
    exact ⟨en, nd, x, tl, tk, h.keeps h1 hk hT⟩
@[reducible] def quJ (o b : Nat) : World → List Nat → ArS → Prop := InOwn arenaM (arE b) o b
theorem quInner (o b : Nat) : Inner arenaM (quJ o b) o b := by
  refine inner_own arenaM (arE b) o b (arE_keeps b) ?_ (fun _ _ _ => rfl) ?_ (arSteps b)
  · intro s h
    have h' : s.over = none := h
    exact ⟨arWant s, by simp [arenaM, h']⟩
  · intro w T nx s x h hx
    have hov : s.over = none := by
      cases h : s.over with
      | none => rfl
      | some r => simp [arenaM, h] at hx
    obtain ⟨-, p, _, _, -, hn, -⟩ := h hov
    refine ⟨_, _, _, hn, ?_⟩
    unfold arFn
    split
    · exact fun _ _ => by kernel_rfl
    · split
      · split <;> exact fun _ _ => by kernel_rfl
      · exact fun _ _ => by kernel_rfl

theorem quRest (m : Nat) : ∀ w T nx ov s, quNest.sub s = none → quNest.want s = none → quE m w T nx ov s := by
  intro w T nx ov s _ h hov
  simp [quNest, hov] at h

/-- It asks again, and holds the same. -/
theorem qu_asks {m p : Nat} {e : TypeId} {st : WSt} {T : List Nat} {s s' : QuS} {w w2 : World} {x : C.Acc} {F : FuncId} {cs : List Value} (hp : p ∈ T) (hT : ∀ k ∈ T, k < w.heap.size ∧ k ≠ m) (hov : s'.over = none) (hsub : s'.sub = none) (hx : (if s'.puts then quWantPut s' else quWantTake s') = x) (hh : quHeld s' = quHeld s)
    (h : QuAsks m p e st w x F cs w2) (hE : quE m w2 T (quM F p) st.outer s') :
    GoesN quNest arenaM quJ (quE m) m st (quNest.held s) T s' w w2 :=
  ⟨h.2.2.mono (by intro k hk _; simp at hk; rcases hk with rfl | rfl; simp; simp [hp]), st.tasks, st.outer, .inl ⟨x, _, _, _, T, by simp [quNest, hsub], by simp [quNest, hov, hx], hov, .inl ⟨rfl, hh⟩, h.1, hE, fun k hk' => Nat.lt_of_lt_of_le (hT k hk').1 h.2.2.size, fun k hk' => ⟨(hT k hk').2, .inl hk'⟩⟩⟩
/-- It has ended, and nobody let go of anything. -/
theorem qu_ends {m p : Nat} {st : WSt} {T : List Nat} {s s' : QuS} {w w2 : World} {c v : Int} (hp : p ∈ T) (hov : s'.over = some ⟨c, v, []⟩) (hh : quHeld s = []) (hs : st.sub = none) (hout : st.outer = .slice none 0 0) (h : QuEnds m p st w c v w2) :
    GoesN quNest arenaM quJ (quE m) m st (quNest.held s) T s' w w2 := by
  obtain ⟨l', hw, ho, hk, -⟩ := h
  exact ⟨hk.mono (by intro k hk _; simp at hk; rcases hk with rfl | rfl; simp; simp [hp]), st.tasks, st.outer, .inr (.inr ⟨c, v, [], l', by simp [quNest, hov], by simp [quNest, hov], hov, by simp, by rw [← hs]; exact hw, by simpa [ints] using ho, .inl ⟨hout, .inl ⟨rfl, by show quHeld s' = quHeld s; rw [hh]; simp [quHeld, hov]⟩⟩⟩)⟩
/-- It has ended, and its tasks are let go of. -/
theorem qu_ends_seen {m p : Nat} {st : WSt} {T : List Nat} {s s' : QuS} {w w2 : World} {c v : Int} (hp : p ∈ T) (hT : ∀ k ∈ T, k < w.heap.size ∧ k ≠ m) (hov : s'.over = some ⟨c, v, []⟩) (hs : st.sub = none) (hseen : quSeen w m p T st.outer) (h : QuEnds m p st w c v w2) :
    GoesN quNest arenaM quJ (quE m) m st (quNest.held s) T s' w w2 := by
  obtain ⟨l', hw, ho, hk, hrow⟩ := h
  obtain ⟨g, o, b, h1, ⟨h2, h3, h4⟩, h5, h6, h7, h8⟩ := hseen
  have hpm := (hT p hp).2
  have hW := (h1.keeps hk (by simp; exact ⟨(hT g h2).2, Ne.symm h6⟩) (by simp; exact ⟨(hT o h3).2, Ne.symm h7⟩) (by simp; exact ⟨(hT b h4).2, Ne.symm h8⟩)).watch hrow (Nat.lt_of_lt_of_le (hT p hp).1 hk.size) (hT g h2).2 (hT o h3).2 (hT b h4).2 hpm h5 h7
  exact ⟨hk.mono (by intro k hk _; simp at hk; rcases hk with rfl | rfl; simp; simp [hp]), st.tasks, st.outer, .inr (.inr ⟨c, v, [], l', by simp [quNest, hov], by simp [quNest, hov], hov, by simp, by rw [← hs]; exact hw, by simpa [ints] using ho, .inr ⟨by show quHeld s' = []; simp [quHeld, hov], g, o, hW, .inl h3, fun x hx => by have := (ho.lt x hx).1; have := (hT o h3).1; omega⟩⟩)⟩
/-- It goes into the arena, and holds the same. -/
theorem qu_into {m p : Nat} {e : TypeId} {st : WSt} {T : List Nat} {s s' : QuS} {w w2 : World} {t : ArS} {F : FuncId} {cs : List Value} (hp : p ∈ T) (hT : ∀ k ∈ T, k < w.heap.size ∧ k ≠ m) (hov : s'.over = none) (hsub : s'.sub = some t) (hh : quHeld s' = quHeld s)
    (h : QuInto m p e st w t F cs w2) (hE : quE m w2 T (quM F p) st.outer s') :
    GoesN quNest arenaM quJ (quE m) m st (quNest.held s) T s' w w2 := by
  obtain ⟨b, S2, h1, h2, h3, h4, h5⟩ := h
  exact ⟨h5.mono (by intro k hk _; simp at hk; rcases hk with rfl | rfl; simp; simp [hp]), st.tasks, st.outer, .inr (.inl ⟨b, t, S2, _, _, _, T, by simp [quNest, hov, hsub], hov, .inl ⟨rfl, hh⟩, h1, quInner m b, h2, fun k hk => ⟨h3 k hk, .inl rfl, fun hkT => by have := h3 k hk; have := (hT k hkT).1; omega⟩, hE, fun k hk' => Nat.lt_of_lt_of_le (hT k hk').1 h5.size, fun k hk' => ⟨(hT k hk').2, .inl hk'⟩⟩)⟩
end Go.Proofs.YtoomefclbemnlaaGreat
