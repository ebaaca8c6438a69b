/-
  What a queue's Put and Take keep of themselves, whatever they are told.
-/
import Derived.Test.YtoomefclbemnlaaGreatQuL
import Derived.Test.YtoomefclbemnlaaGreatRef9g
import Derived.Test.YtoomefclbemnlaaGreatRef6
import Derived.Test.YtoomefclbemnlaaGreatDraw
import Derived.Deep.RegionHeld3
import Derived.Test.YtoomefclbemnlaaGreatRef9k
namespace Go.Proofs.YtoomefclbemnlaaGreat
set_option maxRecDepth 100000
set_option linter.unusedSimpArgs false
set_option linter.unusedVariables false
open Go.ChangeShapes Go.WideShapes Go.ChangeAt Go.RowKit

/-- Which node is next, and that the rows are short. -/
def QuFine (s : QuS) : Prop := s.k ≤ s.nodes.length ∧ s.nodes.length ≤ 300 ∧ (s.puts = false → s.nodes = [] ∧ s.l = [] ∧ s.k = 0)
theorem arPut_okI {at_ n i : Int} (hr : arRight at_ n) (h1 : 1 ≤ i) (h2 : i ≤ n) : (arPut at_ n i).over = none ∧ arOk (arPut at_ n i) := by
  have e : arPut at_ n i = ⟨at_, n, true, i, 1, 0, 0, none⟩ := by simp [arPut, hr, h1, h2]
  rw [e]
  exact ⟨rfl, hr, fun _ => ⟨h1, h2⟩, .inl rfl, (show M.U 0 from ⟨by decide, by decide⟩), (show M.U 0 from ⟨by decide, by decide⟩), fun h => absurd rfl h⟩
theorem quNode_ok {n u : Int} (h : ¬ quWrong n u) : 1 ≤ quNode u ∧ quNode u ≤ n := by unfold quWrong at h; omega

/-- How the machine goes: in the arena, or by itself. -/
theorem queueM_give_sub (s : QuS) (a : ArS) (v : Int) (won : Bool) (ho : s.over = none) (hs : s.sub = some a) : queueM.give s v won = match (arenaM.give a v won).over with
    | some r => quLeft s r
    | none => { s with sub := some (arenaM.give a v won) } := by
  simp only [queueM, Nest.mach, quNest, ho, hs, Option.isSome_none, Bool.false_eq_true, if_false]
  cases h : (arenaM.give a v won).over with
  | none => simp [show arenaM.res (arenaM.give a v won) = none from h]
  | some r => simp [show arenaM.res (arenaM.give a v won) = some r from h]
theorem queueM_give_none (s : QuS) (v : Int) (won : Bool) (ho : s.over = none) (hs : s.sub = none) : queueM.give s v won = if s.puts then quGivePut s v won else quGiveTake s v won := by
  simp [queueM, Nest.mach, quNest, ho, hs]
theorem queueM_give_over (s : QuS) (v : Int) (won : Bool) (ho : s.over.isSome = true) : queueM.give s v won = s := by
  simp [queueM, Nest.mach, quNest, ho]

theorem quPutOk_to {s s' : QuS} (h : QuPutOk s) (hl : s'.l = s.l) (hn : s'.n = s.n) (hno : s'.nodes = s.nodes)
    (ha : (s'.sub = none ∧ s'.nodes.length = s'.l.length ∧ (((s'.step = 20 ∨ s'.step = 21 ∨ s'.step = 22) ∧ s'.inn = false ∧ s'.k < s'.nodes.length) ∨ (s'.step = 3 ∧ s'.inn = false) ∨
      ((s'.step = 4 ∨ s'.step = 5) ∧ s'.inn = false ∧ ¬ quWrong s'.n s'.t) ∨ (s'.step = 6 ∧ s'.inn = false ∧ ¬ quWrong s'.n s'.t ∧ quNode s'.x ≤ s'.n) ∨ (s'.step = 7 ∧ s'.inn = true ∧ ¬ quWrong s'.n s'.t)))) : QuPutOk s' :=
  ⟨by rw [hl]; exact h.few, by rw [hl]; exact h.words, by rw [hno, hn]; exact h.nodes, .inr ha⟩

set_option maxHeartbeats 800000 in
/-- A Put that goes by itself. -/
theorem quGivePut_ok (s : QuS) (v : Int) (won : Bool) (h : QuOk s) (hp : s.puts = true) (ho : s.over = none) (hs : s.sub = none) (hv : M.U v) (hf : QuFine s) :
    ((quGivePut s v won).over = none → QuOk (quGivePut s v won) ∧ (quGivePut s v won).sub = none) ∧ QuFine (quGivePut s v won) ∧ (∀ r, (quGivePut s v won).over = some r → r.l = []) ∧ (quGivePut s v won).puts = true ∧ (quGivePut s v won).nodes = s.nodes ∧ (quGivePut s v won).l = s.l := by
  have hP := h.put hp
  obtain ⟨f1, f2, f3⟩ := hf
  have noT : ∀ {q : QuS}, q.puts = true → q.puts = false → QuTakeOk q := fun a b => by rw [a] at b; cases b
  rcases hP.at_ with ⟨a, ha, -⟩ | ⟨-, hl, hc⟩
  · rw [hs] at ha; cases ha
  obtain ⟨at_, n, puts, l, nodes, k, step, sub, hh, t, x, vv, code, inn, over⟩ := s
  obtain ⟨r, uh, ut, ux, uv, -, -⟩ := h
  simp only at *
  subst hp ho hs
  have tail : ∀ s0 : QuS, s0 = ⟨at_, n, true, l, nodes, k, step, none, hh, t, x, vv, code, inn, none⟩ → inn = false → ((quTail s0 v).over = none → QuOk (quTail s0 v) ∧ (quTail s0 v).sub = none) ∧ QuFine (quTail s0 v) ∧ (∀ r, (quTail s0 v).over = some r → r.l = []) ∧ (quTail s0 v).puts = true ∧ (quTail s0 v).nodes = nodes ∧ (quTail s0 v).l = l := by
    rintro _ rfl hi
    unfold quTail
    split
    · exact ⟨fun h => (by cases h), ⟨f1, f2, fun h => (by cases h)⟩, fun r h => (by cases h; rfl), rfl, rfl, rfl⟩
    · rename_i hw
      exact ⟨fun _ => ⟨⟨r, uh, hv, ux, uv, fun _ => quPutOk_to hP rfl rfl rfl ⟨rfl, hl, .inr (.inr (.inl ⟨.inl rfl, hi, hw⟩))⟩, fun h => (by cases h)⟩, rfl⟩, ⟨f1, f2, fun h => (by cases h)⟩, fun r h => (by cases h), rfl, rfl, rfl⟩
  rcases hc with ⟨h1 | h1 | h1, hi, hk⟩ | ⟨h1, hi⟩ | ⟨h1 | h1, hi, hw⟩ | ⟨h1, hi, hw, hx⟩ | ⟨h1, hi, hw⟩
  all_goals subst h1
  · rw [show quGivePut ⟨at_, n, true, l, nodes, k, 20, none, hh, t, x, vv, code, inn, none⟩ v won = ⟨at_, n, true, l, nodes, k, 21, none, hh, t, x, vv, code, inn, none⟩ from rfl]
    exact ⟨fun _ => ⟨⟨r, uh, ut, ux, uv, fun _ => quPutOk_to hP rfl rfl rfl ⟨rfl, hl, .inl ⟨.inr (.inl rfl), hi, hk⟩⟩, fun h => (by cases h)⟩, rfl⟩, ⟨f1, f2, fun h => (by cases h)⟩, fun r h => (by cases h), rfl, rfl, rfl⟩
  · rw [show quGivePut ⟨at_, n, true, l, nodes, k, 21, none, hh, t, x, vv, code, inn, none⟩ v won = ⟨at_, n, true, l, nodes, k, 22, none, hh, t, v, vv, code, inn, none⟩ from rfl]
    exact ⟨fun _ => ⟨⟨r, uh, ut, hv, uv, fun _ => quPutOk_to hP rfl rfl rfl ⟨rfl, hl, .inl ⟨.inr (.inr rfl), hi, hk⟩⟩, fun h => (by cases h)⟩, rfl⟩, ⟨f1, f2, fun h => (by cases h)⟩, fun r h => (by cases h), rfl, rfl, rfl⟩
  · by_cases he : k + 1 = nodes.length
    · have e : quGivePut ⟨at_, n, true, l, nodes, k, 22, none, hh, t, x, vv, code, inn, none⟩ v won = ⟨at_, n, true, l, nodes, k + 1, 3, none, hh, t, x, vv, code, inn, none⟩ := by simp [quGivePut, he]
      rw [e]
      exact ⟨fun _ => ⟨⟨r, uh, ut, ux, uv, fun _ => quPutOk_to hP rfl rfl rfl ⟨rfl, hl, .inr (.inl ⟨rfl, hi⟩)⟩, fun h => (by cases h)⟩, rfl⟩, ⟨(show k + 1 ≤ nodes.length by omega), f2, fun h => (by cases h)⟩, fun r h => (by cases h), rfl, rfl, rfl⟩
    · have e : quGivePut ⟨at_, n, true, l, nodes, k, 22, none, hh, t, x, vv, code, inn, none⟩ v won = ⟨at_, n, true, l, nodes, k + 1, 20, none, hh, t, x, vv, code, inn, none⟩ := by simp [quGivePut, he]
      rw [e]
      exact ⟨fun _ => ⟨⟨r, uh, ut, ux, uv, fun _ => quPutOk_to hP rfl rfl rfl ⟨rfl, hl, .inl ⟨.inl rfl, hi, (show k + 1 < nodes.length by omega)⟩⟩, fun h => (by cases h)⟩, rfl⟩, ⟨(show k + 1 ≤ nodes.length by omega), f2, fun h => (by cases h)⟩, fun r h => (by cases h), rfl, rfl, rfl⟩
  · rw [show quGivePut ⟨at_, n, true, l, nodes, k, 3, none, hh, t, x, vv, code, inn, none⟩ v won = quTail ⟨at_, n, true, l, nodes, k, 3, none, hh, t, x, vv, code, inn, none⟩ v from rfl]
    exact tail _ rfl hi
  · rw [show quGivePut ⟨at_, n, true, l, nodes, k, 4, none, hh, t, x, vv, code, inn, none⟩ v won = ⟨at_, n, true, l, nodes, k, 5, none, hh, t, v, vv, code, inn, none⟩ from rfl]
    exact ⟨fun _ => ⟨⟨r, uh, ut, hv, uv, fun _ => quPutOk_to hP rfl rfl rfl ⟨rfl, hl, .inr (.inr (.inl ⟨.inr rfl, hi, hw⟩))⟩, fun h => (by cases h)⟩, rfl⟩, ⟨f1, f2, fun h => (by cases h)⟩, fun r h => (by cases h), rfl, rfl, rfl⟩
  · by_cases hne : v = t
    · by_cases hg : n < quNode x
      · have e : quGivePut ⟨at_, n, true, l, nodes, k, 5, none, hh, t, x, vv, code, inn, none⟩ v won = quEnd ⟨at_, n, true, l, nodes, k, 6, none, hh, t, x, vv, code, inn, none⟩ 9 0 := by simp [quGivePut, hne, hg]
        rw [e]
        exact ⟨fun h => (by cases h), ⟨f1, f2, fun h => (by cases h)⟩, fun r h => (by cases h; rfl), rfl, rfl, rfl⟩
      · have e : quGivePut ⟨at_, n, true, l, nodes, k, 5, none, hh, t, x, vv, code, inn, none⟩ v won = ⟨at_, n, true, l, nodes, k, 6, none, hh, t, x, vv, code, inn, none⟩ := by simp [quGivePut, hne, hg]
        rw [e]
        exact ⟨fun _ => ⟨⟨r, uh, ut, ux, uv, fun _ => quPutOk_to hP rfl rfl rfl ⟨rfl, hl, .inr (.inr (.inr (.inl ⟨rfl, hi, hw, (show quNode x ≤ n by omega)⟩)))⟩, fun h => (by cases h)⟩, rfl⟩, ⟨f1, f2, fun h => (by cases h)⟩, fun r h => (by cases h), rfl, rfl, rfl⟩
    · have e : quGivePut ⟨at_, n, true, l, nodes, k, 5, none, hh, t, x, vv, code, inn, none⟩ v won = quTail ⟨at_, n, true, l, nodes, k, 5, none, hh, t, x, vv, code, inn, none⟩ v := by simp [quGivePut, hne]
      rw [e]
      exact tail _ rfl hi
  · by_cases hg : quNode x = 0 ∧ won = true
    · have e : quGivePut ⟨at_, n, true, l, nodes, k, 6, none, hh, t, x, vv, code, inn, none⟩ v won = ⟨at_, n, true, l, nodes, k, 7, none, hh, t, x, vv, code, true, none⟩ := by show (if quNode x = 0 ∧ won = true then _ else _) = _; rw [if_pos hg]
      rw [e]
      exact ⟨fun _ => ⟨⟨r, uh, ut, ux, uv, fun _ => quPutOk_to hP rfl rfl rfl ⟨rfl, hl, .inr (.inr (.inr (.inr ⟨rfl, rfl, hw⟩)))⟩, fun h => (by cases h)⟩, rfl⟩, ⟨f1, f2, fun h => (by cases h)⟩, fun r h => (by cases h), rfl, rfl, rfl⟩
    · have e : quGivePut ⟨at_, n, true, l, nodes, k, 6, none, hh, t, x, vv, code, inn, none⟩ v won = ⟨at_, n, true, l, nodes, k, 3, none, hh, t, x, vv, code, inn, none⟩ := by show (if quNode x = 0 ∧ won = true then _ else _) = _; rw [if_neg hg]
      rw [e]
      exact ⟨fun _ => ⟨⟨r, uh, ut, ux, uv, fun _ => quPutOk_to hP rfl rfl rfl ⟨rfl, hl, .inr (.inl ⟨rfl, hi⟩)⟩, fun h => (by cases h)⟩, rfl⟩, ⟨f1, f2, fun h => (by cases h)⟩, fun r h => (by cases h), rfl, rfl, rfl⟩
  · rw [show quGivePut ⟨at_, n, true, l, nodes, k, 7, none, hh, t, x, vv, code, inn, none⟩ v won = quEnd ⟨at_, n, true, l, nodes, k, 7, none, hh, t, x, vv, code, inn, none⟩ 0 0 from rfl]
    exact ⟨fun h => (by cases h), ⟨f1, f2, fun h => (by cases h)⟩, fun r h => (by cases h; rfl), rfl, rfl, rfl⟩

set_option maxHeartbeats 800000 in
/-- A Take that goes by itself. -/
theorem quGiveTake_ok (s : QuS) (v : Int) (won : Bool) (h : QuOk s) (hp : s.puts = false) (ho : s.over = none) (hs : s.sub = none) (hv : M.U v) (hf : QuFine s) :
    ((quGiveTake s v won).over = none → QuOk (quGiveTake s v won)) ∧ QuFine (quGiveTake s v won) ∧ (∀ r, (quGiveTake s v won).over = some r → r.l = []) ∧ (quGiveTake s v won).puts = false ∧ (quGiveTake s v won).nodes = s.nodes ∧ (quGiveTake s v won).l = s.l := by
  have hT := h.take hp
  obtain ⟨f1, f2, f3⟩ := hf
  rcases hT.at_ with ⟨a, ha, -⟩ | ⟨-, hi, hc⟩
  · rw [hs] at ha; cases ha
  obtain ⟨at_, n, puts, l, nodes, k, step, sub, hh, t, x, vv, code, inn, over⟩ := s
  obtain ⟨r, uh, ut, ux, uv, -, -⟩ := h
  simp only at *
  subst hp ho hs hi
  have fin : ∀ s0 : QuS, s0.k = k → s0.nodes = nodes → s0.l = l → QuFine s0 := fun s0 a b c => ⟨by rw [a, b]; exact f1, by rw [b]; exact f2, fun _ => by rw [a, b, c]; exact f3 rfl⟩
  have head : ∀ st : Int, ((quHead ⟨at_, n, false, l, nodes, k, st, none, hh, t, x, vv, code, false, none⟩ v).over = none → QuOk (quHead ⟨at_, n, false, l, nodes, k, st, none, hh, t, x, vv, code, false, none⟩ v)) ∧ QuFine (quHead ⟨at_, n, false, l, nodes, k, st, none, hh, t, x, vv, code, false, none⟩ v) ∧ (∀ r, (quHead ⟨at_, n, false, l, nodes, k, st, none, hh, t, x, vv, code, false, none⟩ v).over = some r → r.l = []) ∧ (quHead ⟨at_, n, false, l, nodes, k, st, none, hh, t, x, vv, code, false, none⟩ v).puts = false ∧ (quHead ⟨at_, n, false, l, nodes, k, st, none, hh, t, x, vv, code, false, none⟩ v).nodes = nodes ∧ (quHead ⟨at_, n, false, l, nodes, k, st, none, hh, t, x, vv, code, false, none⟩ v).l = l := by
    intro st
    unfold quHead
    split
    · exact ⟨fun h => (by cases h), fin _ rfl rfl rfl, fun r h => (by cases h; rfl), rfl, rfl, rfl⟩
    · rename_i hw
      exact ⟨fun _ => ⟨r, hv, ut, ux, uv, fun h => (by cases h), fun _ => ⟨.inr ⟨rfl, rfl, .inr (.inl ⟨.inl rfl, hw⟩)⟩⟩⟩, fin _ rfl rfl rfl, fun r h => (by cases h), rfl, rfl, rfl⟩
  rcases hc with h1 | ⟨h1 | h1 | h1, hw⟩ | ⟨h1, hw⟩ | ⟨h1 | h1, hw, hx⟩
  all_goals subst h1
  · exact head 1
  · exact ⟨fun _ => ⟨r, uh, hv, ux, uv, fun h => (by cases h), fun _ => ⟨.inr ⟨rfl, rfl, .inr (.inl ⟨.inr (.inl rfl), hw⟩)⟩⟩⟩, fin _ rfl rfl rfl, fun r h => (by cases h), rfl, rfl, rfl⟩
  · exact ⟨fun _ => ⟨r, uh, ut, hv, uv, fun h => (by cases h), fun _ => ⟨.inr ⟨rfl, rfl, .inr (.inl ⟨.inr (.inr rfl), hw⟩)⟩⟩⟩, fin _ rfl rfl rfl, fun r h => (by cases h), rfl, rfl, rfl⟩
  · by_cases hne : v = hh
    · have e : quGiveTake ⟨at_, n, false, l, nodes, k, 4, none, hh, t, x, vv, code, false, none⟩ v won = quFive ⟨at_, n, false, l, nodes, k, 4, none, hh, t, x, vv, code, false, none⟩ := by simp [quGiveTake, hne]
      rw [e]
      unfold quFive
      simp only
      split
      · exact ⟨fun h => (by cases h), fin _ rfl rfl rfl, fun r h => (by cases h; rfl), rfl, rfl, rfl⟩
      · split
        · exact ⟨fun _ => ⟨r, uh, ut, ux, uv, fun h => (by cases h), fun _ => ⟨.inr ⟨rfl, rfl, .inl rfl⟩⟩⟩, fin _ rfl rfl rfl, fun r h => (by cases h), rfl, rfl, rfl⟩
        · split
          · exact ⟨fun h => (by cases h), fin _ rfl rfl rfl, fun r h => (by cases h; rfl), rfl, rfl, rfl⟩
          · rename_i hwx
            split
            · exact ⟨fun _ => ⟨r, uh, ut, ux, uv, fun h => (by cases h), fun _ => ⟨.inr ⟨rfl, rfl, .inr (.inr (.inl ⟨rfl, hwx⟩))⟩⟩⟩, fin _ rfl rfl rfl, fun r h => (by cases h), rfl, rfl, rfl⟩
            · exact ⟨fun _ => ⟨r, uh, ut, ux, uv, fun h => (by cases h), fun _ => ⟨.inr ⟨rfl, rfl, .inr (.inr (.inr ⟨.inl rfl, hw, hwx⟩))⟩⟩⟩, fin _ rfl rfl rfl, fun r h => (by cases h), rfl, rfl, rfl⟩
    · have e : quGiveTake ⟨at_, n, false, l, nodes, k, 4, none, hh, t, x, vv, code, false, none⟩ v won = quHead ⟨at_, n, false, l, nodes, k, 4, none, hh, t, x, vv, code, false, none⟩ v := by simp [quGiveTake, hne]
      rw [e]
      exact head 4
  · exact ⟨fun _ => ⟨r, uh, ut, ux, uv, fun h => (by cases h), fun _ => ⟨.inr ⟨rfl, rfl, .inl rfl⟩⟩⟩, fin _ rfl rfl rfl, fun r h => (by cases h), rfl, rfl, rfl⟩
  · exact ⟨fun _ => ⟨r, uh, ut, ux, hv, fun h => (by cases h), fun _ => ⟨.inr ⟨rfl, rfl, .inr (.inr (.inr ⟨.inr rfl, hw, hx⟩))⟩⟩⟩, fin _ rfl rfl rfl, fun r h => (by cases h), rfl, rfl, rfl⟩
  · cases won with
    | true =>
      have hn := quNode_ok hw
      obtain ⟨b1, b2⟩ := arPut_okI (i := quNode hh) r.ar hn.1 hn.2
      exact ⟨fun _ => ⟨r, uh, ut, ux, uv, fun h => (by cases h), fun _ => ⟨.inl ⟨_, rfl, b1, b2, rfl, rfl⟩⟩⟩, fin _ rfl rfl rfl, fun r h => (by cases h), rfl, rfl, rfl⟩
    | false => exact ⟨fun _ => ⟨r, uh, ut, ux, uv, fun h => (by cases h), fun _ => ⟨.inr ⟨rfl, rfl, .inl rfl⟩⟩⟩, fin _ rfl rfl rfl, fun r h => (by cases h), rfl, rfl, rfl⟩

/-- What is had of the arena's walk. -/
theorem quBack_ok (s : QuS) (h : QuOk { s with sub := none, over := none } → True) (hr : quRight s.at_ s.n) (uh : M.U s.h) (ut : M.U s.t) (ux : M.U s.x) (uv : M.U s.v) (few : 1 ≤ s.l.length ∧ s.l.length ≤ 300) (words : ∀ u ∈ s.l, M.U u) (nodes : ∀ i ∈ s.nodes, 1 ≤ i ∧ i ≤ s.n) (hp : s.puts = true) (ho : s.over = none) (hst : s.step = 10) (hi : s.inn = false) (hl : s.nodes.length < s.l.length) (hk : s.k ≤ s.nodes.length) (hn : s.nodes.length ≤ 300) :
    ((quBack s).over = none → QuOk (quBack s)) ∧ QuFine (quBack s) ∧ ∀ r, (quBack s).over = some r → r.l = [] := by
  unfold quBack
  have nf : ∀ s0 : QuS, s0.puts = true → s0.puts = false → s0.nodes = [] ∧ s0.l = [] ∧ s0.k = 0 := fun s0 a b => by rw [a] at b; cases b
  by_cases he : s.k = s.nodes.length
  · rw [if_pos he]
    exact ⟨fun h => (by cases h), ⟨hk, hn, nf _ hp⟩, fun r h => (by cases h; rfl)⟩
  · rw [if_neg he]
    have hlt : s.k < s.nodes.length := by omega
    have hy := nodes (s.nodes.getD s.k 0) (by rw [List.getD, List.getElem?_eq_getElem hlt]; exact List.getElem_mem hlt)
    obtain ⟨b1, b2⟩ := arPut_okI (i := s.nodes.getD s.k 0) hr.ar hy.1 hy.2
    exact ⟨fun _ => ⟨hr, uh, ut, ux, uv, fun _ => ⟨few, words, nodes, .inl ⟨_, rfl, b1, b2, hi, hl, .inr ⟨hst, hlt⟩⟩⟩, fun h => (by rw [show s.puts = true from hp] at h; cases h)⟩, ⟨hlt, hn, nf _ hp⟩, fun r h => (by rw [show s.over = none from ho] at h; cases h)⟩
theorem quLeft_ok (s : QuS) (a : ArS) (r : Rs) (h : QuOk s) (ho : s.over = none) (hs : s.sub = some a) (hru : M.U r.v) (hrn : a.puts = false → r.code = 0 → 1 ≤ r.v ∧ r.v ≤ a.n) (hf : QuFine s) :
    ((quLeft s r).over = none → QuOk (quLeft s r)) ∧ QuFine (quLeft s r) ∧ ∀ r', (quLeft s r).over = some r' → r'.l = [] := by
  obtain ⟨f1, f2, f3⟩ := hf
  obtain ⟨hr, uh, ut, ux, uv, hP, hT⟩ := h
  cases hp : s.puts with
  | false =>
    have e : quLeft s r = quEnd s r.code (if r.code = 0 then s.v else 0) := by simp [quLeft, hp]
    rw [e]
    exact ⟨fun h => (by cases h), ⟨f1, f2, f3⟩, fun r h => (by cases h; rfl)⟩
  | true =>
    have nf : ∀ s0 : QuS, s0.puts = true → s0.puts = false → s0.nodes = [] ∧ s0.l = [] ∧ s0.k = 0 := fun s0 a b => by rw [a] at b; cases b
    obtain ⟨few, words, nodes, hat⟩ := hP hp
    rcases hat with ⟨a', ha', hao, hak, hi, hl, hc⟩ | ⟨h, -⟩
    · obtain rfl : a = a' := by rw [hs] at ha'; cases ha'; rfl
      rcases hc with ⟨hst, hap, han, hk0⟩ | ⟨hst, hk⟩
      · by_cases hc0 : r.code = 0
        · have hb := hrn hap hc0
          have nodes' : ∀ i ∈ s.nodes ++ [r.v], 1 ≤ i ∧ i ≤ s.n := fun i hi => by
            rcases List.mem_append.1 hi with h | h
            · exact nodes i h
            · simp at h; subst h; rw [← han]; exact hb
          by_cases hm : s.nodes.length + 1 < s.l.length
          · have e : quLeft s r = { s with sub := some (arTake (s.at_ + 2) s.n), nodes := s.nodes ++ [r.v] } := by simp [quLeft, hp, hst, hc0, hm]
            rw [e]
            obtain ⟨b1, b2⟩ := arTake_ok hr.ar
            exact ⟨fun _ => ⟨hr, uh, ut, ux, uv, fun _ => ⟨few, words, nodes', .inl ⟨_, rfl, b1, b2, hi, (by simp; omega), .inl ⟨hst, rfl, rfl, hk0⟩⟩⟩, fun h => (by rw [show s.puts = true from hp] at h; cases h)⟩, ⟨(by simp; omega), (by simp; omega), nf _ hp⟩, fun r h => (by rw [show s.over = none from ho] at h; cases h)⟩
          · have e : quLeft s r = { s with sub := none, nodes := s.nodes ++ [r.v], step := 20 } := by simp [quLeft, hp, hst, hc0, hm]
            rw [e]
            exact ⟨fun _ => ⟨hr, uh, ut, ux, uv, fun _ => ⟨few, words, nodes', .inr ⟨rfl, (by simp; omega), .inl ⟨.inl rfl, hi, (by simp; omega)⟩⟩⟩, fun h => (by rw [show s.puts = true from hp] at h; cases h)⟩, ⟨(by simp; omega), (by simp; omega), nf _ hp⟩, fun r h => (by rw [show s.over = none from ho] at h; cases h)⟩
        · have e : quLeft s r = quBack { s with sub := none, code := r.code, step := 10 } := by simp [quLeft, hp, hst, hc0]
          rw [e]
          exact quBack_ok _ (fun _ => trivial) hr uh ut ux uv few words nodes hp ho rfl hi hl f1 f2
      · have e : quLeft s r = quBack { s with sub := none } := by simp [quLeft, hp, hst]
        rw [e]
        exact quBack_ok _ (fun _ => trivial) hr uh ut ux uv few words nodes hp ho hst hi hl f1 f2
    · rw [hs] at h; cases h
/-- The arena's walk goes on. -/
theorem quSub_ok (s : QuS) (a : ArS) (v : Int) (won : Bool) (h : QuOk s) (hs : s.sub = some a) (ha : a.over = none) (hv : M.U v) (hg : (arenaM.give a v won).over = none) : QuOk { s with sub := some (arenaM.give a v won) } := by
  have eg : arenaM.give a v won = arGive a v won := by simp [arenaM, ha]
  rw [eg] at hg ⊢
  obtain ⟨hr, uh, ut, ux, uv, hP, hT⟩ := h
  refine ⟨hr, uh, ut, ux, uv, fun hp => ?_, fun hp => ?_⟩
  · obtain ⟨few, words, nodes, hat⟩ := hP hp
    rcases hat with ⟨a', ha', hao, hak, hi, hl, hc⟩ | ⟨h, -⟩
    · obtain rfl : a = a' := by rw [hs] at ha'; cases ha'; rfl
      obtain ⟨g1, g2, g3, g4⟩ := arOk_give hak ha hv hg
      refine ⟨few, words, nodes, .inl ⟨_, rfl, hg, g1, hi, hl, ?_⟩⟩
      rcases hc with ⟨hst, hap, han, hk0⟩ | hc
      · exact .inl ⟨hst, by rw [g2]; exact hap, by rw [g3]; exact han, hk0⟩
      · exact .inr hc
    · rw [hs] at h; cases h
  · rcases (hT hp).at_ with ⟨a', ha', hao, hak, hi, hst⟩ | ⟨h, -⟩
    · obtain rfl : a = a' := by rw [hs] at ha'; cases ha'; rfl
      obtain ⟨g1, g2, g3, g4⟩ := arOk_give hak ha hv hg
      exact ⟨.inl ⟨_, rfl, hg, g1, hi, hst⟩⟩
    · rw [hs] at h; cases h
theorem quSub_arOk (s : QuS) (a : ArS) (h : QuOk s) (hs : s.sub = some a) : arOk a := by
  cases hp : s.puts with
  | true =>
    rcases (h.put hp).at_ with ⟨a', ha', -, hak, -⟩ | ⟨h, -⟩
    · obtain rfl : a = a' := by rw [hs] at ha'; cases ha'; rfl
      exact hak
    · rw [hs] at h; cases h
  | false =>
    rcases (h.take hp).at_ with ⟨a', ha', -, hak, -⟩ | ⟨h, -⟩
    · obtain rfl : a = a' := by rw [hs] at ha'; cases ha'; rfl
      exact hak
    · rw [hs] at h; cases h

/-- Its tasks stay. -/
theorem quBack_l (s : QuS) : (quBack s).l = s.l := by unfold quBack; split <;> rfl
theorem quLeft_l (s : QuS) (r : Rs) : (quLeft s r).l = s.l := by
  unfold quLeft
  repeat' split
  all_goals first | rfl | (rw [quBack_l])
theorem quGivePut_l (s : QuS) (v : Int) (won : Bool) : (quGivePut s v won).l = s.l := by
  unfold quGivePut
  repeat' split
  all_goals first | rfl | (unfold quTail; split <;> rfl)
theorem quFive_l (s : QuS) : (quFive s).l = s.l := by
  unfold quFive
  repeat' split
  all_goals rfl
theorem quHead_l (s : QuS) (v : Int) : (quHead s v).l = s.l := by
  unfold quHead
  split <;> rfl
theorem quGiveTake_l (s : QuS) (v : Int) (won : Bool) : (quGiveTake s v won).l = s.l := by
  unfold quGiveTake
  repeat' split
  all_goals first | rfl | exact quFive_l _ | exact quHead_l _ _
theorem queueM_give_l (s : QuS) (v : Int) (won : Bool) : (queueM.give s v won).l = s.l := by
  cases ho : s.over with
  | some r => rw [queueM_give_over s v won (by rw [ho]; rfl)]
  | none =>
    cases hs : s.sub with
    | some a =>
      rw [queueM_give_sub s a v won ho hs]
      cases (arenaM.give a v won).over with
      | none => rfl
      | some r => exact quLeft_l s r
    | none =>
      rw [queueM_give_none s v won ho hs]
      split
      · exact quGivePut_l s v won
      · exact quGiveTake_l s v won
end Go.Proofs.YtoomefclbemnlaaGreat

/-
  The document's frame of a queue: what it wants: its small functions.
-/
namespace Go.Proofs.YtoomefclbemnlaaGreat
set_option maxRecDepth 100000
set_option linter.unusedSimpArgs false
set_option linter.unusedVariables false
open Go.ChangeShapes Go.WideShapes Go.ChangeAt Go.RowKit

section
variable {p : Nat} {w : World} {lv nv sv : Value}
theorem rwLoad_any (x : Int) (w : World) : Calls Tryz.prog 124 #[.int .i64 x] w fun e w' => e = .returned (.agg #[.int .i64 1, .int .i64 x, .int .u64 0, .int .u64 0]) ∧ Keeps [] w w' := by
  go_enter Tryz.func124, Tryz.ntmps124
  go_wp2
  refine bodyPost_ret (v := .agg #[.int .i64 1, .int .i64 x, .int .u64 0, .int .u64 0]) (by simp [results, Tryz.results124, go_sem]) rfl ⟨rfl, (Keeps.refl _ _).alloc _⟩
theorem rwStore_any (x v : Int) (w : World) : Calls Tryz.prog 122 #[.int .i64 x, .int .u64 v] w fun e w' => e = .returned (.agg #[.int .i64 2, .int .i64 x, .int .u64 v, .int .u64 0]) ∧ Keeps [] w w' := by
  go_enter Tryz.func122, Tryz.ntmps122
  go_wp2
  refine bodyPost_ret (v := .agg #[.int .i64 2, .int .i64 x, .int .u64 v, .int .u64 0]) (by simp [results, Tryz.results122, go_sem]) rfl ⟨rfl, (Keeps.refl _ _).alloc _⟩
theorem rwCas_any (x a b : Int) (w : World) : Calls Tryz.prog 129 #[.int .i64 x, .int .u64 a, .int .u64 b] w fun e w' => e = .returned (.agg #[.int .i64 3, .int .i64 x, .int .u64 a, .int .u64 b]) ∧ Keeps [] w w' := by
  go_enter Tryz.func129, Tryz.ntmps129
  go_wp2
  refine bodyPost_ret (v := .agg #[.int .i64 3, .int .i64 x, .int .u64 a, .int .u64 b]) (by simp [results, Tryz.results129, go_sem]) rfl ⟨rfl, (Keeps.refl _ _).alloc _⟩
theorem rwTask_any (at_ n i : Int) (w : World) (c0 : w.cell? ⟨p, 0, none⟩ = some (.int .i64 at_)) (c1 : w.cell? ⟨p, 1, none⟩ = some (.int .i64 n)) (hr : quRight at_ n) (i0 : 0 ≤ i) (i1 : i ≤ 4294967296) :
    Calls Tryz.prog 123 #[.pointer (some ⟨p, 0, none⟩), .int .i64 i] w fun e w' => e = .returned (.int .i64 (quTask at_ n i)) ∧ ∃ m, w.drewN m = w' := by
  obtain ⟨r1, r2, r3, r4⟩ := hr
  go_enter Tryz.func123, Tryz.ntmps123
  go_wp2
  go_quiet (fail)
  go_wp2
  go_ret
  exact ⟨by unfold quTask; go_num, _, rfl⟩
theorem rwNext_any (at_ n i : Int) (w : World) (c0 : w.cell? ⟨p, 0, none⟩ = some (.int .i64 at_)) (c1 : w.cell? ⟨p, 1, none⟩ = some (.int .i64 n)) (hr : quRight at_ n) (i0 : 0 ≤ i) (i1 : i ≤ 4294967296) :
    Calls Tryz.prog 125 #[.pointer (some ⟨p, 0, none⟩), .int .i64 i] w fun e w' => e = .returned (.int .i64 (quNext at_ n i)) ∧ ∃ m, w.drewN m = w' := by
  obtain ⟨r1, r2, r3, r4⟩ := hr
  go_enter Tryz.func125, Tryz.ntmps125
  go_wp2
  go_quiet (fail)
  go_wp2
  go_ret
  exact ⟨by unfold quNext; go_num, _, rfl⟩
theorem rwRaise_any (u i : Int) (w : World) (hu : M.U u) (i0 : 0 ≤ i) (i1 : i < 4294967296) :
    Calls Tryz.prog 126 #[.int .u64 u, .int .i64 i] w fun e w' => e = .returned (.int .u64 (arNext u i)) ∧ w = w' := by
  have H := Lib.hid (fun W => refHi_any u W hu.nn hu)
  have u0 := hu.nn
  have u1 := hu.lt
  obtain ⟨q, hq⟩ : ∃ q, u / 4294967296 = q := ⟨_, rfl⟩
  have q0 : 0 ≤ q := by omega
  have q1 : q < 4294967296 := by omega
  rw [hq] at H
  have HQ := Lib.hid hq
  have HP := Lib.hid (fun W => refPair_any ((q + 1) % 4294967296) i W (by omega) (by omega) i0 i1)
  have w1 : IntKind.u32.wrap i = i := by rw [IntKind.wrap_u32']; omega
  clear hu hq u0 u1
  go_enter Tryz.func126, Tryz.ntmps126
  go_wp2_with fail
  refine (H.out _).mono ?_
  rintro e w' ⟨rfl, rfl⟩
  go_wp2_with fail
  refine (HP.out _).mono ?_
  rintro e w' ⟨rfl, rfl⟩
  go_wp2
  go_ret
  exact ⟨by unfold arNext; rw [HQ.out]; rfl, rfl⟩
/-- The node behind the k-th one. -/
theorem rwBehind_any (k nl : Nat) (nodes : List Int) (w : World) (hl : nodes.length = nl) (hn : nl ≤ 300) (hk : k ≤ 300) (c5 : w.cell? ⟨p, 5, none⟩ = some (.int .i64 (k : Int))) (c4 : w.cell? ⟨p, 4, none⟩ = some nv) (hs : Sl w 1 nv nl (ints .i64 nodes)) :
    Calls Tryz.prog 127 #[.pointer (some ⟨p, 0, none⟩)] w fun e w' => e = .returned (.int .i64 (nodes.getD (k + 1) 0)) ∧ ∃ m, w.drewN m = w' := by
  obtain ⟨nq, nc, rfl⟩ := hs.len
  by_cases h : k + 1 < nl
  · obtain ⟨b1, o1, c1, he, z1, k1⟩ := hs.some (by omega)
    cases he
    have a1 := k1 (k + 1) _ (ints_at (by rw [hl]; exact h))
    obtain ⟨y, hy⟩ : ∃ y, nodes.getD (k + 1) 0 = y := ⟨_, rfl⟩
    rw [hy] at a1 ⊢
    have d1 : decide (((k : Int) + 1) < (nl : Int)) = true := decide_eq_true (by omega)
    have i0 : (0 : Int) ≤ (k : Int) + 1 := by omega
    have i1 : ((k : Int) + 1) < (nl : Int) := by omega
    have i2 : ((k : Int) + 1).toNat = k + 1 := by omega
    have iw : IntKind.i64.wrap ((k : Int) + 1) = (k : Int) + 1 := by rw [IntKind.wrap_i64]; omega
    clear hs k1 hy hl
    go_enter Tryz.func127, Tryz.ntmps127
    go_wp2
    go_quiet (fail)
    go_wp2
    go_quiet (fail)
    go_wp2
    go_ret
    exact ⟨rfl, by first | exact ⟨_, rfl⟩ | exact dn2 _ _ _⟩
  · have hy : nodes.getD (k + 1) 0 = 0 := by simp [List.getD, List.getElem?_eq_none (show nodes.length ≤ k + 1 by omega)]
    rw [hy]
    have d1 : decide (((k : Int) + 1) < (nl : Int)) = false := decide_eq_false (by omega)
    have iw : IntKind.i64.wrap ((k : Int) + 1) = (k : Int) + 1 := by rw [IntKind.wrap_i64]; omega
    clear hs hy hl
    go_enter Tryz.func127, Tryz.ntmps127
    go_wp2
    go_quiet (fail)
    go_wp2
    go_ret
    exact ⟨rfl, _, rfl⟩

/-- All that a Put that stands in its nodes reads. -/
structure RwPut (w : World) (p : Nat) (lv nv sv : Value) (s : QuS) : Prop where
  row : Row w p 85 (quCells s lv nv sv)
  nodes : Sl w 1 nv s.nodes.length (ints .i64 s.nodes)
  tasks : Sl w 1 lv s.l.length (ints .u64 s.l)
  right : quRight s.at_ s.n
  uh : M.U s.h
  ut : M.U s.t
  ux : M.U s.x
  in_ : ∀ i ∈ s.nodes, 1 ≤ i ∧ i ≤ s.n
  few : s.nodes.length ≤ 300 ∧ s.l.length ≤ 300
  k3 : s.k ≤ 300
theorem RwPut.keeps {w w' : World} {p : Nat} {lv nv sv : Value} {s : QuS} (h : RwPut w p lv nv sv s) (hk : Keeps [] w w') : RwPut w' p lv nv sv s :=
  { h with row := h.row.keeps hk (by simp), nodes := h.nodes.but hk (by simp), tasks := h.tasks.but hk (by simp) }
theorem stillQ {P : Program} {f : FuncId} {args : Array Value} {w : World} {v : Value} (h : Calls P f args w fun e w' => e = .returned v ∧ ∃ m, w.drewN m = w') : Calls P f args w fun e w' => e = .returned v ∧ ∃ m, w' = w.drewN m :=
  h.mono fun _ _ ⟨a, m, b⟩ => ⟨a, m, b.symm⟩

theorem rkd {P : Program} {f : FuncId} {args : Array Value} {w : World} {v : Value} (h : Calls P f args w fun e w' => e = .returned v ∧ w = w') : Calls P f args w fun e w' => e = .returned v ∧ Keeps [] w w' :=
  h.mono fun _ _ ⟨a, b⟩ => ⟨a, by subst b; exact Keeps.refl _ _⟩
theorem rkq {P : Program} {f : FuncId} {args : Array Value} {w : World} {v : Value} (h : Calls P f args w fun e w' => e = .returned v ∧ ∃ m, w.drewN m = w') : Calls P f args w fun e w' => e = .returned v ∧ Keeps [] w w' :=
  h.mono fun _ _ ⟨a, m, b⟩ => ⟨a, by subst b; exact Keeps.of_drewN _ _⟩
end
end Go.Proofs.YtoomefclbemnlaaGreat

/-
  The document's frame of a queue: what it wants, by its step.
-/
namespace Go.Proofs.YtoomefclbemnlaaGreat
set_option maxRecDepth 100000
set_option linter.unusedSimpArgs false
set_option linter.unusedVariables false
open Go.ChangeShapes Go.WideShapes Go.ChangeAt Go.RowKit

section
variable {p : Nat} {w : World} {lv nv sv : Value}
set_option maxHeartbeats 3200000 in
theorem rw_p20 (s : QuS) (h : RwPut w p lv nv sv s) (hs : s.step = 20) (hk : s.k < s.nodes.length) (hl : s.nodes.length = s.l.length) :
    Calls Tryz.prog 79 #[.pointer (some ⟨p, 0, none⟩)] w fun e w' => e = .returned (.agg #[.int .i64 2, .int .i64 (quTask s.at_ s.n (s.nodes.getD s.k 0)), .int .u64 (s.l.getD s.k 0), .int .u64 0]) ∧ Keeps [] w w' := by
  obtain ⟨hrow, hno, hta, hr, uh, ut, ux, hin, hfew, hk3⟩ := h
  obtain ⟨at_, n, puts, l, nodes, k, step, sub, hh, t, x, vv, code, inn, over⟩ := s
  simp only at *
  subst hs
  obtain ⟨W0, hW0⟩ : ∃ W0, w.alloc (.cells #[.int .i64 0, .int .i64 0, .int .u64 0, .int .u64 0] 60) = W0 := ⟨_, rfl⟩
  have k0 : Keeps [] w W0 := by rw [← hW0]; exact (Keeps.refl _ _).alloc _
  have r0 : Row W0 w.heap.size 60 [.int .i64 0, .int .i64 0, .int .u64 0, .int .u64 0] := by rw [← hW0]; exact Row.new _ _ _
  have hplt := hrow.lt
  have R := hrow.keeps k0 (by simp)
  have hno0 := hno.but k0 (by simp)
  have hta0 := hta.but k0 (by simp)
  have HP : Hid (∀ W, Keeps [] W0 W → Row W p 85 (quCells ⟨at_, n, puts, l, nodes, k, 20, sub, hh, t, x, vv, code, inn, over⟩ lv nv sv)) := Lib.hid (fun W hW => R.keeps hW (by simp))
  have HN : Hid (∀ W, Keeps [] W0 W → Sl W 1 nv nodes.length (ints .i64 nodes)) := Lib.hid (fun W hW => hno0.but hW (by simp))
  obtain ⟨nb, no, nc, hnv, z1, hkn⟩ := hno.some (by omega)
  subst hnv
  have a1 := (k0.cell (p := ⟨nb, no + k, none⟩) z1 (by simp)).trans (hkn k _ (ints_at (k := .i64) hk))
  obtain ⟨y, hy⟩ : ∃ y, nodes.getD k 0 = y := ⟨_, rfl⟩
  have hyb : 1 ≤ y ∧ y ≤ n := hin y (by rw [← hy, List.getD, List.getElem?_eq_getElem hk]; exact List.getElem_mem hk)
  rw [hy] at a1 ⊢
  have i0 : (0 : Int) ≤ (k : Int) := by omega
  have i1 : (k : Int) < (nodes.length : Int) := by omega
  obtain ⟨lb, lo, lc, hlv, z2, hkl⟩ := hta.some (by omega)
  subst hlv
  have a2 := (k0.cell (p := ⟨lb, lo + k, none⟩) z2 (by simp)).trans (hkl k _ (ints_at (k := .u64) (by omega)))
  obtain ⟨z, hz⟩ : ∃ z, l.getD k 0 = z := ⟨_, rfl⟩
  rw [hz] at a2 ⊢
  have i2 : (k : Int) < (l.length : Int) := by omega
  have HC1 := Lib.hid (fun W (hW : Keeps [] W0 W) => rkq (rwTask_any (p := p) at_ n y W ((HP.out W hW).cell (j := 0) rfl) ((HP.out W hW).cell (j := 1) rfl) hr (by omega) (by have := hr.2.1; omega)))
  obtain ⟨v1, hv1⟩ : ∃ v, quTask at_ n y = v := ⟨_, rfl⟩
  rw [hv1] at HC1 ⊢
  have HC2 := Lib.hid (fun W (hW : Keeps [] W0 W) => rwStore_any v1 z W)
  have wa : IntKind.i64.wrap (at_ + 1) = at_ + 1 := IntWalk.i64_in _ (by have := hr.1; have := hr.2.1; have := hr.2.2.1; have := hr.2.2.2; omega)
  have c0 := R.cell (j := 0) rfl
  have c1 := R.cell (j := 1) rfl
  have c3 := R.cell (j := 3) rfl
  have c4 := R.cell (j := 4) rfl
  have c5 := R.cell (j := 5) rfl
  have c6 := R.cell (j := 6) rfl
  have c8 := R.cell (j := 8) rfl
  have c9 := R.cell (j := 9) rfl
  have c10 := R.cell (j := 10) rfl
  have HQ : Hid (∀ W S, Keeps S W0 W → p ∉ S → nb ∉ S → lb ∉ S → W.cell? ⟨p, 0, none⟩ = some (.int .i64 at_) ∧ W.cell? ⟨p, 1, none⟩ = some (.int .i64 n) ∧ W.cell? ⟨p, 3, none⟩ = some (.slice (some ⟨lb, lo, none⟩) l.length lc) ∧ W.cell? ⟨p, 4, none⟩ = some (.slice (some ⟨nb, no, none⟩) nodes.length nc) ∧ W.cell? ⟨p, 5, none⟩ = some (.int .i64 (k : Int)) ∧ W.cell? ⟨p, 8, none⟩ = some (.int .u64 hh) ∧ W.cell? ⟨p, 9, none⟩ = some (.int .u64 t) ∧ W.cell? ⟨p, 10, none⟩ = some (.int .u64 x) ∧ W.cell? ⟨nb, no + k, none⟩ = some (.int .i64 y) ∧ W.cell? ⟨lb, lo + k, none⟩ = some (.int .u64 z)) := Lib.hid (fun W S hk g0 g1 g2 => by
    have hh := R.keeps hk g0
    exact ⟨hh.cell (j := 0) rfl, hh.cell (j := 1) rfl, hh.cell (j := 3) rfl, hh.cell (j := 4) rfl, hh.cell (j := 5) rfl, hh.cell (j := 8) rfl, hh.cell (j := 9) rfl, hh.cell (j := 10) rfl, (hk.cell (p := ⟨nb, no + k, none⟩) (Nat.lt_of_lt_of_le z1 k0.size) g1).trans a1, (hk.cell (p := ⟨lb, lo + k, none⟩) (Nat.lt_of_lt_of_le z2 k0.size) g2).trans a2⟩)
  have HR0 := Lib.hid r0
  have HK0 := Lib.hid k0
  have hk0 : Keeps [] W0 W0.drew := (Keeps.refl _ _).drew
  clear hrow hno hta hno0 hta0 R r0 k0 hin hr hkn hy hkl hz
  go_enter Tryz.func79, Tryz.ntmps79
  go_wp2_with fail
  go_region_held3 (fun w' => w'.cell? ⟨p, 0, none⟩ = some (.int .i64 at_) ∧ w'.cell? ⟨p, 1, none⟩ = some (.int .i64 n) ∧ w'.cell? ⟨p, 3, none⟩ = some (.slice (some ⟨lb, lo, none⟩) l.length lc) ∧ w'.cell? ⟨p, 4, none⟩ = some (.slice (some ⟨nb, no, none⟩) nodes.length nc) ∧ w'.cell? ⟨p, 5, none⟩ = some (.int .i64 (k : Int)) ∧ w'.cell? ⟨p, 8, none⟩ = some (.int .u64 hh) ∧ w'.cell? ⟨p, 9, none⟩ = some (.int .u64 t) ∧ w'.cell? ⟨p, 10, none⟩ = some (.int .u64 x) ∧ w'.cell? ⟨nb, no + k, none⟩ = some (.int .i64 y) ∧ w'.cell? ⟨lb, lo + k, none⟩ = some (.int .u64 z))
    (first
      | exact HQ.out _ [w.heap.size] ((((((hk2.mono (by simp)).set (by simp) _ _).set (by simp) _ _).set (by simp) _ _).set (by simp) _ _)) (by simp; omega) (by simp; omega) (by simp; omega)
      | exact HQ.out _ _ hk2 (by simp) (by simp) (by simp)
      | exact HQ.out _ _ hk1 (by simp) (by simp) (by simp)
      | exact HQ.out _ _ hk0 (by simp) (by simp) (by simp)
      | exact ⟨by assumption, by assumption, by assumption, by assumption, by assumption, by assumption, by assumption, by assumption, by assumption, by assumption⟩
      | fail)
    (first
      | (have _ := hk1; go_at_call 122; refine (HC2.out _ hk1).mono ?_; rintro e w2 ⟨rfl, k2⟩; have hk2 : Keeps [] W0 w2 := hk1.trans k2; have hr2 := HR0.out.keeps hk2 (by simp); have p0 := hr2.cell (j := 0) rfl; have p1 := hr2.cell (j := 1) rfl; have p2 := hr2.cell (j := 2) rfl; have p3 := hr2.cell (j := 3) rfl; have f0 := hr2.frozen 0; have f1 := hr2.frozen 1; have f2 := hr2.frozen 2; have f3 := hr2.frozen 3; have hl1 := hr2.lt)
      | (have _ := hk0; go_at_call 123; refine (HC1.out _ hk0).mono ?_; rintro e w1 ⟨rfl, k1⟩; have hk1 : Keeps [] W0 w1 := hk0.trans k1)
      | fail)
  all_goals (have HK1 := Lib.hid (HK0.out.trans hk2))
  all_goals (try go_wp2)
  all_goals (refine bodyPost_ret (v := .agg #[.int .i64 2, .int .i64 v1, .int .u64 z, .int .u64 0]) (by simp [results, Tryz.results79, go_sem, p0, p1, p2, p3]) rfl ⟨rfl, ?_⟩)
  all_goals exact HK1.out.step (S := [w.heap.size]) (((((Keeps.refl _ _).set (by simp) _ _).set (by simp) _ _).set (by simp) _ _).set (by simp) _ _) (by simp)

set_option maxHeartbeats 3200000 in
theorem rw_p21 (s : QuS) (h : RwPut w p lv nv sv s) (hs : s.step = 21) (hk : s.k < s.nodes.length) :
    Calls Tryz.prog 79 #[.pointer (some ⟨p, 0, none⟩)] w fun e w' => e = .returned (.agg #[.int .i64 1, .int .i64 (quNext s.at_ s.n (s.nodes.getD s.k 0)), .int .u64 0, .int .u64 0]) ∧ Keeps [] w w' := by
  obtain ⟨hrow, hno, hta, hr, uh, ut, ux, hin, hfew, hk3⟩ := h
  obtain ⟨at_, n, puts, l, nodes, k, step, sub, hh, t, x, vv, code, inn, over⟩ := s
  simp only at *
  subst hs
  obtain ⟨W0, hW0⟩ : ∃ W0, w.alloc (.cells #[.int .i64 0, .int .i64 0, .int .u64 0, .int .u64 0] 60) = W0 := ⟨_, rfl⟩
  have k0 : Keeps [] w W0 := by rw [← hW0]; exact (Keeps.refl _ _).alloc _
  have r0 : Row W0 w.heap.size 60 [.int .i64 0, .int .i64 0, .int .u64 0, .int .u64 0] := by rw [← hW0]; exact Row.new _ _ _
  have hplt := hrow.lt
  have R := hrow.keeps k0 (by simp)
  have hno0 := hno.but k0 (by simp)
  have hta0 := hta.but k0 (by simp)
  have HP : Hid (∀ W, Keeps [] W0 W → Row W p 85 (quCells ⟨at_, n, puts, l, nodes, k, 21, sub, hh, t, x, vv, code, inn, over⟩ lv nv sv)) := Lib.hid (fun W hW => R.keeps hW (by simp))
  have HN : Hid (∀ W, Keeps [] W0 W → Sl W 1 nv nodes.length (ints .i64 nodes)) := Lib.hid (fun W hW => hno0.but hW (by simp))
  obtain ⟨nb, no, nc, hnv, z1, hkn⟩ := hno.some (by omega)
  subst hnv
  have a1 := (k0.cell (p := ⟨nb, no + k, none⟩) z1 (by simp)).trans (hkn k _ (ints_at (k := .i64) hk))
  obtain ⟨y, hy⟩ : ∃ y, nodes.getD k 0 = y := ⟨_, rfl⟩
  have hyb : 1 ≤ y ∧ y ≤ n := hin y (by rw [← hy, List.getD, List.getElem?_eq_getElem hk]; exact List.getElem_mem hk)
  rw [hy] at a1 ⊢
  have i0 : (0 : Int) ≤ (k : Int) := by omega
  have i1 : (k : Int) < (nodes.length : Int) := by omega
  have HC1 := Lib.hid (fun W (hW : Keeps [] W0 W) => rkq (rwNext_any (p := p) at_ n y W ((HP.out W hW).cell (j := 0) rfl) ((HP.out W hW).cell (j := 1) rfl) hr (by omega) (by have := hr.2.1; omega)))
  obtain ⟨v1, hv1⟩ : ∃ v, quNext at_ n y = v := ⟨_, rfl⟩
  rw [hv1] at HC1 ⊢
  have HC2 := Lib.hid (fun W (hW : Keeps [] W0 W) => rwLoad_any v1 W)
  have wa : IntKind.i64.wrap (at_ + 1) = at_ + 1 := IntWalk.i64_in _ (by have := hr.1; have := hr.2.1; have := hr.2.2.1; have := hr.2.2.2; omega)
  have c0 := R.cell (j := 0) rfl
  have c1 := R.cell (j := 1) rfl
  have c3 := R.cell (j := 3) rfl
  have c4 := R.cell (j := 4) rfl
  have c5 := R.cell (j := 5) rfl
  have c6 := R.cell (j := 6) rfl
  have c8 := R.cell (j := 8) rfl
  have c9 := R.cell (j := 9) rfl
  have c10 := R.cell (j := 10) rfl
  have HQ : Hid (∀ W S, Keeps S W0 W → p ∉ S → nb ∉ S → W.cell? ⟨p, 0, none⟩ = some (.int .i64 at_) ∧ W.cell? ⟨p, 1, none⟩ = some (.int .i64 n) ∧ W.cell? ⟨p, 3, none⟩ = some (lv) ∧ W.cell? ⟨p, 4, none⟩ = some (.slice (some ⟨nb, no, none⟩) nodes.length nc) ∧ W.cell? ⟨p, 5, none⟩ = some (.int .i64 (k : Int)) ∧ W.cell? ⟨p, 8, none⟩ = some (.int .u64 hh) ∧ W.cell? ⟨p, 9, none⟩ = some (.int .u64 t) ∧ W.cell? ⟨p, 10, none⟩ = some (.int .u64 x) ∧ W.cell? ⟨nb, no + k, none⟩ = some (.int .i64 y)) := Lib.hid (fun W S hk g0 g1 => by
    have hh := R.keeps hk g0
    exact ⟨hh.cell (j := 0) rfl, hh.cell (j := 1) rfl, hh.cell (j := 3) rfl, hh.cell (j := 4) rfl, hh.cell (j := 5) rfl, hh.cell (j := 8) rfl, hh.cell (j := 9) rfl, hh.cell (j := 10) rfl, (hk.cell (p := ⟨nb, no + k, none⟩) (Nat.lt_of_lt_of_le z1 k0.size) g1).trans a1⟩)
  have HR0 := Lib.hid r0
  have HK0 := Lib.hid k0
  have hk0 : Keeps [] W0 W0.drew := (Keeps.refl _ _).drew
  clear hrow hno hta hno0 hta0 R r0 k0 hin hr hkn hy
  go_enter Tryz.func79, Tryz.ntmps79
  go_wp2_with fail
  go_region_held3 (fun w' => w'.cell? ⟨p, 0, none⟩ = some (.int .i64 at_) ∧ w'.cell? ⟨p, 1, none⟩ = some (.int .i64 n) ∧ w'.cell? ⟨p, 3, none⟩ = some (lv) ∧ w'.cell? ⟨p, 4, none⟩ = some (.slice (some ⟨nb, no, none⟩) nodes.length nc) ∧ w'.cell? ⟨p, 5, none⟩ = some (.int .i64 (k : Int)) ∧ w'.cell? ⟨p, 8, none⟩ = some (.int .u64 hh) ∧ w'.cell? ⟨p, 9, none⟩ = some (.int .u64 t) ∧ w'.cell? ⟨p, 10, none⟩ = some (.int .u64 x) ∧ w'.cell? ⟨nb, no + k, none⟩ = some (.int .i64 y))
    (first
      | exact HQ.out _ [w.heap.size] ((((((hk2.mono (by simp)).set (by simp) _ _).set (by simp) _ _).set (by simp) _ _).set (by simp) _ _)) (by simp; omega) (by simp; omega)
      | exact HQ.out _ _ hk2 (by simp) (by simp)
      | exact HQ.out _ _ hk1 (by simp) (by simp)
      | exact HQ.out _ _ hk0 (by simp) (by simp)
      | exact ⟨by assumption, by assumption, by assumption, by assumption, by assumption, by assumption, by assumption, by assumption, by assumption⟩
      | fail)
    (first
      | (have _ := hk1; go_at_call 124; refine (HC2.out _ hk1).mono ?_; rintro e w2 ⟨rfl, k2⟩; have hk2 : Keeps [] W0 w2 := hk1.trans k2; have hr2 := HR0.out.keeps hk2 (by simp); have p0 := hr2.cell (j := 0) rfl; have p1 := hr2.cell (j := 1) rfl; have p2 := hr2.cell (j := 2) rfl; have p3 := hr2.cell (j := 3) rfl; have f0 := hr2.frozen 0; have f1 := hr2.frozen 1; have f2 := hr2.frozen 2; have f3 := hr2.frozen 3; have hl1 := hr2.lt)
      | (have _ := hk0; go_at_call 125; refine (HC1.out _ hk0).mono ?_; rintro e w1 ⟨rfl, k1⟩; have hk1 : Keeps [] W0 w1 := hk0.trans k1)
      | fail)
  all_goals (have HK1 := Lib.hid (HK0.out.trans hk2))
  all_goals (try go_wp2)
  all_goals (refine bodyPost_ret (v := .agg #[.int .i64 1, .int .i64 v1, .int .u64 0, .int .u64 0]) (by simp [results, Tryz.results79, go_sem, p0, p1, p2, p3]) rfl ⟨rfl, ?_⟩)
  all_goals exact HK1.out.step (S := [w.heap.size]) (((((Keeps.refl _ _).set (by simp) _ _).set (by simp) _ _).set (by simp) _ _).set (by simp) _ _) (by simp)

set_option maxHeartbeats 3200000 in
theorem rw_p22 (s : QuS) (h : RwPut w p lv nv sv s) (hs : s.step = 22) (hk : s.k < s.nodes.length) :
    Calls Tryz.prog 79 #[.pointer (some ⟨p, 0, none⟩)] w fun e w' => e = .returned (.agg #[.int .i64 2, .int .i64 (quNext s.at_ s.n (s.nodes.getD s.k 0)), .int .u64 (arNext s.x (s.nodes.getD (s.k + 1) 0)), .int .u64 0]) ∧ Keeps [] w w' := by
  obtain ⟨hrow, hno, hta, hr, uh, ut, ux, hin, hfew, hk3⟩ := h
  obtain ⟨at_, n, puts, l, nodes, k, step, sub, hh, t, x, vv, code, inn, over⟩ := s
  simp only at *
  subst hs
  obtain ⟨W0, hW0⟩ : ∃ W0, w.alloc (.cells #[.int .i64 0, .int .i64 0, .int .u64 0, .int .u64 0] 60) = W0 := ⟨_, rfl⟩
  have k0 : Keeps [] w W0 := by rw [← hW0]; exact (Keeps.refl _ _).alloc _
  have r0 : Row W0 w.heap.size 60 [.int .i64 0, .int .i64 0, .int .u64 0, .int .u64 0] := by rw [← hW0]; exact Row.new _ _ _
  have hplt := hrow.lt
  have R := hrow.keeps k0 (by simp)
  have hno0 := hno.but k0 (by simp)
  have hta0 := hta.but k0 (by simp)
  have HP : Hid (∀ W, Keeps [] W0 W → Row W p 85 (quCells ⟨at_, n, puts, l, nodes, k, 22, sub, hh, t, x, vv, code, inn, over⟩ lv nv sv)) := Lib.hid (fun W hW => R.keeps hW (by simp))
  have HN : Hid (∀ W, Keeps [] W0 W → Sl W 1 nv nodes.length (ints .i64 nodes)) := Lib.hid (fun W hW => hno0.but hW (by simp))
  obtain ⟨nb, no, nc, hnv, z1, hkn⟩ := hno.some (by omega)
  subst hnv
  have a1 := (k0.cell (p := ⟨nb, no + k, none⟩) z1 (by simp)).trans (hkn k _ (ints_at (k := .i64) hk))
  obtain ⟨y, hy⟩ : ∃ y, nodes.getD k 0 = y := ⟨_, rfl⟩
  have hyb : 1 ≤ y ∧ y ≤ n := hin y (by rw [← hy, List.getD, List.getElem?_eq_getElem hk]; exact List.getElem_mem hk)
  rw [hy] at a1 ⊢
  have i0 : (0 : Int) ≤ (k : Int) := by omega
  have i1 : (k : Int) < (nodes.length : Int) := by omega
  have HC1 := Lib.hid (fun W (hW : Keeps [] W0 W) => rkq (rwNext_any (p := p) at_ n y W ((HP.out W hW).cell (j := 0) rfl) ((HP.out W hW).cell (j := 1) rfl) hr (by omega) (by have := hr.2.1; omega)))
  obtain ⟨v1, hv1⟩ : ∃ v, quNext at_ n y = v := ⟨_, rfl⟩
  rw [hv1] at HC1 ⊢
  have HC2 := Lib.hid (fun W (hW : Keeps [] W0 W) => rkq (rwBehind_any (p := p) k nodes.length nodes W rfl hfew.1 hk3 ((HP.out W hW).cell (j := 5) rfl) ((HP.out W hW).cell (j := 4) rfl) (HN.out W hW)))
  obtain ⟨v2, hv2⟩ : ∃ v, nodes.getD (k + 1) 0 = v := ⟨_, rfl⟩
  have hv2b : 0 ≤ v2 ∧ v2 < 4294967296 := by
    rw [← hv2]
    by_cases hb : k + 1 < nodes.length
    · have := hin (nodes.getD (k + 1) 0) (by rw [List.getD, List.getElem?_eq_getElem hb]; exact List.getElem_mem hb)
      have := hr.2.1
      omega
    · rw [List.getD, List.getElem?_eq_none (by omega)]; simp
  rw [hv2] at HC2 ⊢
  have HC3 := Lib.hid (fun W (hW : Keeps [] W0 W) => rkd (rwRaise_any x v2 W ux hv2b.1 hv2b.2))
  obtain ⟨v3, hv3⟩ : ∃ v, arNext x v2 = v := ⟨_, rfl⟩
  rw [hv3] at HC3 ⊢
  have HC4 := Lib.hid (fun W (hW : Keeps [] W0 W) => rwStore_any v1 v3 W)
  have wa : IntKind.i64.wrap (at_ + 1) = at_ + 1 := IntWalk.i64_in _ (by have := hr.1; have := hr.2.1; have := hr.2.2.1; have := hr.2.2.2; omega)
  have c0 := R.cell (j := 0) rfl
  have c1 := R.cell (j := 1) rfl
  have c3 := R.cell (j := 3) rfl
  have c4 := R.cell (j := 4) rfl
  have c5 := R.cell (j := 5) rfl
  have c6 := R.cell (j := 6) rfl
  have c8 := R.cell (j := 8) rfl
  have c9 := R.cell (j := 9) rfl
  have c10 := R.cell (j := 10) rfl
  have HQ : Hid (∀ W S, Keeps S W0 W → p ∉ S → nb ∉ S → W.cell? ⟨p, 0, none⟩ = some (.int .i64 at_) ∧ W.cell? ⟨p, 1, none⟩ = some (.int .i64 n) ∧ W.cell? ⟨p, 3, none⟩ = some (lv) ∧ W.cell? ⟨p, 4, none⟩ = some (.slice (some ⟨nb, no, none⟩) nodes.length nc) ∧ W.cell? ⟨p, 5, none⟩ = some (.int .i64 (k : Int)) ∧ W.cell? ⟨p, 8, none⟩ = some (.int .u64 hh) ∧ W.cell? ⟨p, 9, none⟩ = some (.int .u64 t) ∧ W.cell? ⟨p, 10, none⟩ = some (.int .u64 x) ∧ W.cell? ⟨nb, no + k, none⟩ = some (.int .i64 y)) := Lib.hid (fun W S hk g0 g1 => by
    have hh := R.keeps hk g0
    exact ⟨hh.cell (j := 0) rfl, hh.cell (j := 1) rfl, hh.cell (j := 3) rfl, hh.cell (j := 4) rfl, hh.cell (j := 5) rfl, hh.cell (j := 8) rfl, hh.cell (j := 9) rfl, hh.cell (j := 10) rfl, (hk.cell (p := ⟨nb, no + k, none⟩) (Nat.lt_of_lt_of_le z1 k0.size) g1).trans a1⟩)
  have HR0 := Lib.hid r0
  have HK0 := Lib.hid k0
  have hk0 : Keeps [] W0 W0.drew := (Keeps.refl _ _).drew
  clear hrow hno hta hno0 hta0 R r0 k0 hin hr hkn hy
  go_enter Tryz.func79, Tryz.ntmps79
  go_wp2_with fail
  go_region_held3 (fun w' => w'.cell? ⟨p, 0, none⟩ = some (.int .i64 at_) ∧ w'.cell? ⟨p, 1, none⟩ = some (.int .i64 n) ∧ w'.cell? ⟨p, 3, none⟩ = some (lv) ∧ w'.cell? ⟨p, 4, none⟩ = some (.slice (some ⟨nb, no, none⟩) nodes.length nc) ∧ w'.cell? ⟨p, 5, none⟩ = some (.int .i64 (k : Int)) ∧ w'.cell? ⟨p, 8, none⟩ = some (.int .u64 hh) ∧ w'.cell? ⟨p, 9, none⟩ = some (.int .u64 t) ∧ w'.cell? ⟨p, 10, none⟩ = some (.int .u64 x) ∧ w'.cell? ⟨nb, no + k, none⟩ = some (.int .i64 y))
    (first
      | exact HQ.out _ [w.heap.size] ((((((hk4.mono (by simp)).set (by simp) _ _).set (by simp) _ _).set (by simp) _ _).set (by simp) _ _)) (by simp; omega) (by simp; omega)
      | exact HQ.out _ _ hk4 (by simp) (by simp)
      | exact HQ.out _ _ hk3 (by simp) (by simp)
      | exact HQ.out _ _ hk2 (by simp) (by simp)
      | exact HQ.out _ _ hk1 (by simp) (by simp)
      | exact HQ.out _ _ hk0 (by simp) (by simp)
      | exact ⟨by assumption, by assumption, by assumption, by assumption, by assumption, by assumption, by assumption, by assumption, by assumption⟩
      | fail)
    (first
      | (have _ := hk3; go_at_call 122; refine (HC4.out _ hk3).mono ?_; rintro e w4 ⟨rfl, k4⟩; have hk4 : Keeps [] W0 w4 := hk3.trans k4; have hr4 := HR0.out.keeps hk4 (by simp); have p0 := hr4.cell (j := 0) rfl; have p1 := hr4.cell (j := 1) rfl; have p2 := hr4.cell (j := 2) rfl; have p3 := hr4.cell (j := 3) rfl; have f0 := hr4.frozen 0; have f1 := hr4.frozen 1; have f2 := hr4.frozen 2; have f3 := hr4.frozen 3; have hl1 := hr4.lt)
      | (have _ := hk2; go_at_call 126; refine (HC3.out _ hk2).mono ?_; rintro e w3 ⟨rfl, k3⟩; have hk3 : Keeps [] W0 w3 := hk2.trans k3)
      | (have _ := hk1; go_at_call 127; refine (HC2.out _ hk1).mono ?_; rintro e w2 ⟨rfl, k2⟩; have hk2 : Keeps [] W0 w2 := hk1.trans k2)
      | (have _ := hk0; go_at_call 125; refine (HC1.out _ hk0).mono ?_; rintro e w1 ⟨rfl, k1⟩; have hk1 : Keeps [] W0 w1 := hk0.trans k1)
      | fail)
  all_goals (have HK1 := Lib.hid (HK0.out.trans hk4))
  all_goals (try go_wp2)
  all_goals (refine bodyPost_ret (v := .agg #[.int .i64 2, .int .i64 v1, .int .u64 v3, .int .u64 0]) (by simp [results, Tryz.results79, go_sem, p0, p1, p2, p3]) rfl ⟨rfl, ?_⟩)
  all_goals exact HK1.out.step (S := [w.heap.size]) (((((Keeps.refl _ _).set (by simp) _ _).set (by simp) _ _).set (by simp) _ _).set (by simp) _ _) (by simp)

set_option maxHeartbeats 3200000 in
theorem rw_p3 (s : QuS) (h : RwPut w p lv nv sv s) (hs : s.step = 3)  :
    Calls Tryz.prog 79 #[.pointer (some ⟨p, 0, none⟩)] w fun e w' => e = .returned (.agg #[.int .i64 1, .int .i64 (s.at_ + 1), .int .u64 0, .int .u64 0]) ∧ Keeps [] w w' := by
  obtain ⟨hrow, hno, hta, hr, uh, ut, ux, hin, hfew, hk3⟩ := h
  obtain ⟨at_, n, puts, l, nodes, k, step, sub, hh, t, x, vv, code, inn, over⟩ := s
  simp only at *
  subst hs
  obtain ⟨W0, hW0⟩ : ∃ W0, w.alloc (.cells #[.int .i64 0, .int .i64 0, .int .u64 0, .int .u64 0] 60) = W0 := ⟨_, rfl⟩
  have k0 : Keeps [] w W0 := by rw [← hW0]; exact (Keeps.refl _ _).alloc _
  have r0 : Row W0 w.heap.size 60 [.int .i64 0, .int .i64 0, .int .u64 0, .int .u64 0] := by rw [← hW0]; exact Row.new _ _ _
  have hplt := hrow.lt
  have R := hrow.keeps k0 (by simp)
  have hno0 := hno.but k0 (by simp)
  have hta0 := hta.but k0 (by simp)
  have HP : Hid (∀ W, Keeps [] W0 W → Row W p 85 (quCells ⟨at_, n, puts, l, nodes, k, 3, sub, hh, t, x, vv, code, inn, over⟩ lv nv sv)) := Lib.hid (fun W hW => R.keeps hW (by simp))
  have HN : Hid (∀ W, Keeps [] W0 W → Sl W 1 nv nodes.length (ints .i64 nodes)) := Lib.hid (fun W hW => hno0.but hW (by simp))
  have HC1 := Lib.hid (fun W (hW : Keeps [] W0 W) => rwLoad_any (at_ + 1) W)
  have wa : IntKind.i64.wrap (at_ + 1) = at_ + 1 := IntWalk.i64_in _ (by have := hr.1; have := hr.2.1; have := hr.2.2.1; have := hr.2.2.2; omega)
  have c0 := R.cell (j := 0) rfl
  have c1 := R.cell (j := 1) rfl
  have c3 := R.cell (j := 3) rfl
  have c4 := R.cell (j := 4) rfl
  have c5 := R.cell (j := 5) rfl
  have c6 := R.cell (j := 6) rfl
  have c8 := R.cell (j := 8) rfl
  have c9 := R.cell (j := 9) rfl
  have c10 := R.cell (j := 10) rfl
  have HQ : Hid (∀ W S, Keeps S W0 W → p ∉ S → W.cell? ⟨p, 0, none⟩ = some (.int .i64 at_) ∧ W.cell? ⟨p, 1, none⟩ = some (.int .i64 n) ∧ W.cell? ⟨p, 3, none⟩ = some (lv) ∧ W.cell? ⟨p, 4, none⟩ = some (nv) ∧ W.cell? ⟨p, 5, none⟩ = some (.int .i64 (k : Int)) ∧ W.cell? ⟨p, 8, none⟩ = some (.int .u64 hh) ∧ W.cell? ⟨p, 9, none⟩ = some (.int .u64 t) ∧ W.cell? ⟨p, 10, none⟩ = some (.int .u64 x)) := Lib.hid (fun W S hk g0 => by
    have hh := R.keeps hk g0
    exact ⟨hh.cell (j := 0) rfl, hh.cell (j := 1) rfl, hh.cell (j := 3) rfl, hh.cell (j := 4) rfl, hh.cell (j := 5) rfl, hh.cell (j := 8) rfl, hh.cell (j := 9) rfl, hh.cell (j := 10) rfl⟩)
  have HR0 := Lib.hid r0
  have HK0 := Lib.hid k0
  have hk0 : Keeps [] W0 W0.drew := (Keeps.refl _ _).drew
  clear hrow hno hta hno0 hta0 R r0 k0 hin hr
  go_enter Tryz.func79, Tryz.ntmps79
  go_wp2_with fail
  refine (HC1.out _ (Keeps.refl _ _)).mono ?_
  rintro e w1 ⟨rfl, hk1⟩
  have hr1 := HR0.out.keeps hk1 (by simp)
  have p0 := hr1.cell (j := 0) rfl
  have p1 := hr1.cell (j := 1) rfl
  have p2 := hr1.cell (j := 2) rfl
  have p3 := hr1.cell (j := 3) rfl
  have f0 := hr1.frozen 0
  have f1 := hr1.frozen 1
  have f2 := hr1.frozen 2
  have f3 := hr1.frozen 3
  have hl1 := hr1.lt
  all_goals (have HK1 := Lib.hid (HK0.out.trans hk1))
  all_goals (try go_wp2)
  all_goals (refine bodyPost_ret (v := .agg #[.int .i64 1, .int .i64 (at_ + 1), .int .u64 0, .int .u64 0]) (by simp [results, Tryz.results79, go_sem, p0, p1, p2, p3]) rfl ⟨rfl, ?_⟩)
  all_goals exact HK1.out.step (S := [w.heap.size]) (((((Keeps.refl _ _).set (by simp) _ _).set (by simp) _ _).set (by simp) _ _).set (by simp) _ _) (by simp)

set_option maxHeartbeats 3200000 in
theorem rw_p5 (s : QuS) (h : RwPut w p lv nv sv s) (hs : s.step = 5)  :
    Calls Tryz.prog 79 #[.pointer (some ⟨p, 0, none⟩)] w fun e w' => e = .returned (.agg #[.int .i64 1, .int .i64 (s.at_ + 1), .int .u64 0, .int .u64 0]) ∧ Keeps [] w w' := by
  obtain ⟨hrow, hno, hta, hr, uh, ut, ux, hin, hfew, hk3⟩ := h
  obtain ⟨at_, n, puts, l, nodes, k, step, sub, hh, t, x, vv, code, inn, over⟩ := s
  simp only at *
  subst hs
  obtain ⟨W0, hW0⟩ : ∃ W0, w.alloc (.cells #[.int .i64 0, .int .i64 0, .int .u64 0, .int .u64 0] 60) = W0 := ⟨_, rfl⟩
  have k0 : Keeps [] w W0 := by rw [← hW0]; exact (Keeps.refl _ _).alloc _
  have r0 : Row W0 w.heap.size 60 [.int .i64 0, .int .i64 0, .int .u64 0, .int .u64 0] := by rw [← hW0]; exact Row.new _ _ _
  have hplt := hrow.lt
  have R := hrow.keeps k0 (by simp)
  have hno0 := hno.but k0 (by simp)
  have hta0 := hta.but k0 (by simp)
  have HP : Hid (∀ W, Keeps [] W0 W → Row W p 85 (quCells ⟨at_, n, puts, l, nodes, k, 5, sub, hh, t, x, vv, code, inn, over⟩ lv nv sv)) := Lib.hid (fun W hW => R.keeps hW (by simp))
  have HN : Hid (∀ W, Keeps [] W0 W → Sl W 1 nv nodes.length (ints .i64 nodes)) := Lib.hid (fun W hW => hno0.but hW (by simp))
  have HC1 := Lib.hid (fun W (hW : Keeps [] W0 W) => rwLoad_any (at_ + 1) W)
  have wa : IntKind.i64.wrap (at_ + 1) = at_ + 1 := IntWalk.i64_in _ (by have := hr.1; have := hr.2.1; have := hr.2.2.1; have := hr.2.2.2; omega)
  have c0 := R.cell (j := 0) rfl
  have c1 := R.cell (j := 1) rfl
  have c3 := R.cell (j := 3) rfl
  have c4 := R.cell (j := 4) rfl
  have c5 := R.cell (j := 5) rfl
  have c6 := R.cell (j := 6) rfl
  have c8 := R.cell (j := 8) rfl
  have c9 := R.cell (j := 9) rfl
  have c10 := R.cell (j := 10) rfl
  have HQ : Hid (∀ W S, Keeps S W0 W → p ∉ S → W.cell? ⟨p, 0, none⟩ = some (.int .i64 at_) ∧ W.cell? ⟨p, 1, none⟩ = some (.int .i64 n) ∧ W.cell? ⟨p, 3, none⟩ = some (lv) ∧ W.cell? ⟨p, 4, none⟩ = some (nv) ∧ W.cell? ⟨p, 5, none⟩ = some (.int .i64 (k : Int)) ∧ W.cell? ⟨p, 8, none⟩ = some (.int .u64 hh) ∧ W.cell? ⟨p, 9, none⟩ = some (.int .u64 t) ∧ W.cell? ⟨p, 10, none⟩ = some (.int .u64 x)) := Lib.hid (fun W S hk g0 => by
    have hh := R.keeps hk g0
    exact ⟨hh.cell (j := 0) rfl, hh.cell (j := 1) rfl, hh.cell (j := 3) rfl, hh.cell (j := 4) rfl, hh.cell (j := 5) rfl, hh.cell (j := 8) rfl, hh.cell (j := 9) rfl, hh.cell (j := 10) rfl⟩)
  have HR0 := Lib.hid r0
  have HK0 := Lib.hid k0
  have hk0 : Keeps [] W0 W0.drew := (Keeps.refl _ _).drew
  clear hrow hno hta hno0 hta0 R r0 k0 hin hr
  go_enter Tryz.func79, Tryz.ntmps79
  go_wp2_with fail
  refine (HC1.out _ (Keeps.refl _ _)).mono ?_
  rintro e w1 ⟨rfl, hk1⟩
  have hr1 := HR0.out.keeps hk1 (by simp)
  have p0 := hr1.cell (j := 0) rfl
  have p1 := hr1.cell (j := 1) rfl
  have p2 := hr1.cell (j := 2) rfl
  have p3 := hr1.cell (j := 3) rfl
  have f0 := hr1.frozen 0
  have f1 := hr1.frozen 1
  have f2 := hr1.frozen 2
  have f3 := hr1.frozen 3
  have hl1 := hr1.lt
  all_goals (have HK1 := Lib.hid (HK0.out.trans hk1))
  all_goals (try go_wp2)
  all_goals (refine bodyPost_ret (v := .agg #[.int .i64 1, .int .i64 (at_ + 1), .int .u64 0, .int .u64 0]) (by simp [results, Tryz.results79, go_sem, p0, p1, p2, p3]) rfl ⟨rfl, ?_⟩)
  all_goals exact HK1.out.step (S := [w.heap.size]) (((((Keeps.refl _ _).set (by simp) _ _).set (by simp) _ _).set (by simp) _ _).set (by simp) _ _) (by simp)

set_option maxHeartbeats 3200000 in
theorem rw_p4 (s : QuS) (h : RwPut w p lv nv sv s) (hs : s.step = 4)  :
    Calls Tryz.prog 79 #[.pointer (some ⟨p, 0, none⟩)] w fun e w' => e = .returned (.agg #[.int .i64 1, .int .i64 (quNext s.at_ s.n (quNode s.t)), .int .u64 0, .int .u64 0]) ∧ Keeps [] w w' := by
  obtain ⟨hrow, hno, hta, hr, uh, ut, ux, hin, hfew, hk3⟩ := h
  obtain ⟨at_, n, puts, l, nodes, k, step, sub, hh, t, x, vv, code, inn, over⟩ := s
  simp only at *
  subst hs
  obtain ⟨W0, hW0⟩ : ∃ W0, w.alloc (.cells #[.int .i64 0, .int .i64 0, .int .u64 0, .int .u64 0] 60) = W0 := ⟨_, rfl⟩
  have k0 : Keeps [] w W0 := by rw [← hW0]; exact (Keeps.refl _ _).alloc _
  have r0 : Row W0 w.heap.size 60 [.int .i64 0, .int .i64 0, .int .u64 0, .int .u64 0] := by rw [← hW0]; exact Row.new _ _ _
  have hplt := hrow.lt
  have R := hrow.keeps k0 (by simp)
  have hno0 := hno.but k0 (by simp)
  have hta0 := hta.but k0 (by simp)
  have HP : Hid (∀ W, Keeps [] W0 W → Row W p 85 (quCells ⟨at_, n, puts, l, nodes, k, 4, sub, hh, t, x, vv, code, inn, over⟩ lv nv sv)) := Lib.hid (fun W hW => R.keeps hW (by simp))
  have HN : Hid (∀ W, Keeps [] W0 W → Sl W 1 nv nodes.length (ints .i64 nodes)) := Lib.hid (fun W hW => hno0.but hW (by simp))
  have HC1 := Lib.hid (fun W (hW : Keeps [] W0 W) => rkd (refNodeOf_any t W ut))
  obtain ⟨v1, hv1⟩ : ∃ v, quNode t = v := ⟨_, rfl⟩
  have hv1b : 0 ≤ v1 ∧ v1 < 4294967296 := by rw [← hv1]; exact quNode_nn _
  rw [hv1] at HC1 ⊢
  have HC2 := Lib.hid (fun W (hW : Keeps [] W0 W) => rkq (rwNext_any (p := p) at_ n v1 W ((HP.out W hW).cell (j := 0) rfl) ((HP.out W hW).cell (j := 1) rfl) hr hv1b.1 (by omega)))
  obtain ⟨v2, hv2⟩ : ∃ v, quNext at_ n v1 = v := ⟨_, rfl⟩
  rw [hv2] at HC2 ⊢
  have HC3 := Lib.hid (fun W (hW : Keeps [] W0 W) => rwLoad_any v2 W)
  have wa : IntKind.i64.wrap (at_ + 1) = at_ + 1 := IntWalk.i64_in _ (by have := hr.1; have := hr.2.1; have := hr.2.2.1; have := hr.2.2.2; omega)
  have c0 := R.cell (j := 0) rfl
  have c1 := R.cell (j := 1) rfl
  have c3 := R.cell (j := 3) rfl
  have c4 := R.cell (j := 4) rfl
  have c5 := R.cell (j := 5) rfl
  have c6 := R.cell (j := 6) rfl
  have c8 := R.cell (j := 8) rfl
  have c9 := R.cell (j := 9) rfl
  have c10 := R.cell (j := 10) rfl
  have HQ : Hid (∀ W S, Keeps S W0 W → p ∉ S → W.cell? ⟨p, 0, none⟩ = some (.int .i64 at_) ∧ W.cell? ⟨p, 1, none⟩ = some (.int .i64 n) ∧ W.cell? ⟨p, 3, none⟩ = some (lv) ∧ W.cell? ⟨p, 4, none⟩ = some (nv) ∧ W.cell? ⟨p, 5, none⟩ = some (.int .i64 (k : Int)) ∧ W.cell? ⟨p, 8, none⟩ = some (.int .u64 hh) ∧ W.cell? ⟨p, 9, none⟩ = some (.int .u64 t) ∧ W.cell? ⟨p, 10, none⟩ = some (.int .u64 x)) := Lib.hid (fun W S hk g0 => by
    have hh := R.keeps hk g0
    exact ⟨hh.cell (j := 0) rfl, hh.cell (j := 1) rfl, hh.cell (j := 3) rfl, hh.cell (j := 4) rfl, hh.cell (j := 5) rfl, hh.cell (j := 8) rfl, hh.cell (j := 9) rfl, hh.cell (j := 10) rfl⟩)
  have HR0 := Lib.hid r0
  have HK0 := Lib.hid k0
  have hk0 : Keeps [] W0 W0.drew := (Keeps.refl _ _).drew
  clear hrow hno hta hno0 hta0 R r0 k0 hin hr
  go_enter Tryz.func79, Tryz.ntmps79
  go_wp2_with fail
  refine (HC1.out _ (Keeps.refl _ _)).mono ?_
  rintro e w1 ⟨rfl, k1⟩
  have hk1 : Keeps [] W0 w1 := k1
  have hq1 := HQ.out _ _ hk1 (by simp)
  obtain ⟨x1_0, x1_1, x1_2, x1_3, x1_4, x1_5, x1_6, x1_7⟩ := hq1
  go_wp2_with fail
  refine (HC2.out _ hk1).mono ?_
  rintro e w2 ⟨rfl, k2⟩
  have hk2 : Keeps [] W0 w2 := hk1.trans k2
  have hq2 := HQ.out _ _ hk2 (by simp)
  obtain ⟨x2_0, x2_1, x2_2, x2_3, x2_4, x2_5, x2_6, x2_7⟩ := hq2
  go_wp2_with fail
  refine (HC3.out _ hk2).mono ?_
  rintro e w3 ⟨rfl, k3⟩
  have hk3 : Keeps [] W0 w3 := hk2.trans k3
  have hr3 := HR0.out.keeps hk3 (by simp)
  have p0 := hr3.cell (j := 0) rfl
  have p1 := hr3.cell (j := 1) rfl
  have p2 := hr3.cell (j := 2) rfl
  have p3 := hr3.cell (j := 3) rfl
  have f0 := hr3.frozen 0
  have f1 := hr3.frozen 1
  have f2 := hr3.frozen 2
  have f3 := hr3.frozen 3
  have hl1 := hr3.lt
  all_goals (have HK1 := Lib.hid (HK0.out.trans hk3))
  all_goals (try go_wp2)
  all_goals (refine bodyPost_ret (v := .agg #[.int .i64 1, .int .i64 v2, .int .u64 0, .int .u64 0]) (by simp [results, Tryz.results79, go_sem, p0, p1, p2, p3]) rfl ⟨rfl, ?_⟩)
  all_goals exact HK1.out.step (S := [w.heap.size]) (((((Keeps.refl _ _).set (by simp) _ _).set (by simp) _ _).set (by simp) _ _).set (by simp) _ _) (by simp)

set_option maxHeartbeats 3200000 in
theorem rw_p6a (s : QuS) (h : RwPut w p lv nv sv s) (hs : s.step = 6) (hx : quNode s.x = 0) (h0 : 0 < s.nodes.length) :
    Calls Tryz.prog 79 #[.pointer (some ⟨p, 0, none⟩)] w fun e w' => e = .returned (.agg #[.int .i64 3, .int .i64 (quNext s.at_ s.n (quNode s.t)), .int .u64 s.x, .int .u64 (arNext s.x (s.nodes.getD 0 0))]) ∧ Keeps [] w w' := by
  obtain ⟨hrow, hno, hta, hr, uh, ut, ux, hin, hfew, hk3⟩ := h
  obtain ⟨at_, n, puts, l, nodes, k, step, sub, hh, t, x, vv, code, inn, over⟩ := s
  simp only at *
  subst hs
  obtain ⟨W0, hW0⟩ : ∃ W0, w.alloc (.cells #[.int .i64 0, .int .i64 0, .int .u64 0, .int .u64 0] 60) = W0 := ⟨_, rfl⟩
  have k0 : Keeps [] w W0 := by rw [← hW0]; exact (Keeps.refl _ _).alloc _
  have r0 : Row W0 w.heap.size 60 [.int .i64 0, .int .i64 0, .int .u64 0, .int .u64 0] := by rw [← hW0]; exact Row.new _ _ _
  have hplt := hrow.lt
  have R := hrow.keeps k0 (by simp)
  have hno0 := hno.but k0 (by simp)
  have hta0 := hta.but k0 (by simp)
  have HP : Hid (∀ W, Keeps [] W0 W → Row W p 85 (quCells ⟨at_, n, puts, l, nodes, k, 6, sub, hh, t, x, vv, code, inn, over⟩ lv nv sv)) := Lib.hid (fun W hW => R.keeps hW (by simp))
  have HN : Hid (∀ W, Keeps [] W0 W → Sl W 1 nv nodes.length (ints .i64 nodes)) := Lib.hid (fun W hW => hno0.but hW (by simp))
  obtain ⟨nb, no, nc, hnv, z1, hkn⟩ := hno.some (by omega)
  subst hnv
  have a1 := (k0.cell (p := ⟨nb, no, none⟩) z1 (by simp)).trans (show w.cell? ⟨nb, no, none⟩ = some (.int .i64 (nodes.getD 0 0)) from by have := hkn 0 _ (ints_at (k := .i64) h0); rw [Nat.add_zero] at this; exact this)
  obtain ⟨y0, hy⟩ : ∃ y, nodes.getD 0 0 = y := ⟨_, rfl⟩
  have hyb : 1 ≤ y0 ∧ y0 ≤ n := hin y0 (by rw [← hy, List.getD, List.getElem?_eq_getElem h0]; exact List.getElem_mem h0)
  rw [hy] at a1 ⊢
  have i1 : (0 : Int) < (nodes.length : Int) := by omega
  have HC1 := Lib.hid (fun W (hW : Keeps [] W0 W) => rkd (refNodeOf_any t W ut))
  obtain ⟨v1, hv1⟩ : ∃ v, quNode t = v := ⟨_, rfl⟩
  have hv1b : 0 ≤ v1 ∧ v1 < 4294967296 := by rw [← hv1]; exact quNode_nn _
  rw [hv1] at HC1 ⊢
  have HC2 := Lib.hid (fun W (hW : Keeps [] W0 W) => rkq (rwNext_any (p := p) at_ n v1 W ((HP.out W hW).cell (j := 0) rfl) ((HP.out W hW).cell (j := 1) rfl) hr hv1b.1 (by omega)))
  obtain ⟨v2, hv2⟩ : ∃ v, quNext at_ n v1 = v := ⟨_, rfl⟩
  rw [hv2] at HC2 ⊢
  have HC3 := Lib.hid (fun W (hW : Keeps [] W0 W) => rkd (rwRaise_any x y0 W ux (by omega) (by have := hr.2.1; omega)))
  obtain ⟨v3, hv3⟩ : ∃ v, arNext x y0 = v := ⟨_, rfl⟩
  rw [hv3] at HC3 ⊢
  have HC4 := Lib.hid (fun W (hW : Keeps [] W0 W) => rwCas_any v2 x v3 W)
  have HNX := Lib.hid (fun W => refNodeOf_any x W ux)
  rw [hx] at HNX
  have wa : IntKind.i64.wrap (at_ + 1) = at_ + 1 := IntWalk.i64_in _ (by have := hr.1; have := hr.2.1; have := hr.2.2.1; have := hr.2.2.2; omega)
  have c0 := R.cell (j := 0) rfl
  have c1 := R.cell (j := 1) rfl
  have c3 := R.cell (j := 3) rfl
  have c4 := R.cell (j := 4) rfl
  have c5 := R.cell (j := 5) rfl
  have c6 := R.cell (j := 6) rfl
  have c8 := R.cell (j := 8) rfl
  have c9 := R.cell (j := 9) rfl
  have c10 := R.cell (j := 10) rfl
  have HQ : Hid (∀ W S, Keeps S W0 W → p ∉ S → nb ∉ S → W.cell? ⟨p, 0, none⟩ = some (.int .i64 at_) ∧ W.cell? ⟨p, 1, none⟩ = some (.int .i64 n) ∧ W.cell? ⟨p, 3, none⟩ = some (lv) ∧ W.cell? ⟨p, 4, none⟩ = some (.slice (some ⟨nb, no, none⟩) nodes.length nc) ∧ W.cell? ⟨p, 5, none⟩ = some (.int .i64 (k : Int)) ∧ W.cell? ⟨p, 8, none⟩ = some (.int .u64 hh) ∧ W.cell? ⟨p, 9, none⟩ = some (.int .u64 t) ∧ W.cell? ⟨p, 10, none⟩ = some (.int .u64 x) ∧ W.cell? ⟨nb, no, none⟩ = some (.int .i64 y0)) := Lib.hid (fun W S hk g0 g1 => by
    have hh := R.keeps hk g0
    exact ⟨hh.cell (j := 0) rfl, hh.cell (j := 1) rfl, hh.cell (j := 3) rfl, hh.cell (j := 4) rfl, hh.cell (j := 5) rfl, hh.cell (j := 8) rfl, hh.cell (j := 9) rfl, hh.cell (j := 10) rfl, (hk.cell (p := ⟨nb, no, none⟩) (Nat.lt_of_lt_of_le z1 k0.size) g1).trans a1⟩)
  have HR0 := Lib.hid r0
  have HK0 := Lib.hid k0
  have hk0 : Keeps [] W0 W0.drew := (Keeps.refl _ _).drew
  clear hrow hno hta hno0 hta0 R r0 k0 hin hr hkn hy
  go_enter Tryz.func79, Tryz.ntmps79
  go_wp2_with fail
  refine (HNX.out _).mono ?_
  rintro e w' ⟨rfl, rfl⟩
  go_wp2_with fail
  go_region_held3 (fun w' => w'.cell? ⟨p, 0, none⟩ = some (.int .i64 at_) ∧ w'.cell? ⟨p, 1, none⟩ = some (.int .i64 n) ∧ w'.cell? ⟨p, 3, none⟩ = some (lv) ∧ w'.cell? ⟨p, 4, none⟩ = some (.slice (some ⟨nb, no, none⟩) nodes.length nc) ∧ w'.cell? ⟨p, 5, none⟩ = some (.int .i64 (k : Int)) ∧ w'.cell? ⟨p, 8, none⟩ = some (.int .u64 hh) ∧ w'.cell? ⟨p, 9, none⟩ = some (.int .u64 t) ∧ w'.cell? ⟨p, 10, none⟩ = some (.int .u64 x) ∧ w'.cell? ⟨nb, no, none⟩ = some (.int .i64 y0))
    (first
      | exact HQ.out _ [w.heap.size] ((((((hk4.mono (by simp)).set (by simp) _ _).set (by simp) _ _).set (by simp) _ _).set (by simp) _ _)) (by simp; omega) (by simp; omega)
      | exact HQ.out _ _ hk4 (by simp) (by simp)
      | exact HQ.out _ _ hk3 (by simp) (by simp)
      | exact HQ.out _ _ hk2 (by simp) (by simp)
      | exact HQ.out _ _ hk1 (by simp) (by simp)
      | exact HQ.out _ _ hk0 (by simp) (by simp)
      | exact ⟨by assumption, by assumption, by assumption, by assumption, by assumption, by assumption, by assumption, by assumption, by assumption⟩
      | fail)
    (first
      | (have _ := hk3; go_at_call 129; refine (HC4.out _ hk3).mono ?_; rintro e w4 ⟨rfl, k4⟩; have hk4 : Keeps [] W0 w4 := hk3.trans k4; have hr4 := HR0.out.keeps hk4 (by simp); have p0 := hr4.cell (j := 0) rfl; have p1 := hr4.cell (j := 1) rfl; have p2 := hr4.cell (j := 2) rfl; have p3 := hr4.cell (j := 3) rfl; have f0 := hr4.frozen 0; have f1 := hr4.frozen 1; have f2 := hr4.frozen 2; have f3 := hr4.frozen 3; have hl1 := hr4.lt)
      | (have _ := hk2; go_at_call 126; refine (HC3.out _ hk2).mono ?_; rintro e w3 ⟨rfl, k3⟩; have hk3 : Keeps [] W0 w3 := hk2.trans k3)
      | (have _ := hk1; go_at_call 125; refine (HC2.out _ hk1).mono ?_; rintro e w2 ⟨rfl, k2⟩; have hk2 : Keeps [] W0 w2 := hk1.trans k2)
      | (have _ := hk0; go_at_call 128; refine (HC1.out _ hk0).mono ?_; rintro e w1 ⟨rfl, k1⟩; have hk1 : Keeps [] W0 w1 := hk0.trans k1)
      | fail)
  all_goals (have HK1 := Lib.hid (HK0.out.trans hk4))
  all_goals (try go_wp2)
  all_goals (refine bodyPost_ret (v := .agg #[.int .i64 3, .int .i64 v2, .int .u64 x, .int .u64 v3]) (by simp [results, Tryz.results79, go_sem, p0, p1, p2, p3]) rfl ⟨rfl, ?_⟩)
  all_goals exact HK1.out.step (S := [w.heap.size]) (((((Keeps.refl _ _).set (by simp) _ _).set (by simp) _ _).set (by simp) _ _).set (by simp) _ _) (by simp)

set_option maxHeartbeats 3200000 in
theorem rw_p6b (s : QuS) (h : RwPut w p lv nv sv s) (hs : s.step = 6) (hx : quNode s.x ≠ 0) :
    Calls Tryz.prog 79 #[.pointer (some ⟨p, 0, none⟩)] w fun e w' => e = .returned (.agg #[.int .i64 3, .int .i64 (s.at_ + 1), .int .u64 s.t, .int .u64 (arNext s.t (quNode s.x))]) ∧ Keeps [] w w' := by
  obtain ⟨hrow, hno, hta, hr, uh, ut, ux, hin, hfew, hk3⟩ := h
  obtain ⟨at_, n, puts, l, nodes, k, step, sub, hh, t, x, vv, code, inn, over⟩ := s
  simp only at *
  subst hs
  obtain ⟨W0, hW0⟩ : ∃ W0, w.alloc (.cells #[.int .i64 0, .int .i64 0, .int .u64 0, .int .u64 0] 60) = W0 := ⟨_, rfl⟩
  have k0 : Keeps [] w W0 := by rw [← hW0]; exact (Keeps.refl _ _).alloc _
  have r0 : Row W0 w.heap.size 60 [.int .i64 0, .int .i64 0, .int .u64 0, .int .u64 0] := by rw [← hW0]; exact Row.new _ _ _
  have hplt := hrow.lt
  have R := hrow.keeps k0 (by simp)
  have hno0 := hno.but k0 (by simp)
  have hta0 := hta.but k0 (by simp)
  have HP : Hid (∀ W, Keeps [] W0 W → Row W p 85 (quCells ⟨at_, n, puts, l, nodes, k, 6, sub, hh, t, x, vv, code, inn, over⟩ lv nv sv)) := Lib.hid (fun W hW => R.keeps hW (by simp))
  have HN : Hid (∀ W, Keeps [] W0 W → Sl W 1 nv nodes.length (ints .i64 nodes)) := Lib.hid (fun W hW => hno0.but hW (by simp))
  have HC1 := Lib.hid (fun W (hW : Keeps [] W0 W) => rkd (refNodeOf_any x W ux))
  obtain ⟨v1, hv1⟩ : ∃ v, quNode x = v := ⟨_, rfl⟩
  have hv1b : 0 ≤ v1 ∧ v1 < 4294967296 := by rw [← hv1]; exact quNode_nn _
  rw [hv1] at HC1 ⊢
  have HC2 := Lib.hid (fun W (hW : Keeps [] W0 W) => rkd (rwRaise_any t v1 W ut hv1b.1 hv1b.2))
  obtain ⟨v2, hv2⟩ : ∃ v, arNext t v1 = v := ⟨_, rfl⟩
  rw [hv2] at HC2 ⊢
  have HC3 := Lib.hid (fun W (hW : Keeps [] W0 W) => rwCas_any (at_ + 1) t v2 W)
  have HNX := Lib.hid (fun W => refNodeOf_any x W ux)
  obtain ⟨nx, hnx⟩ : ∃ v, quNode x = v := ⟨_, rfl⟩
  rw [hnx] at HNX
  have hx0 : (nx == 0) = false := by simp; rw [← hnx]; exact hx
  have wa : IntKind.i64.wrap (at_ + 1) = at_ + 1 := IntWalk.i64_in _ (by have := hr.1; have := hr.2.1; have := hr.2.2.1; have := hr.2.2.2; omega)
  have c0 := R.cell (j := 0) rfl
  have c1 := R.cell (j := 1) rfl
  have c3 := R.cell (j := 3) rfl
  have c4 := R.cell (j := 4) rfl
  have c5 := R.cell (j := 5) rfl
  have c6 := R.cell (j := 6) rfl
  have c8 := R.cell (j := 8) rfl
  have c9 := R.cell (j := 9) rfl
  have c10 := R.cell (j := 10) rfl
  have HQ : Hid (∀ W S, Keeps S W0 W → p ∉ S → W.cell? ⟨p, 0, none⟩ = some (.int .i64 at_) ∧ W.cell? ⟨p, 1, none⟩ = some (.int .i64 n) ∧ W.cell? ⟨p, 3, none⟩ = some (lv) ∧ W.cell? ⟨p, 4, none⟩ = some (nv) ∧ W.cell? ⟨p, 5, none⟩ = some (.int .i64 (k : Int)) ∧ W.cell? ⟨p, 8, none⟩ = some (.int .u64 hh) ∧ W.cell? ⟨p, 9, none⟩ = some (.int .u64 t) ∧ W.cell? ⟨p, 10, none⟩ = some (.int .u64 x)) := Lib.hid (fun W S hk g0 => by
    have hh := R.keeps hk g0
    exact ⟨hh.cell (j := 0) rfl, hh.cell (j := 1) rfl, hh.cell (j := 3) rfl, hh.cell (j := 4) rfl, hh.cell (j := 5) rfl, hh.cell (j := 8) rfl, hh.cell (j := 9) rfl, hh.cell (j := 10) rfl⟩)
  have HR0 := Lib.hid r0
  have HK0 := Lib.hid k0
  have hk0 : Keeps [] W0 W0.drew := (Keeps.refl _ _).drew
  clear hrow hno hta hno0 hta0 R r0 k0 hin hr
  go_enter Tryz.func79, Tryz.ntmps79
  go_wp2_with fail
  refine (HNX.out _).mono ?_
  rintro e w' ⟨rfl, rfl⟩
  go_wp2_with fail
  go_region_held3 (fun w' => w'.cell? ⟨p, 0, none⟩ = some (.int .i64 at_) ∧ w'.cell? ⟨p, 1, none⟩ = some (.int .i64 n) ∧ w'.cell? ⟨p, 3, none⟩ = some (lv) ∧ w'.cell? ⟨p, 4, none⟩ = some (nv) ∧ w'.cell? ⟨p, 5, none⟩ = some (.int .i64 (k : Int)) ∧ w'.cell? ⟨p, 8, none⟩ = some (.int .u64 hh) ∧ w'.cell? ⟨p, 9, none⟩ = some (.int .u64 t) ∧ w'.cell? ⟨p, 10, none⟩ = some (.int .u64 x))
    (first
      | exact HQ.out _ [w.heap.size] ((((((hk3.mono (by simp)).set (by simp) _ _).set (by simp) _ _).set (by simp) _ _).set (by simp) _ _)) (by simp; omega)
      | exact HQ.out _ _ hk3 (by simp)
      | exact HQ.out _ _ hk2 (by simp)
      | exact HQ.out _ _ hk1 (by simp)
      | exact HQ.out _ _ hk0 (by simp)
      | exact ⟨by assumption, by assumption, by assumption, by assumption, by assumption, by assumption, by assumption, by assumption⟩
      | fail)
    (first
      | (have _ := hk2; go_at_call 129; refine (HC3.out _ hk2).mono ?_; rintro e w3 ⟨rfl, k3⟩; have hk3 : Keeps [] W0 w3 := hk2.trans k3; have hr3 := HR0.out.keeps hk3 (by simp); have p0 := hr3.cell (j := 0) rfl; have p1 := hr3.cell (j := 1) rfl; have p2 := hr3.cell (j := 2) rfl; have p3 := hr3.cell (j := 3) rfl; have f0 := hr3.frozen 0; have f1 := hr3.frozen 1; have f2 := hr3.frozen 2; have f3 := hr3.frozen 3; have hl1 := hr3.lt)
      | (have _ := hk1; go_at_call 126; refine (HC2.out _ hk1).mono ?_; rintro e w2 ⟨rfl, k2⟩; have hk2 : Keeps [] W0 w2 := hk1.trans k2)
      | (have _ := hk0; go_at_call 128; refine (HC1.out _ hk0).mono ?_; rintro e w1 ⟨rfl, k1⟩; have hk1 : Keeps [] W0 w1 := hk0.trans k1)
      | fail)
  all_goals (have HK1 := Lib.hid (HK0.out.trans hk3))
  all_goals (try go_wp2)
  all_goals (refine bodyPost_ret (v := .agg #[.int .i64 3, .int .i64 (at_ + 1), .int .u64 t, .int .u64 v2]) (by simp [results, Tryz.results79, go_sem, p0, p1, p2, p3]) rfl ⟨rfl, ?_⟩)
  all_goals exact HK1.out.step (S := [w.heap.size]) (((((Keeps.refl _ _).set (by simp) _ _).set (by simp) _ _).set (by simp) _ _).set (by simp) _ _) (by simp)

set_option maxHeartbeats 3200000 in
theorem rw_p7 (s : QuS) (h : RwPut w p lv nv sv s) (hs : s.step = 7) (h0 : 0 < s.nodes.length) :
    Calls Tryz.prog 79 #[.pointer (some ⟨p, 0, none⟩)] w fun e w' => e = .returned (.agg #[.int .i64 3, .int .i64 (s.at_ + 1), .int .u64 s.t, .int .u64 (arNext s.t (s.nodes.getD (s.nodes.length - 1) 0))]) ∧ Keeps [] w w' := by
  obtain ⟨hrow, hno, hta, hr, uh, ut, ux, hin, hfew, hk3⟩ := h
  obtain ⟨at_, n, puts, l, nodes, k, step, sub, hh, t, x, vv, code, inn, over⟩ := s
  simp only at *
  subst hs
  obtain ⟨W0, hW0⟩ : ∃ W0, w.alloc (.cells #[.int .i64 0, .int .i64 0, .int .u64 0, .int .u64 0] 60) = W0 := ⟨_, rfl⟩
  have k0 : Keeps [] w W0 := by rw [← hW0]; exact (Keeps.refl _ _).alloc _
  have r0 : Row W0 w.heap.size 60 [.int .i64 0, .int .i64 0, .int .u64 0, .int .u64 0] := by rw [← hW0]; exact Row.new _ _ _
  have hplt := hrow.lt
  have R := hrow.keeps k0 (by simp)
  have hno0 := hno.but k0 (by simp)
  have hta0 := hta.but k0 (by simp)
  have HP : Hid (∀ W, Keeps [] W0 W → Row W p 85 (quCells ⟨at_, n, puts, l, nodes, k, 7, sub, hh, t, x, vv, code, inn, over⟩ lv nv sv)) := Lib.hid (fun W hW => R.keeps hW (by simp))
  have HN : Hid (∀ W, Keeps [] W0 W → Sl W 1 nv nodes.length (ints .i64 nodes)) := Lib.hid (fun W hW => hno0.but hW (by simp))
  obtain ⟨nb, no, nc, hnv, z1, hkn⟩ := hno.some (by omega)
  subst hnv
  have a1 := (k0.cell (p := ⟨nb, no + (nodes.length - 1), none⟩) z1 (by simp)).trans (hkn (nodes.length - 1) _ (ints_at (k := .i64) (by omega)))
  obtain ⟨ye, hy⟩ : ∃ y, nodes.getD (nodes.length - 1) 0 = y := ⟨_, rfl⟩
  have hyb : 1 ≤ ye ∧ ye ≤ n := hin ye (by rw [← hy, List.getD, List.getElem?_eq_getElem (show nodes.length - 1 < nodes.length by omega)]; exact List.getElem_mem _)
  rw [hy] at a1 ⊢
  have i0 : (0 : Int) ≤ (nodes.length : Int) - 1 := by omega
  have i1 : (nodes.length : Int) - 1 < (nodes.length : Int) := by omega
  have i2 : ((nodes.length : Int) - 1).toNat = nodes.length - 1 := by omega
  have i3 : (1 : Int) ≤ (nodes.length : Int) := by omega
  have i4 : 1 ≤ nodes.length := by omega
  have i5 : ¬ nodes.length = 0 := by omega
  have i6 : nodes ≠ [] := by intro h; rw [h] at h0; simp at h0
  have iw : IntKind.i64.wrap ((nodes.length : Int) - 1) = (nodes.length : Int) - 1 := IntWalk.i64_in _ (by omega)
  have HC1 := Lib.hid (fun W (hW : Keeps [] W0 W) => rkd (rwRaise_any t ye W ut (by omega) (by have := hr.2.1; omega)))
  obtain ⟨v1, hv1⟩ : ∃ v, arNext t ye = v := ⟨_, rfl⟩
  rw [hv1] at HC1 ⊢
  have HC2 := Lib.hid (fun W (hW : Keeps [] W0 W) => rwCas_any (at_ + 1) t v1 W)
  have wa : IntKind.i64.wrap (at_ + 1) = at_ + 1 := IntWalk.i64_in _ (by have := hr.1; have := hr.2.1; have := hr.2.2.1; have := hr.2.2.2; omega)
  have c0 := R.cell (j := 0) rfl
  have c1 := R.cell (j := 1) rfl
  have c3 := R.cell (j := 3) rfl
  have c4 := R.cell (j := 4) rfl
  have c5 := R.cell (j := 5) rfl
  have c6 := R.cell (j := 6) rfl
  have c8 := R.cell (j := 8) rfl
  have c9 := R.cell (j := 9) rfl
  have c10 := R.cell (j := 10) rfl
  have HQ : Hid (∀ W S, Keeps S W0 W → p ∉ S → nb ∉ S → W.cell? ⟨p, 0, none⟩ = some (.int .i64 at_) ∧ W.cell? ⟨p, 1, none⟩ = some (.int .i64 n) ∧ W.cell? ⟨p, 3, none⟩ = some (lv) ∧ W.cell? ⟨p, 4, none⟩ = some (.slice (some ⟨nb, no, none⟩) nodes.length nc) ∧ W.cell? ⟨p, 5, none⟩ = some (.int .i64 (k : Int)) ∧ W.cell? ⟨p, 8, none⟩ = some (.int .u64 hh) ∧ W.cell? ⟨p, 9, none⟩ = some (.int .u64 t) ∧ W.cell? ⟨p, 10, none⟩ = some (.int .u64 x) ∧ W.cell? ⟨nb, no + (nodes.length - 1), none⟩ = some (.int .i64 ye)) := Lib.hid (fun W S hk g0 g1 => by
    have hh := R.keeps hk g0
    exact ⟨hh.cell (j := 0) rfl, hh.cell (j := 1) rfl, hh.cell (j := 3) rfl, hh.cell (j := 4) rfl, hh.cell (j := 5) rfl, hh.cell (j := 8) rfl, hh.cell (j := 9) rfl, hh.cell (j := 10) rfl, (hk.cell (p := ⟨nb, no + (nodes.length - 1), none⟩) (Nat.lt_of_lt_of_le z1 k0.size) g1).trans a1⟩)
  have HR0 := Lib.hid r0
  have HK0 := Lib.hid k0
  have hk0 : Keeps [] W0 W0.drew := (Keeps.refl _ _).drew
  clear hrow hno hta hno0 hta0 R r0 k0 hin hr hkn hy
  go_enter Tryz.func79, Tryz.ntmps79
  go_wp2_with fail
  go_region_held3 (fun w' => w'.cell? ⟨p, 0, none⟩ = some (.int .i64 at_) ∧ w'.cell? ⟨p, 1, none⟩ = some (.int .i64 n) ∧ w'.cell? ⟨p, 3, none⟩ = some (lv) ∧ w'.cell? ⟨p, 4, none⟩ = some (.slice (some ⟨nb, no, none⟩) nodes.length nc) ∧ w'.cell? ⟨p, 5, none⟩ = some (.int .i64 (k : Int)) ∧ w'.cell? ⟨p, 8, none⟩ = some (.int .u64 hh) ∧ w'.cell? ⟨p, 9, none⟩ = some (.int .u64 t) ∧ w'.cell? ⟨p, 10, none⟩ = some (.int .u64 x) ∧ w'.cell? ⟨nb, no + (nodes.length - 1), none⟩ = some (.int .i64 ye))
    (first
      | exact HQ.out _ [w.heap.size] ((((((hk2.mono (by simp)).set (by simp) _ _).set (by simp) _ _).set (by simp) _ _).set (by simp) _ _)) (by simp; omega) (by simp; omega)
      | exact HQ.out _ _ hk2 (by simp) (by simp)
      | exact HQ.out _ _ hk1 (by simp) (by simp)
      | exact HQ.out _ _ hk0 (by simp) (by simp)
      | exact ⟨by assumption, by assumption, by assumption, by assumption, by assumption, by assumption, by assumption, by assumption, by assumption⟩
      | fail)
    (first
      | (have _ := hk1; go_at_call 129; refine (HC2.out _ hk1).mono ?_; rintro e w2 ⟨rfl, k2⟩; have hk2 : Keeps [] W0 w2 := hk1.trans k2; have hr2 := HR0.out.keeps hk2 (by simp); have p0 := hr2.cell (j := 0) rfl; have p1 := hr2.cell (j := 1) rfl; have p2 := hr2.cell (j := 2) rfl; have p3 := hr2.cell (j := 3) rfl; have f0 := hr2.frozen 0; have f1 := hr2.frozen 1; have f2 := hr2.frozen 2; have f3 := hr2.frozen 3; have hl1 := hr2.lt)
      | (have _ := hk0; go_at_call 126; refine (HC1.out _ hk0).mono ?_; rintro e w1 ⟨rfl, k1⟩; have hk1 : Keeps [] W0 w1 := hk0.trans k1)
      | fail)
  all_goals (have HK1 := Lib.hid (HK0.out.trans hk2))
  all_goals (try go_wp2)
  all_goals (refine bodyPost_ret (v := .agg #[.int .i64 3, .int .i64 (at_ + 1), .int .u64 t, .int .u64 v1]) (by simp [results, Tryz.results79, go_sem, p0, p1, p2, p3]) rfl ⟨rfl, ?_⟩)
  all_goals exact HK1.out.step (S := [w.heap.size]) (((((Keeps.refl _ _).set (by simp) _ _).set (by simp) _ _).set (by simp) _ _).set (by simp) _ _) (by simp)

set_option maxHeartbeats 3200000 in
theorem rw_t1 (s : QuS) (h : RwPut w p lv nv sv s) (hs : s.step = 1)  :
    Calls Tryz.prog 80 #[.pointer (some ⟨p, 0, none⟩)] w fun e w' => e = .returned (.agg #[.int .i64 1, .int .i64 s.at_, .int .u64 0, .int .u64 0]) ∧ Keeps [] w w' := by
  obtain ⟨hrow, hno, hta, hr, uh, ut, ux, hin, hfew, hk3⟩ := h
  obtain ⟨at_, n, puts, l, nodes, k, step, sub, hh, t, x, vv, code, inn, over⟩ := s
  simp only at *
  subst hs
  obtain ⟨W0, hW0⟩ : ∃ W0, w.alloc (.cells #[.int .i64 0, .int .i64 0, .int .u64 0, .int .u64 0] 60) = W0 := ⟨_, rfl⟩
  have k0 : Keeps [] w W0 := by rw [← hW0]; exact (Keeps.refl _ _).alloc _
  have r0 : Row W0 w.heap.size 60 [.int .i64 0, .int .i64 0, .int .u64 0, .int .u64 0] := by rw [← hW0]; exact Row.new _ _ _
  have hplt := hrow.lt
  have R := hrow.keeps k0 (by simp)
  have hno0 := hno.but k0 (by simp)
  have hta0 := hta.but k0 (by simp)
  have HP : Hid (∀ W, Keeps [] W0 W → Row W p 85 (quCells ⟨at_, n, puts, l, nodes, k, 1, sub, hh, t, x, vv, code, inn, over⟩ lv nv sv)) := Lib.hid (fun W hW => R.keeps hW (by simp))
  have HN : Hid (∀ W, Keeps [] W0 W → Sl W 1 nv nodes.length (ints .i64 nodes)) := Lib.hid (fun W hW => hno0.but hW (by simp))
  have HC1 := Lib.hid (fun W (hW : Keeps [] W0 W) => rwLoad_any at_ W)
  have wa : IntKind.i64.wrap (at_ + 1) = at_ + 1 := IntWalk.i64_in _ (by have := hr.1; have := hr.2.1; have := hr.2.2.1; have := hr.2.2.2; omega)
  have c0 := R.cell (j := 0) rfl
  have c1 := R.cell (j := 1) rfl
  have c3 := R.cell (j := 3) rfl
  have c4 := R.cell (j := 4) rfl
  have c5 := R.cell (j := 5) rfl
  have c6 := R.cell (j := 6) rfl
  have c8 := R.cell (j := 8) rfl
  have c9 := R.cell (j := 9) rfl
  have c10 := R.cell (j := 10) rfl
  have HQ : Hid (∀ W S, Keeps S W0 W → p ∉ S → W.cell? ⟨p, 0, none⟩ = some (.int .i64 at_) ∧ W.cell? ⟨p, 1, none⟩ = some (.int .i64 n) ∧ W.cell? ⟨p, 3, none⟩ = some (lv) ∧ W.cell? ⟨p, 4, none⟩ = some (nv) ∧ W.cell? ⟨p, 5, none⟩ = some (.int .i64 (k : Int)) ∧ W.cell? ⟨p, 8, none⟩ = some (.int .u64 hh) ∧ W.cell? ⟨p, 9, none⟩ = some (.int .u64 t) ∧ W.cell? ⟨p, 10, none⟩ = some (.int .u64 x)) := Lib.hid (fun W S hk g0 => by
    have hh := R.keeps hk g0
    exact ⟨hh.cell (j := 0) rfl, hh.cell (j := 1) rfl, hh.cell (j := 3) rfl, hh.cell (j := 4) rfl, hh.cell (j := 5) rfl, hh.cell (j := 8) rfl, hh.cell (j := 9) rfl, hh.cell (j := 10) rfl⟩)
  have HR0 := Lib.hid r0
  have HK0 := Lib.hid k0
  have hk0 : Keeps [] W0 W0.drew := (Keeps.refl _ _).drew
  clear hrow hno hta hno0 hta0 R r0 k0 hin hr
  go_enter Tryz.func80, Tryz.ntmps80
  go_wp2_with fail
  refine (HC1.out _ (Keeps.refl _ _)).mono ?_
  rintro e w1 ⟨rfl, hk1⟩
  have hr1 := HR0.out.keeps hk1 (by simp)
  have p0 := hr1.cell (j := 0) rfl
  have p1 := hr1.cell (j := 1) rfl
  have p2 := hr1.cell (j := 2) rfl
  have p3 := hr1.cell (j := 3) rfl
  have f0 := hr1.frozen 0
  have f1 := hr1.frozen 1
  have f2 := hr1.frozen 2
  have f3 := hr1.frozen 3
  have hl1 := hr1.lt
  all_goals (have HK1 := Lib.hid (HK0.out.trans hk1))
  all_goals (try go_wp2)
  all_goals (refine bodyPost_ret (v := .agg #[.int .i64 1, .int .i64 at_, .int .u64 0, .int .u64 0]) (by simp [results, Tryz.results80, go_sem, p0, p1, p2, p3]) rfl ⟨rfl, ?_⟩)
  all_goals exact HK1.out.step (S := [w.heap.size]) (((((Keeps.refl _ _).set (by simp) _ _).set (by simp) _ _).set (by simp) _ _).set (by simp) _ _) (by simp)

set_option maxHeartbeats 3200000 in
theorem rw_t4 (s : QuS) (h : RwPut w p lv nv sv s) (hs : s.step = 4)  :
    Calls Tryz.prog 80 #[.pointer (some ⟨p, 0, none⟩)] w fun e w' => e = .returned (.agg #[.int .i64 1, .int .i64 s.at_, .int .u64 0, .int .u64 0]) ∧ Keeps [] w w' := by
  obtain ⟨hrow, hno, hta, hr, uh, ut, ux, hin, hfew, hk3⟩ := h
  obtain ⟨at_, n, puts, l, nodes, k, step, sub, hh, t, x, vv, code, inn, over⟩ := s
  simp only at *
  subst hs
  obtain ⟨W0, hW0⟩ : ∃ W0, w.alloc (.cells #[.int .i64 0, .int .i64 0, .int .u64 0, .int .u64 0] 60) = W0 := ⟨_, rfl⟩
  have k0 : Keeps [] w W0 := by rw [← hW0]; exact (Keeps.refl _ _).alloc _
  have r0 : Row W0 w.heap.size 60 [.int .i64 0, .int .i64 0, .int .u64 0, .int .u64 0] := by rw [← hW0]; exact Row.new _ _ _
  have hplt := hrow.lt
  have R := hrow.keeps k0 (by simp)
  have hno0 := hno.but k0 (by simp)
  have hta0 := hta.but k0 (by simp)
  have HP : Hid (∀ W, Keeps [] W0 W → Row W p 85 (quCells ⟨at_, n, puts, l, nodes, k, 4, sub, hh, t, x, vv, code, inn, over⟩ lv nv sv)) := Lib.hid (fun W hW => R.keeps hW (by simp))
  have HN : Hid (∀ W, Keeps [] W0 W → Sl W 1 nv nodes.length (ints .i64 nodes)) := Lib.hid (fun W hW => hno0.but hW (by simp))
  have HC1 := Lib.hid (fun W (hW : Keeps [] W0 W) => rwLoad_any at_ W)
  have wa : IntKind.i64.wrap (at_ + 1) = at_ + 1 := IntWalk.i64_in _ (by have := hr.1; have := hr.2.1; have := hr.2.2.1; have := hr.2.2.2; omega)
  have c0 := R.cell (j := 0) rfl
  have c1 := R.cell (j := 1) rfl
  have c3 := R.cell (j := 3) rfl
  have c4 := R.cell (j := 4) rfl
  have c5 := R.cell (j := 5) rfl
  have c6 := R.cell (j := 6) rfl
  have c8 := R.cell (j := 8) rfl
  have c9 := R.cell (j := 9) rfl
  have c10 := R.cell (j := 10) rfl
  have HQ : Hid (∀ W S, Keeps S W0 W → p ∉ S → W.cell? ⟨p, 0, none⟩ = some (.int .i64 at_) ∧ W.cell? ⟨p, 1, none⟩ = some (.int .i64 n) ∧ W.cell? ⟨p, 3, none⟩ = some (lv) ∧ W.cell? ⟨p, 4, none⟩ = some (nv) ∧ W.cell? ⟨p, 5, none⟩ = some (.int .i64 (k : Int)) ∧ W.cell? ⟨p, 8, none⟩ = some (.int .u64 hh) ∧ W.cell? ⟨p, 9, none⟩ = some (.int .u64 t) ∧ W.cell? ⟨p, 10, none⟩ = some (.int .u64 x)) := Lib.hid (fun W S hk g0 => by
    have hh := R.keeps hk g0
    exact ⟨hh.cell (j := 0) rfl, hh.cell (j := 1) rfl, hh.cell (j := 3) rfl, hh.cell (j := 4) rfl, hh.cell (j := 5) rfl, hh.cell (j := 8) rfl, hh.cell (j := 9) rfl, hh.cell (j := 10) rfl⟩)
  have HR0 := Lib.hid r0
  have HK0 := Lib.hid k0
  have hk0 : Keeps [] W0 W0.drew := (Keeps.refl _ _).drew
  clear hrow hno hta hno0 hta0 R r0 k0 hin hr
  go_enter Tryz.func80, Tryz.ntmps80
  go_wp2_with fail
  refine (HC1.out _ (Keeps.refl _ _)).mono ?_
  rintro e w1 ⟨rfl, hk1⟩
  have hr1 := HR0.out.keeps hk1 (by simp)
  have p0 := hr1.cell (j := 0) rfl
  have p1 := hr1.cell (j := 1) rfl
  have p2 := hr1.cell (j := 2) rfl
  have p3 := hr1.cell (j := 3) rfl
  have f0 := hr1.frozen 0
  have f1 := hr1.frozen 1
  have f2 := hr1.frozen 2
  have f3 := hr1.frozen 3
  have hl1 := hr1.lt
  all_goals (have HK1 := Lib.hid (HK0.out.trans hk1))
  all_goals (try go_wp2)
  all_goals (refine bodyPost_ret (v := .agg #[.int .i64 1, .int .i64 at_, .int .u64 0, .int .u64 0]) (by simp [results, Tryz.results80, go_sem, p0, p1, p2, p3]) rfl ⟨rfl, ?_⟩)
  all_goals exact HK1.out.step (S := [w.heap.size]) (((((Keeps.refl _ _).set (by simp) _ _).set (by simp) _ _).set (by simp) _ _).set (by simp) _ _) (by simp)

set_option maxHeartbeats 3200000 in
theorem rw_t2 (s : QuS) (h : RwPut w p lv nv sv s) (hs : s.step = 2)  :
    Calls Tryz.prog 80 #[.pointer (some ⟨p, 0, none⟩)] w fun e w' => e = .returned (.agg #[.int .i64 1, .int .i64 (s.at_ + 1), .int .u64 0, .int .u64 0]) ∧ Keeps [] w w' := by
  obtain ⟨hrow, hno, hta, hr, uh, ut, ux, hin, hfew, hk3⟩ := h
  obtain ⟨at_, n, puts, l, nodes, k, step, sub, hh, t, x, vv, code, inn, over⟩ := s
  simp only at *
  subst hs
  obtain ⟨W0, hW0⟩ : ∃ W0, w.alloc (.cells #[.int .i64 0, .int .i64 0, .int .u64 0, .int .u64 0] 60) = W0 := ⟨_, rfl⟩
  have k0 : Keeps [] w W0 := by rw [← hW0]; exact (Keeps.refl _ _).alloc _
  have r0 : Row W0 w.heap.size 60 [.int .i64 0, .int .i64 0, .int .u64 0, .int .u64 0] := by rw [← hW0]; exact Row.new _ _ _
  have hplt := hrow.lt
  have R := hrow.keeps k0 (by simp)
  have hno0 := hno.but k0 (by simp)
  have hta0 := hta.but k0 (by simp)
  have HP : Hid (∀ W, Keeps [] W0 W → Row W p 85 (quCells ⟨at_, n, puts, l, nodes, k, 2, sub, hh, t, x, vv, code, inn, over⟩ lv nv sv)) := Lib.hid (fun W hW => R.keeps hW (by simp))
  have HN : Hid (∀ W, Keeps [] W0 W → Sl W 1 nv nodes.length (ints .i64 nodes)) := Lib.hid (fun W hW => hno0.but hW (by simp))
  have HC1 := Lib.hid (fun W (hW : Keeps [] W0 W) => rwLoad_any (at_ + 1) W)
  have wa : IntKind.i64.wrap (at_ + 1) = at_ + 1 := IntWalk.i64_in _ (by have := hr.1; have := hr.2.1; have := hr.2.2.1; have := hr.2.2.2; omega)
  have c0 := R.cell (j := 0) rfl
  have c1 := R.cell (j := 1) rfl
  have c3 := R.cell (j := 3) rfl
  have c4 := R.cell (j := 4) rfl
  have c5 := R.cell (j := 5) rfl
  have c6 := R.cell (j := 6) rfl
  have c8 := R.cell (j := 8) rfl
  have c9 := R.cell (j := 9) rfl
  have c10 := R.cell (j := 10) rfl
  have HQ : Hid (∀ W S, Keeps S W0 W → p ∉ S → W.cell? ⟨p, 0, none⟩ = some (.int .i64 at_) ∧ W.cell? ⟨p, 1, none⟩ = some (.int .i64 n) ∧ W.cell? ⟨p, 3, none⟩ = some (lv) ∧ W.cell? ⟨p, 4, none⟩ = some (nv) ∧ W.cell? ⟨p, 5, none⟩ = some (.int .i64 (k : Int)) ∧ W.cell? ⟨p, 8, none⟩ = some (.int .u64 hh) ∧ W.cell? ⟨p, 9, none⟩ = some (.int .u64 t) ∧ W.cell? ⟨p, 10, none⟩ = some (.int .u64 x)) := Lib.hid (fun W S hk g0 => by
    have hh := R.keeps hk g0
    exact ⟨hh.cell (j := 0) rfl, hh.cell (j := 1) rfl, hh.cell (j := 3) rfl, hh.cell (j := 4) rfl, hh.cell (j := 5) rfl, hh.cell (j := 8) rfl, hh.cell (j := 9) rfl, hh.cell (j := 10) rfl⟩)
  have HR0 := Lib.hid r0
  have HK0 := Lib.hid k0
  have hk0 : Keeps [] W0 W0.drew := (Keeps.refl _ _).drew
  clear hrow hno hta hno0 hta0 R r0 k0 hin hr
  go_enter Tryz.func80, Tryz.ntmps80
  go_wp2_with fail
  refine (HC1.out _ (Keeps.refl _ _)).mono ?_
  rintro e w1 ⟨rfl, hk1⟩
  have hr1 := HR0.out.keeps hk1 (by simp)
  have p0 := hr1.cell (j := 0) rfl
  have p1 := hr1.cell (j := 1) rfl
  have p2 := hr1.cell (j := 2) rfl
  have p3 := hr1.cell (j := 3) rfl
  have f0 := hr1.frozen 0
  have f1 := hr1.frozen 1
  have f2 := hr1.frozen 2
  have f3 := hr1.frozen 3
  have hl1 := hr1.lt
  all_goals (have HK1 := Lib.hid (HK0.out.trans hk1))
  all_goals (try go_wp2)
  all_goals (refine bodyPost_ret (v := .agg #[.int .i64 1, .int .i64 (at_ + 1), .int .u64 0, .int .u64 0]) (by simp [results, Tryz.results80, go_sem, p0, p1, p2, p3]) rfl ⟨rfl, ?_⟩)
  all_goals exact HK1.out.step (S := [w.heap.size]) (((((Keeps.refl _ _).set (by simp) _ _).set (by simp) _ _).set (by simp) _ _).set (by simp) _ _) (by simp)

set_option maxHeartbeats 3200000 in
theorem rw_t3 (s : QuS) (h : RwPut w p lv nv sv s) (hs : s.step = 3)  :
    Calls Tryz.prog 80 #[.pointer (some ⟨p, 0, none⟩)] w fun e w' => e = .returned (.agg #[.int .i64 1, .int .i64 (quNext s.at_ s.n (quNode s.h)), .int .u64 0, .int .u64 0]) ∧ Keeps [] w w' := by
  obtain ⟨hrow, hno, hta, hr, uh, ut, ux, hin, hfew, hk3⟩ := h
  obtain ⟨at_, n, puts, l, nodes, k, step, sub, hh, t, x, vv, code, inn, over⟩ := s
  simp only at *
  subst hs
  obtain ⟨W0, hW0⟩ : ∃ W0, w.alloc (.cells #[.int .i64 0, .int .i64 0, .int .u64 0, .int .u64 0] 60) = W0 := ⟨_, rfl⟩
  have k0 : Keeps [] w W0 := by rw [← hW0]; exact (Keeps.refl _ _).alloc _
  have r0 : Row W0 w.heap.size 60 [.int .i64 0, .int .i64 0, .int .u64 0, .int .u64 0] := by rw [← hW0]; exact Row.new _ _ _
  have hplt := hrow.lt
  have R := hrow.keeps k0 (by simp)
  have hno0 := hno.but k0 (by simp)
  have hta0 := hta.but k0 (by simp)
  have HP : Hid (∀ W, Keeps [] W0 W → Row W p 85 (quCells ⟨at_, n, puts, l, nodes, k, 3, sub, hh, t, x, vv, code, inn, over⟩ lv nv sv)) := Lib.hid (fun W hW => R.keeps hW (by simp))
  have HN : Hid (∀ W, Keeps [] W0 W → Sl W 1 nv nodes.length (ints .i64 nodes)) := Lib.hid (fun W hW => hno0.but hW (by simp))
  have HC1 := Lib.hid (fun W (hW : Keeps [] W0 W) => rkd (refNodeOf_any hh W uh))
  obtain ⟨v1, hv1⟩ : ∃ v, quNode hh = v := ⟨_, rfl⟩
  have hv1b : 0 ≤ v1 ∧ v1 < 4294967296 := by rw [← hv1]; exact quNode_nn _
  rw [hv1] at HC1 ⊢
  have HC2 := Lib.hid (fun W (hW : Keeps [] W0 W) => rkq (rwNext_any (p := p) at_ n v1 W ((HP.out W hW).cell (j := 0) rfl) ((HP.out W hW).cell (j := 1) rfl) hr hv1b.1 (by omega)))
  obtain ⟨v2, hv2⟩ : ∃ v, quNext at_ n v1 = v := ⟨_, rfl⟩
  rw [hv2] at HC2 ⊢
  have HC3 := Lib.hid (fun W (hW : Keeps [] W0 W) => rwLoad_any v2 W)
  have wa : IntKind.i64.wrap (at_ + 1) = at_ + 1 := IntWalk.i64_in _ (by have := hr.1; have := hr.2.1; have := hr.2.2.1; have := hr.2.2.2; omega)
  have c0 := R.cell (j := 0) rfl
  have c1 := R.cell (j := 1) rfl
  have c3 := R.cell (j := 3) rfl
  have c4 := R.cell (j := 4) rfl
  have c5 := R.cell (j := 5) rfl
  have c6 := R.cell (j := 6) rfl
  have c8 := R.cell (j := 8) rfl
  have c9 := R.cell (j := 9) rfl
  have c10 := R.cell (j := 10) rfl
  have HQ : Hid (∀ W S, Keeps S W0 W → p ∉ S → W.cell? ⟨p, 0, none⟩ = some (.int .i64 at_) ∧ W.cell? ⟨p, 1, none⟩ = some (.int .i64 n) ∧ W.cell? ⟨p, 3, none⟩ = some (lv) ∧ W.cell? ⟨p, 4, none⟩ = some (nv) ∧ W.cell? ⟨p, 5, none⟩ = some (.int .i64 (k : Int)) ∧ W.cell? ⟨p, 8, none⟩ = some (.int .u64 hh) ∧ W.cell? ⟨p, 9, none⟩ = some (.int .u64 t) ∧ W.cell? ⟨p, 10, none⟩ = some (.int .u64 x)) := Lib.hid (fun W S hk g0 => by
    have hh := R.keeps hk g0
    exact ⟨hh.cell (j := 0) rfl, hh.cell (j := 1) rfl, hh.cell (j := 3) rfl, hh.cell (j := 4) rfl, hh.cell (j := 5) rfl, hh.cell (j := 8) rfl, hh.cell (j := 9) rfl, hh.cell (j := 10) rfl⟩)
  have HR0 := Lib.hid r0
  have HK0 := Lib.hid k0
  have hk0 : Keeps [] W0 W0.drew := (Keeps.refl _ _).drew
  clear hrow hno hta hno0 hta0 R r0 k0 hin hr
  go_enter Tryz.func80, Tryz.ntmps80
  go_wp2_with fail
  refine (HC1.out _ (Keeps.refl _ _)).mono ?_
  rintro e w1 ⟨rfl, k1⟩
  have hk1 : Keeps [] W0 w1 := k1
  have hq1 := HQ.out _ _ hk1 (by simp)
  obtain ⟨x1_0, x1_1, x1_2, x1_3, x1_4, x1_5, x1_6, x1_7⟩ := hq1
  go_wp2_with fail
  refine (HC2.out _ hk1).mono ?_
  rintro e w2 ⟨rfl, k2⟩
  have hk2 : Keeps [] W0 w2 := hk1.trans k2
  have hq2 := HQ.out _ _ hk2 (by simp)
  obtain ⟨x2_0, x2_1, x2_2, x2_3, x2_4, x2_5, x2_6, x2_7⟩ := hq2
  go_wp2_with fail
  refine (HC3.out _ hk2).mono ?_
  rintro e w3 ⟨rfl, k3⟩
  have hk3 : Keeps [] W0 w3 := hk2.trans k3
  have hr3 := HR0.out.keeps hk3 (by simp)
  have p0 := hr3.cell (j := 0) rfl
  have p1 := hr3.cell (j := 1) rfl
  have p2 := hr3.cell (j := 2) rfl
  have p3 := hr3.cell (j := 3) rfl
  have f0 := hr3.frozen 0
  have f1 := hr3.frozen 1
  have f2 := hr3.frozen 2
  have f3 := hr3.frozen 3
  have hl1 := hr3.lt
  all_goals (have HK1 := Lib.hid (HK0.out.trans hk3))
  all_goals (try go_wp2)
  all_goals (refine bodyPost_ret (v := .agg #[.int .i64 1, .int .i64 v2, .int .u64 0, .int .u64 0]) (by simp [results, Tryz.results80, go_sem, p0, p1, p2, p3]) rfl ⟨rfl, ?_⟩)
  all_goals exact HK1.out.step (S := [w.heap.size]) (((((Keeps.refl _ _).set (by simp) _ _).set (by simp) _ _).set (by simp) _ _).set (by simp) _ _) (by simp)

set_option maxHeartbeats 3200000 in
theorem rw_t50 (s : QuS) (h : RwPut w p lv nv sv s) (hs : s.step = 50)  :
    Calls Tryz.prog 80 #[.pointer (some ⟨p, 0, none⟩)] w fun e w' => e = .returned (.agg #[.int .i64 3, .int .i64 (s.at_ + 1), .int .u64 s.t, .int .u64 (arNext s.t (quNode s.x))]) ∧ Keeps [] w w' := by
  obtain ⟨hrow, hno, hta, hr, uh, ut, ux, hin, hfew, hk3⟩ := h
  obtain ⟨at_, n, puts, l, nodes, k, step, sub, hh, t, x, vv, code, inn, over⟩ := s
  simp only at *
  subst hs
  obtain ⟨W0, hW0⟩ : ∃ W0, w.alloc (.cells #[.int .i64 0, .int .i64 0, .int .u64 0, .int .u64 0] 60) = W0 := ⟨_, rfl⟩
  have k0 : Keeps [] w W0 := by rw [← hW0]; exact (Keeps.refl _ _).alloc _
  have r0 : Row W0 w.heap.size 60 [.int .i64 0, .int .i64 0, .int .u64 0, .int .u64 0] := by rw [← hW0]; exact Row.new _ _ _
  have hplt := hrow.lt
  have R := hrow.keeps k0 (by simp)
  have hno0 := hno.but k0 (by simp)
  have hta0 := hta.but k0 (by simp)
  have HP : Hid (∀ W, Keeps [] W0 W → Row W p 85 (quCells ⟨at_, n, puts, l, nodes, k, 50, sub, hh, t, x, vv, code, inn, over⟩ lv nv sv)) := Lib.hid (fun W hW => R.keeps hW (by simp))
  have HN : Hid (∀ W, Keeps [] W0 W → Sl W 1 nv nodes.length (ints .i64 nodes)) := Lib.hid (fun W hW => hno0.but hW (by simp))
  have HC1 := Lib.hid (fun W (hW : Keeps [] W0 W) => rkd (refNodeOf_any x W ux))
  obtain ⟨v1, hv1⟩ : ∃ v, quNode x = v := ⟨_, rfl⟩
  have hv1b : 0 ≤ v1 ∧ v1 < 4294967296 := by rw [← hv1]; exact quNode_nn _
  rw [hv1] at HC1 ⊢
  have HC2 := Lib.hid (fun W (hW : Keeps [] W0 W) => rkd (rwRaise_any t v1 W ut hv1b.1 hv1b.2))
  obtain ⟨v2, hv2⟩ : ∃ v, arNext t v1 = v := ⟨_, rfl⟩
  rw [hv2] at HC2 ⊢
  have HC3 := Lib.hid (fun W (hW : Keeps [] W0 W) => rwCas_any (at_ + 1) t v2 W)
  have wa : IntKind.i64.wrap (at_ + 1) = at_ + 1 := IntWalk.i64_in _ (by have := hr.1; have := hr.2.1; have := hr.2.2.1; have := hr.2.2.2; omega)
  have c0 := R.cell (j := 0) rfl
  have c1 := R.cell (j := 1) rfl
  have c3 := R.cell (j := 3) rfl
  have c4 := R.cell (j := 4) rfl
  have c5 := R.cell (j := 5) rfl
  have c6 := R.cell (j := 6) rfl
  have c8 := R.cell (j := 8) rfl
  have c9 := R.cell (j := 9) rfl
  have c10 := R.cell (j := 10) rfl
  have HQ : Hid (∀ W S, Keeps S W0 W → p ∉ S → W.cell? ⟨p, 0, none⟩ = some (.int .i64 at_) ∧ W.cell? ⟨p, 1, none⟩ = some (.int .i64 n) ∧ W.cell? ⟨p, 3, none⟩ = some (lv) ∧ W.cell? ⟨p, 4, none⟩ = some (nv) ∧ W.cell? ⟨p, 5, none⟩ = some (.int .i64 (k : Int)) ∧ W.cell? ⟨p, 8, none⟩ = some (.int .u64 hh) ∧ W.cell? ⟨p, 9, none⟩ = some (.int .u64 t) ∧ W.cell? ⟨p, 10, none⟩ = some (.int .u64 x)) := Lib.hid (fun W S hk g0 => by
    have hh := R.keeps hk g0
    exact ⟨hh.cell (j := 0) rfl, hh.cell (j := 1) rfl, hh.cell (j := 3) rfl, hh.cell (j := 4) rfl, hh.cell (j := 5) rfl, hh.cell (j := 8) rfl, hh.cell (j := 9) rfl, hh.cell (j := 10) rfl⟩)
  have HR0 := Lib.hid r0
  have HK0 := Lib.hid k0
  have hk0 : Keeps [] W0 W0.drew := (Keeps.refl _ _).drew
  clear hrow hno hta hno0 hta0 R r0 k0 hin hr
  go_enter Tryz.func80, Tryz.ntmps80
  go_wp2_with fail
  go_region_held3 (fun w' => w'.cell? ⟨p, 0, none⟩ = some (.int .i64 at_) ∧ w'.cell? ⟨p, 1, none⟩ = some (.int .i64 n) ∧ w'.cell? ⟨p, 3, none⟩ = some (lv) ∧ w'.cell? ⟨p, 4, none⟩ = some (nv) ∧ w'.cell? ⟨p, 5, none⟩ = some (.int .i64 (k : Int)) ∧ w'.cell? ⟨p, 8, none⟩ = some (.int .u64 hh) ∧ w'.cell? ⟨p, 9, none⟩ = some (.int .u64 t) ∧ w'.cell? ⟨p, 10, none⟩ = some (.int .u64 x))
    (first
      | exact HQ.out _ [w.heap.size] ((((((hk3.mono (by simp)).set (by simp) _ _).set (by simp) _ _).set (by simp) _ _).set (by simp) _ _)) (by simp; omega)
      | exact HQ.out _ _ hk3 (by simp)
      | exact HQ.out _ _ hk2 (by simp)
      | exact HQ.out _ _ hk1 (by simp)
      | exact HQ.out _ _ hk0 (by simp)
      | exact ⟨by assumption, by assumption, by assumption, by assumption, by assumption, by assumption, by assumption, by assumption⟩
      | fail)
    (first
      | (have _ := hk2; go_at_call 129; refine (HC3.out _ hk2).mono ?_; rintro e w3 ⟨rfl, k3⟩; have hk3 : Keeps [] W0 w3 := hk2.trans k3; have hr3 := HR0.out.keeps hk3 (by simp); have p0 := hr3.cell (j := 0) rfl; have p1 := hr3.cell (j := 1) rfl; have p2 := hr3.cell (j := 2) rfl; have p3 := hr3.cell (j := 3) rfl; have f0 := hr3.frozen 0; have f1 := hr3.frozen 1; have f2 := hr3.frozen 2; have f3 := hr3.frozen 3; have hl1 := hr3.lt)
      | (have _ := hk1; go_at_call 126; refine (HC2.out _ hk1).mono ?_; rintro e w2 ⟨rfl, k2⟩; have hk2 : Keeps [] W0 w2 := hk1.trans k2)
      | (have _ := hk0; go_at_call 128; refine (HC1.out _ hk0).mono ?_; rintro e w1 ⟨rfl, k1⟩; have hk1 : Keeps [] W0 w1 := hk0.trans k1)
      | fail)
  all_goals (have HK1 := Lib.hid (HK0.out.trans hk3))
  all_goals (try go_wp2)
  all_goals (refine bodyPost_ret (v := .agg #[.int .i64 3, .int .i64 (at_ + 1), .int .u64 t, .int .u64 v2]) (by simp [results, Tryz.results80, go_sem, p0, p1, p2, p3]) rfl ⟨rfl, ?_⟩)
  all_goals exact HK1.out.step (S := [w.heap.size]) (((((Keeps.refl _ _).set (by simp) _ _).set (by simp) _ _).set (by simp) _ _).set (by simp) _ _) (by simp)

set_option maxHeartbeats 3200000 in
theorem rw_t5 (s : QuS) (h : RwPut w p lv nv sv s) (hs : s.step = 5)  :
    Calls Tryz.prog 80 #[.pointer (some ⟨p, 0, none⟩)] w fun e w' => e = .returned (.agg #[.int .i64 1, .int .i64 (quTask s.at_ s.n (quNode s.x)), .int .u64 0, .int .u64 0]) ∧ Keeps [] w w' := by
  obtain ⟨hrow, hno, hta, hr, uh, ut, ux, hin, hfew, hk3⟩ := h
  obtain ⟨at_, n, puts, l, nodes, k, step, sub, hh, t, x, vv, code, inn, over⟩ := s
  simp only at *
  subst hs
  obtain ⟨W0, hW0⟩ : ∃ W0, w.alloc (.cells #[.int .i64 0, .int .i64 0, .int .u64 0, .int .u64 0] 60) = W0 := ⟨_, rfl⟩
  have k0 : Keeps [] w W0 := by rw [← hW0]; exact (Keeps.refl _ _).alloc _
  have r0 : Row W0 w.heap.size 60 [.int .i64 0, .int .i64 0, .int .u64 0, .int .u64 0] := by rw [← hW0]; exact Row.new _ _ _
  have hplt := hrow.lt
  have R := hrow.keeps k0 (by simp)
  have hno0 := hno.but k0 (by simp)
  have hta0 := hta.but k0 (by simp)
  have HP : Hid (∀ W, Keeps [] W0 W → Row W p 85 (quCells ⟨at_, n, puts, l, nodes, k, 5, sub, hh, t, x, vv, code, inn, over⟩ lv nv sv)) := Lib.hid (fun W hW => R.keeps hW (by simp))
  have HN : Hid (∀ W, Keeps [] W0 W → Sl W 1 nv nodes.length (ints .i64 nodes)) := Lib.hid (fun W hW => hno0.but hW (by simp))
  have HC1 := Lib.hid (fun W (hW : Keeps [] W0 W) => rkd (refNodeOf_any x W ux))
  obtain ⟨v1, hv1⟩ : ∃ v, quNode x = v := ⟨_, rfl⟩
  have hv1b : 0 ≤ v1 ∧ v1 < 4294967296 := by rw [← hv1]; exact quNode_nn _
  rw [hv1] at HC1 ⊢
  have HC2 := Lib.hid (fun W (hW : Keeps [] W0 W) => rkq (rwTask_any (p := p) at_ n v1 W ((HP.out W hW).cell (j := 0) rfl) ((HP.out W hW).cell (j := 1) rfl) hr hv1b.1 (by omega)))
  obtain ⟨v2, hv2⟩ : ∃ v, quTask at_ n v1 = v := ⟨_, rfl⟩
  rw [hv2] at HC2 ⊢
  have HC3 := Lib.hid (fun W (hW : Keeps [] W0 W) => rwLoad_any v2 W)
  have wa : IntKind.i64.wrap (at_ + 1) = at_ + 1 := IntWalk.i64_in _ (by have := hr.1; have := hr.2.1; have := hr.2.2.1; have := hr.2.2.2; omega)
  have c0 := R.cell (j := 0) rfl
  have c1 := R.cell (j := 1) rfl
  have c3 := R.cell (j := 3) rfl
  have c4 := R.cell (j := 4) rfl
  have c5 := R.cell (j := 5) rfl
  have c6 := R.cell (j := 6) rfl
  have c8 := R.cell (j := 8) rfl
  have c9 := R.cell (j := 9) rfl
  have c10 := R.cell (j := 10) rfl
  have HQ : Hid (∀ W S, Keeps S W0 W → p ∉ S → W.cell? ⟨p, 0, none⟩ = some (.int .i64 at_) ∧ W.cell? ⟨p, 1, none⟩ = some (.int .i64 n) ∧ W.cell? ⟨p, 3, none⟩ = some (lv) ∧ W.cell? ⟨p, 4, none⟩ = some (nv) ∧ W.cell? ⟨p, 5, none⟩ = some (.int .i64 (k : Int)) ∧ W.cell? ⟨p, 8, none⟩ = some (.int .u64 hh) ∧ W.cell? ⟨p, 9, none⟩ = some (.int .u64 t) ∧ W.cell? ⟨p, 10, none⟩ = some (.int .u64 x)) := Lib.hid (fun W S hk g0 => by
    have hh := R.keeps hk g0
    exact ⟨hh.cell (j := 0) rfl, hh.cell (j := 1) rfl, hh.cell (j := 3) rfl, hh.cell (j := 4) rfl, hh.cell (j := 5) rfl, hh.cell (j := 8) rfl, hh.cell (j := 9) rfl, hh.cell (j := 10) rfl⟩)
  have HR0 := Lib.hid r0
  have HK0 := Lib.hid k0
  have hk0 : Keeps [] W0 W0.drew := (Keeps.refl _ _).drew
  clear hrow hno hta hno0 hta0 R r0 k0 hin hr
  go_enter Tryz.func80, Tryz.ntmps80
  go_wp2_with fail
  refine (HC1.out _ (Keeps.refl _ _)).mono ?_
  rintro e w1 ⟨rfl, k1⟩
  have hk1 : Keeps [] W0 w1 := k1
  have hq1 := HQ.out _ _ hk1 (by simp)
  obtain ⟨x1_0, x1_1, x1_2, x1_3, x1_4, x1_5, x1_6, x1_7⟩ := hq1
  go_wp2_with fail
  refine (HC2.out _ hk1).mono ?_
  rintro e w2 ⟨rfl, k2⟩
  have hk2 : Keeps [] W0 w2 := hk1.trans k2
  have hq2 := HQ.out _ _ hk2 (by simp)
  obtain ⟨x2_0, x2_1, x2_2, x2_3, x2_4, x2_5, x2_6, x2_7⟩ := hq2
  go_wp2_with fail
  refine (HC3.out _ hk2).mono ?_
  rintro e w3 ⟨rfl, k3⟩
  have hk3 : Keeps [] W0 w3 := hk2.trans k3
  have hr3 := HR0.out.keeps hk3 (by simp)
  have p0 := hr3.cell (j := 0) rfl
  have p1 := hr3.cell (j := 1) rfl
  have p2 := hr3.cell (j := 2) rfl
  have p3 := hr3.cell (j := 3) rfl
  have f0 := hr3.frozen 0
  have f1 := hr3.frozen 1
  have f2 := hr3.frozen 2
  have f3 := hr3.frozen 3
  have hl1 := hr3.lt
  all_goals (have HK1 := Lib.hid (HK0.out.trans hk3))
  all_goals (try go_wp2)
  all_goals (refine bodyPost_ret (v := .agg #[.int .i64 1, .int .i64 v2, .int .u64 0, .int .u64 0]) (by simp [results, Tryz.results80, go_sem, p0, p1, p2, p3]) rfl ⟨rfl, ?_⟩)
  all_goals exact HK1.out.step (S := [w.heap.size]) (((((Keeps.refl _ _).set (by simp) _ _).set (by simp) _ _).set (by simp) _ _).set (by simp) _ _) (by simp)

set_option maxHeartbeats 3200000 in
theorem rw_t6 (s : QuS) (h : RwPut w p lv nv sv s) (hs : s.step = 6)  :
    Calls Tryz.prog 80 #[.pointer (some ⟨p, 0, none⟩)] w fun e w' => e = .returned (.agg #[.int .i64 3, .int .i64 s.at_, .int .u64 s.h, .int .u64 (arNext s.h (quNode s.x))]) ∧ Keeps [] w w' := by
  obtain ⟨hrow, hno, hta, hr, uh, ut, ux, hin, hfew, hk3⟩ := h
  obtain ⟨at_, n, puts, l, nodes, k, step, sub, hh, t, x, vv, code, inn, over⟩ := s
  simp only at *
  subst hs
  obtain ⟨W0, hW0⟩ : ∃ W0, w.alloc (.cells #[.int .i64 0, .int .i64 0, .int .u64 0, .int .u64 0] 60) = W0 := ⟨_, rfl⟩
  have k0 : Keeps [] w W0 := by rw [← hW0]; exact (Keeps.refl _ _).alloc _
  have r0 : Row W0 w.heap.size 60 [.int .i64 0, .int .i64 0, .int .u64 0, .int .u64 0] := by rw [← hW0]; exact Row.new _ _ _
  have hplt := hrow.lt
  have R := hrow.keeps k0 (by simp)
  have hno0 := hno.but k0 (by simp)
  have hta0 := hta.but k0 (by simp)
  have HP : Hid (∀ W, Keeps [] W0 W → Row W p 85 (quCells ⟨at_, n, puts, l, nodes, k, 6, sub, hh, t, x, vv, code, inn, over⟩ lv nv sv)) := Lib.hid (fun W hW => R.keeps hW (by simp))
  have HN : Hid (∀ W, Keeps [] W0 W → Sl W 1 nv nodes.length (ints .i64 nodes)) := Lib.hid (fun W hW => hno0.but hW (by simp))
  have HC1 := Lib.hid (fun W (hW : Keeps [] W0 W) => rkd (refNodeOf_any x W ux))
  obtain ⟨v1, hv1⟩ : ∃ v, quNode x = v := ⟨_, rfl⟩
  have hv1b : 0 ≤ v1 ∧ v1 < 4294967296 := by rw [← hv1]; exact quNode_nn _
  rw [hv1] at HC1 ⊢
  have HC2 := Lib.hid (fun W (hW : Keeps [] W0 W) => rkd (rwRaise_any hh v1 W uh hv1b.1 hv1b.2))
  obtain ⟨v2, hv2⟩ : ∃ v, arNext hh v1 = v := ⟨_, rfl⟩
  rw [hv2] at HC2 ⊢
  have HC3 := Lib.hid (fun W (hW : Keeps [] W0 W) => rwCas_any at_ hh v2 W)
  have wa : IntKind.i64.wrap (at_ + 1) = at_ + 1 := IntWalk.i64_in _ (by have := hr.1; have := hr.2.1; have := hr.2.2.1; have := hr.2.2.2; omega)
  have c0 := R.cell (j := 0) rfl
  have c1 := R.cell (j := 1) rfl
  have c3 := R.cell (j := 3) rfl
  have c4 := R.cell (j := 4) rfl
  have c5 := R.cell (j := 5) rfl
  have c6 := R.cell (j := 6) rfl
  have c8 := R.cell (j := 8) rfl
  have c9 := R.cell (j := 9) rfl
  have c10 := R.cell (j := 10) rfl
  have HQ : Hid (∀ W S, Keeps S W0 W → p ∉ S → W.cell? ⟨p, 0, none⟩ = some (.int .i64 at_) ∧ W.cell? ⟨p, 1, none⟩ = some (.int .i64 n) ∧ W.cell? ⟨p, 3, none⟩ = some (lv) ∧ W.cell? ⟨p, 4, none⟩ = some (nv) ∧ W.cell? ⟨p, 5, none⟩ = some (.int .i64 (k : Int)) ∧ W.cell? ⟨p, 8, none⟩ = some (.int .u64 hh) ∧ W.cell? ⟨p, 9, none⟩ = some (.int .u64 t) ∧ W.cell? ⟨p, 10, none⟩ = some (.int .u64 x)) := Lib.hid (fun W S hk g0 => by
    have hh := R.keeps hk g0
    exact ⟨hh.cell (j := 0) rfl, hh.cell (j := 1) rfl, hh.cell (j := 3) rfl, hh.cell (j := 4) rfl, hh.cell (j := 5) rfl, hh.cell (j := 8) rfl, hh.cell (j := 9) rfl, hh.cell (j := 10) rfl⟩)
  have HR0 := Lib.hid r0
  have HK0 := Lib.hid k0
  have hk0 : Keeps [] W0 W0.drew := (Keeps.refl _ _).drew
  clear hrow hno hta hno0 hta0 R r0 k0 hin hr
  go_enter Tryz.func80, Tryz.ntmps80
  go_wp2_with fail
  go_region_held3 (fun w' => w'.cell? ⟨p, 0, none⟩ = some (.int .i64 at_) ∧ w'.cell? ⟨p, 1, none⟩ = some (.int .i64 n) ∧ w'.cell? ⟨p, 3, none⟩ = some (lv) ∧ w'.cell? ⟨p, 4, none⟩ = some (nv) ∧ w'.cell? ⟨p, 5, none⟩ = some (.int .i64 (k : Int)) ∧ w'.cell? ⟨p, 8, none⟩ = some (.int .u64 hh) ∧ w'.cell? ⟨p, 9, none⟩ = some (.int .u64 t) ∧ w'.cell? ⟨p, 10, none⟩ = some (.int .u64 x))
    (first
      | exact HQ.out _ [w.heap.size] ((((((hk3.mono (by simp)).set (by simp) _ _).set (by simp) _ _).set (by simp) _ _).set (by simp) _ _)) (by simp; omega)
      | exact HQ.out _ _ hk3 (by simp)
      | exact HQ.out _ _ hk2 (by simp)
      | exact HQ.out _ _ hk1 (by simp)
      | exact HQ.out _ _ hk0 (by simp)
      | exact ⟨by assumption, by assumption, by assumption, by assumption, by assumption, by assumption, by assumption, by assumption⟩
      | fail)
    (first
      | (have _ := hk2; go_at_call 129; refine (HC3.out _ hk2).mono ?_; rintro e w3 ⟨rfl, k3⟩; have hk3 : Keeps [] W0 w3 := hk2.trans k3; have hr3 := HR0.out.keeps hk3 (by simp); have p0 := hr3.cell (j := 0) rfl; have p1 := hr3.cell (j := 1) rfl; have p2 := hr3.cell (j := 2) rfl; have p3 := hr3.cell (j := 3) rfl; have f0 := hr3.frozen 0; have f1 := hr3.frozen 1; have f2 := hr3.frozen 2; have f3 := hr3.frozen 3; have hl1 := hr3.lt)
      | (have _ := hk1; go_at_call 126; refine (HC2.out _ hk1).mono ?_; rintro e w2 ⟨rfl, k2⟩; have hk2 : Keeps [] W0 w2 := hk1.trans k2)
      | (have _ := hk0; go_at_call 128; refine (HC1.out _ hk0).mono ?_; rintro e w1 ⟨rfl, k1⟩; have hk1 : Keeps [] W0 w1 := hk0.trans k1)
      | fail)
  all_goals (have HK1 := Lib.hid (HK0.out.trans hk3))
  all_goals (try go_wp2)
  all_goals (refine bodyPost_ret (v := .agg #[.int .i64 3, .int .i64 at_, .int .u64 hh, .int .u64 v2]) (by simp [results, Tryz.results80, go_sem, p0, p1, p2, p3]) rfl ⟨rfl, ?_⟩)
  all_goals exact HK1.out.step (S := [w.heap.size]) (((((Keeps.refl _ _).set (by simp) _ _).set (by simp) _ _).set (by simp) _ _).set (by simp) _ _) (by simp)
end
end Go.Proofs.YtoomefclbemnlaaGreat

/-
  The document's frame of a queue goes as the queue's machine: what is known of it; what it wants, what came of it, what it holds.
-/
namespace Go.Proofs.YtoomefclbemnlaaGreat
set_option maxRecDepth 100000
set_option linter.unusedSimpArgs false
set_option linter.unusedVariables false
open Go.ChangeShapes Go.WideShapes Go.ChangeAt Go.RowKit

theorem rwWantPut {p : Nat} {w : World} {lv nv sv : Value} (s : QuS) (h : RwPut w p lv nv sv s) (hok : QuPutOk s) (hs : s.sub = none) :
    Calls Tryz.prog 79 #[.pointer (some ⟨p, 0, none⟩)] w fun e w' => e = .returned (quWantPut s).val ∧ Keeps [] w w' := by
  rcases hok.at_ with ⟨a, ha, -⟩ | ⟨-, hl, hc⟩
  · rw [hs] at ha; cases ha
  have h0 : 0 < s.nodes.length := by have := hok.few.1; omega
  rcases hc with ⟨h1 | h1 | h1, -, hk⟩ | ⟨h1, -⟩ | ⟨h1 | h1, -⟩ | ⟨h1, -, -, hx⟩ | ⟨h1, -⟩
  · have e : quWantPut s = ⟨2, quTask s.at_ s.n (s.nodes.getD s.k 0), s.l.getD s.k 0, 0⟩ := by simp [quWantPut, h1]
    rw [e]; exact rw_p20 s h h1 hk hl
  · have e : quWantPut s = ⟨1, quNext s.at_ s.n (s.nodes.getD s.k 0), 0, 0⟩ := by simp [quWantPut, h1]
    rw [e]; exact rw_p21 s h h1 hk
  · have e : quWantPut s = ⟨2, quNext s.at_ s.n (s.nodes.getD s.k 0), arNext s.x (s.nodes.getD (s.k + 1) 0), 0⟩ := by simp [quWantPut, h1]
    rw [e]; exact rw_p22 s h h1 hk
  · have e : quWantPut s = ⟨1, s.at_ + 1, 0, 0⟩ := by simp [quWantPut, h1]
    rw [e]; exact rw_p3 s h h1
  · have e : quWantPut s = ⟨1, quNext s.at_ s.n (quNode s.t), 0, 0⟩ := by simp [quWantPut, h1]
    rw [e]; exact rw_p4 s h h1
  · have e : quWantPut s = ⟨1, s.at_ + 1, 0, 0⟩ := by simp [quWantPut, h1]
    rw [e]; exact rw_p5 s h h1
  · by_cases hz : quNode s.x = 0
    · have e : quWantPut s = ⟨3, quNext s.at_ s.n (quNode s.t), s.x, arNext s.x (s.nodes.getD 0 0)⟩ := by simp [quWantPut, h1, hz]
      rw [e]; exact rw_p6a s h h1 hz h0
    · have e : quWantPut s = ⟨3, s.at_ + 1, s.t, arNext s.t (quNode s.x)⟩ := by simp [quWantPut, h1, hz]
      rw [e]; exact rw_p6b s h h1 hz
  · have e : quWantPut s = ⟨3, s.at_ + 1, s.t, arNext s.t (s.nodes.getD (s.nodes.length - 1) 0)⟩ := by simp [quWantPut, h1]
    rw [e]; exact rw_p7 s h h1 h0
theorem rwWantTake {p : Nat} {w : World} {lv nv sv : Value} (s : QuS) (h : RwPut w p lv nv sv s) (hok : QuTakeOk s) (hs : s.sub = none) :
    Calls Tryz.prog 80 #[.pointer (some ⟨p, 0, none⟩)] w fun e w' => e = .returned (quWantTake s).val ∧ Keeps [] w w' := by
  rcases hok.at_ with ⟨a, ha, -⟩ | ⟨-, -, hc⟩
  · rw [hs] at ha; cases ha
  rcases hc with h1 | ⟨h1 | h1 | h1, -⟩ | ⟨h1, -⟩ | ⟨h1 | h1, -⟩
  · have e : quWantTake s = ⟨1, s.at_, 0, 0⟩ := by simp [quWantTake, h1]
    rw [e]; exact rw_t1 s h h1
  · have e : quWantTake s = ⟨1, s.at_ + 1, 0, 0⟩ := by simp [quWantTake, h1]
    rw [e]; exact rw_t2 s h h1
  · have e : quWantTake s = ⟨1, quNext s.at_ s.n (quNode s.h), 0, 0⟩ := by simp [quWantTake, h1]
    rw [e]; exact rw_t3 s h h1
  · have e : quWantTake s = ⟨1, s.at_, 0, 0⟩ := by simp [quWantTake, h1]
    rw [e]; exact rw_t4 s h h1
  · have e : quWantTake s = ⟨3, s.at_ + 1, s.t, arNext s.t (quNode s.x)⟩ := by simp [quWantTake, h1]
    rw [e]; exact rw_t50 s h h1
  · have e : quWantTake s = ⟨1, quTask s.at_ s.n (quNode s.x), 0, 0⟩ := by simp [quWantTake, h1]
    rw [e]; exact rw_t5 s h h1
  · have e : quWantTake s = ⟨3, s.at_, s.h, arNext s.h (quNode s.x)⟩ := by simp [quWantTake, h1]
    rw [e]; exact rw_t6 s h h1

/-- What is known of the document's frame, and which blocks it may write. -/
def refQuJ (p : Nat) (lv : Value) (w : World) (S : List Nat) (s : QuS) : Prop :=
  ∃ nv base, w.ownsRow base 3 1 nv s.nodes.length (ints .i64 s.nodes) ∧ p < base ∧ base ≤ w.heap.size ∧ Sl w 1 lv s.l.length (ints .u64 s.l) ∧ (s.l ≠ [] → ∀ g, lv.ownBlock = some g → g < p) ∧ (s.over = none → QuOk s) ∧ (∀ r, s.over = some r → r.l = []) ∧ QuFine s ∧
    ((∃ q a, s.over = none ∧ s.sub = some a ∧ a.over = none ∧ Row w p 85 (quCells s lv nv (.pointer (some ⟨q, 0, none⟩))) ∧ refArJ q w [q] a ∧ p < q ∧ nv.ownBlock ≠ some q ∧ S = p :: q :: nv.ownBlock.toList) ∨
     ((s.over ≠ none ∨ s.sub = none) ∧ Row w p 85 (quCells s lv nv (.pointer none)) ∧ S = p :: nv.ownBlock.toList))
def refQuR (lv : Value) (n : Nat) (k : Nat) : Prop := 0 < n ∧ lv.ownBlock = some k
theorem refQuJ.row {p : Nat} {lv : Value} {w : World} {S : List Nat} {s : QuS} (h : refQuJ p lv w S s) : ∃ nv sv, Row w p 85 (quCells s lv nv sv) := by
  obtain ⟨nv, base, -, -, -, -, -, -, -, -, h | h⟩ := h
  · obtain ⟨q, a, -, -, -, h, -⟩ := h; exact ⟨_, _, h⟩
  · exact ⟨_, _, h.2.1⟩

set_option maxHeartbeats 1600000 in
theorem refQu_want (p : Nat) (lv : Value) (s : QuS) (w : World) (S : List Nat) (h : refQuJ p lv w S s) :
    Calls Tryz.prog 38 #[.pointer (some ⟨p, 0, none⟩)] w fun e w' => e = .returned (.tuple #[((queueM.want s).getD zacc).val, .bool (queueM.want s).isSome]) ∧ Keeps [] w w' := by
  obtain ⟨nv, base, hown, hb1, hb2, hsl, -, hok, -, hfew, hc⟩ := h
  obtain ⟨W0, hW0⟩ : ∃ W0, w.alloc (.cells #[.int .i64 0, .int .i64 0, .int .u64 0, .int .u64 0] 60) = W0 := ⟨_, rfl⟩
  have k0 : Keeps [] w W0 := by rw [← hW0]; exact (Keeps.refl _ _).alloc _
  have r0 : Row W0 w.heap.size 60 [.int .i64 0, .int .i64 0, .int .u64 0, .int .u64 0] := by rw [← hW0]; exact Row.new _ _ _
  have fin : ∀ (x : C.Acc) (W : World), Keeps [] W0 W → Keeps [] w ((((W.setCell ⟨w.heap.size, 0, none⟩ (.int .i64 x.k)).setCell ⟨w.heap.size, 1, none⟩ (.int .i64 x.c)).setCell ⟨w.heap.size, 2, none⟩ (.int .u64 x.a)).setCell ⟨w.heap.size, 3, none⟩ (.int .u64 x.b)) := fun x W hW =>
    (k0.trans hW).step (S := [w.heap.size]) (((((Keeps.refl _ _).set (by simp) _ _).set (by simp) _ _).set (by simp) _ _).set (by simp) _ _) (by simp)
  have HF := Lib.hid fin
  have HR0 := Lib.hid r0
  have q0 := r0.cell (j := 0) rfl
  have q1 := r0.cell (j := 1) rfl
  have q2 := r0.cell (j := 2) rfl
  have q3 := r0.cell (j := 3) rfl
  have e0 := r0.frozen 0
  have e1 := r0.frozen 1
  have e2 := r0.frozen 2
  have e3 := r0.frozen 3
  cases ho : s.over with
  | some r =>
    have hrow : ∃ sv, Row w p 85 (quCells s lv nv sv) := by
      rcases hc with ⟨q, a, h, -⟩ | ⟨-, h, -⟩
      · rw [ho] at h; cases h
      · exact ⟨_, h⟩
    obtain ⟨sv, hrow⟩ := hrow
    have hw : queueM.want s = none := by simp [queueM, Nest.mach, quNest, ho]
    rw [hw]
    have c14 := (hrow.keeps k0 (by simp)).cell (j := 14) (u := .bool true) (by simp [quCells, ho])
    clear fin k0 r0 hown hsl hok hrow ho hw hc
    go_enter Tryz.func38, Tryz.ntmps38
    go_wp2
    refine bodyPost_ret (v := .tuple #[zacc.val, .bool false]) (by simp [results, Tryz.results38, go_sem, q0, q1, q2, q3]) rfl ⟨rfl, ?_⟩
    exact HF.out zacc W0 (Keeps.refl _ _)
  | none =>
    have hk := hok ho
    rcases hc with ⟨q, a, -, hs, ha, hrow, hj, hpq, hnq, -⟩ | ⟨h | hs, hrow, -⟩
    · have hw : queueM.want s = arenaM.want a := by simp [queueM, Nest.mach, quNest, ho, hs]
      have haw : arenaM.want a = some (arWant a) := by simp [arenaM, ha]
      rw [hw, haw]
      have R := hrow.keeps k0 (by simp)
      have c14 := R.cell (j := 14) (u := .bool false) (by simp [quCells, ho])
      have c7 := R.cell (j := 7) rfl
      have HA := refAr_want q a W0 [q] ⟨hj.1, hj.2.1.keeps k0 (by simp), hj.2.2⟩
      rw [haw] at HA
      obtain ⟨X, hX⟩ : ∃ X, arWant a = X := ⟨_, rfl⟩
      rw [hX] at HA ⊢
      obtain ⟨xk, xc, xa, xb⟩ := X
      have HA := Lib.hid HA
      clear fin k0 r0 hown hsl hok hrow hs hw hj R haw ha hX
      go_enter Tryz.func38, Tryz.ntmps38
      go_wp2_with fail
      refine HA.out.mono ?_
      rintro e w1 ⟨rfl, k1⟩
      have R1 := HR0.out.keeps k1 (by simp)
      have p0 := R1.cell (j := 0) rfl
      have p1 := R1.cell (j := 1) rfl
      have p2 := R1.cell (j := 2) rfl
      have p3 := R1.cell (j := 3) rfl
      have g0 := R1.frozen 0
      have g1 := R1.frozen 1
      have g2 := R1.frozen 2
      have g3 := R1.frozen 3
      have hl := R1.lt
      have HK1 := Lib.hid k1
      clear R1 k1
      go_wp2
      refine bodyPost_ret (v := .tuple #[(⟨xk, xc, xa, xb⟩ : C.Acc).val, .bool true]) (by simp [results, Tryz.results38, go_sem, p0, p1, p2, p3]) rfl ⟨rfl, ?_⟩
      exact HF.out ⟨xk, xc, xa, xb⟩ w1 HK1.out
    · exact absurd ho h
    · have hl3 : s.l.length ≤ 300 := by
        cases hp : s.puts with
        | true => exact (hk.put hp).few.2
        | false => rw [(hfew.2.2 hp).2.1]; simp
      have hnod : ∀ i ∈ s.nodes, 1 ≤ i ∧ i ≤ s.n := by
        cases hp : s.puts with
        | true => exact (hk.put hp).nodes
        | false => rw [(hfew.2.2 hp).1]; simp
      have hrw : RwPut W0 p lv nv (.pointer none) s := (show RwPut w p lv nv (.pointer none) s from ⟨hrow, Sl.of_owns hown, hsl, hk.right, hk.uh, hk.ut, hk.ux, hnod, ⟨hfew.2.1, hl3⟩, by have := hfew.1; have := hfew.2.1; omega⟩).keeps k0
      have hw : queueM.want s = some (if s.puts then quWantPut s else quWantTake s) := by simp [queueM, Nest.mach, quNest, ho, hs]
      rw [hw]
      have R := hrw.row
      have c14 := R.cell (j := 14) (u := .bool false) (by simp [quCells, ho])
      have c7 := R.cell (j := 7) rfl
      have c2 := R.cell (j := 2) rfl
      cases hp : s.puts with
      | true =>
        rw [hp] at c2
        have HA := Lib.hid (rwWantPut s hrw (hk.put hp) hs)
        simp only [if_true]
        obtain ⟨X, hX⟩ : ∃ X, quWantPut s = X := ⟨_, rfl⟩
        rw [hX] at HA ⊢
        obtain ⟨xk, xc, xa, xb⟩ := X
        clear fin k0 r0 hown hsl hok hrow hs hw R hX hrw hnod hk ho hp hfew hl3
        go_enter Tryz.func38, Tryz.ntmps38
        go_wp2_with fail
        refine HA.out.mono ?_
        rintro e w1 ⟨rfl, k1⟩
        have R1 := HR0.out.keeps k1 (by simp)
        have p0 := R1.cell (j := 0) rfl
        have p1 := R1.cell (j := 1) rfl
        have p2 := R1.cell (j := 2) rfl
        have p3 := R1.cell (j := 3) rfl
        have g0 := R1.frozen 0
        have g1 := R1.frozen 1
        have g2 := R1.frozen 2
        have g3 := R1.frozen 3
        have hl := R1.lt
        have HK1 := Lib.hid k1
        clear R1 k1
        go_wp2
        refine bodyPost_ret (v := .tuple #[(⟨xk, xc, xa, xb⟩ : C.Acc).val, .bool true]) (by simp [results, Tryz.results38, go_sem, p0, p1, p2, p3]) rfl ⟨rfl, ?_⟩
        exact HF.out ⟨xk, xc, xa, xb⟩ w1 HK1.out
      | false =>
        rw [hp] at c2
        have HA := Lib.hid (rwWantTake s hrw (hk.take hp) hs)
        simp only [Bool.false_eq_true, if_false]
        obtain ⟨X, hX⟩ : ∃ X, quWantTake s = X := ⟨_, rfl⟩
        rw [hX] at HA ⊢
        obtain ⟨xk, xc, xa, xb⟩ := X
        clear fin k0 r0 hown hsl hok hrow hs hw R hX hrw hnod hk ho hp hfew hl3
        go_enter Tryz.func38, Tryz.ntmps38
        go_wp2_with fail
        refine HA.out.mono ?_
        rintro e w1 ⟨rfl, k1⟩
        have R1 := HR0.out.keeps k1 (by simp)
        have p0 := R1.cell (j := 0) rfl
        have p1 := R1.cell (j := 1) rfl
        have p2 := R1.cell (j := 2) rfl
        have p3 := R1.cell (j := 3) rfl
        have g0 := R1.frozen 0
        have g1 := R1.frozen 1
        have g2 := R1.frozen 2
        have g3 := R1.frozen 3
        have hl := R1.lt
        have HK1 := Lib.hid k1
        clear R1 k1
        go_wp2
        refine bodyPost_ret (v := .tuple #[(⟨xk, xc, xa, xb⟩ : C.Acc).val, .bool true]) (by simp [results, Tryz.results38, go_sem, p0, p1, p2, p3]) rfl ⟨rfl, ?_⟩
        exact HF.out ⟨xk, xc, xa, xb⟩ w1 HK1.out

set_option maxHeartbeats 800000 in
theorem refQu_over (p : Nat) (lv : Value) (s : QuS) (w : World) (S : List Nat) (h : refQuJ p lv w S s) :
    Calls Tryz.prog 39 #[.pointer (some ⟨p, 0, none⟩)] w fun e w' => ∃ q n c,
      e = .returned (.tuple #[.agg #[.int .i64 ((queueM.res s).getD Rs.zero).code, .int .u64 ((queueM.res s).getD Rs.zero).v, .slice q n c], .bool (queueM.res s).isSome]) ∧ Keeps [] w w' ∧
      ∀ r, queueM.res s = some r → Sl w' 1 (.slice q n c) r.l.length (ints .u64 r.l) ∧ r.l.length ≤ maxLen ∧ ∀ g, (Value.slice q n c).ownBlock = some g → g ∈ S ∨ w.heap.size ≤ g := by
  obtain ⟨nv, sv, hrow⟩ := h.row
  have hnil : ∀ r, s.over = some r → r.l = [] := by obtain ⟨_, _, -, -, -, -, -, -, h, -⟩ := h; exact h
  have hlt := hrow.lt
  have fin : ∀ w' r, queueM.res s = some r → Sl w' 1 (.slice none 0 0) r.l.length (ints .u64 r.l) ∧ r.l.length ≤ maxLen ∧ ∀ g, (Value.slice none 0 0).ownBlock = some g → g ∈ S ∨ w.heap.size ≤ g := by
    intro w' r hr
    have := hnil r hr
    rw [this]
    exact ⟨⟨rfl, .inl ⟨_, _, rfl, rfl⟩⟩, Nat.zero_le _, fun g hg => by cases hg⟩
  have HF := Lib.hid fin
  obtain ⟨rr, hrr⟩ : ∃ rr, (queueM.res s).getD Rs.zero = rr := ⟨_, rfl⟩
  obtain ⟨br, hbr⟩ : ∃ br, (queueM.res s).isSome = br := ⟨_, rfl⟩
  obtain ⟨W0, hW0⟩ : ∃ W0, w.alloc (.cells #[.int .i64 0, .int .u64 0, .slice none 0 0] 56) = W0 := ⟨_, rfl⟩
  have k0 : Keeps [] w W0 := by rw [← hW0]; exact (Keeps.refl _ _).alloc _
  have r0 : Row W0 w.heap.size 56 [.int .i64 0, .int .u64 0, .slice none 0 0] := by rw [← hW0]; exact Row.new _ _ _
  have hr0 := hrow.keeps k0 (by simp)
  have c14 := hr0.cell (j := 14) rfl
  have c15 := hr0.cell (j := 15) rfl
  have c16 := hr0.cell (j := 16) rfl
  have c17 := hr0.cell (j := 17) rfl
  rw [show s.over.getD Rs.zero = rr from hrr] at c15 c16
  rw [show s.over.isSome = br from hbr] at c14
  rw [hrr, hbr]
  have q0 := r0.cell (j := 0) rfl
  have q1 := r0.cell (j := 1) rfl
  have q2 := r0.cell (j := 2) rfl
  have e0 := r0.frozen 0
  have e1 := r0.frozen 1
  have e2 := r0.frozen 2
  have hl0 := r0.lt
  have HK := Lib.hid k0
  clear hrow hnil fin hrr hbr hr0 r0 k0 h
  go_enter Tryz.func39, Tryz.ntmps39
  go_wp2
  go_region
  go_wp2
  refine bodyPost_ret (v := .tuple #[.agg #[.int .i64 rr.code, .int .u64 rr.v, .slice none 0 0], .bool br]) (by simp [results, Tryz.results39, go_sem, q0, q1, q2]) rfl ⟨none, 0, 0, rfl, ?_, HF.out _⟩
  exact HK.out.drew.step (S := [w.heap.size]) ((((Keeps.refl _ _).set (by simp) _ _).set (by simp) _ _).set (by simp) _ _) (by simp)

theorem queueM_held (s : QuS) : queueM.held s = quHeld s := by
  simp only [queueM, Nest.mach, quNest]
  split
  · simp [arenaM]
  · rfl
set_option maxHeartbeats 800000 in
theorem refQu_held (p : Nat) (lv : Value) (s : QuS) (w : World) (S : List Nat) (h : refQuJ p lv w S s) :
    Calls Tryz.prog 40 #[.pointer (some ⟨p, 0, none⟩)] w fun e w' => ∃ q c, e = .returned (.slice q (queueM.held s).length c) ∧ Sl w' 1 (.slice q (queueM.held s).length c) (queueM.held s).length (ints .u64 (queueM.held s)) ∧ Keeps [] w w' := by
  rw [queueM_held]
  obtain ⟨nv, sv, hrow⟩ := h.row
  obtain ⟨-, -, -, -, -, hsl, -⟩ := h
  have c2 := hrow.cell (j := 2) rfl
  have c13 := hrow.cell (j := 13) rfl
  have c14 := hrow.cell (j := 14) rfl
  have c3 := hrow.cell (j := 3) rfl
  have c11 := hrow.cell (j := 11) rfl
  have HSl := Lib.hid hsl
  obtain ⟨lq, lc, rfl⟩ := hsl.len
  obtain ⟨at_, n, puts, l, nodes, k, step, sub, hh, t, x, vv, code, inn, over⟩ := s
  simp only at c2 c13 c14 c3 c11 HSl hsl ⊢
  have nilS : ∀ W, Sl W 1 (.slice none 0 0) 0 (ints .u64 []) := fun W => ⟨rfl, .inl ⟨_, _, rfl, rfl⟩⟩
  have HNil := Lib.hid nilS
  have hplt := hrow.lt
  have HR := Lib.hid hrow
  clear hrow nilS hsl
  cases over with
  | some r =>
    have e : quHeld ⟨at_, n, puts, l, nodes, k, step, sub, hh, t, x, vv, code, inn, some r⟩ = [] := by simp [quHeld]
    rw [e]
    simp only [Option.isSome_some] at c14
    go_enter Tryz.func40, Tryz.ntmps40
    go_wp2
    go_quiet (fail)
    go_wp2
    go_ret
    exact ⟨none, 0, rfl, HNil.out _, Keeps.of_drewN _ _⟩
  | none =>
    simp only [Option.isSome_none] at c14
    cases puts <;> cases inn
    · have e : quHeld ⟨at_, n, false, l, nodes, k, step, sub, hh, t, x, vv, code, false, none⟩ = [] := by simp [quHeld]
      rw [e]
      go_enter Tryz.func40, Tryz.ntmps40
      go_wp2
      go_quiet (fail)
      go_wp2
      go_ret
      exact ⟨none, 0, rfl, HNil.out _, Keeps.of_drewN _ _⟩
    · have e : quHeld ⟨at_, n, false, l, nodes, k, step, sub, hh, t, x, vv, code, true, none⟩ = [vv] := by simp [quHeld]
      rw [e]
      go_enter Tryz.func40, Tryz.ntmps40
      go_wp2
      go_quiet (fail)
      have c11' : (w.drewN nq).cell? ⟨p, 11, none⟩ = some (.int .u64 vv) := c11
      go_wp2
      go_ret
      refine ⟨some ⟨_, 0, none⟩, 1, rfl, ?_, (Keeps.of_drewN _ _).alloc _⟩
      exact Sl.lit _ #[.int .u64 vv] 49 1 1 1 rfl
    · have e : quHeld ⟨at_, n, true, l, nodes, k, step, sub, hh, t, x, vv, code, false, none⟩ = l := by simp [quHeld]
      rw [e]
      go_enter Tryz.func40, Tryz.ntmps40
      go_wp2
      go_quiet (fail)
      have c3' : (w.drewN nq).cell? ⟨p, 3, none⟩ = some (.slice lq l.length lc) := c3
      go_wp2
      go_ret
      exact ⟨lq, lc, rfl, HSl.out.but (Keeps.of_drewN _ _) (by simp), Keeps.of_drewN _ _⟩
    · have e : quHeld ⟨at_, n, true, l, nodes, k, step, sub, hh, t, x, vv, code, true, none⟩ = [] := by simp [quHeld]
      rw [e]
      go_enter Tryz.func40, Tryz.ntmps40
      go_wp2
      go_quiet (fail)
      go_wp2
      go_ret
      exact ⟨none, 0, rfl, HNil.out _, Keeps.of_drewN _ _⟩
end Go.Proofs.YtoomefclbemnlaaGreat
