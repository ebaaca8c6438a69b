import Derived.Test.YtjbgkaleickknaaGreatRows
import Derived.Test.YtjbgkaleickknaaGreatKeep
import Derived.LoopTactic
import Derived.Test.YtjbgkaleickknaaGreatWalk
/-
  The references' own comparisons of lists.
-/
namespace Go.Proofs.YtjbgkaleickknaaGreat
set_option maxRecDepth 100000
set_option linter.unusedSimpArgs false
set_option linter.unusedVariables false
open Go.ChangeShapes Go.WideShapes Go.ChangeAt Go.RowKit

end Go.Proofs.YtjbgkaleickknaaGreat

/-
  Machines of a few states, and walks that go as such a machine goes.
-/
namespace Go.Proofs.YtjbgkaleickknaaGreat
set_option maxRecDepth 100000
set_option linter.unusedSimpArgs false
set_option linter.unusedVariables false
open Go.ChangeShapes Go.WideShapes Go.ChangeAt Go.RowKit

/-- A result: a code, a number, a list. -/
structure Rs where
  code : Int
  v : Int
  l : List Int
@[reducible] def Rs.zero : Rs := ⟨0, 0, []⟩
@[reducible] def zacc : C.Acc := ⟨0, 0, 0, 0⟩

/-- A machine: what it wants, what came of it, what it holds, and where what it is told leads. -/
structure Mach (σ : Type) where
  want : σ → Option C.Acc
  res : σ → Option Rs
  held : σ → List Int
  give : σ → Int → Bool → σ

/-- What can be seen of a machine. -/
structure Fc where
  want : Option C.Acc
  res : Option Rs
  held : List Int
def Mach.face {σ : Type} (K : Mach σ) (s : σ) : Fc := ⟨K.want s, K.res s, K.held s⟩
/-- At block m is a walk that goes as the machine K goes, while I holds (of the world, of the blocks that it may write, of the machine's state). -/
structure Runs {σ : Type} (K : Mach σ) (I : World → List Nat → σ → Prop) (m : Nat) : Prop where
  lt : ∀ {w S s}, I w S s → ∀ k ∈ S, k < w.heap.size
  frame : ∀ {w w' S T s}, I w S s → Keeps T w w' → (∀ k ∈ S, k ∉ T) → I w' S s
  want : ∀ w S s, I w S s → Calls Tryz.prog 50 #[.pointer (some ⟨m, 0, none⟩)] w fun e w' => e = .returned (.tuple #[((K.want s).getD zacc).val, .bool (K.want s).isSome]) ∧ Keeps [] w w'
  result : ∀ w S s, I w S s → Calls Tryz.prog 26 #[.pointer (some ⟨m, 0, none⟩)] w fun e w' => ∃ l,
    e = .returned (.tuple #[.agg #[.int .i64 ((K.res s).getD Rs.zero).code, .int .u64 ((K.res s).getD Rs.zero).v, l], .bool (K.res s).isSome]) ∧ w'.ownsRow w.heap.size 34 1 l ((K.res s).getD Rs.zero).l.length (ints .u64 ((K.res s).getD Rs.zero).l) ∧ Keeps [] w w'
  give : ∀ w S s v won, I w S s → M.U v → Amb w → (∀ k ∈ S, ¬ AmbAt k) → Calls Tryz.prog 53 #[.pointer (some ⟨m, 0, none⟩), .int .u64 v, .bool won] w fun e w' =>
    e = .returned (.tuple #[]) ∧ ∃ S', I w' S' (K.give s v won) ∧ Keeps S w w' ∧ ∀ k ∈ S', k ∈ S ∨ w.heap.size ≤ k

/-- The state of a walk that went into no other one, as a machine's: what it wants and holds, and what came of it. u: how many functions of its own are under way. -/
structure Lone (w : World) (m : Nat) (S : List Nat) (st : WSt) (u : Int) (fc : Fc) : Prop where
  wk : Wk w m st
  sub : st.sub = none
  outer : st.outer = .slice none 0 0
  under : st.under = u
  mem : m ∈ S
  tasks : Sl w 1 st.tasks fc.held.length (ints .u64 fc.held)
  tasksOwn : ∀ g, st.tasks.ownBlock = some g → g ∈ S ∧ g ≠ m
  tasksFew : fc.held.length ≤ 10000000
  over : st.over = fc.res.isSome
  res : ∀ r, fc.res = some r → st.code = r.code ∧ st.v = r.v ∧ Sl w 1 st.l r.l.length (ints .u64 r.l) ∧ r.l.length ≤ 10000000
  resOwn : ∀ g, st.l.ownBlock = some g → g ∈ S ∧ g ≠ m
  none_ : fc.want = none → st.nxt = .nilFunc
  some_ : ∀ x, fc.want = some x → st.x = x ∧ ∃ fn fi ca, st.nxt = .func fn fi ca

theorem Lone.keeps {w w' : World} {m : Nat} {S T : List Nat} {st : WSt} {u : Int} {fc : Fc} (h : Lone w m S st u fc) (hk : Keeps T w w') (hT : ∀ k ∈ S, k ∉ T) : Lone w' m S st u fc :=
  { h with
    wk := h.wk.keeps hk (hT _ h.mem)
    tasks := h.tasks.but hk (fun g hg => hT _ (h.tasksOwn g hg).1)
    res := fun r hr => ⟨(h.res r hr).1, (h.res r hr).2.1, (h.res r hr).2.2.1.but hk (fun g hg => hT _ (h.resOwn g hg).1), (h.res r hr).2.2.2⟩ }

/-- Its own block is written alone: how many functions are under way. -/
theorem Lone.under_to {w w' : World} {m : Nat} {S : List Nat} {st : WSt} {u : Int} {fc : Fc} (h : Lone w m S st u fc) (hk : Keeps [m] w w') (v : Int) (hw : Wk w' m { st with under := v }) : Lone w' m S { st with under := v } v fc :=
  { h with
    wk := hw
    under := rfl
    tasks := h.tasks.but hk (fun g hg => by simpa using (h.tasksOwn g hg).2)
    res := fun r hr => ⟨(h.res r hr).1, (h.res r hr).2.1, (h.res r hr).2.2.1.but hk (fun g hg => by simpa using (h.resOwn g hg).2), (h.res r hr).2.2.2⟩ }

theorem Lone.wants {w : World} {m : Nat} {S : List Nat} {st : WSt} {fc : Fc} (h : Lone w m S st 0 fc) :
    Calls Tryz.prog 50 #[.pointer (some ⟨m, 0, none⟩)] w fun e w' => e = .returned (.tuple #[(fc.want.getD zacc).val, .bool fc.want.isSome]) ∧ Keeps [] w w' := by
  cases hw : fc.want with
  | none => exact wWantNone m st w h.wk h.sub (h.none_ hw)
  | some x =>
    obtain ⟨hx, fn, fi, ca, hn⟩ := h.some_ x hw
    have := wWant m st w h.wk h.sub fn fi ca hn
    rw [hx] at this
    exact this
theorem Lone.results {w : World} {m : Nat} {S : List Nat} {st : WSt} {fc : Fc} (h : Lone w m S st 0 fc) :
    Calls Tryz.prog 26 #[.pointer (some ⟨m, 0, none⟩)] w fun e w' => ∃ l,
      e = .returned (.tuple #[.agg #[.int .i64 (fc.res.getD Rs.zero).code, .int .u64 (fc.res.getD Rs.zero).v, l], .bool fc.res.isSome]) ∧ w'.ownsRow w.heap.size 34 1 l (fc.res.getD Rs.zero).l.length (ints .u64 (fc.res.getD Rs.zero).l) ∧ Keeps [] w w' := by
  cases hr : fc.res with
  | none =>
    exact (wResultNot m st w h.wk (by rw [h.over, hr]; rfl)).mono fun e w' ⟨he, hk⟩ => ⟨_, he, World.ownsRow_nil _ _ _ _, hk⟩
  | some r =>
    obtain ⟨h1, h2, h3, h4⟩ := h.res r hr
    have := wResult m st r.l.length r.l w h.wk (by rw [h.over, hr]; rfl) h3 h4
    rw [h1, h2] at this
    exact this
theorem mem_S {m : Nat} {S T : List Nat} (hm : m ∈ S) : ∀ k ∈ m :: T, k ∈ S ++ T := by
  intro k hk
  simp only [List.mem_cons] at hk
  rcases hk with rfl | hk
  · exact List.mem_append_left _ hm
  · exact List.mem_append_right _ hk
end Go.Proofs.YtjbgkaleickknaaGreat

/-
  Walks of their own blocks: how a step goes on, or ends.
-/
namespace Go.Proofs.YtjbgkaleickknaaGreat
set_option maxRecDepth 100000
set_option linter.unusedSimpArgs false
set_option linter.unusedVariables false
open Go.ChangeShapes Go.WideShapes Go.ChangeAt Go.RowKit

theorem Lone.ending {w : World} {m : Nat} {S T : List Nat} {st : WSt} {u : Int} {fc : Fc} (h : Lone w m S st u fc) (hm : m ∈ T) {code v : Int} {l' : Value} {us : List Int} {w' : World} {uu : Int}
    (hw : Wk w' m { st with nxt := .nilFunc, sub := none, after := .nilFunc, over := true, code := code, v := v, l := l', under := uu }) (ht : Sl w' 1 st.tasks fc.held.length (ints .u64 fc.held)) (hS : ∀ g ∈ S, g ∈ T)
    (hl : Sl w' 1 l' us.length (ints .u64 us)) (hn : us.length ≤ 10000000) (hl' : ∀ g, l'.ownBlock = some g → g ∈ T ∧ g ≠ m) :
    Lone w' m T { st with nxt := .nilFunc, sub := none, after := .nilFunc, over := true, code := code, v := v, l := l', under := uu } uu ⟨none, some ⟨code, v, us⟩, fc.held⟩ where
  wk := hw
  sub := rfl
  outer := h.outer
  under := rfl
  mem := hm
  tasks := ht
  tasksOwn := fun g hg => ⟨hS g (h.tasksOwn g hg).1, (h.tasksOwn g hg).2⟩
  tasksFew := h.tasksFew
  over := rfl
  res := fun r hr => by cases hr; exact ⟨rfl, rfl, hl, hn⟩
  resOwn := hl'
  none_ := fun _ => rfl
  some_ := fun y hy => by cases hy

theorem ownBlock_toList (v : Value) (g : Nat) : g ∈ v.ownBlock.toList ↔ v.ownBlock = some g := by simp


/-- Where a step of a walk of its own blocks leads: it asks again, or has ended. -/
def Goes {σ : Type} (K : Mach σ) (R : World → List Nat → Value → σ → Prop) (m : Nat) (st : WSt) (T : List Nat) (s : σ) (w1 w2 : World) : Prop :=
  Keeps (m :: T) w1 w2 ∧
  ((∃ x fn fi ca T2, K.want s = some x ∧ K.res s = none ∧ Wk w2 m { st with x := x, nxt := .func fn fi ca, sub := none, after := .nilFunc } ∧ R w2 T2 (.func fn fi ca) s ∧ (∀ k ∈ T2, k < w2.heap.size) ∧ (∀ k ∈ T2, k ≠ m ∧ (k ∈ T ∨ w1.heap.size ≤ k))) ∨
   (∃ c v us l', K.want s = none ∧ K.res s = some ⟨c, v, us⟩ ∧ us.length ≤ 10000000 ∧ Wk w2 m { st with nxt := .nilFunc, sub := none, after := .nilFunc, over := true, code := c, v := v, l := l' } ∧ w2.ownsRow w1.heap.size 34 1 l' us.length (ints .u64 us)))

theorem Goes.from {σ : Type} {K : Mach σ} {R : World → List Nat → Value → σ → Prop} {m : Nat} {st : WSt} {T : List Nat} {s : σ} {w w1 w2 : World} (h : Goes K R m st T s w1 w2) (hk : Keeps (m :: T) w w1) : Goes K R m st T s w w2 := by
  have hs := hk.size
  obtain ⟨k, h | h⟩ := h
  · obtain ⟨x, fn, fi, ca, T2, hx, hr, hw, hR, hlt2, hT2⟩ := h
    refine ⟨hk.trans k, .inl ⟨x, fn, fi, ca, T2, hx, hr, hw, hR, hlt2, fun k hk => ⟨(hT2 k hk).1, ?_⟩⟩⟩
    rcases (hT2 k hk).2 with h | h
    · exact .inl h
    · exact .inr (Nat.le_trans hs h)
  · obtain ⟨c, v, us, l', hx, hr, hus, hw, ho⟩ := h
    exact ⟨hk.trans k, .inr ⟨c, v, us, l', hx, hr, hus, hw, owns_base ho hs⟩⟩

end Go.Proofs.YtjbgkaleickknaaGreat

/-
  Walks of their own blocks, whose tasks may change: how a step goes on, or ends.
-/
namespace Go.Proofs.YtjbgkaleickknaaGreat
set_option maxRecDepth 100000
set_option linter.unusedSimpArgs false
set_option linter.unusedVariables false
open Go.ChangeShapes Go.WideShapes Go.ChangeAt Go.RowKit

/-- Where a step of a walk of its own blocks leads (hd: what it held): it holds the same, or others; it asks again, or has ended. -/
def GoesH {σ : Type} (K : Mach σ) (R : World → List Nat → Value → σ → Prop) (m : Nat) (st : WSt) (hd : List Int) (T : List Nat) (s : σ) (w1 w2 : World) : Prop :=
  Keeps (m :: T) w1 w2 ∧ ∃ tk, ((tk = st.tasks ∧ K.held s = hd) ∨ ((K.held s).length ≤ 10000000 ∧ w2.ownsRow w1.heap.size 34 1 tk (K.held s).length (ints .u64 (K.held s)))) ∧
  ((∃ x fn fi ca T2, K.want s = some x ∧ K.res s = none ∧ Wk w2 m { st with tasks := tk, x := x, nxt := .func fn fi ca, sub := none, after := .nilFunc } ∧ R w2 T2 (.func fn fi ca) s ∧ (∀ k ∈ T2, k < w2.heap.size) ∧ (∀ k ∈ T2, k ≠ m ∧ (k ∈ T ∨ (w1.heap.size ≤ k ∧ (tk = st.tasks ∨ tk.ownBlock ≠ some k))))) ∨
   (∃ c v us l', K.want s = none ∧ K.res s = some ⟨c, v, us⟩ ∧ us.length ≤ 10000000 ∧ Wk w2 m { st with tasks := tk, nxt := .nilFunc, sub := none, after := .nilFunc, over := true, code := c, v := v, l := l' } ∧ w2.ownsRow w1.heap.size 34 1 l' us.length (ints .u64 us)))

theorem GoesH.from {σ : Type} {K : Mach σ} {R : World → List Nat → Value → σ → Prop} {m : Nat} {st : WSt} {hd : List Int} {T : List Nat} {s : σ} {w w1 w2 : World} (h : GoesH K R m st hd T s w1 w2) (hk : Keeps (m :: T) w w1) : GoesH K R m st hd T s w w2 := by
  have hs := hk.size
  obtain ⟨k, tk, ht, h | h⟩ := h
  · obtain ⟨x, fn, fi, ca, T2, hx, hr, hw, hR, hlt2, hT2⟩ := h
    refine ⟨hk.trans k, tk, ht.imp_right fun h => ⟨h.1, owns_base h.2 hs⟩, .inl ⟨x, fn, fi, ca, T2, hx, hr, hw, hR, hlt2, fun k hk => ⟨(hT2 k hk).1, ?_⟩⟩⟩
    rcases (hT2 k hk).2 with h | h
    · exact .inl h
    · exact .inr ⟨Nat.le_trans hs h.1, h.2⟩
  · obtain ⟨c, v, us, l', hx, hr, hus, hw, ho⟩ := h
    exact ⟨hk.trans k, tk, ht.imp_right fun h => ⟨h.1, owns_base h.2 hs⟩, .inr ⟨c, v, us, l', hx, hr, hus, hw, owns_base ho hs⟩⟩

end Go.Proofs.YtjbgkaleickknaaGreat
