/-
  Machines of a few states, and walks that go as such a machine goes.
-/
import Derived.Test.YtihlfcggggloaaaWalk3
import Derived.Test.YtihlfcggggloaaaSame
namespace Go.Proofs.Ytihlfcggggloaaa
set_option maxRecDepth 100000
open Go.ChangeShapes Go.WideShapes Go.ChangeAt Go.RowKit

/-- A result: a code, a number, a list. -/
structure Rs where
  code : Int
  v : Int
  l : List Int
@[reducible] def Rs.zero : Rs := ⟨0, 0, []⟩
@[reducible] def zacc : C.Acc := ⟨0, 0, 0, 0⟩

/-- A machine: what it wants, what came of it, what it holds, and where what it is told leads. -/
structure Mach (σ : Type) where
  want : σ → Option C.Acc
  res : σ → Option Rs
  held : σ → List Int
  give : σ → Int → Bool → σ

/-- What can be seen of a machine. -/
structure Fc where
  want : Option C.Acc
  res : Option Rs
  held : List Int
def Mach.face {σ : Type} (K : Mach σ) (s : σ) : Fc := ⟨K.want s, K.res s, K.held s⟩
/-- Where a list of answers leads. -/
def Mach.goes {σ : Type} (K : Mach σ) (s : σ) (ts : List (Int × Bool)) : σ := ts.foldl (fun s t => K.give s t.1 t.2) s
/-- What is seen at each step. -/
def Mach.trace {σ : Type} (K : Mach σ) (s : σ) (ts : List (Int × Bool)) : List Fc := (List.range (ts.length + 1)).map fun i => K.face (K.goes s (ts.take i))
theorem Mach.trace_at {σ : Type} (K : Mach σ) (s : σ) (ts : List (Int × Bool)) {i : Nat} (h : i ≤ ts.length) : (K.trace s ts)[i]? = some (K.face (K.goes s (ts.take i))) := by
  unfold Mach.trace
  rw [List.getElem?_map, List.getElem?_range (by omega)]; rfl
theorem Mach.trace_len {σ : Type} (K : Mach σ) (s : σ) (ts : List (Int × Bool)) : (K.trace s ts).length = ts.length + 1 := by simp [Mach.trace]
theorem Mach.goes_succ {σ : Type} (K : Mach σ) (s : σ) (ts : List (Int × Bool)) {i : Nat} (h : i < ts.length) : K.goes s (ts.take (i + 1)) = K.give (K.goes s (ts.take i)) ts[i].1 ts[i].2 := by
  unfold Mach.goes
  rw [List.take_succ_eq_append_getElem h, List.foldl_append]; rfl

/-- At block m is a walk that goes as the machine K goes, while I holds (of the world, of the blocks that it may write, of the machine's state). -/
structure Runs {σ : Type} (K : Mach σ) (I : World → List Nat → σ → Prop) (m : Nat) : Prop where
  lt : ∀ {w S s}, I w S s → ∀ k ∈ S, k < w.heap.size
  frame : ∀ {w w' S T s}, I w S s → Keeps T w w' → (∀ k ∈ S, k ∉ T) → I w' S s
  want : ∀ w S s, I w S s → Calls Try.prog 48 #[.pointer (some ⟨m, 0, none⟩)] w fun e w' => e = .returned (.tuple #[((K.want s).getD zacc).val, .bool (K.want s).isSome]) ∧ Keeps [] w w'
  result : ∀ w S s, I w S s → Calls Try.prog 36 #[.pointer (some ⟨m, 0, none⟩)] w fun e w' => ∃ l,
    e = .returned (.tuple #[.agg #[.int .i64 ((K.res s).getD Rs.zero).code, .int .u64 ((K.res s).getD Rs.zero).v, l], .bool (K.res s).isSome]) ∧ w'.ownsRow w.heap.size 38 1 l ((K.res s).getD Rs.zero).l.length (ints .u64 ((K.res s).getD Rs.zero).l) ∧ Keeps [] w w'
  give : ∀ w S s v won, I w S s → M.U v → Calls Try.prog 50 #[.pointer (some ⟨m, 0, none⟩), .int .u64 v, .bool won] w fun e w' =>
    e = .returned (.tuple #[]) ∧ ∃ S', I w' S' (K.give s v won) ∧ Keeps S w w' ∧ ∀ k ∈ S', k ∈ S ∨ w.heap.size ≤ k

/-- The state of a walk that went into no other one, as a machine's: what it wants and holds, and what came of it. u: how many functions of its own are under way. -/
structure Lone (w : World) (m : Nat) (S : List Nat) (st : WSt) (u : Int) (fc : Fc) : Prop where
  wk : Wk w m st
  sub : st.sub = none
  outer : st.outer = .slice none 0 0
  under : st.under = u
  mem : m ∈ S
  tasks : Sl w 1 st.tasks fc.held.length (ints .u64 fc.held)
  tasksOwn : ∀ g, st.tasks.ownBlock = some g → g ∈ S ∧ g ≠ m
  tasksFew : fc.held.length ≤ 10000000
  over : st.over = fc.res.isSome
  res : ∀ r, fc.res = some r → st.code = r.code ∧ st.v = r.v ∧ Sl w 1 st.l r.l.length (ints .u64 r.l) ∧ r.l.length ≤ 10000000
  resOwn : ∀ g, st.l.ownBlock = some g → g ∈ S ∧ g ≠ m
  none_ : fc.want = none → st.nxt = .nilFunc
  some_ : ∀ x, fc.want = some x → st.x = x ∧ ∃ fn fi ca, st.nxt = .func fn fi ca

theorem Lone.keeps {w w' : World} {m : Nat} {S T : List Nat} {st : WSt} {u : Int} {fc : Fc} (h : Lone w m S st u fc) (hk : Keeps T w w') (hT : ∀ k ∈ S, k ∉ T) : Lone w' m S st u fc :=
  { h with
    wk := h.wk.keeps hk (hT _ h.mem)
    tasks := h.tasks.but hk (fun g hg => hT _ (h.tasksOwn g hg).1)
    res := fun r hr => ⟨(h.res r hr).1, (h.res r hr).2.1, (h.res r hr).2.2.1.but hk (fun g hg => hT _ (h.resOwn g hg).1), (h.res r hr).2.2.2⟩ }

/-- Its own block is written alone: how many functions are under way. -/
theorem Lone.under_to {w w' : World} {m : Nat} {S : List Nat} {st : WSt} {u : Int} {fc : Fc} (h : Lone w m S st u fc) (hk : Keeps [m] w w') (v : Int) (hw : Wk w' m { st with under := v }) : Lone w' m S { st with under := v } v fc :=
  { h with
    wk := hw
    under := rfl
    tasks := h.tasks.but hk (fun g hg => by simpa using (h.tasksOwn g hg).2)
    res := fun r hr => ⟨(h.res r hr).1, (h.res r hr).2.1, (h.res r hr).2.2.1.but hk (fun g hg => by simpa using (h.resOwn g hg).2), (h.res r hr).2.2.2⟩ }

theorem Lone.wants {w : World} {m : Nat} {S : List Nat} {st : WSt} {fc : Fc} (h : Lone w m S st 0 fc) :
    Calls Try.prog 48 #[.pointer (some ⟨m, 0, none⟩)] w fun e w' => e = .returned (.tuple #[(fc.want.getD zacc).val, .bool fc.want.isSome]) ∧ Keeps [] w w' := by
  cases hw : fc.want with
  | none => exact wWantNone m st w h.wk h.sub (h.none_ hw)
  | some x =>
    obtain ⟨hx, fn, fi, ca, hn⟩ := h.some_ x hw
    have := wWant m st w h.wk h.sub fn fi ca hn
    rw [hx] at this
    exact this
theorem Lone.results {w : World} {m : Nat} {S : List Nat} {st : WSt} {fc : Fc} (h : Lone w m S st 0 fc) :
    Calls Try.prog 36 #[.pointer (some ⟨m, 0, none⟩)] w fun e w' => ∃ l,
      e = .returned (.tuple #[.agg #[.int .i64 (fc.res.getD Rs.zero).code, .int .u64 (fc.res.getD Rs.zero).v, l], .bool fc.res.isSome]) ∧ w'.ownsRow w.heap.size 38 1 l (fc.res.getD Rs.zero).l.length (ints .u64 (fc.res.getD Rs.zero).l) ∧ Keeps [] w w' := by
  cases hr : fc.res with
  | none =>
    exact (wResultNot m st w h.wk (by rw [h.over, hr]; rfl)).mono fun e w' ⟨he, hk⟩ => ⟨_, he, World.ownsRow_nil _ _ _ _, hk⟩
  | some r =>
    obtain ⟨h1, h2, h3, h4⟩ := h.res r hr
    have := wResult m st r.l.length r.l w h.wk (by rw [h.over, hr]; rfl) h3 h4
    rw [h1, h2] at this
    exact this

/-- What a step's function must do: from a walk whose function is under way to the machine's next state. E: what is known of the blocks T, by what it does next. -/
def Steps1 {σ : Type} (K : Mach σ) (E : World → List Nat → Value → σ → Prop) (m : Nat) : Prop :=
  ∀ w S T st s v won x, Lone w m S st 0 (K.face s) → (∀ k ∈ S, k < w.heap.size) → (∀ k ∈ T, k < w.heap.size) → (∀ k ∈ S, k ∉ T) → E w T st.nxt s → M.U v → K.want s = some x →
    ∃ F fi ca, st.nxt = .func (.func F) fi ca ∧ (∀ args w, (callFunc F args).run Try.prog w = .ok (.enter F args) w) ∧
      ∀ w1, Wk w1 m { st with nxt := .nilFunc, sub := none, after := .nilFunc, under := 1 } → Keeps [m] w w1 →
        Calls Try.prog F (fi ++ (#[.int .u64 v, .bool won] ++ ca)) w1 fun e w2 => e = .returned (.tuple #[]) ∧ ∃ S2 T2 st2, Lone w2 m S2 st2 1 (K.face (K.give s v won)) ∧ (∀ k ∈ S2, k < w2.heap.size) ∧ (∀ k ∈ T2, k < w2.heap.size) ∧ (∀ k ∈ S2, k ∉ T2) ∧ E w2 T2 st2.nxt (K.give s v won) ∧
          Keeps (S ++ T) w1 w2 ∧ (∀ k ∈ S2, k ∈ S ∨ w1.heap.size ≤ k) ∧ ∀ k ∈ T2, k ∈ T ∨ w1.heap.size ≤ k

/-- A walk of its own blocks goes as the machine goes. -/
def LoneI {σ : Type} (K : Mach σ) (E : World → List Nat → Value → σ → Prop) (m : Nat) (w : World) (U : List Nat) (s : σ) : Prop :=
  ∃ S T st, U = S ++ T ∧ Lone w m S st 0 (K.face s) ∧ (∀ k ∈ S, k < w.heap.size) ∧ (∀ k ∈ T, k < w.heap.size) ∧ (∀ k ∈ S, k ∉ T) ∧ E w T st.nxt s
theorem runs_lone {σ : Type} (K : Mach σ) (E : World → List Nat → Value → σ → Prop) (m : Nat)
    (hE : ∀ w w' T A nx s, E w T nx s → Keeps A w w' → (∀ k ∈ T, k ∉ A) → E w' T nx s)
    (hN : ∀ s v won, K.want s = none → K.give s v won = s) (hS : Steps1 K E m) :
    Runs K (LoneI K E m) m where
  lt := fun ⟨S, T, _, hU, _, h1, h2, _⟩ k hk => by
    subst hU
    rcases List.mem_append.1 hk with h | h
    · exact h1 k h
    · exact h2 k h
  frame := fun ⟨S, T, st, hU, h1, h2, h3, h4, h5⟩ hk hA => by
    subst hU
    exact ⟨S, T, st, rfl, h1.keeps hk (fun k hk => hA k (List.mem_append_left _ hk)), fun k hk' => Nat.lt_of_lt_of_le (h2 k hk') hk.size, fun k hk' => Nat.lt_of_lt_of_le (h3 k hk') hk.size, h4, hE _ _ _ _ _ _ h5 hk (fun k hk => hA k (List.mem_append_right _ hk))⟩
  want := fun w S s ⟨_, _, st, _, h1, _⟩ => h1.wants
  result := fun w S s ⟨_, _, st, _, h1, _⟩ => h1.results
  give := fun w U s v won ⟨S, T, st, hU, h1, h2, h3, h4, h5⟩ hv => by
    subst hU
    cases hw : K.want s with
    | none =>
      rw [hN s v won hw]
      exact (wGiveNone m st v won w h1.wk h1.sub (h1.none_ hw)).mono fun e w' ⟨he, hk⟩ => ⟨he, S ++ T, ⟨S, T, st, rfl, h1.keeps hk (by simp), fun k hk' => Nat.lt_of_lt_of_le (h2 k hk') hk.size, fun k hk' => Nat.lt_of_lt_of_le (h3 k hk') hk.size, h4, hE _ _ _ _ _ _ h5 hk (by simp)⟩, hk.nil, fun k hk => .inl hk⟩
    | some x =>
      obtain ⟨F, fi, ca, hn, hcf, hF⟩ := hS w S T st s v won x h1 h2 h3 h4 h5 hv hw
      refine (wGive m st F fi ca v won w (fun w2 s2 => ∃ S2 T2 w1, Lone w2 m S2 s2 1 (K.face (K.give s v won)) ∧ (∀ k ∈ S2, k < w2.heap.size) ∧ (∀ k ∈ T2, k < w2.heap.size) ∧ (∀ k ∈ S2, k ∉ T2) ∧ E w2 T2 s2.nxt (K.give s v won) ∧ Keeps [m] w w1 ∧ Keeps (S ++ T) w1 w2 ∧ (∀ k ∈ S2, k ∈ S ∨ w1.heap.size ≤ k) ∧ ∀ k ∈ T2, k ∈ T ∨ w1.heap.size ≤ k) h1.wk h1.sub hn h1.under hcf ?_).mono ?_
      · intro w1 hw1 hk1
        refine (hF w1 hw1 hk1).mono ?_
        rintro e w2 ⟨rfl, S2, T2, st2, l2, lt2, lt2', d2, e2, k2, n2, n2'⟩
        exact ⟨rfl, st2, l2.wk, l2.under, .inr l2.outer, S2, T2, w1, l2, lt2, lt2', d2, e2, hk1, k2, n2, n2'⟩
      · rintro e w' ⟨rfl, w2, st2, ⟨S2, T2, w1, l2, lt2, lt2', d2, e2, k1, k2, n2, n2'⟩, k3, hw'⟩
        have hm : m ∈ S := h1.mem
        have hm2 : m ∈ S2 := l2.mem
        refine ⟨rfl, S2 ++ T2, ⟨S2, T2, _, rfl, l2.under_to k3 0 hw', fun k hk => Nat.lt_of_lt_of_le (lt2 k hk) k3.size, fun k hk => Nat.lt_of_lt_of_le (lt2' k hk) k3.size, d2, hE _ _ _ _ _ _ e2 k3 (fun k hk hne => by simp at hne; exact d2 m hm2 (hne ▸ hk))⟩, ?_, fun k hk => ?_⟩
        · exact ((k1.mono (by intro k hk _; simp at hk; exact hk ▸ List.mem_append_left _ hm)).trans k2).trans (k3.mono (by intro k hk _; simp at hk; exact hk ▸ List.mem_append_left _ hm))
        · rcases List.mem_append.1 hk with hk | hk
          · rcases n2 k hk with h | h
            · exact .inl (List.mem_append_left _ h)
            · exact .inr (Nat.le_trans k1.size h)
          · rcases n2' k hk with h | h
            · exact .inl (List.mem_append_right _ h)
            · exact .inr (Nat.le_trans k1.size h)

/-- The blocks of the tasks, behind a step that writes the walk's own block and those of T. -/
theorem Lone.tasks_at {w w1 w2 : World} {m : Nat} {S T : List Nat} {st : WSt} {u : Int} {fc : Fc} (h : Lone w m S st u fc) (hd : ∀ k ∈ S, k ∉ T) (k1 : Keeps [m] w w1) (k2 : Keeps (m :: T) w1 w2) : Sl w2 1 st.tasks fc.held.length (ints .u64 fc.held) := by
  refine (h.tasks.but k1 (fun g hg => by simpa using (h.tasksOwn g hg).2)).but k2 (fun g hg => ?_)
  obtain ⟨h1, h2⟩ := h.tasksOwn g hg
  simp only [List.mem_cons, not_or]
  exact ⟨h2, hd g h1⟩
theorem mem_S {m : Nat} {S T : List Nat} (hm : m ∈ S) : ∀ k ∈ m :: T, k ∈ S ++ T := by
  intro k hk
  simp only [List.mem_cons] at hk
  rcases hk with rfl | hk
  · exact List.mem_append_left _ hm
  · exact List.mem_append_right _ hk
end Go.Proofs.Ytihlfcggggloaaa
