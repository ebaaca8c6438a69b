import Derived.Test.YtjfgpplnlepnoaaGreatRows
import Derived.Test.YtjfgpplnlepnoaaGreatKeep
import Derived.LoopTactic
import Derived.Test.YtjfgpplnlepnoaaGreatWalk
/-
  The references' own comparisons of lists.
-/
namespace Go.Proofs.YtjfgpplnlepnoaaGreat
set_option maxRecDepth 100000
set_option linter.unusedSimpArgs false
set_option linter.unusedVariables false
open Go.ChangeShapes Go.WideShapes Go.ChangeAt Go.RowKit

set_option maxHeartbeats 400000 in
theorem sameWords_any (v1 v2 : Value) (n1 n2 : Nat) (xs ys : List Int) (w : World) (m1 : n1 ≤ maxLen) (m2 : n2 ≤ maxLen) (h1 : Sl w 1 v1 n1 (ints .u64 xs)) (h2 : Sl w 1 v2 n2 (ints .u64 ys)) :
    Calls Tryz.prog 24 #[v1, v2] w fun e w' => e = .returned (.bool (decide (xs = ys))) ∧ ∃ m, w.drewN m = w' := by
  have l1 := h1.ints_len
  have l2 := h2.ints_len
  unfold maxLen at m1 m2
  by_cases hn : n1 = n2
  · subst hn
    by_cases h0 : n1 = 0
    · subst h0
      obtain ⟨p1, c1, rfl⟩ := h1.len
      obtain ⟨p2, c2, rfl⟩ := h2.len
      have hx : xs = ys := by rw [List.eq_nil_of_length_eq_zero l1, List.eq_nil_of_length_eq_zero l2]
      have HX := Lib.hid hx
      clear hx l1 l2 h1 h2
      go_enter Tryz.func24, Tryz.ntmps24
      go_wp2
      refine wp_loop_rounds 1 ?_
      rw [rounds_succ]
      go_wp2
      go_ret
      exact ⟨ret_bool (decide_eq_true HX.out).symm, 0, rfl⟩
    · obtain ⟨b1, o1, c1, rfl, z1, k1⟩ := h1.some (by omega)
      obtain ⟨b2, o2, c2, rfl, z2, k2⟩ := h2.some (by omega)
      have K1 := Lib.hid k1
      have K2 := Lib.hid k2
      have L1 := Lib.hid l1
      have L2 := Lib.hid l2
      clear h1 h2 l1 l2 k1 k2
      have hnn : ((n1 : Int) != (n1 : Int)) = false := by simp
      go_enter Tryz.func24, Tryz.ntmps24
      go_wp2
      go_loopw [5] (fun i wr => ∃ k m : Nat, k ≤ n1 ∧ i = .int .i64 k ∧ xs.take k = ys.take k ∧ wr = w.drewN m) (fun i _ => n1 - (intOf i).toNat)
      case atStart => exact ⟨0, 0, Nat.zero_le _, rfl, rfl, rfl⟩
      case round =>
        obtain ⟨k, m, hk, rfl, htk, rfl⟩ := hrel
        have HT := Lib.hid htk
        clear htk
        by_cases hlt : k < n1
        · have a1 := K1.out k _ (ints_at (by rw [L1.out]; exact hlt))
          have a2 := K2.out k _ (ints_at (by rw [L2.out]; exact hlt))
          obtain ⟨x, hx⟩ : ∃ x, xs.getD k 0 = x := ⟨_, rfl⟩
          obtain ⟨y, hy⟩ : ∃ y, ys.getD k 0 = y := ⟨_, rfl⟩
          rw [hx] at a1
          rw [hy] at a2
          have HX := Lib.hid hx
          have HY := Lib.hid hy
          clear hx hy
          by_cases he : x = y
          · have hb : (x != y) = false := by simp [he]
            have HE := Lib.hid he
            clear he
            go_wp2
            go_quiet (fail)
            go_wp2
            go_roundw
            case rel => exact ⟨k + 1, _, by omega, by go_num, take_eq_step HT.out (by rw [L1.out]; exact hlt) (by rw [L2.out]; exact hlt) (by rw [HX.out, HY.out, HE.out]), rfl⟩
            case measure => simp [intOf]; omega
          · have hb : (x != y) = true := by simp [he]
            have HE := Lib.hid he
            clear he
            go_wp2
            go_quiet (fail)
            go_wp2
            go_ret
            exact ⟨ret_bool (decide_eq_false (ne_of_at (by rw [HX.out, HY.out]; exact HE.out))).symm, by first | exact ⟨_, rfl⟩ | exact dn2 _ _ _⟩
        · obtain rfl : k = n1 := by omega
          go_wp2
          go_ret
          exact ⟨ret_bool (decide_eq_true (by rw [← List.take_of_length_le (l := xs) (Nat.le_of_eq L1.out), HT.out, List.take_of_length_le (Nat.le_of_eq L2.out)])).symm, _, rfl⟩
  · have hb : ((n1 : Int) != (n2 : Int)) = true := by rw [bne_iff_ne]; omega
    obtain ⟨p1, c1, rfl⟩ := h1.len
    obtain ⟨p2, c2, rfl⟩ := h2.len
    have hne : xs ≠ ys := fun h => hn (by rw [← l1, ← l2, h])
    have HN := Lib.hid hne
    clear hne l1 l2 h1 h2 hn
    go_enter Tryz.func24, Tryz.ntmps24
    go_wp2
    go_ret
    exact ⟨ret_bool (decide_eq_false HN.out).symm, 0, rfl⟩

end Go.Proofs.YtjfgpplnlepnoaaGreat

/-
  Machines of a few states, and walks that go as such a machine goes.
-/
namespace Go.Proofs.YtjfgpplnlepnoaaGreat
set_option maxRecDepth 100000
set_option linter.unusedSimpArgs false
set_option linter.unusedVariables false
open Go.ChangeShapes Go.WideShapes Go.ChangeAt Go.RowKit

/-- A result: a code, a number, a list. -/
structure Rs where
  code : Int
  v : Int
  l : List Int
@[reducible] def Rs.zero : Rs := ⟨0, 0, []⟩
@[reducible] def zacc : C.Acc := ⟨0, 0, 0, 0⟩

/-- A machine: what it wants, what came of it, what it holds, and where what it is told leads. -/
structure Mach (σ : Type) where
  want : σ → Option C.Acc
  res : σ → Option Rs
  held : σ → List Int
  give : σ → Int → Bool → σ

/-- What can be seen of a machine. -/
structure Fc where
  want : Option C.Acc
  res : Option Rs
  held : List Int
def Mach.face {σ : Type} (K : Mach σ) (s : σ) : Fc := ⟨K.want s, K.res s, K.held s⟩
/-- Where a list of answers leads. -/
def Mach.goes {σ : Type} (K : Mach σ) (s : σ) (ts : List (Int × Bool)) : σ := ts.foldl (fun s t => K.give s t.1 t.2) s
/-- What is seen at each step. -/
def Mach.trace {σ : Type} (K : Mach σ) (s : σ) (ts : List (Int × Bool)) : List Fc := (List.range (ts.length + 1)).map fun i => K.face (K.goes s (ts.take i))
theorem Mach.trace_at {σ : Type} (K : Mach σ) (s : σ) (ts : List (Int × Bool)) {i : Nat} (h : i ≤ ts.length) : (K.trace s ts)[i]? = some (K.face (K.goes s (ts.take i))) := by
  unfold Mach.trace
  rw [List.getElem?_map, List.getElem?_range (by omega)]; rfl
theorem Mach.trace_len {σ : Type} (K : Mach σ) (s : σ) (ts : List (Int × Bool)) : (K.trace s ts).length = ts.length + 1 := by simp [Mach.trace]
theorem Mach.goes_succ {σ : Type} (K : Mach σ) (s : σ) (ts : List (Int × Bool)) {i : Nat} (h : i < ts.length) : K.goes s (ts.take (i + 1)) = K.give (K.goes s (ts.take i)) ts[i].1 ts[i].2 := by
  unfold Mach.goes
  rw [List.take_succ_eq_append_getElem h, List.foldl_append]; rfl

/-- At block m is a walk that goes as the machine K goes, while I holds (of the world, of the blocks that it may write, of the machine's state). -/
structure Runs {σ : Type} (K : Mach σ) (I : World → List Nat → σ → Prop) (m : Nat) : Prop where
  lt : ∀ {w S s}, I w S s → ∀ k ∈ S, k < w.heap.size
  frame : ∀ {w w' S T s}, I w S s → Keeps T w w' → (∀ k ∈ S, k ∉ T) → I w' S s
  want : ∀ w S s, I w S s → Calls Tryz.prog 52 #[.pointer (some ⟨m, 0, none⟩)] w fun e w' => e = .returned (.tuple #[((K.want s).getD zacc).val, .bool (K.want s).isSome]) ∧ Keeps [] w w'
  result : ∀ w S s, I w S s → Calls Tryz.prog 53 #[.pointer (some ⟨m, 0, none⟩)] w fun e w' => ∃ l,
    e = .returned (.tuple #[.agg #[.int .i64 ((K.res s).getD Rs.zero).code, .int .u64 ((K.res s).getD Rs.zero).v, l], .bool (K.res s).isSome]) ∧ w'.ownsRow w.heap.size 26 1 l ((K.res s).getD Rs.zero).l.length (ints .u64 ((K.res s).getD Rs.zero).l) ∧ Keeps [] w w'
  held : ∀ w S s, I w S s → Calls Tryz.prog 55 #[.pointer (some ⟨m, 0, none⟩)] w fun e w' => ∃ l, e = .returned l ∧ w'.ownsRow w.heap.size 26 1 l (K.held s).length (ints .u64 (K.held s)) ∧ Keeps [] w w'
  give : ∀ w S s v won, I w S s → M.U v → Amb w → (∀ k ∈ S, ¬ AmbAt k) → Calls Tryz.prog 56 #[.pointer (some ⟨m, 0, none⟩), .int .u64 v, .bool won] w fun e w' =>
    e = .returned (.tuple #[]) ∧ ∃ S', I w' S' (K.give s v won) ∧ Keeps S w w' ∧ ∀ k ∈ S', k ∈ S ∨ w.heap.size ≤ k

/-- The state of a walk that went into no other one, as a machine's: what it wants and holds, and what came of it. u: how many functions of its own are under way. -/
structure Lone (w : World) (m : Nat) (S : List Nat) (st : WSt) (u : Int) (fc : Fc) : Prop where
  wk : Wk w m st
  sub : st.sub = none
  outer : st.outer = .slice none 0 0
  under : st.under = u
  mem : m ∈ S
  tasks : Sl w 1 st.tasks fc.held.length (ints .u64 fc.held)
  tasksOwn : ∀ g, st.tasks.ownBlock = some g → g ∈ S ∧ g ≠ m
  tasksFew : fc.held.length ≤ 10000000
  over : st.over = fc.res.isSome
  res : ∀ r, fc.res = some r → st.code = r.code ∧ st.v = r.v ∧ Sl w 1 st.l r.l.length (ints .u64 r.l) ∧ r.l.length ≤ 10000000
  resOwn : ∀ g, st.l.ownBlock = some g → g ∈ S ∧ g ≠ m
  none_ : fc.want = none → st.nxt = .nilFunc
  some_ : ∀ x, fc.want = some x → st.x = x ∧ ∃ fn fi ca, st.nxt = .func fn fi ca

theorem Lone.keeps {w w' : World} {m : Nat} {S T : List Nat} {st : WSt} {u : Int} {fc : Fc} (h : Lone w m S st u fc) (hk : Keeps T w w') (hT : ∀ k ∈ S, k ∉ T) : Lone w' m S st u fc :=
  { h with
    wk := h.wk.keeps hk (hT _ h.mem)
    tasks := h.tasks.but hk (fun g hg => hT _ (h.tasksOwn g hg).1)
    res := fun r hr => ⟨(h.res r hr).1, (h.res r hr).2.1, (h.res r hr).2.2.1.but hk (fun g hg => hT _ (h.resOwn g hg).1), (h.res r hr).2.2.2⟩ }

/-- Its own block is written alone: how many functions are under way. -/
theorem Lone.under_to {w w' : World} {m : Nat} {S : List Nat} {st : WSt} {u : Int} {fc : Fc} (h : Lone w m S st u fc) (hk : Keeps [m] w w') (v : Int) (hw : Wk w' m { st with under := v }) : Lone w' m S { st with under := v } v fc :=
  { h with
    wk := hw
    under := rfl
    tasks := h.tasks.but hk (fun g hg => by simpa using (h.tasksOwn g hg).2)
    res := fun r hr => ⟨(h.res r hr).1, (h.res r hr).2.1, (h.res r hr).2.2.1.but hk (fun g hg => by simpa using (h.resOwn g hg).2), (h.res r hr).2.2.2⟩ }

theorem Lone.wants {w : World} {m : Nat} {S : List Nat} {st : WSt} {fc : Fc} (h : Lone w m S st 0 fc) :
    Calls Tryz.prog 52 #[.pointer (some ⟨m, 0, none⟩)] w fun e w' => e = .returned (.tuple #[(fc.want.getD zacc).val, .bool fc.want.isSome]) ∧ Keeps [] w w' := by
  cases hw : fc.want with
  | none => exact wWantNone m st w h.wk h.sub (h.none_ hw)
  | some x =>
    obtain ⟨hx, fn, fi, ca, hn⟩ := h.some_ x hw
    have := wWant m st w h.wk h.sub fn fi ca hn
    rw [hx] at this
    exact this
theorem Lone.results {w : World} {m : Nat} {S : List Nat} {st : WSt} {fc : Fc} (h : Lone w m S st 0 fc) :
    Calls Tryz.prog 53 #[.pointer (some ⟨m, 0, none⟩)] w fun e w' => ∃ l,
      e = .returned (.tuple #[.agg #[.int .i64 (fc.res.getD Rs.zero).code, .int .u64 (fc.res.getD Rs.zero).v, l], .bool fc.res.isSome]) ∧ w'.ownsRow w.heap.size 26 1 l (fc.res.getD Rs.zero).l.length (ints .u64 (fc.res.getD Rs.zero).l) ∧ Keeps [] w w' := by
  cases hr : fc.res with
  | none =>
    exact (wResultNot m st w h.wk (by rw [h.over, hr]; rfl)).mono fun e w' ⟨he, hk⟩ => ⟨_, he, World.ownsRow_nil _ _ _ _, hk⟩
  | some r =>
    obtain ⟨h1, h2, h3, h4⟩ := h.res r hr
    have := wResult m st r.l.length r.l w h.wk (by rw [h.over, hr]; rfl) h3 h4
    rw [h1, h2] at this
    exact this
theorem Lone.helds {w : World} {m : Nat} {S : List Nat} {st : WSt} {fc : Fc} (h : Lone w m S st 0 fc) :
    Calls Tryz.prog 55 #[.pointer (some ⟨m, 0, none⟩)] w fun e w' => ∃ l, e = .returned l ∧ w'.ownsRow w.heap.size 26 1 l fc.held.length (ints .u64 fc.held) ∧ Keeps [] w w' :=
  wHeld m st _ _ w h.wk h.sub h.tasks h.tasksFew

/-- What a step's function must do: from a walk whose function is under way to the machine's next state. E: what is known of the blocks T, by what it does next. -/
def Steps1 {σ : Type} (K : Mach σ) (E : World → List Nat → Value → σ → Prop) (m : Nat) : Prop :=
  ∀ w S T st s v won x, Lone w m S st 0 (K.face s) → (∀ k ∈ S, k < w.heap.size) → (∀ k ∈ T, k < w.heap.size) → (∀ k ∈ S, k ∉ T) → E w T st.nxt s → M.U v → K.want s = some x → Amb w → (∀ k ∈ S ++ T, ¬ AmbAt k) →
    ∃ F fi ca, st.nxt = .func (.func F) fi ca ∧ (∀ args w, (callFunc F args).run Tryz.prog w = .ok (.enter F args) w) ∧
      ∀ w1, Wk w1 m { st with nxt := .nilFunc, sub := none, after := .nilFunc, under := 1 } → Keeps [m] w w1 →
        Calls Tryz.prog F (fi ++ (#[.int .u64 v, .bool won] ++ ca)) w1 fun e w2 => e = .returned (.tuple #[]) ∧ ∃ S2 T2 st2, Lone w2 m S2 st2 1 (K.face (K.give s v won)) ∧ (∀ k ∈ S2, k < w2.heap.size) ∧ (∀ k ∈ T2, k < w2.heap.size) ∧ (∀ k ∈ S2, k ∉ T2) ∧ E w2 T2 st2.nxt (K.give s v won) ∧
          Keeps (S ++ T) w1 w2 ∧ (∀ k ∈ S2, k ∈ S ∨ w1.heap.size ≤ k) ∧ ∀ k ∈ T2, k ∈ T ∨ w1.heap.size ≤ k

/-- A walk of its own blocks goes as the machine goes. -/
def LoneI {σ : Type} (K : Mach σ) (E : World → List Nat → Value → σ → Prop) (m : Nat) (w : World) (U : List Nat) (s : σ) : Prop :=
  ∃ S T st, U = S ++ T ∧ Lone w m S st 0 (K.face s) ∧ (∀ k ∈ S, k < w.heap.size) ∧ (∀ k ∈ T, k < w.heap.size) ∧ (∀ k ∈ S, k ∉ T) ∧ E w T st.nxt s
theorem runs_lone {σ : Type} (K : Mach σ) (E : World → List Nat → Value → σ → Prop) (m : Nat)
    (hE : ∀ w w' T A nx s, E w T nx s → Keeps A w w' → (∀ k ∈ T, k ∉ A) → E w' T nx s)
    (hN : ∀ s v won, K.want s = none → K.give s v won = s) (hS : Steps1 K E m) :
    Runs K (LoneI K E m) m where
  lt := fun ⟨S, T, _, hU, _, h1, h2, _⟩ k hk => by
    subst hU
    rcases List.mem_append.1 hk with h | h
    · exact h1 k h
    · exact h2 k h
  frame := fun ⟨S, T, st, hU, h1, h2, h3, h4, h5⟩ hk hA => by
    subst hU
    exact ⟨S, T, st, rfl, h1.keeps hk (fun k hk => hA k (List.mem_append_left _ hk)), fun k hk' => Nat.lt_of_lt_of_le (h2 k hk') hk.size, fun k hk' => Nat.lt_of_lt_of_le (h3 k hk') hk.size, h4, hE _ _ _ _ _ _ h5 hk (fun k hk => hA k (List.mem_append_right _ hk))⟩
  want := fun w S s ⟨_, _, st, _, h1, _⟩ => h1.wants
  result := fun w S s ⟨_, _, st, _, h1, _⟩ => h1.results
  held := fun w S s ⟨_, _, st, _, h1, _⟩ => h1.helds
  give := fun w U s v won ⟨S, T, st, hU, h1, h2, h3, h4, h5⟩ hv hamb hambS => by
    subst hU
    cases hw : K.want s with
    | none =>
      rw [hN s v won hw]
      exact (wGiveNone m st v won w h1.wk h1.sub (h1.none_ hw)).mono fun e w' ⟨he, hk⟩ => ⟨he, S ++ T, ⟨S, T, st, rfl, h1.keeps hk (by simp), fun k hk' => Nat.lt_of_lt_of_le (h2 k hk') hk.size, fun k hk' => Nat.lt_of_lt_of_le (h3 k hk') hk.size, h4, hE _ _ _ _ _ _ h5 hk (by simp)⟩, hk.nil, fun k hk => .inl hk⟩
    | some x =>
      obtain ⟨F, fi, ca, hn, hcf, hF⟩ := hS w S T st s v won x h1 h2 h3 h4 h5 hv hw hamb hambS
      refine (wGive m st F fi ca v won w (fun w2 s2 => ∃ S2 T2 w1, Lone w2 m S2 s2 1 (K.face (K.give s v won)) ∧ (∀ k ∈ S2, k < w2.heap.size) ∧ (∀ k ∈ T2, k < w2.heap.size) ∧ (∀ k ∈ S2, k ∉ T2) ∧ E w2 T2 s2.nxt (K.give s v won) ∧ Keeps [m] w w1 ∧ Keeps (S ++ T) w1 w2 ∧ (∀ k ∈ S2, k ∈ S ∨ w1.heap.size ≤ k) ∧ ∀ k ∈ T2, k ∈ T ∨ w1.heap.size ≤ k) h1.wk h1.sub hn h1.under hcf ?_).mono ?_
      · intro w1 hw1 hk1
        refine (hF w1 hw1 hk1).mono ?_
        rintro e w2 ⟨rfl, S2, T2, st2, l2, lt2, lt2', d2, e2, k2, n2, n2'⟩
        exact ⟨rfl, st2, l2.wk, l2.under, .inr l2.outer, S2, T2, w1, l2, lt2, lt2', d2, e2, hk1, k2, n2, n2'⟩
      · rintro e w' ⟨rfl, w2, st2, ⟨S2, T2, w1, l2, lt2, lt2', d2, e2, k1, k2, n2, n2'⟩, k3, hw'⟩
        have hm : m ∈ S := h1.mem
        have hm2 : m ∈ S2 := l2.mem
        refine ⟨rfl, S2 ++ T2, ⟨S2, T2, _, rfl, l2.under_to k3 0 hw', fun k hk => Nat.lt_of_lt_of_le (lt2 k hk) k3.size, fun k hk => Nat.lt_of_lt_of_le (lt2' k hk) k3.size, d2, hE _ _ _ _ _ _ e2 k3 (fun k hk hne => by simp at hne; exact d2 m hm2 (hne ▸ hk))⟩, ?_, fun k hk => ?_⟩
        · exact ((k1.mono (by intro k hk _; simp at hk; exact hk ▸ List.mem_append_left _ hm)).trans k2).trans (k3.mono (by intro k hk _; simp at hk; exact hk ▸ List.mem_append_left _ hm))
        · rcases List.mem_append.1 hk with hk | hk
          · rcases n2 k hk with h | h
            · exact .inl (List.mem_append_left _ h)
            · exact .inr (Nat.le_trans k1.size h)
          · rcases n2' k hk with h | h
            · exact .inl (List.mem_append_right _ h)
            · exact .inr (Nat.le_trans k1.size h)

/-- The blocks of the tasks, behind a step that writes the walk's own block and those of T. -/
theorem Lone.tasks_at {w w1 w2 : World} {m : Nat} {S T : List Nat} {st : WSt} {u : Int} {fc : Fc} (h : Lone w m S st u fc) (hd : ∀ k ∈ S, k ∉ T) (k1 : Keeps [m] w w1) (k2 : Keeps (m :: T) w1 w2) : Sl w2 1 st.tasks fc.held.length (ints .u64 fc.held) := by
  refine (h.tasks.but k1 (fun g hg => by simpa using (h.tasksOwn g hg).2)).but k2 (fun g hg => ?_)
  obtain ⟨h1, h2⟩ := h.tasksOwn g hg
  simp only [List.mem_cons, not_or]
  exact ⟨h2, hd g h1⟩
theorem mem_S {m : Nat} {S T : List Nat} (hm : m ∈ S) : ∀ k ∈ m :: T, k ∈ S ++ T := by
  intro k hk
  simp only [List.mem_cons] at hk
  rcases hk with rfl | hk
  · exact List.mem_append_left _ hm
  · exact List.mem_append_right _ hk
end Go.Proofs.YtjfgpplnlepnoaaGreat

/-
  Walks of their own blocks: how a step goes on, or ends.
-/
namespace Go.Proofs.YtjfgpplnlepnoaaGreat
set_option maxRecDepth 100000
set_option linter.unusedSimpArgs false
set_option linter.unusedVariables false
open Go.ChangeShapes Go.WideShapes Go.ChangeAt Go.RowKit

/-- The state of one that goes on, and of one that has ended. -/
theorem Lone.going {w : World} {m : Nat} {S T : List Nat} {st : WSt} {u : Int} {fc : Fc} (h : Lone w m S st u fc) (hm : m ∈ T) {x : C.Acc} {fn : Fn} {fi ca : Array Value} {w' : World} {v : Int}
    (hw : Wk w' m { st with x := x, nxt := .func fn fi ca, sub := none, after := .nilFunc, under := v }) (hr : fc.res = none) (ht : Sl w' 1 st.tasks fc.held.length (ints .u64 fc.held)) (hS : ∀ g ∈ S, g ∈ T) :
    Lone w' m T { st with x := x, nxt := .func fn fi ca, sub := none, after := .nilFunc, under := v } v ⟨some x, none, fc.held⟩ where
  wk := hw
  sub := rfl
  outer := h.outer
  under := rfl
  mem := hm
  tasks := ht
  tasksOwn := fun g hg => ⟨hS g (h.tasksOwn g hg).1, (h.tasksOwn g hg).2⟩
  tasksFew := h.tasksFew
  over := by show st.over = false; rw [h.over, hr]; rfl
  res := fun r hr => by cases hr
  resOwn := fun g hg => ⟨hS g (h.resOwn g hg).1, (h.resOwn g hg).2⟩
  none_ := fun h => by cases h
  some_ := fun y hy => by cases hy; exact ⟨rfl, fn, fi, ca, rfl⟩
theorem Lone.ending {w : World} {m : Nat} {S T : List Nat} {st : WSt} {u : Int} {fc : Fc} (h : Lone w m S st u fc) (hm : m ∈ T) {code v : Int} {l' : Value} {us : List Int} {w' : World} {uu : Int}
    (hw : Wk w' m { st with nxt := .nilFunc, sub := none, after := .nilFunc, over := true, code := code, v := v, l := l', under := uu }) (ht : Sl w' 1 st.tasks fc.held.length (ints .u64 fc.held)) (hS : ∀ g ∈ S, g ∈ T)
    (hl : Sl w' 1 l' us.length (ints .u64 us)) (hn : us.length ≤ 10000000) (hl' : ∀ g, l'.ownBlock = some g → g ∈ T ∧ g ≠ m) :
    Lone w' m T { st with nxt := .nilFunc, sub := none, after := .nilFunc, over := true, code := code, v := v, l := l', under := uu } uu ⟨none, some ⟨code, v, us⟩, fc.held⟩ where
  wk := hw
  sub := rfl
  outer := h.outer
  under := rfl
  mem := hm
  tasks := ht
  tasksOwn := fun g hg => ⟨hS g (h.tasksOwn g hg).1, (h.tasksOwn g hg).2⟩
  tasksFew := h.tasksFew
  over := rfl
  res := fun r hr => by cases hr; exact ⟨rfl, rfl, hl, hn⟩
  resOwn := hl'
  none_ := fun _ => rfl
  some_ := fun y hy => by cases hy

theorem stillOf {P : Program} {f : FuncId} {args : Array Value} {w : World} {v : Value} (h : Calls P f args w fun e w' => e = .returned v ∧ w = w') : Calls P f args w fun e w' => e = .returned v ∧ w' = w :=
  h.mono fun _ _ ⟨a, b⟩ => ⟨a, b.symm⟩
theorem ownBlock_toList (v : Value) (g : Nat) : g ∈ v.ownBlock.toList ↔ v.ownBlock = some g := by simp


/-- Where a step of a walk of its own blocks leads: it asks again, or has ended. -/
def Goes {σ : Type} (K : Mach σ) (R : World → List Nat → Value → σ → Prop) (m : Nat) (st : WSt) (T : List Nat) (s : σ) (w1 w2 : World) : Prop :=
  Keeps (m :: T) w1 w2 ∧
  ((∃ x fn fi ca T2, K.want s = some x ∧ K.res s = none ∧ Wk w2 m { st with x := x, nxt := .func fn fi ca, sub := none, after := .nilFunc } ∧ R w2 T2 (.func fn fi ca) s ∧ (∀ k ∈ T2, k < w2.heap.size) ∧ (∀ k ∈ T2, k ≠ m ∧ (k ∈ T ∨ w1.heap.size ≤ k))) ∨
   (∃ c v us l', K.want s = none ∧ K.res s = some ⟨c, v, us⟩ ∧ us.length ≤ 10000000 ∧ Wk w2 m { st with nxt := .nilFunc, sub := none, after := .nilFunc, over := true, code := c, v := v, l := l' } ∧ w2.ownsRow w1.heap.size 26 1 l' us.length (ints .u64 us)))

theorem Goes.lone {σ : Type} {K : Mach σ} {R : World → List Nat → Value → σ → Prop} {m : Nat} {st : WSt} {T S : List Nat} {s : σ} {w0 w1 w2 : World} {fc : Fc} (h : Goes K R m { st with nxt := .nilFunc, sub := none, after := .nilFunc, under := 1 } T s w1 w2) (hL : Lone w0 m S st 0 fc) (hr0 : fc.res = none) (hk1 : Keeps [m] w0 w1)
    (hlt : ∀ k ∈ S, k < w0.heap.size) (hltT : ∀ k ∈ T, k < w0.heap.size) (hd : ∀ k ∈ S, k ∉ T) (hh : K.held s = fc.held) (hE : ∀ w T nx s, K.want s = none → R w T nx s) :
    ∃ S2 T2 st2, Lone w2 m S2 st2 1 (K.face s) ∧ (∀ k ∈ S2, k < w2.heap.size) ∧ (∀ k ∈ T2, k < w2.heap.size) ∧ (∀ k ∈ S2, k ∉ T2) ∧ R w2 T2 st2.nxt s ∧ Keeps (S ++ T) w1 w2 ∧ (∀ k ∈ S2, k ∈ S ∨ w1.heap.size ≤ k) ∧ ∀ k ∈ T2, k ∈ T ∨ w1.heap.size ≤ k := by
  obtain ⟨hk, h | h⟩ := h
  · obtain ⟨x, fn, fi, ca, T2, hx, hr, hw, hR, hlt2, hT2⟩ := h
    have hf : K.face s = ⟨some x, none, fc.held⟩ := by simp only [Mach.face, hx, hr, hh]
    rw [hf]
    refine ⟨S, T2, _, hL.going (T := S) hL.mem hw hr0 (hL.tasks_at hd hk1 hk) (fun g hg => hg), ?_, hlt2, ?_, hR, hk.mono (fun k hk _ => mem_S hL.mem k hk), fun k hk => .inl hk, fun k hk => (hT2 k hk).2⟩
    · exact fun k hk' => Nat.lt_of_lt_of_le (hlt k hk') (Nat.le_trans hk1.size hk.size)
    · intro k hkS hkT
      rcases (hT2 k hkT).2 with h | h
      · exact hd k hkS h
      · have := hlt k hkS; have := hk1.size; omega
  · obtain ⟨c, v, us, l', hx, hr, hus, hw, ho⟩ := h
    have hf : K.face s = ⟨none, some ⟨c, v, us⟩, fc.held⟩ := by simp only [Mach.face, hx, hr, hh]
    rw [hf]
    refine ⟨l'.ownBlock.toList ++ S, T, _, hL.ending (T := l'.ownBlock.toList ++ S) (us := us) (by simp [hL.mem]) hw (hL.tasks_at hd hk1 hk) (fun g hg => by simp [hg]) (Sl.of_owns ho) hus ?_, ?_, ?_, ?_, hE _ _ _ _ hx, hk.mono (fun k hk _ => mem_S hL.mem k hk), ?_, fun k hk => .inl hk⟩
    · intro g hg
      refine ⟨by simp [hg], ?_⟩
      have := (ho.lt g hg).1
      have := hlt m hL.mem
      have := hk1.size
      omega
    · intro k hk'
      rcases List.mem_append.1 hk' with hk' | hk'
      · exact (ho.lt k ((ownBlock_toList _ _).1 hk')).2
      · exact Nat.lt_of_lt_of_le (hlt k hk') (Nat.le_trans hk1.size hk.size)
    · exact fun k hk' => Nat.lt_of_lt_of_le (hltT k hk') (Nat.le_trans hk1.size hk.size)
    · intro k hk' hkT
      rcases List.mem_append.1 hk' with hk' | hk'
      · have := (ho.lt k ((ownBlock_toList _ _).1 hk')).1
        have := hltT k hkT
        have := hk1.size
        omega
      · exact hd k hk' hkT
    · intro k hk'
      rcases List.mem_append.1 hk' with hk' | hk'
      · exact .inr (ho.lt k ((ownBlock_toList _ _).1 hk')).1
      · exact .inl hk'

theorem Goes.from {σ : Type} {K : Mach σ} {R : World → List Nat → Value → σ → Prop} {m : Nat} {st : WSt} {T : List Nat} {s : σ} {w w1 w2 : World} (h : Goes K R m st T s w1 w2) (hk : Keeps (m :: T) w w1) : Goes K R m st T s w w2 := by
  have hs := hk.size
  obtain ⟨k, h | h⟩ := h
  · obtain ⟨x, fn, fi, ca, T2, hx, hr, hw, hR, hlt2, hT2⟩ := h
    refine ⟨hk.trans k, .inl ⟨x, fn, fi, ca, T2, hx, hr, hw, hR, hlt2, fun k hk => ⟨(hT2 k hk).1, ?_⟩⟩⟩
    rcases (hT2 k hk).2 with h | h
    · exact .inl h
    · exact .inr (Nat.le_trans hs h)
  · obtain ⟨c, v, us, l', hx, hr, hus, hw, ho⟩ := h
    exact ⟨hk.trans k, .inr ⟨c, v, us, l', hx, hr, hus, hw, owns_base ho hs⟩⟩

/-- A walk of its own blocks that holds always the same goes as the machine, if each of its functions does a step of that. -/
theorem runs_ownA {σ : Type} (K : Mach σ) (R : World → List Nat → Value → σ → Prop) (m : Nat)
    (hR : ∀ w w' T A nx s, R w T nx s → Keeps A w w' → (∀ k ∈ T, k ∉ A) → R w' T nx s)
    (hE : ∀ w T nx s, K.want s = none → R w T nx s)
    (hN : ∀ s v won, K.want s = none → K.give s v won = s)
    (hH : ∀ s v won, K.held (K.give s v won) = K.held s)
    (hW : ∀ s x, K.want s = some x → K.res s = none)
    (hF : ∀ w T nx s x, R w T nx s → K.want s = some x → ∃ F fi ca, nx = .func (.func F) fi ca ∧ ∀ args w, (callFunc F args).run Tryz.prog w = .ok (.enter F args) w)
    (hS : ∀ w T F fi ca s st v won x, Wk w m st → st.over = false → st.sub = none → st.under = 1 → (∀ k ∈ T, k < w.heap.size ∧ k ≠ m) → R w T (.func (.func F) fi ca) s → M.U v → K.want s = some x → Amb w →
      Calls Tryz.prog F (fi ++ (#[.int .u64 v, .bool won] ++ ca)) w fun e w' => e = .returned (.tuple #[]) ∧ Goes K R m st T (K.give s v won) w w') : Runs K (LoneI K R m) m := by
  refine runs_lone K R m hR hN ?_
  intro w S T st s v won x hL hlt hltT hd hE' hv hw hamb hambS
  obtain ⟨F, fi, ca, hn, hcf⟩ := hF _ _ _ _ _ hE' hw
  refine ⟨F, fi, ca, hn, hcf, fun w1 hw1 hk1 => ?_⟩
  have hr0 := hW _ _ hw
  have ho : st.over = false := by rw [hL.over]; show (K.res s).isSome = false; rw [hr0]; rfl
  refine (hS w1 T F fi ca s _ v won x hw1 ho rfl rfl (fun k hk => ⟨Nat.lt_of_lt_of_le (hltT k hk) hk1.size, fun h => hd m hL.mem (h ▸ hk)⟩) (hn ▸ hR _ _ _ _ _ _ hE' hk1 (fun k hk h => by simp at h; exact hd m hL.mem (h ▸ hk))) hv hw (hamb.keeps hk1 (fun k hk => by simp at hk; subst hk; exact hambS _ (List.mem_append_left _ hL.mem)))).mono ?_
  rintro e w2 ⟨rfl, hg⟩
  exact ⟨rfl, hg.lone hL hr0 hk1 hlt hltT hd (hH _ _ _) hE⟩

theorem runs_own {σ : Type} (K : Mach σ) (R : World → List Nat → Value → σ → Prop) (m : Nat)
    (hR : ∀ w w' T A nx s, R w T nx s → Keeps A w w' → (∀ k ∈ T, k ∉ A) → R w' T nx s)
    (hE : ∀ w T nx s, K.want s = none → R w T nx s)
    (hN : ∀ s v won, K.want s = none → K.give s v won = s)
    (hH : ∀ s v won, K.held (K.give s v won) = K.held s)
    (hW : ∀ s x, K.want s = some x → K.res s = none)
    (hF : ∀ w T nx s x, R w T nx s → K.want s = some x → ∃ F fi ca, nx = .func (.func F) fi ca ∧ ∀ args w, (callFunc F args).run Tryz.prog w = .ok (.enter F args) w)
    (hS : ∀ w T F fi ca s st v won x, Wk w m st → st.over = false → st.sub = none → st.under = 1 → (∀ k ∈ T, k < w.heap.size ∧ k ≠ m) → R w T (.func (.func F) fi ca) s → M.U v → K.want s = some x →
      Calls Tryz.prog F (fi ++ (#[.int .u64 v, .bool won] ++ ca)) w fun e w' => e = .returned (.tuple #[]) ∧ Goes K R m st T (K.give s v won) w w') : Runs K (LoneI K R m) m :=
  runs_ownA K R m hR hE hN hH hW hF fun w T F fi ca s st v won x a b c d e f g h _ => hS w T F fi ca s st v won x a b c d e f g h

/-- A new walk of its own blocks, whose first function goes to a first state. -/
theorem new_goes {σ : Type} (K : Mach σ) (R : World → List Nat → Value → σ → Prop) (s0 : σ) (F : FuncId) (ca : Array Value) (w : World)
    (hR : ∀ w w' T A nx s, R w T nx s → Keeps A w w' → (∀ k ∈ T, k ∉ A) → R w' T nx s)
    (hE : ∀ w T nx s, K.want s = none → R w T nx s) (hh : K.held s0 = [])
    (hcf : ∀ args w, (callFunc F args).run Tryz.prog w = .ok (.enter F args) w)
    (hF : ∀ w1, Wk w1 (w.heap.size + 1) { WSt.zero with under := 1 } → Keeps [] w w1 → Calls Tryz.prog F (#[.pointer (some ⟨w.heap.size + 1, 0, none⟩)] ++ ca) w1 fun e w2 => e = .returned (.tuple #[]) ∧ Goes K R (w.heap.size + 1) { WSt.zero with under := 1 } [] s0 w1 w2) :
    Calls Tryz.prog 67 #[.func (.func F) #[] ca] w fun e w' => e = .returned (.pointer (some ⟨w.heap.size + 1, 0, none⟩)) ∧ ∃ S, LoneI K R (w.heap.size + 1) w' S s0 ∧ Keeps [] w w' ∧ ∀ k ∈ S, w.heap.size ≤ k := by
  refine (wNew F ca [] w (fun w2 s2 => ∃ S2 T2, Lone w2 (w.heap.size + 1) S2 s2 1 (K.face s0) ∧ (∀ k ∈ S2, k < w2.heap.size) ∧ (∀ k ∈ T2, k < w2.heap.size) ∧ (∀ k ∈ S2, k ∉ T2) ∧ R w2 T2 s2.nxt s0 ∧ (∀ k ∈ S2, w.heap.size ≤ k) ∧ (∀ k ∈ T2, w.heap.size ≤ k)) (by simp) hcf ?_).mono ?_
  · intro w1 h1 k1
    refine (hF w1 h1 k1).mono ?_
    rintro e w2 ⟨rfl, hg⟩
    have hL0 : Lone w1 (w.heap.size + 1) [w.heap.size + 1] { WSt.zero with under := 0 } 0 ⟨none, none, []⟩ ∨ True := .inr trivial
    clear hL0
    obtain ⟨hk, h⟩ := hg
    have hm := h1.lt
    have s1 := k1.size
    have hL : Lone w1 (w.heap.size + 1) [w.heap.size + 1] { WSt.zero with under := 1 } 1 ⟨none, none, []⟩ :=
      ⟨h1, rfl, rfl, rfl, by simp, ⟨rfl, .inl ⟨_, _, rfl, rfl⟩⟩, (fun g hg => by cases hg), by simp, rfl, (fun r hr => by cases hr), (fun g hg => by cases hg), (fun _ => rfl), (fun y hy => by cases hy)⟩
    rcases h with h | h
    · obtain ⟨x, fn, fi, ca, T2, hx, hr, hw, hR2, hlt2, hT2⟩ := h
      have hf : K.face s0 = ⟨some x, none, []⟩ := by simp only [Mach.face, hx, hr, hh]
      refine ⟨rfl, _, hw, rfl, .inl rfl, hk, [w.heap.size + 1], T2, ?_, ?_, hlt2, ?_, hR2, by simp, fun k hk => ?_⟩
      · rw [hf]; exact hL.going (T := [w.heap.size + 1]) (by simp) hw rfl ⟨rfl, .inl ⟨_, _, rfl, rfl⟩⟩ (fun g hg => hg)
      · intro k hk'; simp at hk'; subst hk'; exact hw.lt
      · intro k hk' hkT; simp at hk'; exact (hT2 k hkT).1 hk'
      · rcases (hT2 k hk).2 with h | h
        · cases h
        · omega
    · obtain ⟨c, v, us, l', hx, hr, hus, hw, ho⟩ := h
      have hf : K.face s0 = ⟨none, some ⟨c, v, us⟩, []⟩ := by simp only [Mach.face, hx, hr, hh]
      have hb : ∀ k ∈ l'.ownBlock.toList, w1.heap.size ≤ k ∧ k < w2.heap.size := fun k hk => ho.lt k ((ownBlock_toList _ _).1 hk)
      refine ⟨rfl, _, hw, rfl, .inr rfl, hk, l'.ownBlock.toList ++ [w.heap.size + 1], [], ?_, ?_, by simp, by simp, hE _ _ _ _ hx, ?_, by simp⟩
      · rw [hf]; exact hL.ending (T := l'.ownBlock.toList ++ [w.heap.size + 1]) (by simp) hw ⟨rfl, .inl ⟨_, _, rfl, rfl⟩⟩ (fun g hg => by simp at hg; simp [hg]) (Sl.of_owns ho) hus (fun g hg => ⟨by simp [hg], by have := (ho.lt g hg).1; omega⟩)
      · intro k hk'
        rcases List.mem_append.1 hk' with hk' | hk'
        · exact (hb k hk').2
        · simp at hk'; subst hk'; exact hw.lt
      · intro k hk'
        rcases List.mem_append.1 hk' with hk' | hk'
        · have := (hb k hk').1; omega
        · simp at hk'; omega
  · rintro e w' ⟨rfl, w2, s2, ⟨S2, T2, a1, a2, a3, a4, a5, a6, a7⟩, k5, k4, hw⟩
    have hmT : (w.heap.size + 1) ∉ T2 := a4 _ a1.mem
    exact ⟨rfl, S2 ++ T2, ⟨S2, T2, _, rfl, a1.under_to k5 0 hw, fun k hk => Nat.lt_of_lt_of_le (a2 k hk) k5.size, fun k hk => Nat.lt_of_lt_of_le (a3 k hk) k5.size, a4, hR _ _ _ _ _ _ a5 k5 (fun k hk h => by simp at h; exact hmT (h ▸ hk))⟩,
      k4.step k5 (by simp), fun k hk => by rcases List.mem_append.1 hk with h | h; exact a6 k h; exact a7 k h⟩
end Go.Proofs.YtjfgpplnlepnoaaGreat

/-
  Walks of their own blocks, whose tasks may change: how a step goes on, or ends.
-/
namespace Go.Proofs.YtjfgpplnlepnoaaGreat
set_option maxRecDepth 100000
set_option linter.unusedSimpArgs false
set_option linter.unusedVariables false
open Go.ChangeShapes Go.WideShapes Go.ChangeAt Go.RowKit

/-- Where a step of a walk of its own blocks leads (hd: what it held): it holds the same, or others; it asks again, or has ended. -/
def GoesH {σ : Type} (K : Mach σ) (R : World → List Nat → Value → σ → Prop) (m : Nat) (st : WSt) (hd : List Int) (T : List Nat) (s : σ) (w1 w2 : World) : Prop :=
  Keeps (m :: T) w1 w2 ∧ ∃ tk, ((tk = st.tasks ∧ K.held s = hd) ∨ ((K.held s).length ≤ 10000000 ∧ w2.ownsRow w1.heap.size 26 1 tk (K.held s).length (ints .u64 (K.held s)))) ∧
  ((∃ x fn fi ca T2, K.want s = some x ∧ K.res s = none ∧ Wk w2 m { st with tasks := tk, x := x, nxt := .func fn fi ca, sub := none, after := .nilFunc } ∧ R w2 T2 (.func fn fi ca) s ∧ (∀ k ∈ T2, k < w2.heap.size) ∧ (∀ k ∈ T2, k ≠ m ∧ (k ∈ T ∨ (w1.heap.size ≤ k ∧ (tk = st.tasks ∨ tk.ownBlock ≠ some k))))) ∨
   (∃ c v us l', K.want s = none ∧ K.res s = some ⟨c, v, us⟩ ∧ us.length ≤ 10000000 ∧ Wk w2 m { st with tasks := tk, nxt := .nilFunc, sub := none, after := .nilFunc, over := true, code := c, v := v, l := l' } ∧ w2.ownsRow w1.heap.size 26 1 l' us.length (ints .u64 us)))

theorem GoesH.from {σ : Type} {K : Mach σ} {R : World → List Nat → Value → σ → Prop} {m : Nat} {st : WSt} {hd : List Int} {T : List Nat} {s : σ} {w w1 w2 : World} (h : GoesH K R m st hd T s w1 w2) (hk : Keeps (m :: T) w w1) : GoesH K R m st hd T s w w2 := by
  have hs := hk.size
  obtain ⟨k, tk, ht, h | h⟩ := h
  · obtain ⟨x, fn, fi, ca, T2, hx, hr, hw, hR, hlt2, hT2⟩ := h
    refine ⟨hk.trans k, tk, ht.imp_right fun h => ⟨h.1, owns_base h.2 hs⟩, .inl ⟨x, fn, fi, ca, T2, hx, hr, hw, hR, hlt2, fun k hk => ⟨(hT2 k hk).1, ?_⟩⟩⟩
    rcases (hT2 k hk).2 with h | h
    · exact .inl h
    · exact .inr ⟨Nat.le_trans hs h.1, h.2⟩
  · obtain ⟨c, v, us, l', hx, hr, hus, hw, ho⟩ := h
    exact ⟨hk.trans k, tk, ht.imp_right fun h => ⟨h.1, owns_base h.2 hs⟩, .inr ⟨c, v, us, l', hx, hr, hus, hw, owns_base ho hs⟩⟩

/-- From a walk whose own blocks S hold its tasks, to the next one. -/
theorem GoesH.lone {σ : Type} {K : Mach σ} {R : World → List Nat → Value → σ → Prop} {m : Nat} {st st0 : WSt} {T S : List Nat} {s : σ} {u0 : Int} {w0 w1 w2 : World} {fc : Fc} (h : GoesH K R m st fc.held T s w1 w2) (hL : Lone w0 m S st0 u0 fc)
    (hst : st.tasks = st0.tasks ∧ st.outer = .slice none 0 0 ∧ st.under = 1 ∧ st.over = false ∧ st.l = st0.l) (hr0 : fc.res = none) (hk1 : Keeps [m] w0 w1)
    (hlt : ∀ k ∈ S, k < w0.heap.size) (hltT : ∀ k ∈ T, k < w0.heap.size) (hd : ∀ k ∈ S, k ∉ T) (hE : ∀ w T nx s, K.want s = none → R w T nx s) :
    ∃ S2 T2 st2, Lone w2 m S2 st2 1 (K.face s) ∧ (∀ k ∈ S2, k < w2.heap.size) ∧ (∀ k ∈ T2, k < w2.heap.size) ∧ (∀ k ∈ S2, k ∉ T2) ∧ R w2 T2 st2.nxt s ∧ Keeps (S ++ T) w1 w2 ∧ (∀ k ∈ S2, k ∈ S ∨ w1.heap.size ≤ k) ∧ ∀ k ∈ T2, k ∈ T ∨ w1.heap.size ≤ k := by
  obtain ⟨hk, tk, ht, h⟩ := h
  obtain ⟨a1, a2, a3, a4, a5⟩ := hst
  have s01 := hk1.size
  have s12 := hk.size
  have hm0 := hlt m hL.mem
  -- its tasks
  have htk : Sl w2 1 tk (K.held s).length (ints .u64 (K.held s)) ∧ (K.held s).length ≤ 10000000 ∧ ∀ g, tk.ownBlock = some g → (g ∈ S ∧ tk = st.tasks ∨ w1.heap.size ≤ g) ∧ g ≠ m ∧ g < w2.heap.size := by
    rcases ht with ⟨e1, e2⟩ | ⟨e1, e2⟩
    · rw [e1, e2, a1]
      refine ⟨hL.tasks_at hd hk1 hk, hL.tasksFew, fun g hg => ?_⟩
      have := hL.tasksOwn g hg
      exact ⟨.inl ⟨this.1, rfl⟩, this.2, Nat.lt_of_lt_of_le (hlt g this.1) (Nat.le_trans s01 s12)⟩
    · refine ⟨Sl.of_owns e2, e1, fun g hg => ?_⟩
      have := e2.lt g hg
      exact ⟨.inr this.1, by omega, this.2⟩
  obtain ⟨t1, t2, t3⟩ := htk
  have hown : ∀ g, tk.ownBlock = some g → g ∈ tk.ownBlock.toList ++ S ∧ g ≠ m := fun g hg => ⟨List.mem_append_left _ ((ownBlock_toList _ _).2 hg), (t3 g hg).2.1⟩
  have hltS : ∀ k ∈ tk.ownBlock.toList ++ S, k < w2.heap.size := fun k hk' => by
    rcases List.mem_append.1 hk' with h | h
    · exact (t3 k ((ownBlock_toList _ _).1 h)).2.2
    · exact Nat.lt_of_lt_of_le (hlt k h) (Nat.le_trans s01 s12)
  have hnewS : ∀ k ∈ tk.ownBlock.toList ++ S, k ∈ S ∨ w1.heap.size ≤ k := fun k hk' => by
    rcases List.mem_append.1 hk' with h | h
    · rcases (t3 k ((ownBlock_toList _ _).1 h)).1 with h | h
      · exact .inl h.1
      · exact .inr h
    · exact .inl h
  rcases h with h | h
  · obtain ⟨x, fn, fi, ca, T2, hx, hr, hw, hR, hlt2, hT2⟩ := h
    have hf : K.face s = ⟨some x, none, K.held s⟩ := by simp only [Mach.face, hx, hr]
    rw [hf]
    refine ⟨tk.ownBlock.toList ++ S, T2, _, ⟨hw, rfl, a2, a3, List.mem_append_right _ hL.mem, t1, hown, t2, a4, fun r hr => (by cases hr), fun g hg => ?_, fun h => (by cases h), fun y hy => by cases hy; exact ⟨rfl, fn, fi, ca, rfl⟩⟩, hltS, hlt2, ?_, hR, hk.mono (fun k hk _ => mem_S hL.mem k hk), hnewS, fun k hk' => ?_⟩
    · have h1 := hL.resOwn g (by rw [← a5]; exact hg)
      exact ⟨List.mem_append_right _ h1.1, h1.2⟩
    · intro k hkS hkT
      obtain ⟨b1, b2⟩ := hT2 k hkT
      rcases List.mem_append.1 hkS with h | h
      · have h3 := t3 k ((ownBlock_toList _ _).1 h)
        rcases b2 with b2 | ⟨b2, b3⟩
        · rcases h3.1 with h3 | h3
          · exact hd k h3.1 b2
          · have := hltT k b2; omega
        · rcases b3 with b3 | b3
          · rcases h3.1 with h4 | h4
            · have := hlt k h4.1; omega
            · have h5 := (ownBlock_toList _ _).1 h
              rw [b3, a1] at h5
              have := hlt k (hL.tasksOwn k h5).1
              omega
          · exact b3 ((ownBlock_toList _ _).1 h)
      · rcases b2 with b2 | ⟨b2, -⟩
        · exact hd k h b2
        · have := hlt k h; omega
    · rcases (hT2 k hk').2 with h | h
      · exact .inl h
      · exact .inr h.1
  · obtain ⟨c, v, us, l', hx, hr, hus, hw, ho⟩ := h
    have hf : K.face s = ⟨none, some ⟨c, v, us⟩, K.held s⟩ := by simp only [Mach.face, hx, hr]
    rw [hf]
    have hol := fun g hg => ho.lt g hg
    refine ⟨l'.ownBlock.toList ++ (tk.ownBlock.toList ++ S), T, _, ⟨hw, rfl, a2, a3, List.mem_append_right _ (List.mem_append_right _ hL.mem), t1, fun g hg => ⟨List.mem_append_right _ (hown g hg).1, (hown g hg).2⟩, t2, rfl, fun r hr => (by cases hr; exact ⟨rfl, rfl, Sl.of_owns ho, hus⟩), fun g hg => ⟨List.mem_append_left _ ((ownBlock_toList _ _).2 hg), by have := hol g hg; omega⟩, fun _ => rfl, fun y hy => (by cases hy)⟩, ?_, fun k hk' => Nat.lt_of_lt_of_le (hltT k hk') (Nat.le_trans s01 s12), ?_, hE _ _ _ _ hx, hk.mono (fun k hk _ => mem_S hL.mem k hk), ?_, fun k hk => .inl hk⟩
    · intro k hk'
      rcases List.mem_append.1 hk' with h | h
      · exact (hol k ((ownBlock_toList _ _).1 h)).2
      · exact hltS k h
    · intro k hk' hkT
      have hT := hltT k hkT
      rcases List.mem_append.1 hk' with h | h
      · have := (hol k ((ownBlock_toList _ _).1 h)).1; omega
      · rcases hnewS k h with h | h
        · exact hd k h hkT
        · omega
    · intro k hk'
      rcases List.mem_append.1 hk' with h | h
      · exact .inr (hol k ((ownBlock_toList _ _).1 h)).1
      · exact hnewS k h

end Go.Proofs.YtjfgpplnlepnoaaGreat
