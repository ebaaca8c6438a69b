import Derived.Test.YtjbgkaleickknaaGreatMach
import Derived.Test.YtjbgkaleickknaaGreatWalk6
/-
  Walks of their own blocks, whose tasks may change, and into which another one may have gone that lets go of them when they have ended.
-/
namespace Go.Proofs.YtjbgkaleickknaaGreat
set_option maxRecDepth 100000
set_option linter.unusedSimpArgs false
set_option linter.unusedVariables false
open Go.ChangeShapes Go.WideShapes Go.ChangeAt Go.RowKit

/-- The state of a walk that went into no other one, whoever went into it. -/
structure LoneO (w : World) (m : Nat) (S : List Nat) (st : WSt) (u : Int) (fc : Fc) : Prop where
  wk : Wk w m st
  sub : st.sub = none
  under : st.under = u
  mem : m ∈ S
  tasks : Sl w 1 st.tasks fc.held.length (ints .u64 fc.held)
  tasksOwn : ∀ g, st.tasks.ownBlock = some g → g ∈ S ∧ g ≠ m
  tasksFew : fc.held.length ≤ 10000000
  over : st.over = fc.res.isSome
  res : ∀ r, fc.res = some r → st.code = r.code ∧ st.v = r.v ∧ Sl w 1 st.l r.l.length (ints .u64 r.l) ∧ r.l.length ≤ 10000000
  resOwn : ∀ g, st.l.ownBlock = some g → g ∈ S ∧ g ≠ m
  none_ : fc.want = none → st.nxt = .nilFunc
  some_ : ∀ x, fc.want = some x → st.x = x ∧ ∃ fn fi ca, st.nxt = .func fn fi ca

theorem LoneO.keeps {w w' : World} {m : Nat} {S T : List Nat} {st : WSt} {u : Int} {fc : Fc} (h : LoneO w m S st u fc) (hk : Keeps T w w') (hT : ∀ k ∈ S, k ∉ T) : LoneO w' m S st u fc :=
  { h with
    wk := h.wk.keeps hk (hT _ h.mem)
    tasks := h.tasks.but hk (fun g hg => hT _ (h.tasksOwn g hg).1)
    res := fun r hr => ⟨(h.res r hr).1, (h.res r hr).2.1, (h.res r hr).2.2.1.but hk (fun g hg => hT _ (h.resOwn g hg).1), (h.res r hr).2.2.2⟩ }
theorem LoneO.under_to {w w' : World} {m : Nat} {S : List Nat} {st : WSt} {u : Int} {fc : Fc} (h : LoneO w m S st u fc) (hk : Keeps [m] w w') (v : Int) (hw : Wk w' m { st with under := v }) : LoneO w' m S { st with under := v } v fc :=
  { h with
    wk := hw
    under := rfl
    tasks := h.tasks.but hk (fun g hg => by simpa using (h.tasksOwn g hg).2)
    res := fun r hr => ⟨(h.res r hr).1, (h.res r hr).2.1, (h.res r hr).2.2.1.but hk (fun g hg => by simpa using (h.resOwn g hg).2), (h.res r hr).2.2.2⟩ }
theorem LoneO.wants {w : World} {m : Nat} {S : List Nat} {st : WSt} {fc : Fc} (h : LoneO w m S st 0 fc) :
    Calls Tryz.prog 50 #[.pointer (some ⟨m, 0, none⟩)] w fun e w' => e = .returned (.tuple #[(fc.want.getD zacc).val, .bool fc.want.isSome]) ∧ Keeps [] w w' := by
  cases hw : fc.want with
  | none => exact wWantNone m st w h.wk h.sub (h.none_ hw)
  | some x =>
    obtain ⟨hx, fn, fi, ca, hn⟩ := h.some_ x hw
    have := wWant m st w h.wk h.sub fn fi ca hn
    rw [hx] at this
    exact this
theorem LoneO.results {w : World} {m : Nat} {S : List Nat} {st : WSt} {fc : Fc} (h : LoneO w m S st 0 fc) :
    Calls Tryz.prog 26 #[.pointer (some ⟨m, 0, none⟩)] w fun e w' => ∃ l,
      e = .returned (.tuple #[.agg #[.int .i64 (fc.res.getD Rs.zero).code, .int .u64 (fc.res.getD Rs.zero).v, l], .bool fc.res.isSome]) ∧ w'.ownsRow w.heap.size 34 1 l (fc.res.getD Rs.zero).l.length (ints .u64 (fc.res.getD Rs.zero).l) ∧ Keeps [] w w' := by
  cases hr : fc.res with
  | none =>
    exact (wResultNot m st w h.wk (by rw [h.over, hr]; rfl)).mono fun e w' ⟨he, hk⟩ => ⟨_, he, World.ownsRow_nil _ _ _ _, hk⟩
  | some r =>
    obtain ⟨h1, h2, h3, h4⟩ := h.res r hr
    have := wResult m st r.l.length r.l w h.wk (by rw [h.over, hr]; rfl) h3 h4
    rw [h1, h2] at this
    exact this
/-- What a function does that lets go of the tasks of the walk at m, from a world on in which but m and o are as in w. -/
def LetsGo (w : World) (m o : Nat) (F : FuncId) (fi ca : Array Value) : Prop :=
  (∀ args w, (callFunc F args).run Tryz.prog w = .ok (.enter F args) w) ∧ ∀ w1 code v q n c s, Wk w1 m s → Keeps [m, o] w w1 → Calls Tryz.prog F (fi.push (.agg #[.int .i64 code, .int .u64 v, .slice q n c]) ++ ca) w1 fun e w2 => e = .returned (.tuple #[]) ∧ ∃ t, Wk w2 m { s with tasks := t } ∧ w2.ownsRow w1.heap.size 34 1 t 0 [] ∧ Keeps [m] w1 w2
/-- Block o is a walk that went into the one at m, and lets go of its tasks. -/
def Watch (w : World) (m g o : Nat) (ov : Value) : Prop :=
  ∃ cap ty so F fi ca, ov = .slice (some ⟨g, 0, none⟩) 1 cap ∧ g ≠ m ∧ o ≠ m ∧ Row w g ty [.pointer (some ⟨o, 0, none⟩)] ∧ Wk w o so ∧ so.sub = some ⟨m, 0, none⟩ ∧ so.over = false ∧ so.under = 0 ∧ so.outer = .slice none 0 0 ∧ so.after = .func (.func F) fi ca ∧ LetsGo w m o F fi ca

/-- Where a step of such a walk leads (hd: what it held): it holds the same, or others; it asks again, or has ended; then it may be watched. -/
def GoesO {σ : Type} (K : Mach σ) (R : World → List Nat → Value → Value → σ → Prop) (m : Nat) (st : WSt) (hd : List Int) (T : List Nat) (s : σ) (w1 w2 : World) : Prop :=
  Keeps (m :: T) w1 w2 ∧ ∃ tk ov,
  ((∃ x fn fi ca T2, K.want s = some x ∧ K.res s = none ∧ ((tk = st.tasks ∧ K.held s = hd) ∨ ((K.held s).length ≤ 10000000 ∧ w2.ownsRow w1.heap.size 34 1 tk (K.held s).length (ints .u64 (K.held s)))) ∧
      Wk w2 m { st with tasks := tk, x := x, nxt := .func fn fi ca, sub := none, after := .nilFunc, outer := ov } ∧ R w2 T2 (.func fn fi ca) ov s ∧ (∀ k ∈ T2, k < w2.heap.size) ∧ (∀ k ∈ T2, k ≠ m ∧ (k ∈ T ∨ (w1.heap.size ≤ k ∧ (tk = st.tasks ∨ tk.ownBlock ≠ some k))))) ∨
   (∃ c v us l', K.want s = none ∧ K.res s = some ⟨c, v, us⟩ ∧ us.length ≤ 10000000 ∧ Wk w2 m { st with tasks := tk, nxt := .nilFunc, sub := none, after := .nilFunc, over := true, code := c, v := v, l := l', outer := ov } ∧ w2.ownsRow w1.heap.size 34 1 l' us.length (ints .u64 us) ∧
     ((ov = .slice none 0 0 ∧ ((tk = st.tasks ∧ K.held s = hd) ∨ ((K.held s).length ≤ 10000000 ∧ w2.ownsRow w1.heap.size 34 1 tk (K.held s).length (ints .u64 (K.held s))))) ∨
      (K.held s = [] ∧ ∃ g o, Watch w2 m g o ov ∧ (o ∈ T ∨ w1.heap.size ≤ o) ∧ ∀ b, l'.ownBlock = some b → b ≠ o))))

theorem GoesO.from {σ : Type} {K : Mach σ} {R : World → List Nat → Value → Value → σ → Prop} {m : Nat} {st : WSt} {hd : List Int} {T : List Nat} {s : σ} {w w1 w2 : World} (h : GoesO K R m st hd T s w1 w2) (hk : Keeps (m :: T) w w1) : GoesO K R m st hd T s w w2 := by
  have hs := hk.size
  obtain ⟨k, tk, ov, h | h⟩ := h
  · obtain ⟨x, fn, fi, ca, T2, hx, hr, ht, hw, hR, hlt2, hT2⟩ := h
    refine ⟨hk.trans k, tk, ov, .inl ⟨x, fn, fi, ca, T2, hx, hr, ht.imp_right fun h => ⟨h.1, owns_base h.2 hs⟩, hw, hR, hlt2, fun k hk => ⟨(hT2 k hk).1, ?_⟩⟩⟩
    rcases (hT2 k hk).2 with h | h
    · exact .inl h
    · exact .inr ⟨Nat.le_trans hs h.1, h.2⟩
  · obtain ⟨c, v, us, l', hx, hr, hus, hw, ho, h⟩ := h
    refine ⟨hk.trans k, tk, ov, .inr ⟨c, v, us, l', hx, hr, hus, hw, owns_base ho hs, ?_⟩⟩
    rcases h with ⟨e, ht⟩ | ⟨e, g, o, h1, h2, h3⟩
    · exact .inl ⟨e, ht.imp_right fun h => ⟨h.1, owns_base h.2 hs⟩⟩
    · exact .inr ⟨e, g, o, h1, h2.imp_right (Nat.le_trans hs), h3⟩

/-- A walk of its own blocks goes as the machine goes. -/
def LoneIO {σ : Type} (K : Mach σ) (R : World → List Nat → Value → Value → σ → Prop) (m : Nat) (w : World) (U : List Nat) (s : σ) : Prop :=
  ∃ S T st, U = S ++ T ∧ LoneO w m S st 0 (K.face s) ∧ (∀ k ∈ S, k < w.heap.size) ∧ (∀ k ∈ T, k < w.heap.size) ∧ (∀ k ∈ S, k ∉ T) ∧ R w T st.nxt st.outer s
/-- What is known behind a function, while it is under way. -/
def MidO {σ : Type} (K : Mach σ) (R : World → List Nat → Value → Value → σ → Prop) (m : Nat) (S T : List Nat) (s : σ) (w1 w2 : World) (st2 : WSt) : Prop :=
  (st2.over = false ∨ st2.outer = .slice none 0 0) ∧ ∃ S2 T2, LoneO w2 m S2 st2 1 (K.face s) ∧ (∀ k ∈ S2, k < w2.heap.size) ∧ (∀ k ∈ T2, k < w2.heap.size) ∧ (∀ k ∈ S2, k ∉ T2) ∧ R w2 T2 st2.nxt st2.outer s ∧ Keeps (S ++ T) w1 w2 ∧ (∀ k ∈ S2, k ∈ S ∨ w1.heap.size ≤ k) ∧ ∀ k ∈ T2, k ∈ T ∨ w1.heap.size ≤ k
/-- What is known behind a function that ended one that is watched. -/
def EndO {σ : Type} (K : Mach σ) (m : Nat) (S T : List Nat) (s : σ) (w1 w2 : World) (st2 : WSt) : Prop :=
  ∃ c v us g o, K.want s = none ∧ K.res s = some ⟨c, v, us⟩ ∧ K.held s = [] ∧ us.length ≤ 10000000 ∧ Wk w2 m st2 ∧ st2.nxt = .nilFunc ∧ st2.sub = none ∧ st2.under = 1 ∧ st2.over = true ∧ st2.code = c ∧ st2.v = v ∧ w2.ownsRow w1.heap.size 34 1 st2.l us.length (ints .u64 us) ∧
    Watch w2 m g o st2.outer ∧ (o ∈ T ∨ w1.heap.size ≤ o) ∧ (∀ b, st2.l.ownBlock = some b → b ≠ o) ∧ Keeps (S ++ T) w1 w2

set_option maxHeartbeats 800000 in
theorem GoesO.mid {σ : Type} {K : Mach σ} {R : World → List Nat → Value → Value → σ → Prop} {m : Nat} {st st0 : WSt} {T S : List Nat} {s : σ} {u0 : Int} {w0 w1 w2 : World} {fc : Fc} (h : GoesO K R m st fc.held T s w1 w2) (hL : LoneO w0 m S st0 u0 fc)
    (hst : st.tasks = st0.tasks ∧ st.under = 1 ∧ st.over = false ∧ st.l = st0.l) (hr0 : fc.res = none) (hk1 : Keeps [m] w0 w1)
    (hlt : ∀ k ∈ S, k < w0.heap.size) (hltT : ∀ k ∈ T, k < w0.heap.size) (hd : ∀ k ∈ S, k ∉ T) (hE : ∀ w T nx ov s, K.want s = none → R w T nx ov s) :
    ∃ st2, Wk w2 m st2 ∧ st2.under = 1 ∧ (MidO K R m S T s w1 w2 st2 ∨ EndO K m S T s w1 w2 st2) := by
  obtain ⟨hk, tk, ov, h⟩ := h
  obtain ⟨a1, a3, a4, a5⟩ := hst
  have s01 := hk1.size
  have s12 := hk.size
  have hm0 := hlt m hL.mem
  have tasks_at : Sl w2 1 st0.tasks fc.held.length (ints .u64 fc.held) := by
    refine (hL.tasks.but hk1 (fun g hg => by simpa using (hL.tasksOwn g hg).2)).but hk (fun g hg => ?_)
    obtain ⟨h1, h2⟩ := hL.tasksOwn g hg
    simp only [List.mem_cons, not_or]
    exact ⟨h2, hd g h1⟩
  have htk : ((tk = st.tasks ∧ K.held s = fc.held) ∨ ((K.held s).length ≤ 10000000 ∧ w2.ownsRow w1.heap.size 34 1 tk (K.held s).length (ints .u64 (K.held s)))) →
      Sl w2 1 tk (K.held s).length (ints .u64 (K.held s)) ∧ (K.held s).length ≤ 10000000 ∧ ∀ g, tk.ownBlock = some g → (g ∈ S ∧ tk = st.tasks ∨ w1.heap.size ≤ g) ∧ g ≠ m ∧ g < w2.heap.size := by
    intro ht
    rcases ht with ⟨e1, e2⟩ | ⟨e1, e2⟩
    · rw [e1, e2, a1]
      refine ⟨tasks_at, hL.tasksFew, fun g hg => ?_⟩
      have := hL.tasksOwn g hg
      exact ⟨.inl ⟨this.1, rfl⟩, this.2, Nat.lt_of_lt_of_le (hlt g this.1) (Nat.le_trans s01 s12)⟩
    · refine ⟨Sl.of_owns e2, e1, fun g hg => ?_⟩
      have := e2.lt g hg
      exact ⟨.inr this.1, by omega, this.2⟩
  rcases h with h | h
  · obtain ⟨x, fn, fi, ca, T2, hx, hr, ht, hw, hR, hlt2, hT2⟩ := h
    obtain ⟨t1, t2, t3⟩ := htk ht
    have hown : ∀ g, tk.ownBlock = some g → g ∈ tk.ownBlock.toList ++ S ∧ g ≠ m := fun g hg => ⟨List.mem_append_left _ ((ownBlock_toList _ _).2 hg), (t3 g hg).2.1⟩
    have hltS : ∀ k ∈ tk.ownBlock.toList ++ S, k < w2.heap.size := fun k hk' => by
      rcases List.mem_append.1 hk' with h | h
      · exact (t3 k ((ownBlock_toList _ _).1 h)).2.2
      · exact Nat.lt_of_lt_of_le (hlt k h) (Nat.le_trans s01 s12)
    have hnewS : ∀ k ∈ tk.ownBlock.toList ++ S, k ∈ S ∨ w1.heap.size ≤ k := fun k hk' => by
      rcases List.mem_append.1 hk' with h | h
      · rcases (t3 k ((ownBlock_toList _ _).1 h)).1 with h | h
        · exact .inl h.1
        · exact .inr h
      · exact .inl h
    have hf : K.face s = ⟨some x, none, K.held s⟩ := by simp only [Mach.face, hx, hr]
    refine ⟨_, hw, a3, .inl ⟨.inl a4, tk.ownBlock.toList ++ S, T2, ?_, hltS, hlt2, ?_, hR, hk.mono (fun k hk _ => mem_S hL.mem k hk), hnewS, fun k hk' => ?_⟩⟩
    · rw [hf]
      refine ⟨hw, rfl, a3, List.mem_append_right _ hL.mem, t1, hown, t2, a4, fun r hr => (by cases hr), fun g hg => ?_, fun h => (by cases h), fun y hy => by cases hy; exact ⟨rfl, fn, fi, ca, rfl⟩⟩
      have h1 := hL.resOwn g (by rw [← a5]; exact hg)
      exact ⟨List.mem_append_right _ h1.1, h1.2⟩
    · intro k hkS hkT
      obtain ⟨b1, b2⟩ := hT2 k hkT
      rcases List.mem_append.1 hkS with h | h
      · have h3 := t3 k ((ownBlock_toList _ _).1 h)
        rcases b2 with b2 | ⟨b2, b3⟩
        · rcases h3.1 with h3 | h3
          · exact hd k h3.1 b2
          · have := hltT k b2; omega
        · rcases b3 with b3 | b3
          · rcases h3.1 with h4 | h4
            · have := hlt k h4.1; omega
            · have h5 := (ownBlock_toList _ _).1 h
              rw [b3, a1] at h5
              have := hlt k (hL.tasksOwn k h5).1
              omega
          · exact b3 ((ownBlock_toList _ _).1 h)
      · rcases b2 with b2 | ⟨b2, -⟩
        · exact hd k h b2
        · have := hlt k h; omega
    · rcases (hT2 k hk').2 with h | h
      · exact .inl h
      · exact .inr h.1
  · obtain ⟨c, v, us, l', hx, hr, hus, hw, ho, h⟩ := h
    have hol := fun g hg => ho.lt g hg
    rcases h with ⟨rfl, ht⟩ | ⟨hh, g, o, h1, h2, h3⟩
    · obtain ⟨t1, t2, t3⟩ := htk ht
      have hown : ∀ g, tk.ownBlock = some g → g ∈ tk.ownBlock.toList ++ S ∧ g ≠ m := fun g hg => ⟨List.mem_append_left _ ((ownBlock_toList _ _).2 hg), (t3 g hg).2.1⟩
      have hltS : ∀ k ∈ tk.ownBlock.toList ++ S, k < w2.heap.size := fun k hk' => by
        rcases List.mem_append.1 hk' with h | h
        · exact (t3 k ((ownBlock_toList _ _).1 h)).2.2
        · exact Nat.lt_of_lt_of_le (hlt k h) (Nat.le_trans s01 s12)
      have hnewS : ∀ k ∈ tk.ownBlock.toList ++ S, k ∈ S ∨ w1.heap.size ≤ k := fun k hk' => by
        rcases List.mem_append.1 hk' with h | h
        · rcases (t3 k ((ownBlock_toList _ _).1 h)).1 with h | h
          · exact .inl h.1
          · exact .inr h
        · exact .inl h
      have hf : K.face s = ⟨none, some ⟨c, v, us⟩, K.held s⟩ := by simp only [Mach.face, hx, hr]
      refine ⟨_, hw, a3, .inl ⟨.inr rfl, l'.ownBlock.toList ++ (tk.ownBlock.toList ++ S), T, ?_, ?_, fun k hk' => Nat.lt_of_lt_of_le (hltT k hk') (Nat.le_trans s01 s12), ?_, hE _ _ _ _ _ hx, hk.mono (fun k hk _ => mem_S hL.mem k hk), ?_, fun k hk => .inl hk⟩⟩
      · rw [hf]
        exact ⟨hw, rfl, a3, List.mem_append_right _ (List.mem_append_right _ hL.mem), t1, fun g hg => ⟨List.mem_append_right _ (hown g hg).1, (hown g hg).2⟩, t2, rfl, fun r hr => (by cases hr; exact ⟨rfl, rfl, Sl.of_owns ho, hus⟩), fun g hg => ⟨List.mem_append_left _ ((ownBlock_toList _ _).2 hg), by have := hol g hg; omega⟩, fun _ => rfl, fun y hy => by cases hy⟩
      · intro k hk'
        rcases List.mem_append.1 hk' with h | h
        · exact (hol k ((ownBlock_toList _ _).1 h)).2
        · exact hltS k h
      · intro k hk' hkT
        have hT := hltT k hkT
        rcases List.mem_append.1 hk' with h | h
        · have := (hol k ((ownBlock_toList _ _).1 h)).1; omega
        · rcases hnewS k h with h | h
          · exact hd k h hkT
          · omega
      · intro k hk'
        rcases List.mem_append.1 hk' with h | h
        · exact .inr (hol k ((ownBlock_toList _ _).1 h)).1
        · exact hnewS k h
    · exact ⟨_, hw, a3, .inr ⟨c, v, us, g, o, hx, hr, hh, hus, hw, rfl, rfl, a3, rfl, rfl, rfl, ho, h1, h2, h3, hk.mono (fun k hk _ => mem_S hL.mem k hk)⟩⟩

set_option maxHeartbeats 800000 in
/-- What is told behind a function. -/
theorem told_mid {σ : Type} (K : Mach σ) (R : World → List Nat → Value → Value → σ → Prop) (m : Nat) (hR : ∀ w w' T A nx ov s, R w T nx ov s → Keeps A w w' → (∀ k ∈ T, k ∉ A) → R w' T nx ov s) (S T : List Nat) (hm : m ∈ S) (s : σ) (w1 w2 w3 : World) (st2 : WSt) (h : MidO K R m S T s w1 w2 st2) (k3 : Keeps [m] w2 w3) (hw : Wk w3 m { st2 with under := 0 }) :
    Calls Tryz.prog 101 #[.pointer (some ⟨m, 0, none⟩)] w3 fun e w4 => e = .returned (.tuple #[]) ∧ ∃ U, LoneIO K R m w4 U s ∧ Keeps (S ++ T) w1 w4 ∧ ∀ k ∈ U, k ∈ S ++ T ∨ w1.heap.size ≤ k := by
  obtain ⟨hc, S2, T2, b1, b2, b3, b4, b5, b6, b7, b8⟩ := h
  refine (wTell m _ w3 hw ?_).mono ?_
  · rcases hc with h | h
    · exact .inl h
    · exact .inr (.inr ⟨rfl, h⟩)
  · rintro e w4 ⟨rfl, w4k, k4⟩
    have k34 := k3.trans k4
    have hmT : m ∉ T2 := b4 m b1.mem
    refine ⟨rfl, S2 ++ T2, ⟨S2, T2, _, rfl, b1.under_to k34 0 w4k, fun k hk => Nat.lt_of_lt_of_le (b2 k hk) k34.size, fun k hk => Nat.lt_of_lt_of_le (b3 k hk) k34.size, b4, hR _ _ _ _ _ _ _ b5 k34 (fun k hk hne => by simp at hne; exact hmT (hne ▸ hk))⟩,
      b6.trans (k34.mono (by intro k hk _; simp at hk; exact hk ▸ List.mem_append_left _ hm)), fun k hk => ?_⟩
    rcases List.mem_append.1 hk with hk | hk
    · exact (b7 k hk).imp_left (List.mem_append_left _)
    · exact (b8 k hk).imp_left (List.mem_append_right _)

set_option maxHeartbeats 1600000 in
theorem told_end {σ : Type} (K : Mach σ) (R : World → List Nat → Value → Value → σ → Prop) (m : Nat) {w1 : World} (hE : ∀ w T nx ov s, K.want s = none → R w T nx ov s) (S T : List Nat) (hm : m ∈ S) (hm1 : m < w1.heap.size) (hlt : ∀ k ∈ T, k < w1.heap.size) (s : σ) (w2 w3 : World) (st2 : WSt) (h : EndO K m S T s w1 w2 st2) (k3 : Keeps [m] w2 w3) (hw : Wk w3 m { st2 with under := 0 }) :
    Calls Tryz.prog 101 #[.pointer (some ⟨m, 0, none⟩)] w3 fun e w4 => e = .returned (.tuple #[]) ∧ ∃ U, LoneIO K R m w4 U s ∧ Keeps (S ++ T) w1 w4 ∧ ∀ k ∈ U, k ∈ S ++ T ∨ w1.heap.size ≤ k := by
  obtain ⟨c, v, us, g, o, hx, hr, hh, hus, hw2, hnx, hsb, hun, hov, hcc, hvv, hol, hW, hoT, hlo, hk2⟩ := h
  obtain ⟨cap, ty, so, F, fi, ca, ho, hgm, hom, hgr, hwo, hso, hsv, hsu, hsx, hsa, hF1, hF2⟩ := hW
  have hlb : ∀ b, st2.l.ownBlock = some b → b ≠ m ∧ b ≠ o := fun b hb => ⟨by have := (hol.lt b hb).1; omega, hlo b hb⟩
  refine (wTellOne m o g cap ty { st2 with under := 0 } so F fi ca us.length us [m] w3 (fun W so2 => ∃ t, Wk W m { st2 with under := 0, outer := .slice none 0 0, tasks := t } ∧ W.ownsRow w3.heap.size 34 1 t 0 [] ∧ Keeps [m, o] w3 W) hw (hwo.keeps k3 (by simpa using hom)) (Ne.symm hom)
    hov rfl ho (hgr.keeps k3 (by simpa using hgm)) hgm hso hsv hsa hsu hF1 ((Sl.of_owns hol).but k3 (fun b hb => by simpa using (hlb b hb).1)) hus hlb (by intro k hk; simp at hk; subst hk; exact hw.lt) ?_).mono ?_
  · intro w5 q5 c5 hwo5 hwm5 k5 _
    refine (hF2 w5 _ _ q5 _ c5 _ hwm5 ((k3.mono (by simp)).trans k5)).mono ?_
    rintro e w6 ⟨rfl, t, hm6, ht, k6⟩
    refine ⟨rfl, _, hwo5.keeps k6 (by simpa using hom), rfl, .inl hsv, k6, ⟨_, hm6, rfl, rfl, rfl⟩, t, hm6, owns_base ht k5.size, k5.trans (k6.mono (by simp))⟩
  · rintro e w4 ⟨rfl, w5, so2, ⟨t, hm5, ht, k5⟩, k4, -⟩
    have hm4 := hm5.keeps k4 (by simpa using Ne.symm hom)
    have k34 : Keeps [m, o] w3 w4 := k5.trans (k4.mono (by simp))
    have kall : Keeps [m, o] w2 w4 := (k3.mono (by simp)).trans k34
    have htl := fun b hb => ht.lt b hb
    have s2 := hk2.size
    have s3 := k3.size
    have s45 := k4.size
    have hl4 : Sl w4 1 st2.l us.length (ints .u64 us) := (Sl.of_owns hol).but kall (fun b hb => by have := hlb b hb; simp [this.1, this.2])
    have hwlt := hw.lt
    have hf : K.face s = ⟨none, some ⟨c, v, us⟩, []⟩ := by simp only [Mach.face, hx, hr, hh]
    have holt := hwo.lt
    have ht4 : Sl w4 1 t 0 [] := (Sl.of_owns ht).but k4 (fun b hb => by have := htl b hb; simp; omega)
    refine ⟨rfl, m :: (st2.l.ownBlock.toList ++ t.ownBlock.toList), ⟨m :: (st2.l.ownBlock.toList ++ t.ownBlock.toList), [], { st2 with under := 0, outer := .slice none 0 0, tasks := t }, by simp, ?_, ?_, by simp, by simp, hE _ _ _ _ _ hx⟩, ?_, ?_⟩
    · rw [hf]
      refine ⟨hm4, hsb, rfl, by simp, by simpa [ints] using ht4, fun b hb => ⟨by simp [hb], by have := htl b hb; omega⟩, by simp, hov, fun r hr => ?_, fun b hb => ⟨by simp [hb], (hlb b hb).1⟩, fun _ => hnx, fun y hy => by cases hy⟩
      cases hr
      exact ⟨hcc, hvv, hl4, hus⟩
    · intro k hk
      simp only [List.mem_cons, List.mem_append, ownBlock_toList] at hk
      rcases hk with rfl | hk | hk
      · exact hm4.lt
      · have := (hol.lt k hk).2; have := kall.size; omega
      · have := htl k hk; omega
    · have hsub : Keeps (S ++ T) w1 w4 := by
        have : Keeps (o :: (S ++ T)) w1 w4 := (hk2.mono (by intro k hk _; exact List.mem_cons_of_mem _ hk)).trans (kall.mono (by intro k hk _; simp at hk; rcases hk with rfl | rfl; exact List.mem_cons_of_mem _ (List.mem_append_left _ hm); simp))
        refine this.mono (fun k hk hl => ?_)
        rcases List.mem_cons.1 hk with rfl | hk
        · rcases hoT with h | h
          · exact List.mem_append_right _ h
          · omega
        · exact hk
      exact hsub
    · intro k hk
      simp only [List.mem_cons, List.mem_append, ownBlock_toList] at hk
      rcases hk with rfl | hk | hk
      · exact .inl (List.mem_append_left _ hm)
      · exact .inr (hol.lt k hk).1
      · exact .inr (by have := htl k hk; omega)

set_option maxHeartbeats 800000 in
/-- A walk of its own blocks goes as the machine, if each of its functions does a step of that. -/
theorem runs_ownO {σ : Type} (K : Mach σ) (R : World → List Nat → Value → Value → σ → Prop) (m : Nat)
    (hR : ∀ w w' T A nx ov s, R w T nx ov s → Keeps A w w' → (∀ k ∈ T, k ∉ A) → R w' T nx ov s)
    (hE : ∀ w T nx ov s, K.want s = none → R w T nx ov s)
    (hN : ∀ s v won, K.want s = none → K.give s v won = s)
    (hW : ∀ s x, K.want s = some x → K.res s = none)
    (hF : ∀ w T nx ov s x, R w T nx ov s → K.want s = some x → ∃ F fi ca, nx = .func (.func F) fi ca ∧ ∀ args w, (callFunc F args).run Tryz.prog w = .ok (.enter F args) w)
    (hS : ∀ w T F fi ca s st v won x, Wk w m st → st.over = false → st.sub = none → st.under = 1 → (∀ k ∈ T, k < w.heap.size ∧ k ≠ m) → Sl w 1 st.tasks (K.held s).length (ints .u64 (K.held s)) → R w T (.func (.func F) fi ca) st.outer s → M.U v → K.want s = some x →
      Calls Tryz.prog F (fi ++ (#[.int .u64 v, .bool won] ++ ca)) w fun e w' => e = .returned (.tuple #[]) ∧ GoesO K R m st (K.held s) T (K.give s v won) w w') : Runs K (LoneIO K R m) m where
  lt := fun ⟨S, T, _, hU, _, h1, h2, _⟩ k hk => by
    subst hU
    rcases List.mem_append.1 hk with h | h
    · exact h1 k h
    · exact h2 k h
  frame := fun ⟨S, T, st, hU, h1, h2, h3, h4, h5⟩ hk hA => by
    subst hU
    exact ⟨S, T, st, rfl, h1.keeps hk (fun k hk => hA k (List.mem_append_left _ hk)), fun k hk' => Nat.lt_of_lt_of_le (h2 k hk') hk.size, fun k hk' => Nat.lt_of_lt_of_le (h3 k hk') hk.size, h4, hR _ _ _ _ _ _ _ h5 hk (fun k hk => hA k (List.mem_append_right _ hk))⟩
  want := fun w S s ⟨_, _, st, _, h1, _⟩ => h1.wants
  result := fun w S s ⟨_, _, st, _, h1, _⟩ => h1.results
  give := fun w U s v won ⟨S, T, st, hU, h1, h2, h3, h4, h5⟩ hv _ _ => by
    subst hU
    cases hw : K.want s with
    | none =>
      rw [hN s v won hw]
      exact (wGiveNone m st v won w h1.wk h1.sub (h1.none_ hw)).mono fun e w' ⟨he, hk⟩ => ⟨he, S ++ T, ⟨S, T, st, rfl, h1.keeps hk (by simp), fun k hk' => Nat.lt_of_lt_of_le (h2 k hk') hk.size, fun k hk' => Nat.lt_of_lt_of_le (h3 k hk') hk.size, h4, hR _ _ _ _ _ _ _ h5 hk (by simp)⟩, hk.nil, fun k hk => .inl hk⟩
    | some x =>
      obtain ⟨F, fi, ca, hn, hcf⟩ := hF _ _ _ _ _ _ h5 hw
      have hr0 := hW _ _ hw
      have ho : st.over = false := by rw [h1.over]; show (K.res s).isSome = false; rw [hr0]; rfl
      have hm : m ∈ S := h1.mem
      refine (wGiveT m st F fi ca v won w (fun w2 s2 => ∃ w1, Keeps [m] w w1 ∧ (MidO K R m S T (K.give s v won) w1 w2 s2 ∨ EndO K m S T (K.give s v won) w1 w2 s2)) (fun w' => ∃ U', LoneIO K R m w' U' (K.give s v won) ∧ Keeps (S ++ T) w w' ∧ ∀ k ∈ U', k ∈ S ++ T ∨ w.heap.size ≤ k) h1.wk h1.sub hn h1.under hcf ?_ ?_).mono ?_
      · intro w1 hw1 hk1
        refine (hS w1 T F fi ca s _ v won x hw1 ho rfl rfl (fun k hk => ⟨Nat.lt_of_lt_of_le (h3 k hk) hk1.size, fun h => h4 m hm (h ▸ hk)⟩) (h1.tasks.but hk1 (fun g hg => by simpa using (h1.tasksOwn g hg).2)) (hn ▸ hR _ _ _ _ _ _ _ h5 hk1 (fun k hk h => by simp at h; exact h4 m hm (h ▸ hk))) hv hw).mono ?_
        rintro e w2 ⟨rfl, hg⟩
        obtain ⟨st2, c1, c2, c3⟩ := GoesO.mid (fc := K.face s) hg h1 ⟨rfl, rfl, ho, rfl⟩ hr0 hk1 h2 h3 h4 hE
        exact ⟨rfl, st2, c1, c2, w1, hk1, c3⟩
      · rintro w2 s2 w3 ⟨w1, hk1, h | h⟩ k3 hw3
        · refine (told_mid K R m hR S T hm _ w1 w2 w3 s2 h k3 hw3).mono ?_
          rintro e w4 ⟨rfl, U, hI, hk, hU⟩
          exact ⟨rfl, U, hI, (hk1.mono (by intro k hk _; simp at hk; exact hk ▸ List.mem_append_left _ hm)).trans hk, fun k hk => (hU k hk).imp_right (Nat.le_trans hk1.size)⟩
        · refine (told_end K R m hE S T hm (Nat.lt_of_lt_of_le (h2 m hm) hk1.size) (fun k hk => Nat.lt_of_lt_of_le (h3 k hk) hk1.size) _ w2 w3 s2 h k3 hw3).mono ?_
          rintro e w4 ⟨rfl, U, hI, hk, hU⟩
          exact ⟨rfl, U, hI, (hk1.mono (by intro k hk _; simp at hk; exact hk ▸ List.mem_append_left _ hm)).trans hk, fun k hk => (hU k hk).imp_right (Nat.le_trans hk1.size)⟩
      · rintro e w' ⟨rfl, U, hI, hk, hU⟩
        exact ⟨rfl, U, hI, hk, hU⟩

set_option maxHeartbeats 800000 in
/-- A new walk of its own blocks, whose first function goes to a first state. -/
theorem new_goesO {σ : Type} (K : Mach σ) (R : World → List Nat → Value → Value → σ → Prop) (s0 : σ) (F : FuncId) (ca : Array Value) (w : World)
    (hR : ∀ w w' T A nx ov s, R w T nx ov s → Keeps A w w' → (∀ k ∈ T, k ∉ A) → R w' T nx ov s)
    (hE : ∀ w T nx ov s, K.want s = none → R w T nx ov s)
    (hcf : ∀ args w, (callFunc F args).run Tryz.prog w = .ok (.enter F args) w)
    (hF : ∀ w1, Wk w1 (w.heap.size + 1) { WSt.zero with under := 1 } → Keeps [] w w1 → Calls Tryz.prog F (#[.pointer (some ⟨w.heap.size + 1, 0, none⟩)] ++ ca) w1 fun e w2 => e = .returned (.tuple #[]) ∧ ∃ st2, Wk w2 (w.heap.size + 1) st2 ∧ st2.under = 1 ∧ MidO K R (w.heap.size + 1) [w.heap.size + 1] [] s0 w1 w2 st2) :
    Calls Tryz.prog 57 #[.func (.func F) #[] ca] w fun e w' => e = .returned (.pointer (some ⟨w.heap.size + 1, 0, none⟩)) ∧ ∃ S, LoneIO K R (w.heap.size + 1) w' S s0 ∧ Keeps [] w w' ∧ ∀ k ∈ S, w.heap.size ≤ k := by
  refine (wNew F ca [] w (fun w2 s2 => ∃ w1, Keeps [] w w1 ∧ MidO K R (w.heap.size + 1) [w.heap.size + 1] [] s0 w1 w2 s2) (by simp) hcf ?_).mono ?_
  · intro w1 h1 k1
    refine (hF w1 h1 k1).mono ?_
    rintro e w2 ⟨rfl, st2, a, b, c⟩
    have hc := c
    obtain ⟨c1, S2, T2, -, -, -, -, -, c7, -⟩ := hc
    exact ⟨rfl, st2, a, b, c1, by simpa using c7, w1, k1, c⟩
  · rintro e w' ⟨rfl, w2, s2, ⟨w1, k1, c1, S2, T2, b1, b2, b3, b4, b5, b6, b7, b8⟩, k5, k4, hw⟩
    have hmT : w.heap.size + 1 ∉ T2 := b4 _ b1.mem
    have z1 := k1.size
    refine ⟨rfl, S2 ++ T2, ⟨S2, T2, _, rfl, b1.under_to k5 0 hw, fun k hk => Nat.lt_of_lt_of_le (b2 k hk) k5.size, fun k hk => Nat.lt_of_lt_of_le (b3 k hk) k5.size, b4, hR _ _ _ _ _ _ _ b5 k5 (fun k hk hne => by simp at hne; exact hmT (hne ▸ hk))⟩,
      k4.step k5 (by simp), fun k hk => ?_⟩
    rcases List.mem_append.1 hk with hk | hk
    · rcases b7 k hk with h | h
      · simp at h; omega
      · omega
    · rcases b8 k hk with h | h
      · cases h
      · omega
/-- The same from a step that goes on, or ends unwatched. -/
theorem GoesO.new {σ : Type} {K : Mach σ} {R : World → List Nat → Value → Value → σ → Prop} {m : Nat} {s0 : σ} {w1 w2 : World} (h : GoesO K R m { WSt.zero with under := 1 } [] [] s0 w1 w2) (h1 : Wk w1 m { WSt.zero with under := 1 }) (hE : ∀ w T nx ov s, K.want s = none → R w T nx ov s) (hx : K.want s0 ≠ none) :
    ∃ st2, Wk w2 m st2 ∧ st2.under = 1 ∧ MidO K R m [m] [] s0 w1 w2 st2 := by
  have hL : LoneO w1 m [m] { WSt.zero with under := 1 } 1 ⟨none, none, []⟩ :=
    ⟨h1, rfl, rfl, by simp, ⟨rfl, .inl ⟨_, _, rfl, rfl⟩⟩, (fun g hg => by cases hg), by simp, rfl, (fun r hr => by cases hr), (fun g hg => by cases hg), (fun _ => rfl), (fun y hy => by cases hy)⟩
  obtain ⟨st2, a, b, c⟩ := GoesO.mid (fc := ⟨none, none, []⟩) h hL ⟨rfl, rfl, rfl, rfl⟩ rfl (Keeps.refl _ _) (by intro k hk; simp at hk; subst hk; exact h1.lt) (by simp) (by simp) hE
  refine ⟨st2, a, b, ?_⟩
  rcases c with c | c
  · exact c
  · obtain ⟨_, _, _, _, _, h2, -⟩ := c
    exact absurd h2 hx
end Go.Proofs.YtjbgkaleickknaaGreat
