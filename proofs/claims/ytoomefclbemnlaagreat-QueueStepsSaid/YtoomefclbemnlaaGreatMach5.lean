/-
  Walks of their own blocks that go into walks which they made: how a step goes on, goes into another walk, or ends.
-/
import Derived.Test.YtoomefclbemnlaaGreatMach4
import Derived.Test.YtoomefclbemnlaaGreatWalk7
namespace Go.Proofs.YtoomefclbemnlaaGreat
set_option maxRecDepth 100000
set_option linter.unusedSimpArgs false
set_option linter.unusedVariables false
open Go.ChangeShapes Go.WideShapes Go.ChangeAt Go.RowKit

/-- A machine that may be in another one. -/
structure Nest (σ τ : Type) where
  want : σ → Option C.Acc
  res : σ → Option Rs
  held : σ → List Int
  give : σ → Int → Bool → σ
  sub : σ → Option τ
  put : σ → τ → σ
  left : σ → Rs → σ
/-- It wants and holds what that one does, and goes on behind it. -/
def Nest.mach {σ τ : Type} (N : Nest σ τ) (K : Mach τ) : Mach σ where
  want s := match N.sub s with
    | some t => K.want t
    | none => N.want s
  res := N.res
  held s := match N.sub s with
    | some t => N.held s ++ K.held t
    | none => N.held s
  give s v won := match N.sub s with
    | some t => (match K.res (K.give t v won) with
      | some r => N.left s r
      | none => N.put s (K.give t v won))
    | none => N.give s v won

/-- At block m stands one that asks for x by itself. -/
def Asks (w : World) (m : Nat) (x : C.Acc) : Prop := ∃ s fn fi ca, Wk w m s ∧ s.sub = none ∧ s.x = x ∧ s.nxt = .func fn fi ca
/-- One that has ended so; its list lies in blocks of S. -/
structure Ended (w : World) (m : Nat) (S : List Nat) (st : WSt) (r : Rs) : Prop where
  wk : Wk w m st
  over : st.over = true
  sub : st.sub = none
  nxt : st.nxt = .nilFunc
  code : st.code = r.code
  v : st.v = r.v
  l : Sl w 1 st.l r.l.length (ints .u64 r.l)
  few : r.l.length ≤ 10000000
  mem : m ∈ S
  own : ∀ g, st.l.ownBlock = some g → g ∈ S ∧ g ≠ m

/-- At block b is a walk into which the one at block o went; it goes as the machine K goes, while I holds. -/
structure Inner {τ : Type} (K : Mach τ) (I : World → List Nat → τ → Prop) (o b : Nat) : Prop where
  lt : ∀ {w S t}, I w S t → ∀ k ∈ S, k < w.heap.size
  mem : ∀ {w S t}, I w S t → b ∈ S
  frame : ∀ {w w' S T t}, I w S t → Keeps T w w' → (∀ k ∈ S, k ∉ T) → I w' S t
  on : ∀ {w S t}, I w S t → K.res t = none ∧ ∃ x, K.want t = some x
  chain : ∀ {w S t x}, I w S t → K.want t = some x → ∃ l a, Chain w a l b ∧ (∀ k ∈ l, k ∈ S) ∧ Asks w a x
  held : ∀ {w S t}, I w S t → ∃ n B, Helds w n B (some ⟨b, 0, none⟩) (K.held t)
  give : ∀ w S t v won p l (R' : World → Prop), I w S t → M.U v → Chain w b l p →
    (∀ w' S' st r, K.res (K.give t v won) = some r → Ended w' b S' st r → st.under = 0 → st.outer = .slice none 0 0 → Keeps S w w' → (∀ k ∈ S', k ∈ S ∨ w.heap.size ≤ k) → (∀ k ∈ S', k < w'.heap.size) →
      Calls Tryz.prog 141 #[.pointer (some ⟨o, 0, none⟩), .pointer (some ⟨b, 0, none⟩)] w' fun e w'' => e = .returned (.tuple #[]) ∧ R' w'') →
    Calls Tryz.prog 26 #[.pointer (some ⟨p, 0, none⟩), .int .u64 v, .bool won] w fun e w' => e = .returned (.tuple #[]) ∧
      ((∃ S', I w' S' (K.give t v won) ∧ Keeps S w w' ∧ ∀ k ∈ S', k ∈ S ∨ w.heap.size ≤ k) ∨ (∃ r, K.res (K.give t v won) = some r) ∧ R' w')

/-- What is known of a walk's own blocks, however it goes on. -/
structure LoneB (w : World) (m : Nat) (S : List Nat) (st : WSt) (u : Int) (hd : List Int) : Prop where
  wk : Wk w m st
  under : st.under = u
  mem : m ∈ S
  tasks : Sl w 1 st.tasks hd.length (ints .u64 hd)
  tasksOwn : ∀ g, st.tasks.ownBlock = some g → g ∈ S ∧ g ≠ m
  tasksFew : hd.length ≤ 10000000
  resOwn : ∀ g, st.l.ownBlock = some g → g ∈ S ∧ g ≠ m
theorem LoneB.keeps {w w' : World} {m : Nat} {S T : List Nat} {st : WSt} {u : Int} {hd : List Int} (h : LoneB w m S st u hd) (hk : Keeps T w w') (hT : ∀ k ∈ S, k ∉ T) : LoneB w' m S st u hd :=
  { h with
    wk := h.wk.keeps hk (hT _ h.mem)
    tasks := h.tasks.but hk (fun g hg => hT _ (h.tasksOwn g hg).1) }
theorem LoneB.under_to {w w' : World} {m : Nat} {S : List Nat} {st : WSt} {u : Int} {hd : List Int} (h : LoneB w m S st u hd) (hk : Keeps [m] w w') (v : Int) (hw : Wk w' m { st with under := v }) : LoneB w' m S { st with under := v } v hd :=
  { h with
    wk := hw
    under := rfl
    tasks := h.tasks.but hk (fun g hg => by simpa using (h.tasksOwn g hg).2) }

section
variable {σ τ : Type} (N : Nest σ τ) (K : Mach τ) (J : Nat → Nat → World → List Nat → τ → Prop)

/-- How a walk in state s stands: it asks by itself, is in another one, or has ended; nx: what it does next. -/
inductive Mode (w : World) (m : Nat) (S : List Nat) (st : WSt) : List Nat → Value → σ → Prop
  | asks {x : C.Acc} {fn : Fn} {fi ca : Array Value} {s : σ} : N.sub s = none → N.want s = some x → N.res s = none → st.sub = none → st.over = false → st.x = x → st.nxt = .func fn fi ca → Mode w m S st [] st.nxt s
  | into {b : Nat} {t : τ} {S2 : List Nat} {fn : Fn} {fi ca : Array Value} {s : σ} : N.sub s = some t → N.res s = none → st.sub = some ⟨b, 0, none⟩ → st.over = false → st.nxt = .nilFunc → st.after = .func fn fi ca → Inner K (J m b) m b → J m b w S2 t → Mode w m S st S2 st.after s
  | ended {s : σ} {r : Rs} : N.sub s = none → N.want s = none → N.res s = some r → Ended w m S st r → Mode w m S st [] st.nxt s

theorem Mode.keeps {w w' : World} {m : Nat} {S : List Nat} {st : WSt} {S2 : List Nat} {nx : Value} {s : σ} {T : List Nat} (h : Mode N K J w m S st S2 nx s) (hm : m ∈ S) (hk : Keeps T w w') (h1 : ∀ k ∈ S, k ∉ T) (h2 : ∀ k ∈ S2, k ∉ T) : Mode N K J w' m S st S2 nx s := by
  cases h with
  | asks a b c d e f g => exact .asks a b c d e f g
  | into a b c d e f g i => exact .into a b c d e f g (g.frame i hk h2)
  | ended a b c d =>
    exact .ended a b c { d with
      wk := d.wk.keeps hk (h1 m hm)
      l := d.l.but hk (fun g hg => h1 _ (d.own g hg).1) }
theorem Mode.under_to {w w' : World} {m : Nat} {S : List Nat} {st : WSt} {S2 : List Nat} {nx : Value} {s : σ} (h : Mode N K J w m S st S2 nx s) (hk : Keeps [m] w w') (h2 : m ∉ S2) (v : Int) (hw : Wk w' m { st with under := v }) : Mode N K J w' m S { st with under := v } S2 nx s := by
  cases h with
  | asks a b c d e f g => exact Mode.asks (st := { st with under := v }) a b c d e f g
  | into a b c d e f g i => exact Mode.into (st := { st with under := v }) a b c d e f g (g.frame i hk (fun k hk' hm => by simp at hm; exact h2 (hm ▸ hk')))
  | ended a b c d =>
    exact Mode.ended (st := { st with under := v }) a b c { d with
      wk := hw
      l := d.l.but hk (fun g hg => by simpa using (d.own g hg).2) }

variable (R : World → List Nat → Value → Value → σ → Prop)

/-- A walk of its own blocks goes as the machine goes. -/
def LoneN (m : Nat) (w : World) (U : List Nat) (s : σ) : Prop :=
  ∃ S T S2 st nx, U = S ++ (T ++ S2) ∧ LoneB w m S st 0 (N.held s) ∧ Mode N K J w m S st S2 nx s ∧ (∀ k ∈ S, k < w.heap.size) ∧ (∀ k ∈ T, k < w.heap.size) ∧ (∀ k ∈ S, k ∉ T) ∧ (∀ k ∈ S2, k ∉ S) ∧ (∀ k ∈ S2, k ∉ T) ∧ R w T nx st.outer s

/-- Where a step of such a walk leads (hd: what it held): it asks again, goes into another walk, or has ended; then it may be watched. -/
def GoesN (m : Nat) (st : WSt) (hd : List Int) (T : List Nat) (s : σ) (w1 w2 : World) : Prop :=
  Keeps (m :: T) w1 w2 ∧ ∃ tk ov,
  ((∃ x fn fi ca T2, N.sub s = none ∧ N.want s = some x ∧ N.res s = none ∧ ((tk = st.tasks ∧ N.held s = hd) ∨ ((N.held s).length ≤ 10000000 ∧ w2.ownsRow w1.heap.size 49 1 tk (N.held s).length (ints .u64 (N.held s)))) ∧
      Wk w2 m { st with tasks := tk, x := x, nxt := .func fn fi ca, sub := none, after := .nilFunc, outer := ov } ∧ R w2 T2 (.func fn fi ca) ov s ∧ (∀ k ∈ T2, k < w2.heap.size) ∧ (∀ k ∈ T2, k ≠ m ∧ (k ∈ T ∨ (w1.heap.size ≤ k ∧ (tk = st.tasks ∨ tk.ownBlock ≠ some k))))) ∨
   (∃ b t S2 fn fi ca T2, N.sub s = some t ∧ N.res s = none ∧ ((tk = st.tasks ∧ N.held s = hd) ∨ ((N.held s).length ≤ 10000000 ∧ w2.ownsRow w1.heap.size 49 1 tk (N.held s).length (ints .u64 (N.held s)))) ∧
      Wk w2 m { st with tasks := tk, nxt := .nilFunc, sub := some ⟨b, 0, none⟩, after := .func fn fi ca, outer := ov } ∧ Inner K (J m b) m b ∧ J m b w2 S2 t ∧ (∀ k ∈ S2, w1.heap.size ≤ k ∧ (tk = st.tasks ∨ tk.ownBlock ≠ some k) ∧ k ∉ T2) ∧
      R w2 T2 (.func fn fi ca) ov s ∧ (∀ k ∈ T2, k < w2.heap.size) ∧ (∀ k ∈ T2, k ≠ m ∧ (k ∈ T ∨ (w1.heap.size ≤ k ∧ (tk = st.tasks ∨ tk.ownBlock ≠ some k))))) ∨
   (∃ c v us l', N.sub s = none ∧ N.want s = none ∧ N.res s = some ⟨c, v, us⟩ ∧ us.length ≤ 10000000 ∧ Wk w2 m { st with tasks := tk, nxt := .nilFunc, sub := none, after := .nilFunc, over := true, code := c, v := v, l := l', outer := ov } ∧ w2.ownsRow w1.heap.size 49 1 l' us.length (ints .u64 us) ∧
     ((ov = .slice none 0 0 ∧ ((tk = st.tasks ∧ N.held s = hd) ∨ ((N.held s).length ≤ 10000000 ∧ w2.ownsRow w1.heap.size 49 1 tk (N.held s).length (ints .u64 (N.held s))))) ∨
      (N.held s = [] ∧ ∃ g o, Watch w2 m g o ov ∧ (o ∈ T ∨ w1.heap.size ≤ o) ∧ ∀ b, l'.ownBlock = some b → b ≠ o))))

theorem GoesN.from {m : Nat} {st : WSt} {hd : List Int} {T : List Nat} {s : σ} {w w1 w2 : World} (h : GoesN N K J R m st hd T s w1 w2) (hk : Keeps (m :: T) w w1) : GoesN N K J R m st hd T s w w2 := by
  have hs := hk.size
  obtain ⟨k, tk, ov, h | h | h⟩ := h
  · obtain ⟨x, fn, fi, ca, T2, h0, hx, hr, ht, hw, hR, hlt2, hT2⟩ := h
    refine ⟨hk.trans k, tk, ov, .inl ⟨x, fn, fi, ca, T2, h0, hx, hr, ht.imp_right fun h => ⟨h.1, owns_base h.2 hs⟩, hw, hR, hlt2, fun k hk => ⟨(hT2 k hk).1, ?_⟩⟩⟩
    rcases (hT2 k hk).2 with h | h
    · exact .inl h
    · exact .inr ⟨Nat.le_trans hs h.1, h.2⟩
  · obtain ⟨b, t, S2, fn, fi, ca, T2, h0, hr, ht, hw, hI, hJ, h2, hR, hlt2, hT2⟩ := h
    refine ⟨hk.trans k, tk, ov, .inr (.inl ⟨b, t, S2, fn, fi, ca, T2, h0, hr, ht.imp_right fun h => ⟨h.1, owns_base h.2 hs⟩, hw, hI, hJ, fun k hk => ⟨Nat.le_trans hs (h2 k hk).1, (h2 k hk).2⟩, hR, hlt2, fun k hk => ⟨(hT2 k hk).1, ?_⟩⟩)⟩
    rcases (hT2 k hk).2 with h | h
    · exact .inl h
    · exact .inr ⟨Nat.le_trans hs h.1, h.2⟩
  · obtain ⟨c, v, us, l', h0, hx, hr, hus, hw, ho, h⟩ := h
    refine ⟨hk.trans k, tk, ov, .inr (.inr ⟨c, v, us, l', h0, hx, hr, hus, hw, owns_base ho hs, ?_⟩)⟩
    rcases h with ⟨e, ht⟩ | ⟨e, g, o, h1, h2, h3⟩
    · exact .inl ⟨e, ht.imp_right fun h => ⟨h.1, owns_base h.2 hs⟩⟩
    · exact .inr ⟨e, g, o, h1, h2.imp_right (Nat.le_trans hs), h3⟩

/-- What is known behind a function, while it is under way. -/
def MidN (m : Nat) (S T : List Nat) (s : σ) (w1 w2 : World) (st2 : WSt) : Prop :=
  (st2.over = false ∨ st2.outer = .slice none 0 0) ∧ ∃ S' T' S2 nx, LoneB w2 m S' st2 1 (N.held s) ∧ Mode N K J w2 m S' st2 S2 nx s ∧ (∀ k ∈ S', k < w2.heap.size) ∧ (∀ k ∈ T', k < w2.heap.size) ∧ (∀ k ∈ S', k ∉ T') ∧ (∀ k ∈ S2, k ∉ S') ∧ (∀ k ∈ S2, k ∉ T') ∧ R w2 T' nx st2.outer s ∧
    Keeps (S ++ T) w1 w2 ∧ (∀ k ∈ S', k ∈ S ∨ w1.heap.size ≤ k) ∧ (∀ k ∈ T', k ∈ T ∨ w1.heap.size ≤ k) ∧ ∀ k ∈ S2, w1.heap.size ≤ k
/-- What is known behind a function that ended one that is watched. -/
def EndN (m : Nat) (S T : List Nat) (s : σ) (w1 w2 : World) (st2 : WSt) : Prop :=
  ∃ c v us g o, N.sub s = none ∧ N.want s = none ∧ N.res s = some ⟨c, v, us⟩ ∧ N.held s = [] ∧ us.length ≤ 10000000 ∧ Wk w2 m st2 ∧ st2.nxt = .nilFunc ∧ st2.sub = none ∧ st2.under = 1 ∧ st2.over = true ∧ st2.code = c ∧ st2.v = v ∧ w2.ownsRow w1.heap.size 49 1 st2.l us.length (ints .u64 us) ∧
    Watch w2 m g o st2.outer ∧ (o ∈ T ∨ w1.heap.size ≤ o) ∧ (∀ b, st2.l.ownBlock = some b → b ≠ o) ∧ Keeps (S ++ T) w1 w2

variable {N K J R}

set_option maxHeartbeats 800000 in
theorem GoesN.mid {m : Nat} {st st0 : WSt} {T S : List Nat} {s : σ} {u0 : Int} {w0 w1 w2 : World} {hd : List Int} (h : GoesN N K J R m st hd T s w1 w2) (hL : LoneB w0 m S st0 u0 hd)
    (hst : st.tasks = st0.tasks ∧ st.under = 1 ∧ st.over = false ∧ st.l = st0.l) (Z : List Nat) (hk1 : Keeps (m :: Z) w0 w1) (hZ : ∀ k ∈ S, k ∉ Z)
    (hlt : ∀ k ∈ S, k < w0.heap.size) (hltT : ∀ k ∈ T, k < w0.heap.size) (hd' : ∀ k ∈ S, k ∉ T) (hE : ∀ w T nx ov s, N.sub s = none → N.want s = none → R w T nx ov s) :
    ∃ st2, Wk w2 m st2 ∧ st2.under = 1 ∧ (MidN N K J R m S T s w1 w2 st2 ∨ EndN N m S T s w1 w2 st2) := by
  obtain ⟨hk, tk, ov, h⟩ := h
  obtain ⟨a1, a3, a4, a5⟩ := hst
  have s01 := hk1.size
  have s12 := hk.size
  have hm0 := hlt m hL.mem
  have tasks_at : Sl w2 1 st0.tasks hd.length (ints .u64 hd) := by
    refine (hL.tasks.but hk1 (fun g hg => ?_)).but hk (fun g hg => ?_)
    · obtain ⟨h1, h2⟩ := hL.tasksOwn g hg
      simp only [List.mem_cons, not_or]
      exact ⟨h2, hZ g h1⟩
    · obtain ⟨h1, h2⟩ := hL.tasksOwn g hg
      simp only [List.mem_cons, not_or]
      exact ⟨h2, hd' g h1⟩
  have htk : ((tk = st.tasks ∧ N.held s = hd) ∨ ((N.held s).length ≤ 10000000 ∧ w2.ownsRow w1.heap.size 49 1 tk (N.held s).length (ints .u64 (N.held s)))) →
      Sl w2 1 tk (N.held s).length (ints .u64 (N.held s)) ∧ (N.held s).length ≤ 10000000 ∧ ∀ g, tk.ownBlock = some g → (g ∈ S ∧ tk = st.tasks ∨ w1.heap.size ≤ g) ∧ g ≠ m ∧ g < w2.heap.size := by
    intro ht
    rcases ht with ⟨e1, e2⟩ | ⟨e1, e2⟩
    · rw [e1, e2, a1]
      refine ⟨tasks_at, hL.tasksFew, fun g hg => ?_⟩
      have := hL.tasksOwn g hg
      exact ⟨.inl ⟨this.1, rfl⟩, this.2, Nat.lt_of_lt_of_le (hlt g this.1) (Nat.le_trans s01 s12)⟩
    · refine ⟨Sl.of_owns e2, e1, fun g hg => ?_⟩
      have := e2.lt g hg
      exact ⟨.inr this.1, by omega, this.2⟩
  -- what holds of its own blocks and of those that it knows
  have both : ∀ (ht : (tk = st.tasks ∧ N.held s = hd) ∨ ((N.held s).length ≤ 10000000 ∧ w2.ownsRow w1.heap.size 49 1 tk (N.held s).length (ints .u64 (N.held s)))) (T2 : List Nat) (hT2 : ∀ k ∈ T2, k ≠ m ∧ (k ∈ T ∨ (w1.heap.size ≤ k ∧ (tk = st.tasks ∨ tk.ownBlock ≠ some k)))),
      (∀ g, tk.ownBlock = some g → g ∈ tk.ownBlock.toList ++ S ∧ g ≠ m) ∧ (∀ k ∈ tk.ownBlock.toList ++ S, k < w2.heap.size) ∧ (∀ k ∈ tk.ownBlock.toList ++ S, k ∈ S ∨ w1.heap.size ≤ k) ∧ (∀ k ∈ tk.ownBlock.toList ++ S, k ∉ T2) ∧ ∀ k ∈ T2, k ∈ T ∨ w1.heap.size ≤ k := by
    intro ht T2 hT2
    obtain ⟨t1, t2, t3⟩ := htk ht
    refine ⟨fun g hg => ⟨List.mem_append_left _ ((ownBlock_toList _ _).2 hg), (t3 g hg).2.1⟩, fun k hk' => ?_, fun k hk' => ?_, fun k hkS hkT => ?_, fun k hk' => ?_⟩
    · rcases List.mem_append.1 hk' with h | h
      · exact (t3 k ((ownBlock_toList _ _).1 h)).2.2
      · exact Nat.lt_of_lt_of_le (hlt k h) (Nat.le_trans s01 s12)
    · rcases List.mem_append.1 hk' with h | h
      · rcases (t3 k ((ownBlock_toList _ _).1 h)).1 with h | h
        · exact .inl h.1
        · exact .inr h
      · exact .inl h
    · obtain ⟨b1, b2⟩ := hT2 k hkT
      rcases List.mem_append.1 hkS with h | h
      · have h3 := t3 k ((ownBlock_toList _ _).1 h)
        rcases b2 with b2 | ⟨b2, b3⟩
        · rcases h3.1 with h3 | h3
          · exact hd' k h3.1 b2
          · have := hltT k b2; omega
        · rcases b3 with b3 | b3
          · rcases h3.1 with h4 | h4
            · have := hlt k h4.1; omega
            · have h5 := (ownBlock_toList _ _).1 h
              rw [b3, a1] at h5
              have := hlt k (hL.tasksOwn k h5).1
              omega
          · exact b3 ((ownBlock_toList _ _).1 h)
      · rcases b2 with b2 | ⟨b2, -⟩
        · exact hd' k h b2
        · have := hlt k h; omega
    · rcases (hT2 k hk').2 with h | h
      · exact .inl h
      · exact .inr h.1
  rcases h with h | h | h
  · obtain ⟨x, fn, fi, ca, T2, h0, hx, hr, ht, hw, hR, hlt2, hT2⟩ := h
    obtain ⟨t1, t2, t3⟩ := htk ht
    obtain ⟨c1, c2, c3, c4, c5⟩ := both ht T2 hT2
    refine ⟨_, hw, a3, .inl ⟨.inl a4, tk.ownBlock.toList ++ S, T2, [], _, ⟨hw, a3, List.mem_append_right _ hL.mem, t1, c1, t2, fun g hg => ?_⟩, Mode.asks h0 hx hr rfl a4 rfl rfl, c2, hlt2, c4, by simp, by simp, hR, hk.mono (fun k hk _ => mem_S hL.mem k hk), c3, c5, by simp⟩⟩
    have h1 := hL.resOwn g (by rw [← a5]; exact hg)
    exact ⟨List.mem_append_right _ h1.1, h1.2⟩
  · obtain ⟨b, t, S2, fn, fi, ca, T2, h0, hr, ht, hw, hI, hJ, h2, hR, hlt2, hT2⟩ := h
    obtain ⟨t1, t2, t3⟩ := htk ht
    obtain ⟨c1, c2, c3, c4, c5⟩ := both ht T2 hT2
    refine ⟨_, hw, a3, .inl ⟨.inl a4, tk.ownBlock.toList ++ S, T2, S2, _, ⟨hw, a3, List.mem_append_right _ hL.mem, t1, c1, t2, fun g hg => ?_⟩, Mode.into h0 hr rfl a4 rfl rfl hI hJ, c2, hlt2, c4, ?_, fun k hk => (h2 k hk).2.2, hR, hk.mono (fun k hk _ => mem_S hL.mem k hk), c3, c5, fun k hk => (h2 k hk).1⟩⟩
    · have h1 := hL.resOwn g (by rw [← a5]; exact hg)
      exact ⟨List.mem_append_right _ h1.1, h1.2⟩
    · intro k hk hkS
      obtain ⟨e1, e2, -⟩ := h2 k hk
      rcases List.mem_append.1 hkS with h | h
      · rcases e2 with e2 | e2
        · have h5 := (ownBlock_toList _ _).1 h
          rw [e2, a1] at h5
          have := hlt k (hL.tasksOwn k h5).1
          omega
        · exact e2 ((ownBlock_toList _ _).1 h)
      · have := hlt k h; omega
  · obtain ⟨c, v, us, l', h0, hx, hr, hus, hw, ho, h⟩ := h
    have hol := fun g hg => ho.lt g hg
    rcases h with ⟨rfl, ht⟩ | ⟨hh, g, o, h1, h2, h3⟩
    · obtain ⟨t1, t2, t3⟩ := htk ht
      obtain ⟨c1, c2, c3, c4, c5⟩ := both ht [] (by simp)
      have cT : ∀ k ∈ tk.ownBlock.toList ++ S, k ∉ T := fun k hkS hkT => by
        rcases c3 k hkS with h | h
        · exact hd' k h hkT
        · have := hltT k hkT; omega
      refine ⟨_, hw, a3, .inl ⟨.inr rfl, l'.ownBlock.toList ++ (tk.ownBlock.toList ++ S), T, [], _, ⟨hw, a3, List.mem_append_right _ (List.mem_append_right _ hL.mem), t1, fun g hg => ⟨List.mem_append_right _ (c1 g hg).1, (c1 g hg).2⟩, t2, fun g hg => ⟨List.mem_append_left _ ((ownBlock_toList _ _).2 hg), by have := hol g hg; omega⟩⟩,
        Mode.ended h0 hx hr ⟨hw, rfl, rfl, rfl, rfl, rfl, Sl.of_owns ho, hus, List.mem_append_right _ (List.mem_append_right _ hL.mem), fun g hg => ⟨List.mem_append_left _ ((ownBlock_toList _ _).2 hg), by have := hol g hg; omega⟩⟩, ?_, fun k hk' => Nat.lt_of_lt_of_le (hltT k hk') (Nat.le_trans s01 s12), ?_, by simp, by simp, hE _ _ _ _ _ h0 hx, hk.mono (fun k hk _ => mem_S hL.mem k hk), ?_, fun k hk => .inl hk, by simp⟩⟩
      · intro k hk'
        rcases List.mem_append.1 hk' with h | h
        · exact (hol k ((ownBlock_toList _ _).1 h)).2
        · exact c2 k h
      · intro k hk' hkT
        rcases List.mem_append.1 hk' with h | h
        · have := (hol k ((ownBlock_toList _ _).1 h)).1
          have := hltT k hkT
          omega
        · exact cT k h hkT
      · intro k hk'
        rcases List.mem_append.1 hk' with h | h
        · exact .inr (hol k ((ownBlock_toList _ _).1 h)).1
        · exact c3 k h
    · exact ⟨_, hw, a3, .inr ⟨c, v, us, g, o, h0, hx, hr, hh, hus, hw, rfl, rfl, a3, rfl, rfl, rfl, ho, h1, h2, h3, hk.mono (fun k hk _ => mem_S hL.mem k hk)⟩⟩
end
end Go.Proofs.YtoomefclbemnlaaGreat

/-
  Walks that go into others go as their machine; walks of their own blocks as those into which others went.
-/
namespace Go.Proofs.YtoomefclbemnlaaGreat
set_option maxRecDepth 100000
set_option linter.unusedSimpArgs false
set_option linter.unusedVariables false
open Go.ChangeShapes Go.WideShapes Go.ChangeAt Go.RowKit

section
variable {σ τ : Type} {N : Nest σ τ} {K : Mach τ} {J : Nat → Nat → World → List Nat → τ → Prop} {R : World → List Nat → Value → Value → σ → Prop}

set_option maxHeartbeats 800000 in
/-- What is told behind a function. -/
theorem told_midN (m : Nat) {w1 : World} (hR : ∀ w w' T A nx ov s, R w T nx ov s → Keeps A w w' → (∀ k ∈ T, k ∉ A) → R w' T nx ov s) (S T : List Nat) (hm : m ∈ S) (hm1 : ∀ k ∈ S, k < w1.heap.size) (s : σ) (w2 w3 : World) (st2 : WSt) (h : MidN N K J R m S T s w1 w2 st2) (k3 : Keeps [m] w2 w3) (hw : Wk w3 m { st2 with under := 0 }) :
    Calls Tryz.prog 100 #[.pointer (some ⟨m, 0, none⟩)] w3 fun e w4 => e = .returned (.tuple #[]) ∧ ∃ U, LoneN N K J R m w4 U s ∧ Keeps (S ++ T) w1 w4 ∧ ∀ k ∈ U, k ∈ S ++ T ∨ w1.heap.size ≤ k := by
  obtain ⟨hc, S', T', S2, nx, b1, b2, b3, b4, b5, b6, b7, b8, b9, b10, b11, b12⟩ := h
  refine (wTell m _ w3 hw ?_).mono ?_
  · rcases hc with h | h
    · exact .inl h
    · exact .inr (.inr ⟨rfl, h⟩)
  · rintro e w4 ⟨rfl, w4k, k4⟩
    have k34 := k3.trans k4
    have hmT : m ∉ T' := b5 m b1.mem
    have hmS2 : m ∉ S2 := fun h => b6 m h b1.mem
    refine ⟨rfl, S' ++ (T' ++ S2), ⟨S', T', S2, _, nx, rfl, b1.under_to k34 0 w4k, b2.under_to N K J k34 hmS2 0 w4k, fun k hk => Nat.lt_of_lt_of_le (b3 k hk) k34.size, fun k hk => Nat.lt_of_lt_of_le (b4 k hk) k34.size, b5, b6, b7, hR _ _ _ _ _ _ _ b8 k34 (fun k hk hne => by simp at hne; exact hmT (hne ▸ hk))⟩,
      b9.trans (k34.mono (by intro k hk _; simp at hk; exact hk ▸ List.mem_append_left _ hm)), fun k hk => ?_⟩
    rcases List.mem_append.1 hk with hk | hk
    · exact (b10 k hk).imp_left (List.mem_append_left _)
    · rcases List.mem_append.1 hk with hk | hk
      · exact (b11 k hk).imp_left (List.mem_append_right _)
      · exact .inr (b12 k hk)

set_option maxHeartbeats 1600000 in
theorem told_endN (m : Nat) {w1 : World} (hE : ∀ w T nx ov s, N.sub s = none → N.want s = none → R w T nx ov s) (S T : List Nat) (hm : m ∈ S) (hm1 : m < w1.heap.size) (hlt : ∀ k ∈ T, k < w1.heap.size) (s : σ) (w2 w3 : World) (st2 : WSt) (h : EndN N m S T s w1 w2 st2) (k3 : Keeps [m] w2 w3) (hw : Wk w3 m { st2 with under := 0 }) :
    Calls Tryz.prog 100 #[.pointer (some ⟨m, 0, none⟩)] w3 fun e w4 => e = .returned (.tuple #[]) ∧ ∃ U, LoneN N K J R m w4 U s ∧ Keeps (S ++ T) w1 w4 ∧ ∀ k ∈ U, k ∈ S ++ T ∨ w1.heap.size ≤ k := by
  obtain ⟨c, v, us, g, o, h0, hx, hr, hh, hus, hw2, hnx, hsb, hun, hov, hcc, hvv, hol, hW, hoT, hlo, hk2⟩ := h
  obtain ⟨cap, ty, so, F, fi, ca, ho, hgm, hom, hgr, hwo, hso, hsv, hsu, hsx, hsa, hF1, hF2⟩ := hW
  have hlb : ∀ b, st2.l.ownBlock = some b → b ≠ m ∧ b ≠ o := fun b hb => ⟨by have := (hol.lt b hb).1; omega, hlo b hb⟩
  refine (wTellOne m o g cap ty { st2 with under := 0 } so F fi ca us.length us [m] w3 (fun W so2 => ∃ t, Wk W m { st2 with under := 0, outer := .slice none 0 0, tasks := t } ∧ W.ownsRow w3.heap.size 49 1 t 0 [] ∧ Keeps [m, o] w3 W) hw (hwo.keeps k3 (by simpa using hom)) (Ne.symm hom)
    hov rfl ho (hgr.keeps k3 (by simpa using hgm)) hgm hso hsv hsa hsu hF1 ((Sl.of_owns hol).but k3 (fun b hb => by simpa using (hlb b hb).1)) hus hlb (by intro k hk; simp at hk; subst hk; exact hw.lt) ?_).mono ?_
  · intro w5 q5 c5 hwo5 hwm5 k5 _
    refine (hF2 w5 _ _ q5 _ c5 _ hwm5 ((k3.mono (by simp)).trans k5)).mono ?_
    rintro e w6 ⟨rfl, t, hm6, ht, k6⟩
    refine ⟨rfl, _, hwo5.keeps k6 (by simpa using hom), rfl, .inl hsv, k6, ⟨_, hm6, rfl, rfl, rfl⟩, t, hm6, owns_base ht k5.size, k5.trans (k6.mono (by simp))⟩
  · rintro e w4 ⟨rfl, w5, so2, ⟨t, hm5, ht, k5⟩, k4, -⟩
    have hm4 := hm5.keeps k4 (by simpa using Ne.symm hom)
    have k34 : Keeps [m, o] w3 w4 := k5.trans (k4.mono (by simp))
    have kall : Keeps [m, o] w2 w4 := (k3.mono (by simp)).trans k34
    have htl := fun b hb => ht.lt b hb
    have s2 := hk2.size
    have s3 := k3.size
    have s45 := k4.size
    have hl4 : Sl w4 1 st2.l us.length (ints .u64 us) := (Sl.of_owns hol).but kall (fun b hb => by have := hlb b hb; simp [this.1, this.2])
    have hwlt := hw.lt
    have holt := hwo.lt
    have ht4 : Sl w4 1 t 0 [] := (Sl.of_owns ht).but k4 (fun b hb => by have := htl b hb; simp; omega)
    refine ⟨rfl, (m :: (st2.l.ownBlock.toList ++ t.ownBlock.toList)) ++ ([] ++ []), ⟨m :: (st2.l.ownBlock.toList ++ t.ownBlock.toList), [], [], { st2 with under := 0, outer := .slice none 0 0, tasks := t }, _, rfl, ?_, Mode.ended h0 hx hr ⟨hm4, hov, hsb, hnx, hcc, hvv, hl4, hus, by simp, fun b hb => ⟨by simp [hb], (hlb b hb).1⟩⟩, ?_, by simp, by simp, by simp, by simp, hE _ _ _ _ _ h0 hx⟩, ?_, ?_⟩
    · rw [hh]
      exact ⟨hm4, rfl, by simp, by simpa [ints] using ht4, fun b hb => ⟨by simp [hb], by have := htl b hb; omega⟩, by simp, fun b hb => ⟨by simp [hb], (hlb b hb).1⟩⟩
    · intro k hk
      simp only [List.mem_cons, List.mem_append, ownBlock_toList] at hk
      rcases hk with rfl | hk | hk
      · exact hm4.lt
      · have := (hol.lt k hk).2; have := kall.size; omega
      · have := htl k hk; omega
    · have : Keeps (o :: (S ++ T)) w1 w4 := (hk2.mono (by intro k hk _; exact List.mem_cons_of_mem _ hk)).trans (kall.mono (by intro k hk _; simp at hk; rcases hk with rfl | rfl; exact List.mem_cons_of_mem _ (List.mem_append_left _ hm); simp))
      refine this.mono (fun k hk hl => ?_)
      rcases List.mem_cons.1 hk with rfl | hk
      · rcases hoT with h | h
        · exact List.mem_append_right _ h
        · omega
      · exact hk
    · intro k hk
      simp only [List.append_nil, List.mem_cons, List.mem_append, ownBlock_toList] at hk
      rcases hk with rfl | hk | hk
      · exact .inl (List.mem_append_left _ hm)
      · exact .inr (hol.lt k hk).1
      · exact .inr (by have := htl k hk; omega)

/-- What a walk that goes into others must do, step by step. -/
structure Steps (N : Nest σ τ) (K : Mach τ) (J : Nat → Nat → World → List Nat → τ → Prop) (R : World → List Nat → Value → Value → σ → Prop) (m : Nat) : Prop where
  keep : ∀ w w' T A nx ov s, R w T nx ov s → Keeps A w w' → (∀ k ∈ T, k ∉ A) → R w' T nx ov s
  rest : ∀ w T nx ov s, N.sub s = none → N.want s = none → R w T nx ov s
  stays : ∀ s v won, N.sub s = none → N.want s = none → N.give s v won = s
  inOut : ∀ s, N.sub s = none → N.want s = none → ∃ r, N.res s = some r
  fn : ∀ w T nx ov s, R w T nx ov s → N.res s = none → ∃ F fi ca, nx = .func (.func F) fi ca ∧ ∀ args w, (callFunc F args).run Tryz.prog w = .ok (.enter F args) w
  step : ∀ w T F fi ca s st v won x, Wk w m st → st.over = false → st.sub = none → st.under = 1 → (∀ k ∈ T, k < w.heap.size ∧ k ≠ m) → Sl w 1 st.tasks (N.held s).length (ints .u64 (N.held s)) → R w T (.func (.func F) fi ca) st.outer s → M.U v → N.sub s = none → N.want s = some x → N.res s = none →
    Calls Tryz.prog F (fi ++ (#[.int .u64 v, .bool won] ++ ca)) w fun e w' => e = .returned (.tuple #[]) ∧ GoesN N K J R m st (N.held s) T (N.give s v won) w w'
  putSub : ∀ s t, N.sub s ≠ none → N.sub (N.put s t) = some t ∧ N.res (N.put s t) = N.res s ∧ N.held (N.put s t) = N.held s
  putR : ∀ w T nx ov s t v won, R w T nx ov s → N.sub s = some t → N.res s = none → M.U v → K.res t = none → K.res (K.give t v won) = none → R w T nx ov (N.put s (K.give t v won))
  left : ∀ w T F fi ca s st t v won r q c, Wk w m st → st.over = false → st.sub = none → st.under = 1 → (∀ k ∈ T, k < w.heap.size ∧ k ≠ m) → Sl w 1 st.tasks (N.held s).length (ints .u64 (N.held s)) → R w T (.func (.func F) fi ca) st.outer s → N.sub s = some t → N.res s = none → M.U v → K.res t = none → K.res (K.give t v won) = some r →
    Sl w 1 (.slice q r.l.length c) r.l.length (ints .u64 r.l) →
    Calls Tryz.prog F (fi.push (.agg #[.int .i64 r.code, .int .u64 r.v, .slice q r.l.length c]) ++ ca) w fun e w' => e = .returned (.tuple #[]) ∧ GoesN N K J R m st (N.held s) T (N.left s r) w w'

set_option maxHeartbeats 1600000 in
theorem runs_nest_give (m : Nat) (H : Steps N K J R m) (w : World) (U : List Nat) (s : σ) (v : Int) (won : Bool) (h : LoneN N K J R m w U s) (hv : M.U v) :
    Calls Tryz.prog 26 #[.pointer (some ⟨m, 0, none⟩), .int .u64 v, .bool won] w fun e w' => e = .returned (.tuple #[]) ∧ ∃ U', LoneN N K J R m w' U' ((N.mach K).give s v won) ∧ Keeps U w w' ∧ ∀ k ∈ U', k ∈ U ∨ w.heap.size ≤ k := by
  obtain ⟨S, T, S2, st, nx, rfl, hB, hM, hS, hT, d1, d2, d3, hR⟩ := h
  have hm : m ∈ S := hB.mem
  have hmT : m ∉ T := d1 m hm
  cases hM with
  | asks h0 hx hr hsub hov hxe hnx =>
    rename_i x fn fi ca
    obtain ⟨F, fi', ca', hn, hcf⟩ := H.fn _ _ _ _ _ hR hr
    have hg : (N.mach K).give s v won = N.give s v won := by simp only [Nest.mach, h0]
    rw [hg]
    refine (wGiveT m st F fi' ca' v won w (fun w2 s2 => ∃ w1, Keeps [m] w w1 ∧ (MidN N K J R m S T (N.give s v won) w1 w2 s2 ∨ EndN N m S T (N.give s v won) w1 w2 s2)) (fun w' => ∃ U', LoneN N K J R m w' U' (N.give s v won) ∧ Keeps (S ++ T) w w' ∧ ∀ k ∈ U', k ∈ S ++ T ∨ w.heap.size ≤ k) hB.wk hsub hn hB.under hcf ?_ ?_).mono ?_
    · intro w1 hw1 hk1
      refine (H.step w1 T F fi' ca' s _ v won x hw1 hov rfl rfl (fun k hk => ⟨Nat.lt_of_lt_of_le (hT k hk) hk1.size, fun h => hmT (h ▸ hk)⟩) (hB.tasks.but hk1 (fun g hg => by simpa using (hB.tasksOwn g hg).2)) (hn ▸ H.keep _ _ _ _ _ _ _ hR hk1 (fun k hk h => by simp at h; exact hmT (h ▸ hk))) hv h0 hx hr).mono ?_
      rintro e w2 ⟨rfl, hg⟩
      obtain ⟨st2, c1, c2, c3⟩ := GoesN.mid hg hB ⟨rfl, rfl, hov, rfl⟩ [] hk1 (by simp) hS hT d1 H.rest
      exact ⟨rfl, st2, c1, c2, w1, hk1, c3⟩
    · rintro w2 s2 w3 ⟨w1, hk1, h | h⟩ k3 hw3
      · refine (told_midN m H.keep S T hm (fun k hk => Nat.lt_of_lt_of_le (hS k hk) hk1.size) _ w2 w3 s2 h k3 hw3).mono ?_
        rintro e w4 ⟨rfl, U, hI, hk, hU⟩
        exact ⟨rfl, U, hI, (hk1.mono (by intro k hk _; simp at hk; exact hk ▸ List.mem_append_left _ hm)).trans hk, fun k hk => (hU k hk).imp_right (Nat.le_trans hk1.size)⟩
      · refine (told_endN (K := K) (J := J) (R := R) m H.rest S T hm (Nat.lt_of_lt_of_le (hS m hm) hk1.size) (fun k hk => Nat.lt_of_lt_of_le (hT k hk) hk1.size) _ w2 w3 s2 h k3 hw3).mono ?_
        rintro e w4 ⟨rfl, U, hI, hk, hU⟩
        exact ⟨rfl, U, hI, (hk1.mono (by intro k hk _; simp at hk; exact hk ▸ List.mem_append_left _ hm)).trans hk, fun k hk => (hU k hk).imp_right (Nat.le_trans hk1.size)⟩
    · rintro e w' ⟨rfl, U, hI, hk, hU⟩
      exact ⟨rfl, U, hI, by simpa using hk, fun k hk => by simpa using hU k hk⟩
  | into h0 hr hsub hov hnx haf hI hJ =>
    rename_i b t fn fi ca
    obtain ⟨F, fi', ca', hn, hcf⟩ := H.fn _ _ _ _ _ hR hr
    have hbS2 := hI.mem hJ
    have hbm : b ≠ m := fun h => d2 b hbS2 (h ▸ hm)
    have hS2 := hI.lt hJ
    have hch : Chain w b [m] m := .hop hB.wk hov hsub .here
    have hK0 := (hI.on hJ).1
    have hsn : N.sub s ≠ none := by rw [h0]; simp
    refine (hI.give w S2 t v won m [m] (fun w'' => ∃ r, K.res (K.give t v won) = some r ∧ ∃ U', LoneN N K J R m w'' U' (N.left s r) ∧ Keeps (S ++ (T ++ S2)) w w'' ∧ ∀ k ∈ U', k ∈ S ++ (T ++ S2) ∨ w.heap.size ≤ k) hJ hv hch ?_).mono ?_
    · intro w' S' sb r hres hEnd hu0 hout hk' hfr hlt'
      have hbk := hB.keeps hk' (fun k hk h => d2 k h hk)
      have hnS' : ∀ k ∈ S ++ T, k ∉ S' := fun k hk h => by
        rcases hfr k h with h | h
        · rcases List.mem_append.1 hk with hk | hk
          · exact d2 k h hk
          · exact d3 k h hk
        · rcases List.mem_append.1 hk with hk | hk
          · have := hS k hk; omega
          · have := hT k hk; omega
      have hbST : b ∉ S ++ T := fun h => by
        rcases List.mem_append.1 h with h | h
        · exact d2 b hbS2 h
        · exact d3 b hbS2 h
      refine (wBackT b m sb st F fi' ca' r.l.length r.l (S ++ T) w' (fun w2 s2 => ∃ w1, Keeps [m, b] w' w1 ∧ (MidN N K J R m S T (N.left s r) w1 w2 s2 ∨ EndN N m S T (N.left s r) w1 w2 s2))
        (fun w'' => ∃ r, K.res (K.give t v won) = some r ∧ ∃ U', LoneN N K J R m w'' U' (N.left s r) ∧ Keeps (S ++ (T ++ S2)) w w'' ∧ ∀ k ∈ U', k ∈ S ++ (T ++ S2) ∨ w.heap.size ≤ k)
        hEnd.wk hbk.wk hbm hsub hout hov hn hbk.under hcf hEnd.l hEnd.few (fun g hg => ⟨(hEnd.own g hg).2, fun h => hnS' m (List.mem_append_left _ hm) (h ▸ (hEnd.own g hg).1)⟩) (fun k hk => ?_) ?_ ?_)
      · rcases List.mem_append.1 hk with hk | hk
        · exact Nat.lt_of_lt_of_le (hS k hk) hk'.size
        · exact Nat.lt_of_lt_of_le (hT k hk) hk'.size
      · intro w1 q c hw1 hwb1 hk1 hq
        have hkR : R w1 T (.func (.func F) fi' ca') st.outer s := by
          rw [← hn]
          refine H.keep _ _ _ _ _ _ _ (H.keep _ _ _ _ _ _ _ hR hk' (fun k hk h => d3 k h hk)) hk1 (fun k hk h => ?_)
          simp at h
          rcases h with rfl | rfl
          · exact d3 _ hbS2 hk
          · exact hmT hk
        have hkm : Keeps [m, b] w' w1 := hk1.mono (by simp)
        rw [hEnd.code, hEnd.v]
        refine (H.left w1 T F fi' ca' s _ t v won r q c hw1 hov rfl rfl (fun k hk => ⟨Nat.lt_of_lt_of_le (hT k hk) (Nat.le_trans hk'.size hk1.size), fun h => hmT (h ▸ hk)⟩) (hbk.tasks.but hkm (fun g hg => ?_)) hkR h0 hr hv hK0 hres hq).mono ?_
        · have := hB.tasksOwn g hg
          simp only [List.mem_cons, List.not_mem_nil, or_false, not_or]
          exact ⟨this.2, fun h => hbST (h ▸ List.mem_append_left _ this.1)⟩
        · rintro e w2 ⟨rfl, hg⟩
          have hgk : Keeps (m :: T) w1 w2 := hg.1
          obtain ⟨st2, c1, c2, c3⟩ := GoesN.mid hg hbk ⟨rfl, rfl, hov, rfl⟩ [b] hkm (fun k hk h => by simp at h; subst h; exact hbST (List.mem_append_left _ hk)) (fun k hk => Nat.lt_of_lt_of_le (hS k hk) hk'.size) (fun k hk => Nat.lt_of_lt_of_le (hT k hk) hk'.size) d1 H.rest
          refine ⟨rfl, st2, c1, c2, hgk.mono (fun k hk _ => mem_S hm k hk), ⟨sb, hwb1.keeps hgk (fun h => ?_), by rw [hEnd.code], by rw [hEnd.v], rfl⟩, w1, hkm, c3⟩
          rcases List.mem_cons.1 h with h | h
          · exact hbm h
          · exact hbST (List.mem_append_right _ h)
      · rintro w2 s2 w3 ⟨w1, hk1, h⟩ k3 hw3
        have hall : ∀ w4, Keeps (S ++ T) w1 w4 → Keeps (S ++ (T ++ S2)) w w4 := fun w4 hk => by
          refine ((hk'.mono (fun k hk _ => List.mem_append_right _ (List.mem_append_right _ hk))).trans (hk1.mono (fun k hk _ => ?_))).trans (hk.mono (fun k hk _ => ?_))
          · simp at hk
            rcases hk with rfl | rfl
            · exact List.mem_append_left _ hm
            · exact List.mem_append_right _ (List.mem_append_right _ hbS2)
          · rcases List.mem_append.1 hk with hk | hk
            · exact List.mem_append_left _ hk
            · exact List.mem_append_right _ (List.mem_append_left _ hk)
        have hnew : ∀ k, k ∈ S ++ T ∨ w1.heap.size ≤ k → k ∈ S ++ (T ++ S2) ∨ w.heap.size ≤ k := fun k hk => by
          rcases hk with hk | hk
          · left
            rcases List.mem_append.1 hk with hk | hk
            · exact List.mem_append_left _ hk
            · exact List.mem_append_right _ (List.mem_append_left _ hk)
          · exact .inr (Nat.le_trans (Nat.le_trans hk'.size hk1.size) hk)
        rcases h with h | h
        · refine (told_midN m H.keep S T hm (fun k hk => Nat.lt_of_lt_of_le (hS k hk) (Nat.le_trans hk'.size hk1.size)) _ w2 w3 s2 h k3 hw3).mono ?_
          rintro e w4 ⟨rfl, U, hI, hk, hU⟩
          exact ⟨rfl, r, hres, U, hI, hall _ hk, fun k hk => hnew k (hU k hk)⟩
        · refine (told_endN (K := K) (J := J) (R := R) m H.rest S T hm (Nat.lt_of_lt_of_le (hS m hm) (Nat.le_trans hk'.size hk1.size)) (fun k hk => Nat.lt_of_lt_of_le (hT k hk) (Nat.le_trans hk'.size hk1.size)) _ w2 w3 s2 h k3 hw3).mono ?_
          rintro e w4 ⟨rfl, U, hI, hk, hU⟩
          exact ⟨rfl, r, hres, U, hI, hall _ hk, fun k hk => hnew k (hU k hk)⟩
    · rintro e w' ⟨rfl, ⟨S', hJ', hk', hfr⟩ | ⟨-, r, hr', U', hU'⟩⟩
      · have hon := hI.on hJ'
        have hg : (N.mach K).give s v won = N.put s (K.give t v won) := by simp only [Nest.mach, h0, hon.1]
        obtain ⟨p1, p2, p3⟩ := H.putSub s (K.give t v won) hsn
        rw [hg]
        refine ⟨rfl, S ++ (T ++ S'), ⟨S, T, S', st, _, rfl, ?_, Mode.into p1 (by rw [p2, hr]) hsub hov hnx haf hI hJ', fun k hk => Nat.lt_of_lt_of_le (hS k hk) hk'.size, fun k hk => Nat.lt_of_lt_of_le (hT k hk) hk'.size, d1, fun k hk h => ?_, fun k hk h => ?_, H.putR _ _ _ _ _ _ _ _ (H.keep _ _ _ _ _ _ _ hR hk' (fun k hk h => d3 k h hk)) h0 hr hv hK0 hon.1⟩, hk'.mono (fun k hk _ => List.mem_append_right _ (List.mem_append_right _ hk)), fun k hk => ?_⟩
        · rw [p3]; exact hB.keeps hk' (fun k hk h => d2 k h hk)
        · rcases hfr k hk with h' | h'
          · exact d2 k h' h
          · have := hS k h; omega
        · rcases hfr k hk with h' | h'
          · exact d3 k h' h
          · have := hT k h; omega
        · rcases List.mem_append.1 hk with hk | hk
          · exact .inl (List.mem_append_left _ hk)
          · rcases List.mem_append.1 hk with hk | hk
            · exact .inl (List.mem_append_right _ (List.mem_append_left _ hk))
            · exact (hfr k hk).imp_left fun h => List.mem_append_right _ (List.mem_append_right _ h)
      · have hg : (N.mach K).give s v won = N.left s r := by simp only [Nest.mach, h0, hr']
        rw [hg]
        exact ⟨rfl, U', hU'⟩
  | ended h0 hx hr hEnd =>
    have hg : (N.mach K).give s v won = s := by
      have := H.stays s v won h0 hx
      simp only [Nest.mach, h0, this]
    rw [hg]
    exact (wGiveNone m st v won w hB.wk hEnd.sub hEnd.nxt).mono fun e w' ⟨he, hk⟩ => ⟨he, S ++ (T ++ []), ⟨S, T, [], st, _, rfl, hB.keeps hk (by simp), Mode.keeps N K J (Mode.ended h0 hx hr hEnd) hm hk (by simp) (by simp), fun k hk' => Nat.lt_of_lt_of_le (hS k hk') hk.size, fun k hk' => Nat.lt_of_lt_of_le (hT k hk') hk.size, d1, d2, d3, H.keep _ _ _ _ _ _ _ hR hk (by simp)⟩, hk.nil, fun k hk => .inl hk⟩
end
end Go.Proofs.YtoomefclbemnlaaGreat

/-
  Walks that go into others, as loom and Like see them; walks of their own blocks as those into which others went.
-/
namespace Go.Proofs.YtoomefclbemnlaaGreat
set_option maxRecDepth 100000
set_option linter.unusedSimpArgs false
set_option linter.unusedVariables false
open Go.ChangeShapes Go.WideShapes Go.ChangeAt Go.RowKit

section
variable {σ τ : Type} {N : Nest σ τ} {K : Mach τ} {J : Nat → Nat → World → List Nat → τ → Prop} {R : World → List Nat → Value → Value → σ → Prop}

theorem LoneN.wants {m : Nat} {w : World} {U : List Nat} {s : σ} (h : LoneN N K J R m w U s) :
    Calls Tryz.prog 21 #[.pointer (some ⟨m, 0, none⟩)] w fun e w' => e = .returned (.tuple #[(((N.mach K).want s).getD zacc).val, .bool ((N.mach K).want s).isSome]) ∧ Keeps [] w w' := by
  obtain ⟨S, T, S2, st, nx, rfl, hB, hM, -⟩ := h
  cases hM with
  | asks h0 hx hr hsub hov hxe hnx =>
    have := wWant m st w hB.wk hsub _ _ _ hnx
    simp only [Nest.mach, h0, hx]
    rw [hxe] at this
    exact this
  | into h0 hr hsub hov hnx haf hI hJ =>
    obtain ⟨-, x, hx⟩ := hI.on hJ
    obtain ⟨l, a, hc, -, sa, fn, fi, ca, hw, hs, hxe, hn⟩ := hI.chain hJ hx
    have := wWantIn m a (m :: l) sa w (.hop hB.wk hov hsub hc) hw hs fn fi ca hn
    simp only [Nest.mach, h0, hx]
    rw [hxe] at this
    exact this
  | ended h0 hx hr hE =>
    have := wWantNone m st w hB.wk hE.sub hE.nxt
    simp only [Nest.mach, h0, hx]
    exact this
theorem LoneN.results {m : Nat} {w : World} {U : List Nat} {s : σ} (h : LoneN N K J R m w U s) :
    Calls Tryz.prog 22 #[.pointer (some ⟨m, 0, none⟩)] w fun e w' => ∃ l,
      e = .returned (.tuple #[.agg #[.int .i64 (((N.mach K).res s).getD Rs.zero).code, .int .u64 (((N.mach K).res s).getD Rs.zero).v, l], .bool ((N.mach K).res s).isSome]) ∧ w'.ownsRow w.heap.size 49 1 l (((N.mach K).res s).getD Rs.zero).l.length (ints .u64 (((N.mach K).res s).getD Rs.zero).l) ∧ Keeps [] w w' := by
  obtain ⟨S, T, S2, st, nx, rfl, hB, hM, -⟩ := h
  have not : N.res s = none → st.over = false → _ := fun hr ho => (wResultNot m st w hB.wk ho).mono fun e w' (h : _ ∧ _) => (⟨_, h.1, World.ownsRow_nil _ _ _ _, h.2⟩ : ∃ l, e = .returned (.tuple #[.agg #[.int .i64 0, .int .u64 0, l], .bool false]) ∧ w'.ownsRow w.heap.size 49 1 l 0 [] ∧ Keeps [] w w')
  cases hM with
  | asks h0 hx hr hsub hov hxe hnx =>
    have := not hr hov
    simp only [Nest.mach, hr]
    exact this
  | into h0 hr hsub hov hnx haf hI hJ =>
    have := not hr hov
    simp only [Nest.mach, hr]
    exact this
  | ended h0 hx hr hE =>
    rename_i r
    have := wResult m st r.l.length r.l w hB.wk hE.over hE.l hE.few
    rw [hE.code, hE.v] at this
    simp only [Nest.mach, hr]
    exact this
theorem LoneN.helds {m : Nat} {w : World} {U : List Nat} {s : σ} (h : LoneN N K J R m w U s) (hf : ∀ t, N.sub s = some t → (N.held s).length + (K.held t).length ≤ 10000000) :
    Calls Tryz.prog 25 #[.pointer (some ⟨m, 0, none⟩)] w fun e w' => ∃ l, e = .returned l ∧ w'.ownsRow w.heap.size 49 1 l ((N.mach K).held s).length (ints .u64 ((N.mach K).held s)) ∧ Keeps [] w w' := by
  obtain ⟨S, T, S2, st, nx, rfl, hB, hM, -⟩ := h
  cases hM with
  | asks h0 hx hr hsub hov hxe hnx =>
    have := wHeld m st _ _ w hB.wk hsub hB.tasks hB.tasksFew
    simp only [Nest.mach, h0]
    exact this
  | into h0 hr hsub hov hnx haf hI hJ =>
    obtain ⟨n, B, hh⟩ := hI.held hJ
    have := wHeldIn m n st B (N.held s) _ w hB.wk hB.tasks (by rw [hsub]; exact hh) (hf _ h0)
    simp only [Nest.mach, h0]
    exact this
  | ended h0 hx hr hE =>
    have := wHeld m st _ _ w hB.wk hE.sub hB.tasks hB.tasksFew
    simp only [Nest.mach, h0]
    exact this

/-- A walk that does such steps goes as the machine. -/
theorem runs_nest (m : Nat) (H : Steps N K J R m) (hf : ∀ s t, N.sub s = some t → (N.held s).length + (K.held t).length ≤ 10000000 ∨ True) (hf' : ∀ w U s t, LoneN N K J R m w U s → N.sub s = some t → (N.held s).length + (K.held t).length ≤ 10000000) : Runs (N.mach K) (LoneN N K J R m) m where
  lt := fun ⟨S, T, S2, st, nx, hU, hB, hM, h1, h2, _⟩ k hk => by
    subst hU
    rcases List.mem_append.1 hk with h | h
    · exact h1 k h
    · rcases List.mem_append.1 h with h | h
      · exact h2 k h
      · cases hM with
        | asks => cases h
        | into h0 hr hsub hov hnx haf hI hJ => exact hI.lt hJ k h
        | ended => cases h
  frame := fun ⟨S, T, S2, st, nx, hU, hB, hM, h1, h2, d1, d2, d3, h5⟩ hk hA => by
    subst hU
    have a1 : ∀ k ∈ S, k ∉ _ := fun k hk => hA k (List.mem_append_left _ hk)
    exact ⟨S, T, S2, st, nx, rfl, hB.keeps hk a1, hM.keeps N K J hB.mem hk a1 (fun k hk => hA k (List.mem_append_right _ (List.mem_append_right _ hk))), fun k hk' => Nat.lt_of_lt_of_le (h1 k hk') hk.size, fun k hk' => Nat.lt_of_lt_of_le (h2 k hk') hk.size, d1, d2, d3, H.keep _ _ _ _ _ _ _ h5 hk (fun k hk => hA k (List.mem_append_right _ (List.mem_append_left _ hk)))⟩
  want := fun w S s h => h.wants
  result := fun w S s h => h.results
  held := fun w S s h => h.helds fun t ht => hf' w S s t h ht
  give := fun w U s v won h hv _ _ => runs_nest_give m H w U s v won h hv

set_option maxHeartbeats 800000 in
/-- A new walk, whose first function goes to a first state; it may write blocks of Z. -/
theorem new_goesN (s0 : σ) (F : FuncId) (ca : Array Value) (Z : List Nat) (w : World) (hZ : ∀ k ∈ Z, k < w.heap.size) (H : Steps N K J R (w.heap.size + 1))
    (hcf : ∀ args w, (callFunc F args).run Tryz.prog w = .ok (.enter F args) w)
    (hF : ∀ w1, Wk w1 (w.heap.size + 1) { WSt.zero with under := 1 } → Keeps [] w w1 → Calls Tryz.prog F (#[.pointer (some ⟨w.heap.size + 1, 0, none⟩)] ++ ca) w1 fun e w2 => e = .returned (.tuple #[]) ∧ ∃ st2, Wk w2 (w.heap.size + 1) st2 ∧ st2.under = 1 ∧ MidN N K J R (w.heap.size + 1) [w.heap.size + 1] Z s0 w1 w2 st2) :
    Calls Tryz.prog 61 #[.func (.func F) #[] ca] w fun e w' => e = .returned (.pointer (some ⟨w.heap.size + 1, 0, none⟩)) ∧ ∃ S, LoneN N K J R (w.heap.size + 1) w' S s0 ∧ Keeps Z w w' ∧ ∀ k ∈ S, k ∈ Z ∨ w.heap.size ≤ k := by
  refine (wNew F ca Z w (fun w2 s2 => ∃ w1, Keeps [] w w1 ∧ MidN N K J R (w.heap.size + 1) [w.heap.size + 1] Z s0 w1 w2 s2) hZ hcf ?_).mono ?_
  · intro w1 h1 k1
    refine (hF w1 h1 k1).mono ?_
    rintro e w2 ⟨rfl, st2, a, b, c⟩
    have hc := c
    obtain ⟨c1, S2, T2, S3, nx, -, -, -, -, -, -, -, -, c7, -⟩ := hc
    exact ⟨rfl, st2, a, b, c1, by simpa using c7, w1, k1, c⟩
  · rintro e w' ⟨rfl, w2, s2, ⟨w1, k1, c1, S', T', S2, nx, b1, b2, b3, b4, b5, b6, b7, b8, b9, b10, b11, b12⟩, k5, k4, hw⟩
    have hmT : w.heap.size + 1 ∉ T' := b5 _ b1.mem
    have hmS : w.heap.size + 1 ∉ S2 := fun h => b6 _ h b1.mem
    have z1 := k1.size
    refine ⟨rfl, S' ++ (T' ++ S2), ⟨S', T', S2, _, nx, rfl, b1.under_to k5 0 hw, b2.under_to N K J k5 hmS 0 hw, fun k hk => Nat.lt_of_lt_of_le (b3 k hk) k5.size, fun k hk => Nat.lt_of_lt_of_le (b4 k hk) k5.size, b5, b6, b7, H.keep _ _ _ _ _ _ _ b8 k5 (fun k hk hne => by simp at hne; exact hmT (hne ▸ hk))⟩,
      (((k4.mono (T := (w.heap.size + 1) :: Z) (fun k hk _ => List.mem_cons_of_mem _ hk)).trans (k5.mono (by simp))).mono (fun k hk hl => by
        rcases List.mem_cons.1 hk with rfl | h
        · omega
        · exact h)), fun k hk => ?_⟩
    rcases List.mem_append.1 hk with hk | hk
    · rcases b10 k hk with h | h
      · simp at h; omega
      · omega
    · rcases List.mem_append.1 hk with hk | hk
      · rcases b11 k hk with h | h
        · exact .inl h
        · omega
      · have := b12 k hk; omega
/-- The same from a step that goes on, or ends unwatched. -/
theorem GoesN.new {m : Nat} {s0 : σ} {Z : List Nat} {w1 w2 : World} (h : GoesN N K J R m { WSt.zero with under := 1 } [] Z s0 w1 w2) (h1 : Wk w1 m { WSt.zero with under := 1 }) (hZ : ∀ k ∈ Z, k < w1.heap.size) (hm : m ∉ Z) (hE : ∀ w T nx ov s, N.sub s = none → N.want s = none → R w T nx ov s)
    (hx : ∀ st2, EndN N m [m] Z s0 w1 w2 st2 → False) :
    ∃ st2, Wk w2 m st2 ∧ st2.under = 1 ∧ MidN N K J R m [m] Z s0 w1 w2 st2 := by
  have hL : LoneB w1 m [m] { WSt.zero with under := 1 } 1 [] :=
    ⟨h1, rfl, by simp, ⟨rfl, .inl ⟨_, _, rfl, rfl⟩⟩, (fun g hg => by cases hg), by simp, (fun g hg => by cases hg)⟩
  obtain ⟨st2, a, b, c⟩ := GoesN.mid h hL ⟨rfl, rfl, rfl, rfl⟩ [] (Keeps.refl _ _) (by simp) (by intro k hk; simp at hk; subst hk; exact h1.lt) hZ (by intro k hk; simp at hk; subst hk; exact hm) hE
  refine ⟨st2, a, b, ?_⟩
  rcases c with c | c
  · exact c
  · exact (hx st2 c).elim
end

/-- A walk of its own blocks, into which the one at block o went. -/
def InOwn {τ : Type} (K : Mach τ) (R : World → List Nat → Value → τ → Prop) (o b : Nat) (w : World) (U : List Nat) (t : τ) : Prop :=
  ∃ S T st g cap ty, U = g :: (S ++ T) ∧ K.res t = none ∧ (∃ x, K.want t = some x) ∧ LoneO w b S st 0 (K.face t) ∧ st.outer = .slice (some ⟨g, 0, none⟩) 1 cap ∧ Row w g ty [.pointer (some ⟨o, 0, none⟩)] ∧ (∀ k ∈ S, k < w.heap.size) ∧ (∀ k ∈ T, k < w.heap.size) ∧ (∀ k ∈ S, k ∉ T) ∧ g ∉ S ∧ g ∉ T ∧ R w T st.nxt t

set_option maxHeartbeats 1600000 in
theorem inner_own {τ : Type} (K : Mach τ) (R : World → List Nat → Value → τ → Prop) (o b : Nat)
    (hR : ∀ w w' T A nx s, R w T nx s → Keeps A w w' → (∀ k ∈ T, k ∉ A) → R w' T nx s)
    (hO : ∀ s, K.res s = none → ∃ x, K.want s = some x)
    (hH : ∀ s v won, K.held (K.give s v won) = K.held s)
    (hF : ∀ w T nx s x, R w T nx s → K.want s = some x → ∃ F fi ca, nx = .func (.func F) fi ca ∧ ∀ args w, (callFunc F args).run Tryz.prog w = .ok (.enter F args) w)
    (hS : ∀ w T F fi ca s st v won x, Wk w b st → st.over = false → st.sub = none → st.under = 1 → (∀ k ∈ T, k < w.heap.size ∧ k ≠ b) → R w T (.func (.func F) fi ca) s → M.U v → K.want s = some x →
      Calls Tryz.prog F (fi ++ (#[.int .u64 v, .bool won] ++ ca)) w fun e w' => e = .returned (.tuple #[]) ∧ Goes K R b st T (K.give s v won) w w') : Inner K (InOwn K R o b) o b where
  lt := fun ⟨S, T, st, g, cap, ty, hU, _, _, hL, _, hg, h1, h2, _⟩ k hk => by
    subst hU
    rcases List.mem_cons.1 hk with rfl | hk
    · exact hg.lt
    · rcases List.mem_append.1 hk with h | h
      · exact h1 k h
      · exact h2 k h
  mem := fun ⟨S, T, st, g, cap, ty, hU, _, _, hL, _⟩ => by subst hU; exact List.mem_cons_of_mem _ (List.mem_append_left _ hL.mem)
  frame := fun ⟨S, T, st, g, cap, ty, hU, hr, hx, hL, ho, hg, h1, h2, d, g1, g2, h3⟩ hk hA => by
    subst hU
    exact ⟨S, T, st, g, cap, ty, rfl, hr, hx, hL.keeps hk (fun k hk => hA k (List.mem_cons_of_mem _ (List.mem_append_left _ hk))), ho, hg.keeps hk (hA g (by simp)), fun k hk' => Nat.lt_of_lt_of_le (h1 k hk') hk.size, fun k hk' => Nat.lt_of_lt_of_le (h2 k hk') hk.size, d, g1, g2, hR _ _ _ _ _ _ h3 hk (fun k hk => hA k (List.mem_cons_of_mem _ (List.mem_append_right _ hk)))⟩
  on := fun ⟨S, T, st, g, cap, ty, _, hr, hx, _⟩ => ⟨hr, hx⟩
  chain := fun ⟨S, T, st, g, cap, ty, hU, hr, _, hL, _⟩ hx => by
    obtain ⟨e1, fn, fi, ca, e2⟩ := hL.some_ _ hx
    exact ⟨[], b, .here, by simp, st, fn, fi, ca, hL.wk, hL.sub, e1, e2⟩
  held := fun {w S' t} ⟨S, T, st, g, cap, ty, hU, hr, _, hL, _⟩ => by
    have ho : st.over = false := by rw [hL.over]; show (K.res _).isSome = false; rw [hr]; rfl
    have := Helds.hop hL.wk ho hL.tasks hL.tasksFew (by rw [hL.sub]; exact .none)
    exact ⟨_, _, by simpa [Mach.face] using this⟩
  give := fun w U t v won p l R' ⟨S, T, st, g, cap, ty, hU, hr, ⟨x, hx⟩, hL, ho, hg, h1, h2, d, g1, g2, h3⟩ hv hc HB => by
    subst hU
    obtain ⟨F, fi, ca, hn, hcf⟩ := hF _ _ _ _ _ h3 hx
    have hb : b ∈ S := hL.mem
    have hbT : b ∉ T := d b hb
    have hgb : g ≠ b := fun h => g1 (h ▸ hb)
    have hov : st.over = false := by rw [hL.over]; show (K.res t).isSome = false; rw [hr]; rfl
    refine (wGiveIn p b l st F fi ca v won w (fun w2 s2 => ∃ w1, Keeps [b] w w1 ∧ Goes K R b { st with nxt := .nilFunc, sub := none, after := .nilFunc, under := 1 } T (K.give t v won) w1 w2 ∧ Wk w2 b s2 ∧ s2.under = 1) (fun w' => (∃ S', InOwn K R o b w' S' (K.give t v won) ∧ Keeps (g :: (S ++ T)) w w' ∧ ∀ k ∈ S', k ∈ g :: (S ++ T) ∨ w.heap.size ≤ k) ∨ (∃ r, K.res (K.give t v won) = some r) ∧ R' w') hc hL.wk hL.sub hn hL.under hcf ?_ ?_)
    · intro w1 hw1 hk1
      refine (hS w1 T F fi ca t _ v won x hw1 hov rfl rfl (fun k hk => ⟨Nat.lt_of_lt_of_le (h2 k hk) hk1.size, fun h => hbT (h ▸ hk)⟩) (hn ▸ hR _ _ _ _ _ _ h3 hk1 (fun k hk h => by simp at h; exact hbT (h ▸ hk))) hv hx).mono ?_
      rintro e w2 ⟨rfl, hg⟩
      rcases hg.2 with h | h
      · obtain ⟨x, fn, fi, ca, T2, a1, a2, a3, a4⟩ := h
        exact ⟨rfl, _, a3, rfl, w1, hk1, hg, a3, rfl⟩
      · obtain ⟨c, v, us, l', a1, a2, a3, a4, a5⟩ := h
        exact ⟨rfl, _, a4, rfl, w1, hk1, hg, a4, rfl⟩
    · rintro w2 s2 w3 ⟨w1, hk1, ⟨hk2, hG⟩, hw2, -⟩ k3 hw3
      have z1 := hk1.size
      have z2 := hk2.size
      have z3 := k3.size
      have kk : Keeps (b :: T) w w3 := ((hk1.mono (by simp)).trans hk2).trans (k3.mono (by simp))
      have kU : Keeps (g :: (S ++ T)) w w3 := kk.mono (fun k hk _ => by
        rcases List.mem_cons.1 hk with rfl | hk
        · exact List.mem_cons_of_mem _ (List.mem_append_left _ hb)
        · exact List.mem_cons_of_mem _ (List.mem_append_right _ hk))
      have gk : g ∉ b :: T := by simp only [List.mem_cons, not_or]; exact ⟨hgb, g2⟩
      have hg3 := hg.keeps kk gk
      have tk : Sl w3 1 st.tasks (K.held t).length (ints .u64 (K.held t)) := hL.tasks.but kk (fun g' hg' => by
        obtain ⟨a, b'⟩ := hL.tasksOwn g' hg'
        simp only [List.mem_cons, not_or]
        exact ⟨b', d g' a⟩)
      rcases hG with h | h
      · obtain ⟨x2, fn, fi2, ca2, T2, a1, a2, a3, a4, a5, a6⟩ := h
        have hs2 : Wk w2 b s2 := hw2
        -- what it stands as
        have hw3' : Wk w3 b { st with x := x2, nxt := .func fn fi2 ca2, sub := none, after := .nilFunc, under := 0 } := by
          have h8 : Keeps [b] w2 w3 := k3
          have e : Row w3 b 105 ({ s2 with under := 0 } : WSt).cells := hw3
          have q1 := a3.at
          have q2 := hs2.at
          obtain ⟨p0, p1, p2, p3, p4, p5, p6, p7, p8, p9, p10, p11, p12, p13⟩ := q1
          obtain ⟨r0, r1, r2, r3, r4, r5, r6, r7, r8, r9, r10, r11, r12, r13⟩ := q2
          have e0 := p0.symm.trans r0
          have e1 := p1.symm.trans r1
          have e2 := p2.symm.trans r2
          have e3 := p3.symm.trans r3
          have e4 := p4.symm.trans r4
          have e5 := p5.symm.trans r5
          have e6 := p6.symm.trans r6
          have e7 := p7.symm.trans r7
          have e8 := p8.symm.trans r8
          have e10 := p10.symm.trans r10
          have e11 := p11.symm.trans r11
          have e12 := p12.symm.trans r12
          have e13 := p13.symm.trans r13
          simp only [Option.some.injEq, Value.int.injEq, Value.bool.injEq, Value.pointer.injEq, true_and] at e0 e1 e2 e3 e4 e5 e6 e7 e8 e10 e11 e12 e13
          show Row w3 b _ _
          simp only [WSt.cells]
          simp only [WSt.cells] at e
          rw [← e0, ← e1, ← e2, ← e3, ← e4, ← e5, ← e6, ← e7, ← e8, ← e10, ← e11, ← e12, ← e13] at e
          exact e
        refine (wTellNot b _ w3 hw3' (.inl hov)).mono ?_
        rintro e w4 ⟨rfl, rfl⟩
        refine ⟨rfl, .inl ⟨g :: (S ++ T2), ⟨S, T2, _, g, cap, ty, rfl, a2, ⟨x2, a1⟩, ⟨hw3', rfl, rfl, hb, ?_, hL.tasksOwn, ?_, ?_, fun r hr => ?_, hL.resOwn, fun h => ?_, fun y hy => ?_⟩, ho, hg3, fun k hk => ?_, fun k hk => ?_, fun k hk hkT => ?_, g1, fun h => ?_, ?_⟩, kU, fun k hk => ?_⟩⟩
        · show Sl w3 1 st.tasks (K.held (K.give t v won)).length (ints .u64 (K.held (K.give t v won)))
          rw [hH]; exact tk
        · show (K.held (K.give t v won)).length ≤ _
          rw [hH]; exact hL.tasksFew
        · show st.over = (K.res (K.give t v won)).isSome
          rw [hov, a2]; rfl
        · have : K.res (K.give t v won) = some r := hr
          rw [a2] at this; cases this
        · have : K.want (K.give t v won) = none := h
          rw [a1] at this; cases this
        · have : K.want (K.give t v won) = some y := hy
          rw [a1] at this; cases this; exact ⟨rfl, _, _, _, rfl⟩
        · exact Nat.lt_of_lt_of_le (h1 k hk) kU.size
        · exact Nat.lt_of_lt_of_le (a5 k hk) z3
        · rcases (a6 k hkT).2 with h | h
          · exact d k hk h
          · have := h1 k hk; omega
        · rcases (a6 g h).2 with h | h
          · exact g2 h
          · have := hg.lt; omega
        · exact hR _ _ _ _ _ _ a4 k3 (fun k hk h => by simp at h; exact (a6 k hk).1 h)
        · rcases List.mem_cons.1 hk with rfl | hk
          · exact .inl (by simp)
          · rcases List.mem_append.1 hk with hk | hk
            · exact .inl (List.mem_cons_of_mem _ (List.mem_append_left _ hk))
            · rcases (a6 k hk).2 with h | h
              · exact .inl (List.mem_cons_of_mem _ (List.mem_append_right _ h))
              · exact .inr (by omega)
      · obtain ⟨c, v', us, l', a1, a2, a3, a4, a5⟩ := h
        have hs2 : Wk w2 b s2 := hw2
        have hw3' : Wk w3 b { st with nxt := .nilFunc, sub := none, after := .nilFunc, over := true, code := c, v := v', l := l', under := 0 } := by
          have e : Row w3 b 105 ({ s2 with under := 0 } : WSt).cells := hw3
          have q1 := a4.at
          have q2 := hs2.at
          obtain ⟨p0, p1, p2, p3, p4, p5, p6, p7, p8, p9, p10, p11, p12, p13⟩ := q1
          obtain ⟨r0, r1, r2, r3, r4, r5, r6, r7, r8, r9, r10, r11, r12, r13⟩ := q2
          have e0 := p0.symm.trans r0
          have e1 := p1.symm.trans r1
          have e2 := p2.symm.trans r2
          have e3 := p3.symm.trans r3
          have e4 := p4.symm.trans r4
          have e5 := p5.symm.trans r5
          have e6 := p6.symm.trans r6
          have e7 := p7.symm.trans r7
          have e8 := p8.symm.trans r8
          have e10 := p10.symm.trans r10
          have e11 := p11.symm.trans r11
          have e12 := p12.symm.trans r12
          have e13 := p13.symm.trans r13
          simp only [Option.some.injEq, Value.int.injEq, Value.bool.injEq, Value.pointer.injEq, true_and] at e0 e1 e2 e3 e4 e5 e6 e7 e8 e10 e11 e12 e13
          show Row w3 b _ _
          simp only [WSt.cells]
          simp only [WSt.cells] at e
          rw [← e0, ← e1, ← e2, ← e3, ← e4, ← e5, ← e6, ← e7, ← e8, ← e10, ← e11, ← e12, ← e13] at e
          exact e
        have hol := fun g hg => a5.lt g hg
        have hblt : b < w.heap.size := h1 b hb
        refine (wTellT b o g cap ty _ w3 R' hw3' rfl rfl ho hg3 hgb ?_).mono ?_
        · intro w4 hw4 k4
          have kb : Keeps [b] w2 w4 := k3.trans k4
          have z4 := k4.size
          refine HB w4 (l'.ownBlock.toList ++ (g :: (S ++ T))) _ ⟨c, v', us⟩ a2 ⟨hw4, rfl, rfl, rfl, rfl, rfl, (Sl.of_owns a5).but kb (fun g' hg' => ?_), a3, ?_, fun g' hg' => ⟨?_, ?_⟩⟩ rfl rfl (kU.trans (k4.mono (by intro k hk _; simp at hk; subst hk; exact List.mem_cons_of_mem _ (List.mem_append_left _ hb)))) (fun k hk => ?_) (fun k hk => ?_)
          · have := (hol g' hg').1
            simp; omega
          · exact List.mem_append_right _ (List.mem_cons_of_mem _ (List.mem_append_left _ hb))
          · exact List.mem_append_left _ ((ownBlock_toList _ _).2 hg')
          · have := (hol g' hg').1; omega
          · rcases List.mem_append.1 hk with h | h
            · exact .inr (by have := (hol k ((ownBlock_toList _ _).1 h)).1; omega)
            · exact .inl h
          · rcases List.mem_append.1 hk with h | h
            · have := (hol k ((ownBlock_toList _ _).1 h)).2; omega
            · rcases List.mem_cons.1 h with rfl | h
              · have := hg.lt; omega
              · rcases List.mem_append.1 h with h | h
                · have := h1 k h; omega
                · have := h2 k h; omega
        · rintro e w4 ⟨rfl, hR'⟩
          exact ⟨rfl, .inr ⟨⟨_, a2⟩, hR'⟩⟩

set_option maxHeartbeats 800000 in
/-- One that is under way goes into a new walk. -/
theorem into_made {τ : Type} (K : Mach τ) (R : World → List Nat → Value → τ → Prop) (o b : Nat) (U : List Nat) (t : τ) (so : WSt) (fn : Fn) (fi ca : Array Value) (w : World) (hI : LoneI K R b w U t) (hr : K.res t = none) (hx : ∃ x, K.want t = some x)
    (hR : ∀ w w' T A nx s, R w T nx s → Keeps A w w' → (∀ k ∈ T, k ∉ A) → R w' T nx s)
    (ho : Wk w o so) (hoU : o ∉ U) (oOver : so.over = false) (oSub : so.sub = none) (oOuter : ∃ p n c, so.outer = .slice p n c) :
    Calls Tryz.prog 72 #[.pointer (some ⟨o, 0, none⟩), .pointer (some ⟨b, 0, none⟩), .func fn fi ca] w fun e w' => e = .returned (.tuple #[]) ∧
      Wk w' o { so with nxt := .nilFunc, sub := some ⟨b, 0, none⟩, after := .func fn fi ca } ∧ (∃ g, InOwn K R o b w' (g :: U) t ∧ w.heap.size ≤ g) ∧ Keeps (o :: U) w w' := by
  obtain ⟨S, T, st, rfl, hL, h1, h2, d, h3⟩ := hI
  have hb : b ∈ S := hL.mem
  have hbo : b ≠ o := fun h => hoU (h ▸ List.mem_append_left _ hb)
  have hov : st.over = false := by rw [hL.over]; show (K.res t).isSome = false; rw [hr]; rfl
  refine (wIntoIn b o st so fn fi ca w hL.wk ho hbo hov hL.outer oOver oSub hL.sub oOuter).mono ?_
  rintro e w' ⟨rfl, q, hwo, hwb, hq, hk⟩
  have hkS : Keeps (o :: (S ++ T)) w w' := hk.mono (fun k hk _ => by simp at hk; rcases hk with rfl | rfl; exact List.mem_cons_of_mem _ (List.mem_append_left _ hb); simp)
  obtain ⟨qp, qc, rfl⟩ := (Sl.of_owns hq).len
  have hT : ∀ k ∈ T, k ∉ [b, o] := fun k hkT h => by
    simp at h
    rcases h with rfl | rfl
    · exact d k hb hkT
    · exact hoU (List.mem_append_right _ hkT)
  rcases hq.2 with ⟨h, h'⟩ | ⟨g, cap, cur, h, hge, hg, -⟩
  · cases h'
  · cases h
    have hrow : Row w' g 32 [.pointer (some ⟨o, 0, none⟩)] := Row.of_owns hq
    refine ⟨rfl, hwo, ⟨g, ⟨S, T, _, g, _, _, rfl, hr, hx, ⟨hwb, hL.sub, hL.under, hb, ?_, hL.tasksOwn, hL.tasksFew, hL.over, fun r' hr' => ?_, hL.resOwn, hL.none_, hL.some_⟩, rfl, hrow, fun k hk' => Nat.lt_of_lt_of_le (h1 k hk') hk.size, fun k hk' => Nat.lt_of_lt_of_le (h2 k hk') hk.size, d, fun h => ?_, fun h => ?_, hR _ _ _ _ _ _ h3 hk hT⟩, hge⟩, hkS⟩
    · refine hL.tasks.but hk (fun g' hg' => ?_)
      obtain ⟨a, b'⟩ := hL.tasksOwn g' hg'
      simp
      exact ⟨b', fun h => hoU (h ▸ List.mem_append_left _ a)⟩
    · have : K.res t = some r' := hr'
      rw [hr] at this; cases this
    · have := h1 g h; omega
    · have := h2 g h; omega
end Go.Proofs.YtoomefclbemnlaaGreat
