/-
  Contracts: a ring's Push, Pop and Steal go as their machine.
-/
import Derived.Test.YtekpfhlaohcgeaaGreatRgF
import Derived.Test.YtekpfhlaohcgeaaGreatRgJ
namespace Go.Proofs.YtekpfhlaohcgeaaGreat
set_option maxRecDepth 100000
set_option linter.unusedSimpArgs false
set_option linter.unusedVariables false
open Go.ChangeShapes Go.WideShapes Go.ChangeAt Go.RowKit

def W32 (x : Int) : Prop := 0 ≤ x ∧ x < 4294967296
/-- Which states there are. -/
def rgOk (s : RgS) : Prop := dqRight s.at_ s.size ∧ M.U s.task ∧ M.U s.h ∧ W32 s.t ∧ W32 s.u ∧
  (s.kind = 1 ∧ ((s.step = 1 ∨ s.step = 2 ∨ s.step = 3 ∨ s.step = 4 ∨ s.step = 5) ∧ s.took = [] ∧ s.k = 0 ∨ s.step = 6 ∧ s.k = (s.took.length : Int) ∧ s.k < s.size / 2) ∨
   s.kind = 2 ∧ (s.step = 1 ∨ s.step = 2 ∨ s.step = 3 ∨ s.step = 4) ∧ s.took = [] ∨
   s.kind = 3 ∧ dqRight s.target s.size ∧ ((s.step = 1 ∨ s.step = 2 ∨ s.step = 3 ∨ s.step = 4) ∧ s.took = [] ∧ s.k = 0 ∨ 1 ≤ s.n ∧ s.n ≤ 256 ∧
      (s.step = 5 ∧ s.took = [] ∧ s.k = 0 ∨ s.step = 6 ∧ s.k = (s.took.length : Int) ∧ s.k < s.n ∨ s.step = 60 ∧ s.k + 1 = (s.took.length : Int) ∧ s.k + 1 < s.n ∧ 0 ≤ s.k ∨ (s.step = 7 ∨ s.step = 8 ∨ s.step = 9 ∧ 1 < s.n) ∧ s.n = (s.took.length : Int))))
def rgFn (s : RgS) : FuncId :=
  if s.kind = 1 then (if s.step = 1 then 89 else if s.step = 2 then 118 else if s.step = 3 then 80 else if s.step = 4 then 110 else if s.step = 5 then 112 else 84)
  else if s.kind = 2 then (if s.step = 1 then 89 else if s.step = 2 then 118 else if s.step = 3 then 112 else 96)
  else (if s.step = 1 then 57 else if s.step = 2 then 100 else if s.step = 3 then 89 else if s.step = 4 then 118 else if s.step = 5 then 112
    else if s.step = 6 then 98 else if s.step = 60 then 127 else if s.step = 7 then 128 else if s.step = 8 then 134 else 143)
theorem rgFn_ok (s : RgS) : ∀ args w, (callFunc (rgFn s) args).run Tryz.prog w = .ok (.enter (rgFn s) args) w := by
  unfold rgFn
  repeat' split
  all_goals exact fun _ _ => by kernel_rfl
def rgTy (k : Int) : TypeId := if k = 1 then 93 else if k = 2 then 101 else 105
def rgLk (k : Int) (p : Nat) : Value := .func (.func (if k = 1 then 39 else if k = 2 then 49 else 53)) #[.pointer (some ⟨p, 0, none⟩)] #[]
def rgTr (k : Int) (p : Nat) : Value := .func (.func (if k = 1 then 40 else if k = 2 then 50 else 54)) #[.pointer (some ⟨p, 0, none⟩)] #[]
def rgRest (s : RgS) (u n : Int) : List Value := if s.kind = 1 then [.int .u64 s.task] else if s.kind = 2 then [] else [.int .i64 s.target, .int .i64 s.size, .int .u32 u, .int .i64 n]
/-- Its tasks are let go of, when it has ended. -/
def rgSeen (w : World) (m p : Nat) (T : List Nat) (ov tk : Value) : Prop := ∃ g o b, RgWatch w m p g o b ov ∧ (g ∈ T ∧ o ∈ T ∧ b ∈ T) ∧ b ≠ o ∧ p ≠ g ∧ p ≠ o ∧ p ≠ b ∧ ∀ x, tk.ownBlock = some x → x ≠ g ∧ x ≠ o ∧ x ≠ b
theorem rgSeen.keeps {w w' : World} {m p : Nat} {T T' A : List Nat} {ov tk tk' : Value} (h : rgSeen w m p T ov tk) (hk : Keeps A w w') (hT : ∀ k ∈ T, k ∈ T') (hA : ∀ k ∈ T, k ≠ p → tk.ownBlock ≠ some k → k ∉ A) (hn : ∀ x, tk'.ownBlock = some x → tk.ownBlock = some x ∨ w.heap.size ≤ x) : rgSeen w' m p T' ov tk' := by
  obtain ⟨g, o, b, h1, ⟨h2, h3, h4⟩, h5, h6, h7, h8, h9⟩ := h
  refine ⟨g, o, b, h1.keeps hk (hA g h2 (Ne.symm h6) (fun h => (h9 _ h).1 rfl)) (hA o h3 (Ne.symm h7) (fun h => (h9 _ h).2.1 rfl)) (hA b h4 (Ne.symm h8) (fun h => (h9 _ h).2.2 rfl)), ⟨hT _ h2, hT _ h3, hT _ h4⟩, h5, h6, h7, h8, fun x hx => ?_⟩
  rcases hn x hx with h | h
  · exact h9 x h
  · have := h1.row.lt
    have := h1.wk.lt
    have := h1.box.lt
    exact ⟨by omega, by omega, by omega⟩
/-- What its record tells of its state. -/
structure RgKnows (w : World) (m p : Nat) (T : List Nat) (ov : Value) (s : RgS) (hd sl fi tl u n : Int) (tk : Value) : Prop where
  row : Row w p (rgTy s.kind) (rgCells m s.at_ s.size hd sl fi tl (rgLk s.kind p) (rgTr s.kind p) tk (rgRest s u n))
  took : w.ownsRow 0 24 1 tk s.took.length (ints .u64 s.took)
  own : ∀ g, tk.ownBlock = some g → g ∈ T ∧ g ≠ p
  head : ((s.kind = 1 ∨ s.kind = 2) ∧ s.step ≠ 1 ∨ s.kind = 3 ∧ (s.step = 4 ∨ s.step = 5)) → hd = s.h ∧ sl = rgHi s.h ∧ fi = rgLo s.h
  first : s.kind = 3 → s.step = 6 ∨ s.step = 60 ∨ s.step = 7 ∨ s.step = 8 ∨ s.step = 9 → fi = s.t
  tail : s.kind = 1 → s.step = 3 ∨ s.step = 4 → tl = s.t
  end_ : s.kind = 3 → s.step ≠ 1 → u = s.u
  count : s.kind = 3 → s.step = 5 ∨ s.step = 6 ∨ s.step = 60 ∨ s.step = 7 ∨ s.step = 8 ∨ s.step = 9 → n = s.n
  seen : s.kind ≠ 2 → rgSeen w m p T ov tk
  unseen : s.kind = 2 → ov = .slice none 0 0
/-- What a walk of a ring knows, while it has not ended. -/
def rgE (m : Nat) (w : World) (T : List Nat) (nx ov : Value) (s : RgS) : Prop :=
  s.over = none → rgOk s ∧ ∃ p hd sl fi tl u n tk, p ∈ T ∧ nx = .func (.func (rgFn s)) #[.pointer (some ⟨p, 0, none⟩)] #[] ∧ RgKnows w m p T ov s hd sl fi tl u n tk
theorem rgE_keeps (m : Nat) : ∀ w w' T A nx ov s, rgE m w T nx ov s → Keeps A w w' → (∀ k ∈ T, k ∉ A) → rgE m w' T nx ov s := by
  intro w w' T A nx ov s h hk hT hg
  obtain ⟨h0, p, hd, sl, fi, tl, u, n, tk, h1, h2, h3⟩ := h hg
  exact ⟨h0, p, hd, sl, fi, tl, u, n, tk, h1, h2, { h3 with row := h3.row.keeps hk (hT p h1), took := owns_keeps h3.took hk (fun g hg => hT g (h3.own g hg).1), seen := fun e => (h3.seen e).keeps hk (fun k h => h) (fun k h _ _ => hT k h) (fun x hx => .inl hx) }⟩
theorem rgEnded (m : Nat) : ∀ w T nx ov s, ringM.want s = none → rgE m w T nx ov s := by
  intro w T nx ov s h hov
  simp [ringM, hov] at h

/-- It asks again, and holds the same. -/
theorem rg_asks {m p : Nat} {st : WSt} {T : List Nat} {s s' : RgS} {w w2 : World} {x : C.Acc} {F : FuncId} {e : TypeId} {cs : List Value} (hp : p ∈ T) (hT : ∀ k ∈ T, k < w.heap.size ∧ k ≠ m) (hov : s'.over = none) (hx : rgWant s' = x) (hh : ringM.held s' = ringM.held s)
    (h : RgAsks m p e st w x F cs w2) (hE : rgE m w2 T (.func (.func F) #[.pointer (some ⟨p, 0, none⟩)] #[]) st.outer s') :
    GoesO ringM (rgE m) m st (ringM.held s) T s' w w2 := by
  obtain ⟨hw, -, hk⟩ := h
  exact ⟨hk.mono (by intro k hk _; simp at hk; rcases hk with rfl | rfl; simp; simp [hp]), st.tasks, st.outer, .inl ⟨x, _, _, _, T, by simp [ringM, hov, hx], hov, .inl ⟨rfl, hh⟩, hw, hE, fun k hk' => Nat.lt_of_lt_of_le (hT k hk').1 hk.size, fun k hk' => ⟨(hT k hk').2, .inl hk'⟩⟩⟩
/-- It has ended, and nobody let go of anything. -/
theorem rg_ends {m p : Nat} {st : WSt} {T : List Nat} {s s' : RgS} {w w2 : World} {c v : Int} (hp : p ∈ T) (hov : s'.over = some ⟨c, v, []⟩) (hh : ringM.held s = []) (hs : st.sub = none) (hout : st.outer = .slice none 0 0)
    (h : RgEnds m p st w c v [] w2) : GoesO ringM (rgE m) m st (ringM.held s) T s' w w2 := by
  obtain ⟨l', hw, ho, hk, -⟩ := h
  exact ⟨hk.mono (by intro k hk _; simp at hk; rcases hk with rfl | rfl; simp; simp [hp]), st.tasks, st.outer, .inr ⟨c, v, [], l', by simp [ringM, hov], hov, by simp, by rw [← hs]; exact hw, by simpa [ints] using ho, .inl ⟨hout, .inl ⟨rfl, by rw [hh]; simp [ringM, rgHeld, hov]⟩⟩⟩⟩
/-- It has ended, and its tasks are let go of. -/
theorem rg_ends_seen {m p : Nat} {st : WSt} {T A : List Nat} {s s' : RgS} {w w2 : World} {c v : Int} {us : List Int} {l' t tk : Value} {e : TypeId} {cs : List Value} (hp : p ∈ T) (hT : ∀ k ∈ T, k < w.heap.size ∧ k ≠ m) (hov : s'.over = some ⟨c, v, us⟩) (hus : us.length ≤ 10000000) (hs : st.sub = none) (hrow : Row w p e (.pointer (some ⟨m, 0, none⟩) :: cs)) (hseen : rgSeen w m p T st.outer tk) (htk : ∀ g, tk.ownBlock = some g → g ∈ T ∧ g ≠ p)
    (hw : Wk w2 m { st with tasks := t, nxt := .nilFunc, after := .nilFunc, over := true, code := c, v := v, l := l' }) (ho : w2.ownsRow w.heap.size 24 1 l' us.length (ints .u64 us)) (hk : Keeps ([m, p] ++ tk.ownBlock.toList) w w2) (hc0 : w2.cell? ⟨p, 0, none⟩ = some (.pointer (some ⟨m, 0, none⟩))) :
    GoesO ringM (rgE m) m st (ringM.held s) T s' w w2 := by
  obtain ⟨g, o, b, h1, ⟨h2, h3, h4⟩, h5, h6, h7, h8, h9⟩ := hseen
  have hpm := (hT p hp).2
  have hno : ∀ k, k ∈ T → k ≠ p → tk.ownBlock ≠ some k → k ∉ [m, p] ++ tk.ownBlock.toList := fun k hk hp hn => by
    simp only [List.mem_append, List.mem_cons, List.not_mem_nil, or_false, not_or]
    exact ⟨⟨(hT k hk).2, hp⟩, fun h => hn ((ownBlock_toList _ _).1 h)⟩
  have hW := (h1.keeps hk (hno g h2 (Ne.symm h6) (fun h => (h9 _ h).1 rfl)) (hno o h3 (Ne.symm h7) (fun h => (h9 _ h).2.1 rfl)) (hno b h4 (Ne.symm h8) (fun h => (h9 _ h).2.2 rfl))).watch hc0 (Nat.lt_of_lt_of_le (hT p hp).1 hk.size) (hT g h2).2 (hT o h3).2 (hT b h4).2 hpm h5 h7
  refine ⟨hk.mono fun k hk' _ => ?_, t, st.outer, .inr ⟨c, v, us, l', by simp [ringM, hov], hov, hus, by rw [← hs]; exact hw, ho, .inr ⟨by simp [ringM, rgHeld, hov], g, o, hW, .inl h3, fun x hx => by have := (ho.lt x hx).1; have := (hT o h3).1; omega⟩⟩⟩
  simp only [List.mem_append, List.mem_cons, List.not_mem_nil, or_false] at hk'
  rcases hk' with (rfl | rfl) | h
  · simp
  · simp [hp]
  · exact List.mem_cons_of_mem _ (htk k ((ownBlock_toList _ _).1 h)).1
theorem rg_ends_seen' {m p : Nat} {st : WSt} {T : List Nat} {s s' : RgS} {w w2 : World} {c v : Int} {tk : Value} {e : TypeId} {cs : List Value} (hp : p ∈ T) (hT : ∀ k ∈ T, k < w.heap.size ∧ k ≠ m) (hov : s'.over = some ⟨c, v, []⟩) (hs : st.sub = none) (hrow : Row w p e (.pointer (some ⟨m, 0, none⟩) :: cs)) (hseen : rgSeen w m p T st.outer tk) (htk : ∀ g, tk.ownBlock = some g → g ∈ T ∧ g ≠ p)
    (h : RgEnds m p st w c v [] w2) : GoesO ringM (rgE m) m st (ringM.held s) T s' w w2 := by
  obtain ⟨l', hw, ho, hk, hc0⟩ := h
  exact rg_ends_seen (A := []) (t := st.tasks) hp hT hov (by simp) hs hrow hseen htk hw ho (hk.mono fun k hk _ => List.mem_append_left _ hk) hc0
/-- It has taken, and asks again. -/
theorem rg_took {m p : Nat} {st : WSt} {T : List Nat} {s s' : RgS} {w w2 : World} {x : C.Acc} {F : FuncId} {e : TypeId} {tk : Value} {us : List Int} {cs : Value → List Value} (hp : p ∈ T) (hT : ∀ k ∈ T, k < w.heap.size ∧ k ≠ m) (hov : s'.over = none) (hx : rgWant s' = x) (hh : ringM.held s' = us) (hus : us.length ≤ 10000000) (htk : ∀ g, tk.ownBlock = some g → g ∈ T ∧ g ≠ p)
    (h : RgTook m p e 0 w tk s'.took us (fun t => { st with tasks := t, x := x, nxt := .func (.func F) #[.pointer (some ⟨p, 0, none⟩)] #[], sub := none, after := .nilFunc }) cs w2)
    (hE : ∀ tk', Keeps ([m, p] ++ tk.ownBlock.toList) w w2 → Row w2 p e (cs tk') → w2.ownsRow 0 24 1 tk' s'.took.length (ints .u64 s'.took) → (∀ g, tk'.ownBlock = some g → (tk.ownBlock = some g ∨ w.heap.size ≤ g) ∧ g ≠ p) → rgE m w2 (tk'.ownBlock.toList ++ T) (.func (.func F) #[.pointer (some ⟨p, 0, none⟩)] #[]) st.outer s') :
    GoesO ringM (rgE m) m st (ringM.held s) T s' w w2 := by
  obtain ⟨t, tk', hw, hrow, htk', hb, ht, hk⟩ := h
  refine ⟨hk.mono fun k hk' _ => ?_, t, st.outer, .inl ⟨x, _, _, _, tk'.ownBlock.toList ++ T, by simp [ringM, hov, hx], hov, .inr ⟨by rw [hh]; exact hus, by rw [hh]; exact ht⟩, hw, hE tk' hk hrow htk' (fun g hg => ⟨(hb g hg).1, (hb g hg).2.1⟩), fun k hk' => ?_, fun k hk' => ?_⟩⟩
  · simp only [List.mem_append, List.mem_cons, List.not_mem_nil, or_false] at hk'
    rcases hk' with (rfl | rfl) | h
    · simp
    · simp [hp]
    · exact List.mem_cons_of_mem _ (htk k ((ownBlock_toList _ _).1 h)).1
  · rcases List.mem_append.1 hk' with h | h
    · exact (htk'.lt k ((ownBlock_toList _ _).1 h)).2
    · exact Nat.lt_of_lt_of_le (hT k h).1 hk.size
  · rcases List.mem_append.1 hk' with h | h
    · obtain ⟨a, b, c, d⟩ := hb k ((ownBlock_toList _ _).1 h)
      refine ⟨c, ?_⟩
      rcases a with a | a
      · exact .inl (htk k a).1
      · exact .inr ⟨a, .inr d⟩
    · exact ⟨(hT k h).2, .inl h⟩
end Go.Proofs.YtekpfhlaohcgeaaGreat
