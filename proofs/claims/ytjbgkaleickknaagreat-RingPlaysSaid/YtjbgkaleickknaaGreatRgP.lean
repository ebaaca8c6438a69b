import Derived.Test.YtjbgkaleickknaaGreatRgF
/-
  Contracts: a ring's Push, Pop and Steal go as their machine.
-/
namespace Go.Proofs.YtjbgkaleickknaaGreat
set_option maxRecDepth 100000
set_option linter.unusedSimpArgs false
set_option linter.unusedVariables false
open Go.ChangeShapes Go.WideShapes Go.ChangeAt Go.RowKit

def W32 (x : Int) : Prop := 0 ≤ x ∧ x < 4294967296
/-- Which states there are. -/
def rgOk (s : RgS) : Prop := dqRight s.at_ s.size ∧ M.U s.task ∧ M.U s.h ∧ W32 s.t ∧ W32 s.u ∧
  (s.kind = 1 ∧ ((s.step = 1 ∨ s.step = 2 ∨ s.step = 3 ∨ s.step = 4 ∨ s.step = 5) ∧ s.took = [] ∧ s.k = 0 ∨ s.step = 6 ∧ s.k = (s.took.length : Int) ∧ s.k < s.size / 2) ∨
   s.kind = 2 ∧ (s.step = 1 ∨ s.step = 2 ∨ s.step = 3 ∨ s.step = 4) ∧ s.took = [] ∨
   s.kind = 3 ∧ dqRight s.target s.size ∧ ((s.step = 1 ∨ s.step = 2 ∨ s.step = 3 ∨ s.step = 4) ∧ s.took = [] ∧ s.k = 0 ∨ 1 ≤ s.n ∧ s.n ≤ 256 ∧
      (s.step = 5 ∧ s.took = [] ∧ s.k = 0 ∨ s.step = 6 ∧ s.k = (s.took.length : Int) ∧ s.k < s.n ∨ s.step = 60 ∧ s.k + 1 = (s.took.length : Int) ∧ s.k + 1 < s.n ∧ 0 ≤ s.k ∨ (s.step = 7 ∨ s.step = 8 ∨ s.step = 9 ∧ 1 < s.n) ∧ s.n = (s.took.length : Int))))
def rgFn (s : RgS) : FuncId :=
  if s.kind = 1 then (if s.step = 1 then 69 else if s.step = 2 then 90 else if s.step = 3 then 60 else if s.step = 4 then 82 else if s.step = 5 then 84 else 64)
  else if s.kind = 2 then (if s.step = 1 then 69 else if s.step = 2 then 90 else if s.step = 3 then 84 else 73)
  else (if s.step = 1 then 45 else if s.step = 2 then 72 else if s.step = 3 then 69 else if s.step = 4 then 90 else if s.step = 5 then 84
    else if s.step = 6 then 70 else if s.step = 60 then 91 else if s.step = 7 then 92 else if s.step = 8 then 105 else 109)
theorem rgFn_ok (s : RgS) : ∀ args w, (callFunc (rgFn s) args).run Tryz.prog w = .ok (.enter (rgFn s) args) w := by
  unfold rgFn
  repeat' split
  all_goals exact fun _ _ => by kernel_rfl
def rgTy (k : Int) : TypeId := if k = 1 then 86 else if k = 2 then 97 else 92
def rgLk (k : Int) (p : Nat) : Value := .func (.func (if k = 1 then 36 else if k = 2 then 47 else 42)) #[.pointer (some ⟨p, 0, none⟩)] #[]
def rgTr (k : Int) (p : Nat) : Value := .func (.func (if k = 1 then 37 else if k = 2 then 48 else 43)) #[.pointer (some ⟨p, 0, none⟩)] #[]
def rgRest (s : RgS) (u n : Int) : List Value := if s.kind = 1 then [.int .u64 s.task] else if s.kind = 2 then [] else [.int .i64 s.target, .int .i64 s.size, .int .u32 u, .int .i64 n]
/-- Its tasks are let go of, when it has ended. -/
def rgSeen (w : World) (m p : Nat) (T : List Nat) (ov tk : Value) : Prop := ∃ g o b, RgWatch w m p g o b ov ∧ (g ∈ T ∧ o ∈ T ∧ b ∈ T) ∧ b ≠ o ∧ p ≠ g ∧ p ≠ o ∧ p ≠ b ∧ ∀ x, tk.ownBlock = some x → x ≠ g ∧ x ≠ o ∧ x ≠ b
theorem rgSeen.keeps {w w' : World} {m p : Nat} {T T' A : List Nat} {ov tk tk' : Value} (h : rgSeen w m p T ov tk) (hk : Keeps A w w') (hT : ∀ k ∈ T, k ∈ T') (hA : ∀ k ∈ T, k ≠ p → tk.ownBlock ≠ some k → k ∉ A) (hn : ∀ x, tk'.ownBlock = some x → tk.ownBlock = some x ∨ w.heap.size ≤ x) : rgSeen w' m p T' ov tk' := by
  obtain ⟨g, o, b, h1, ⟨h2, h3, h4⟩, h5, h6, h7, h8, h9⟩ := h
  refine ⟨g, o, b, h1.keeps hk (hA g h2 (Ne.symm h6) (fun h => (h9 _ h).1 rfl)) (hA o h3 (Ne.symm h7) (fun h => (h9 _ h).2.1 rfl)) (hA b h4 (Ne.symm h8) (fun h => (h9 _ h).2.2 rfl)), ⟨hT _ h2, hT _ h3, hT _ h4⟩, h5, h6, h7, h8, fun x hx => ?_⟩
  rcases hn x hx with h | h
  · exact h9 x h
  · have := h1.row.lt
    have := h1.wk.lt
    have := h1.box.lt
    exact ⟨by omega, by omega, by omega⟩
/-- What its record tells of its state. -/
structure RgKnows (w : World) (m p : Nat) (T : List Nat) (ov : Value) (s : RgS) (hd sl fi tl u n : Int) (tk : Value) : Prop where
  row : Row w p (rgTy s.kind) (rgCells m s.at_ s.size hd sl fi tl (rgLk s.kind p) (rgTr s.kind p) tk (rgRest s u n))
  took : w.ownsRow 0 34 1 tk s.took.length (ints .u64 s.took)
  own : ∀ g, tk.ownBlock = some g → g ∈ T ∧ g ≠ p
  head : ((s.kind = 1 ∨ s.kind = 2) ∧ s.step ≠ 1 ∨ s.kind = 3 ∧ (s.step = 4 ∨ s.step = 5)) → hd = s.h ∧ sl = rgHi s.h ∧ fi = rgLo s.h
  first : s.kind = 3 → s.step = 6 ∨ s.step = 60 ∨ s.step = 7 ∨ s.step = 8 ∨ s.step = 9 → fi = s.t
  tail : s.kind = 1 → s.step = 3 ∨ s.step = 4 → tl = s.t
  end_ : s.kind = 3 → s.step ≠ 1 → u = s.u
  count : s.kind = 3 → s.step = 5 ∨ s.step = 6 ∨ s.step = 60 ∨ s.step = 7 ∨ s.step = 8 ∨ s.step = 9 → n = s.n
  seen : s.kind ≠ 2 → rgSeen w m p T ov tk
  unseen : s.kind = 2 → ov = .slice none 0 0
/-- What a walk of a ring knows, while it has not ended. -/
def rgE (m : Nat) (w : World) (T : List Nat) (nx ov : Value) (s : RgS) : Prop :=
  s.over = none → rgOk s ∧ ∃ p hd sl fi tl u n tk, p ∈ T ∧ nx = .func (.func (rgFn s)) #[.pointer (some ⟨p, 0, none⟩)] #[] ∧ RgKnows w m p T ov s hd sl fi tl u n tk
theorem rgE_keeps (m : Nat) : ∀ w w' T A nx ov s, rgE m w T nx ov s → Keeps A w w' → (∀ k ∈ T, k ∉ A) → rgE m w' T nx ov s := by
  intro w w' T A nx ov s h hk hT hg
  obtain ⟨h0, p, hd, sl, fi, tl, u, n, tk, h1, h2, h3⟩ := h hg
  exact ⟨h0, p, hd, sl, fi, tl, u, n, tk, h1, h2, { h3 with row := h3.row.keeps hk (hT p h1), took := owns_keeps h3.took hk (fun g hg => hT g (h3.own g hg).1), seen := fun e => (h3.seen e).keeps hk (fun k h => h) (fun k h _ _ => hT k h) (fun x hx => .inl hx) }⟩
theorem rgEnded (m : Nat) : ∀ w T nx ov s, ringM.want s = none → rgE m w T nx ov s := by
  intro w T nx ov s h hov
  simp [ringM, hov] at h

/-- It asks again, and holds the same. -/
theorem rg_asks {m p : Nat} {st : WSt} {T : List Nat} {s s' : RgS} {w w2 : World} {x : C.Acc} {F : FuncId} {e : TypeId} {cs : List Value} (hp : p ∈ T) (hT : ∀ k ∈ T, k < w.heap.size ∧ k ≠ m) (hov : s'.over = none) (hx : rgWant s' = x) (hh : ringM.held s' = ringM.held s)
    (h : RgAsks m p e st w x F cs w2) (hE : rgE m w2 T (.func (.func F) #[.pointer (some ⟨p, 0, none⟩)] #[]) st.outer s') :
    GoesO ringM (rgE m) m st (ringM.held s) T s' w w2 := by
  obtain ⟨hw, -, hk⟩ := h
  exact ⟨hk.mono (by intro k hk _; simp at hk; rcases hk with rfl | rfl; simp; simp [hp]), st.tasks, st.outer, .inl ⟨x, _, _, _, T, by simp [ringM, hov, hx], hov, .inl ⟨rfl, hh⟩, hw, hE, fun k hk' => Nat.lt_of_lt_of_le (hT k hk').1 hk.size, fun k hk' => ⟨(hT k hk').2, .inl hk'⟩⟩⟩
/-- It has ended, and nobody let go of anything. -/
theorem rg_ends {m p : Nat} {st : WSt} {T : List Nat} {s s' : RgS} {w w2 : World} {c v : Int} (hp : p ∈ T) (hov : s'.over = some ⟨c, v, []⟩) (hh : ringM.held s = []) (hs : st.sub = none) (hout : st.outer = .slice none 0 0)
    (h : RgEnds m p st w c v [] w2) : GoesO ringM (rgE m) m st (ringM.held s) T s' w w2 := by
  obtain ⟨l', hw, ho, hk, -⟩ := h
  exact ⟨hk.mono (by intro k hk _; simp at hk; rcases hk with rfl | rfl; simp; simp [hp]), st.tasks, st.outer, .inr ⟨c, v, [], l', by simp [ringM, hov], hov, by simp, by rw [← hs]; exact hw, by simpa [ints] using ho, .inl ⟨hout, .inl ⟨rfl, by rw [hh]; simp [ringM, rgHeld, hov]⟩⟩⟩⟩
/-- It has ended, and its tasks are let go of. -/
theorem rg_ends_seen {m p : Nat} {st : WSt} {T A : List Nat} {s s' : RgS} {w w2 : World} {c v : Int} {us : List Int} {l' t tk : Value} {e : TypeId} {cs : List Value} (hp : p ∈ T) (hT : ∀ k ∈ T, k < w.heap.size ∧ k ≠ m) (hov : s'.over = some ⟨c, v, us⟩) (hus : us.length ≤ 10000000) (hs : st.sub = none) (hrow : Row w p e (.pointer (some ⟨m, 0, none⟩) :: cs)) (hseen : rgSeen w m p T st.outer tk) (htk : ∀ g, tk.ownBlock = some g → g ∈ T ∧ g ≠ p)
    (hw : Wk w2 m { st with tasks := t, nxt := .nilFunc, after := .nilFunc, over := true, code := c, v := v, l := l' }) (ho : w2.ownsRow w.heap.size 34 1 l' us.length (ints .u64 us)) (hk : Keeps ([m, p] ++ tk.ownBlock.toList) w w2) (hc0 : w2.cell? ⟨p, 0, none⟩ = some (.pointer (some ⟨m, 0, none⟩))) :
    GoesO ringM (rgE m) m st (ringM.held s) T s' w w2 := by
  obtain ⟨g, o, b, h1, ⟨h2, h3, h4⟩, h5, h6, h7, h8, h9⟩ := hseen
  have hpm := (hT p hp).2
  have hno : ∀ k, k ∈ T → k ≠ p → tk.ownBlock ≠ some k → k ∉ [m, p] ++ tk.ownBlock.toList := fun k hk hp hn => by
    simp only [List.mem_append, List.mem_cons, List.not_mem_nil, or_false, not_or]
    exact ⟨⟨(hT k hk).2, hp⟩, fun h => hn ((ownBlock_toList _ _).1 h)⟩
  have hW := (h1.keeps hk (hno g h2 (Ne.symm h6) (fun h => (h9 _ h).1 rfl)) (hno o h3 (Ne.symm h7) (fun h => (h9 _ h).2.1 rfl)) (hno b h4 (Ne.symm h8) (fun h => (h9 _ h).2.2 rfl))).watch hc0 (Nat.lt_of_lt_of_le (hT p hp).1 hk.size) (hT g h2).2 (hT o h3).2 (hT b h4).2 hpm h5 h7
  refine ⟨hk.mono fun k hk' _ => ?_, t, st.outer, .inr ⟨c, v, us, l', by simp [ringM, hov], hov, hus, by rw [← hs]; exact hw, ho, .inr ⟨by simp [ringM, rgHeld, hov], g, o, hW, .inl h3, fun x hx => by have := (ho.lt x hx).1; have := (hT o h3).1; omega⟩⟩⟩
  simp only [List.mem_append, List.mem_cons, List.not_mem_nil, or_false] at hk'
  rcases hk' with (rfl | rfl) | h
  · simp
  · simp [hp]
  · exact List.mem_cons_of_mem _ (htk k ((ownBlock_toList _ _).1 h)).1
theorem rg_ends_seen' {m p : Nat} {st : WSt} {T : List Nat} {s s' : RgS} {w w2 : World} {c v : Int} {tk : Value} {e : TypeId} {cs : List Value} (hp : p ∈ T) (hT : ∀ k ∈ T, k < w.heap.size ∧ k ≠ m) (hov : s'.over = some ⟨c, v, []⟩) (hs : st.sub = none) (hrow : Row w p e (.pointer (some ⟨m, 0, none⟩) :: cs)) (hseen : rgSeen w m p T st.outer tk) (htk : ∀ g, tk.ownBlock = some g → g ∈ T ∧ g ≠ p)
    (h : RgEnds m p st w c v [] w2) : GoesO ringM (rgE m) m st (ringM.held s) T s' w w2 := by
  obtain ⟨l', hw, ho, hk, hc0⟩ := h
  exact rg_ends_seen (A := []) (t := st.tasks) hp hT hov (by simp) hs hrow hseen htk hw ho (hk.mono fun k hk _ => List.mem_append_left _ hk) hc0
/-- It has taken, and asks again. -/
theorem rg_took {m p : Nat} {st : WSt} {T : List Nat} {s s' : RgS} {w w2 : World} {x : C.Acc} {F : FuncId} {e : TypeId} {tk : Value} {us : List Int} {cs : Value → List Value} (hp : p ∈ T) (hT : ∀ k ∈ T, k < w.heap.size ∧ k ≠ m) (hov : s'.over = none) (hx : rgWant s' = x) (hh : ringM.held s' = us) (hus : us.length ≤ 10000000) (htk : ∀ g, tk.ownBlock = some g → g ∈ T ∧ g ≠ p)
    (h : RgTook m p e 0 w tk s'.took us (fun t => { st with tasks := t, x := x, nxt := .func (.func F) #[.pointer (some ⟨p, 0, none⟩)] #[], sub := none, after := .nilFunc }) cs w2)
    (hE : ∀ tk', Keeps ([m, p] ++ tk.ownBlock.toList) w w2 → Row w2 p e (cs tk') → w2.ownsRow 0 34 1 tk' s'.took.length (ints .u64 s'.took) → (∀ g, tk'.ownBlock = some g → (tk.ownBlock = some g ∨ w.heap.size ≤ g) ∧ g ≠ p) → rgE m w2 (tk'.ownBlock.toList ++ T) (.func (.func F) #[.pointer (some ⟨p, 0, none⟩)] #[]) st.outer s') :
    GoesO ringM (rgE m) m st (ringM.held s) T s' w w2 := by
  obtain ⟨t, tk', hw, hrow, htk', hb, ht, hk⟩ := h
  refine ⟨hk.mono fun k hk' _ => ?_, t, st.outer, .inl ⟨x, _, _, _, tk'.ownBlock.toList ++ T, by simp [ringM, hov, hx], hov, .inr ⟨by rw [hh]; exact hus, by rw [hh]; exact ht⟩, hw, hE tk' hk hrow htk' (fun g hg => ⟨(hb g hg).1, (hb g hg).2.1⟩), fun k hk' => ?_, fun k hk' => ?_⟩⟩
  · simp only [List.mem_append, List.mem_cons, List.not_mem_nil, or_false] at hk'
    rcases hk' with (rfl | rfl) | h
    · simp
    · simp [hp]
    · exact List.mem_cons_of_mem _ (htk k ((ownBlock_toList _ _).1 h)).1
  · rcases List.mem_append.1 hk' with h | h
    · exact (htk'.lt k ((ownBlock_toList _ _).1 h)).2
    · exact Nat.lt_of_lt_of_le (hT k h).1 hk.size
  · rcases List.mem_append.1 hk' with h | h
    · obtain ⟨a, b, c, d⟩ := hb k ((ownBlock_toList _ _).1 h)
      refine ⟨c, ?_⟩
      rcases a with a | a
      · exact .inl (htk k a).1
      · exact .inr ⟨a, .inr d⟩
    · exact ⟨(hT k h).2, .inl h⟩
end Go.Proofs.YtjbgkaleickknaaGreat

/-
  Contracts: each step of a ring's Push and Pop goes as the machine's.
-/
namespace Go.Proofs.YtjbgkaleickknaaGreat
set_option maxRecDepth 100000
set_option linter.unusedSimpArgs false
set_option linter.unusedVariables false
open Go.ChangeShapes Go.WideShapes Go.ChangeAt Go.RowKit

theorem rgE_mk {m p : Nat} {w : World} {T : List Nat} {F : FuncId} {ov : Value} {s : RgS} {hd sl fi tl u n : Int} {tk : Value} (hok : rgOk s) (hp : p ∈ T) (hF : F = rgFn s) (kn : RgKnows w m p T ov s hd sl fi tl u n tk) : rgE m w T (.func (.func F) #[.pointer (some ⟨p, 0, none⟩)] #[]) ov s :=
  fun _ => ⟨hok, p, hd, sl, fi, tl, u, n, tk, hp, by rw [hF], kn⟩
theorem RgKnows.step {m p : Nat} {w w2 : World} {T : List Nat} {ov : Value} {s s' : RgS} {hd sl fi tl u n hd' sl' fi' tl' u' n' : Int} {tk : Value} (kn : RgKnows w m p T ov s hd sl fi tl u n tk) (hT : ∀ k ∈ T, k < w.heap.size ∧ k ≠ m) (hk : Keeps [m, p] w w2)
    (row : Row w2 p (rgTy s'.kind) (rgCells m s'.at_ s'.size hd' sl' fi' tl' (rgLk s'.kind p) (rgTr s'.kind p) tk (rgRest s' u' n'))) (he : s'.took = s.took) (hkind : s'.kind = s.kind)
    (head : ((s'.kind = 1 ∨ s'.kind = 2) ∧ s'.step ≠ 1 ∨ s'.kind = 3 ∧ (s'.step = 4 ∨ s'.step = 5)) → hd' = s'.h ∧ sl' = rgHi s'.h ∧ fi' = rgLo s'.h)
    (first : s'.kind = 3 → s'.step = 6 ∨ s'.step = 60 ∨ s'.step = 7 ∨ s'.step = 8 ∨ s'.step = 9 → fi' = s'.t) (tail : s'.kind = 1 → s'.step = 3 ∨ s'.step = 4 → tl' = s'.t) (end_ : s'.kind = 3 → s'.step ≠ 1 → u' = s'.u)
    (count : s'.kind = 3 → s'.step = 5 ∨ s'.step = 6 ∨ s'.step = 60 ∨ s'.step = 7 ∨ s'.step = 8 ∨ s'.step = 9 → n' = s'.n) : RgKnows w2 m p T ov s' hd' sl' fi' tl' u' n' tk where
  row := row
  took := by
    rw [he]
    exact owns_keeps kn.took hk (fun g hg => by have := kn.own g hg; have := hT g this.1; simp; exact ⟨this.2, by omega⟩)
  own := kn.own
  head := head
  first := first
  tail := tail
  end_ := end_
  count := count
  seen := fun e => (kn.seen (hkind ▸ e)).keeps hk (fun _ h => h) (fun k hk hp _ => by simp; exact ⟨(hT k hk).2, hp⟩) (fun x hx => .inl hx)
  unseen := fun e => kn.unseen (hkind ▸ e)

set_option maxHeartbeats 3200000 in
/-- A push's step. -/
theorem rgPush_goes (m p : Nat) (w : World) (T : List Nat) (s : RgS) (st : WSt) (v hd sl fi tl u n : Int) (tk : Value) (won : Bool) (hw : Wk w m st) (ho : st.over = false) (hs : st.sub = none) (hu : st.under = 1) (hT : ∀ k ∈ T, k < w.heap.size ∧ k ≠ m) (hv : M.U v)
    (hov : s.over = none) (hk : s.kind = 1) (hok : rgOk s) (hpT : p ∈ T) (kn : RgKnows w m p T st.outer s hd sl fi tl u n tk) :
    Calls Tryz.prog (rgFn s) #[.pointer (some ⟨p, 0, none⟩), .int .u64 v, .bool won] w fun e w' => e = .returned (.tuple #[]) ∧ GoesO ringM (rgE m) m st (ringM.held s) T (rgGive s v won) w w' := by
  obtain ⟨at_, size, kind, task, target, step, h, t, su, sn, k, took, over⟩ := s
  simp only at hov hk
  subst hov hk
  have hok0 := hok
  obtain ⟨hr, ut, uh, wt, wu, hst⟩ := hok
  simp only at hr ut uh wt wu hst
  have hst : (step = 1 ∨ step = 2 ∨ step = 3 ∨ step = 4 ∨ step = 5) ∧ took = [] ∧ k = 0 ∨ step = 6 ∧ k = (took.length : Int) ∧ k < size / 2 := by
    rcases hst with ⟨-, h⟩ | ⟨h, -⟩ | ⟨h, -⟩
    · exact h
    · simp at h
    · simp at h
  have hpm := (hT p hpT).2
  have hsz : 2 ≤ size ∧ size ≤ 256 := by have := hr.1; omega
  have a0 := hr.2.1
  have a1 : at_ < 65536 := by have := hr.2.2; omega
  have hrow : Row w p (rgTy 1) (rgCells m at_ size hd sl fi tl (.func (.func 36) #[.pointer (some ⟨p, 0, none⟩)] #[]) (.func (.func 37) #[.pointer (some ⟨p, 0, none⟩)] #[]) tk [.int .u64 task]) := by simpa [rgLk, rgTr, rgRest] using kn.row
  have htkm : ∀ g, tk.ownBlock = some g → g ≠ p ∧ g ≠ m := fun g hg => ⟨(kn.own g hg).2, (hT g (kn.own g hg).1).2⟩
  have hseen := kn.seen (by simp)
  have hover : 0 < st.under := by omega
  have hhi := rgHi_range uh
  have hlo := rgLo_range h
  rcases hst with ⟨h1 | h1 | h1 | h1 | h1, rfl, rfl⟩ | ⟨h1, h2, h3⟩
  · subst h1
    refine (rgReadHead_any m p at_ size hd sl fi tl v won _ _ tk _ _ st w hw hrow hpm ho hs a0 a1 hv).mono ?_
    rintro e w2 ⟨rfl, h2⟩
    have hg : rgGive ⟨at_, size, 1, task, target, 1, h, t, su, sn, 0, [], none⟩ v won = ⟨at_, size, 1, task, target, 2, v, t, su, sn, 0, [], none⟩ := by simp [rgGive, rgPushGive]
    rw [hg]
    exact ⟨rfl, rg_asks hpT hT rfl (by simp [rgWant]) rfl h2 (rgE_mk ⟨hr, ut, hv, wt, wu, .inl ⟨rfl, .inl ⟨by simp, rfl, rfl⟩⟩⟩ hpT (by simp [rgFn]) (kn.step hT h2.2.2 (u' := 0) (n' := 0) (by simpa [rgLk, rgTr, rgRest] using h2.2.1) rfl rfl (fun _ => ⟨rfl, rfl, rfl⟩) (by simp) (by simp) (by simp) (by simp)))⟩
  · subst h1
    obtain ⟨rfl, rfl, rfl⟩ := kn.head (by simp)
    refine rgReadTail_any m p at_ size hd _ _ tl v won 36 _ tk _ _ w _ hrow hv (fun _ _ => by kernel_rfl) (fun W1 k1 hr1 => ?_)
    have hw1 := hw.keeps k1 (by simpa using Ne.symm hpm)
    by_cases hA : M.aheadI (rgLo v) (rgHi hd) < size
    · refine (rgPushRoom m p at_ size hd _ _ _ task _ _ tk _ st W1 hw1 hr1 hpm ho hs hr (rgLo_range v) hhi hlo hA).mono ?_
      rintro e w2 ⟨rfl, h2⟩
      replace h2 := h2.from (k1.mono (by simp))
      have hg : rgGive ⟨at_, size, 1, task, target, 2, hd, t, su, sn, 0, [], none⟩ v won = ⟨at_, size, 1, task, target, 3, hd, rgLo v, su, sn, 0, [], none⟩ := by simp [rgGive, rgPushGive, hA]
      rw [hg]
      exact ⟨rfl, rg_asks hpT hT rfl (by simp [rgWant]) rfl h2 (rgE_mk ⟨hr, ut, uh, rgLo_range v, wu, .inl ⟨rfl, .inl ⟨by simp, rfl, rfl⟩⟩⟩ hpT (by simp [rgFn]) (kn.step hT h2.2.2 (u' := 0) (n' := 0) (by simpa [rgLk, rgTr, rgRest] using h2.2.1) rfl rfl (fun _ => ⟨rfl, rfl, rfl⟩) (by simp) (fun _ _ => rfl) (by simp) (by simp)))⟩
    · by_cases hB : rgHi hd = rgLo hd
      · have hr1' := hr1
        rw [hB] at hr1' hA
        refine (rgPushTurn m p at_ size hd _ _ task _ _ tk _ st W1 hw1 hr1' hpm ho hs hr (rgLo_range v) hlo hlo hA).mono ?_
        rintro e w2 ⟨rfl, h2⟩
        replace h2 := h2.from (k1.mono (by simp))
        have hg : rgGive ⟨at_, size, 1, task, target, 2, hd, t, su, sn, 0, [], none⟩ v won = ⟨at_, size, 1, task, target, 5, hd, rgLo v, su, sn, 0, [], none⟩ := by simp [rgGive, rgPushGive, hB, hA]
        rw [hg]
        exact ⟨rfl, rg_asks hpT hT rfl (by simp [rgWant]) rfl h2 (rgE_mk ⟨hr, ut, uh, rgLo_range v, wu, .inl ⟨rfl, .inl ⟨by simp, rfl, rfl⟩⟩⟩ hpT (by simp [rgFn]) (kn.step hT h2.2.2 (u' := 0) (n' := 0) (by simpa [rgLk, rgTr, rgRest] using h2.2.1) rfl rfl (fun _ => ⟨rfl, hB.symm, rfl⟩) (by simp) (by simp) (by simp) (by simp)))⟩
      · refine (rgPushBusy m p at_ size hd _ _ _ task _ _ tk _ st W1 hw1 hr1 hpm ho hs (rgLo_range v) hhi hlo hA hB hover).mono ?_
        rintro e w2 ⟨rfl, h2⟩
        replace h2 := h2.from (k1.mono (by simp))
        exact ⟨rfl, rg_ends_seen' hpT hT (by simp [rgGive, rgPushGive, hA, hB]) hs hrow hseen kn.own h2⟩
  · subst h1
    obtain rfl := kn.tail rfl (.inl rfl)
    refine (rgPushLaid m p at_ size hd sl fi tl task _ _ tk v won _ st w hw hrow hpm ho hs hr wt).mono ?_
    rintro e w2 ⟨rfl, h2⟩
    have hg : rgGive ⟨at_, size, 1, task, target, 3, h, tl, su, sn, 0, [], none⟩ v won = ⟨at_, size, 1, task, target, 4, h, tl, su, sn, 0, [], none⟩ := by simp [rgGive, rgPushGive]
    rw [hg]
    exact ⟨rfl, rg_asks hpT hT rfl (by simp [rgWant]) rfl h2 (rgE_mk ⟨hr, ut, uh, wt, wu, .inl ⟨rfl, .inl ⟨by simp, rfl, rfl⟩⟩⟩ hpT (by simp [rgFn]) (kn.step hT h2.2.2 (u' := 0) (n' := 0) (by simpa [rgLk, rgTr, rgRest] using h2.2.1) rfl rfl (fun _ => kn.head (by simp)) (by simp) (fun _ _ => rfl) (by simp) (by simp)))⟩
  · subst h1
    refine (rgPushFinish m p at_ size hd sl fi tl task _ _ tk v won _ st w hw hrow hpm ho hs hover).mono ?_
    rintro e w2 ⟨rfl, h2⟩
    exact ⟨rfl, rg_ends_seen' hpT hT (by simp [rgGive, rgPushGive]) hs hrow hseen kn.own h2⟩
  · subst h1
    obtain ⟨rfl, rfl, rfl⟩ := kn.head (by simp)
    cases won with
    | true =>
      obtain ⟨q, c, rfl⟩ := (Sl.of_owns kn.took).len
      refine rgTriedWon_any m p at_ size hd _ _ tl v 37 _ _ _ _ w _ hrow (fun _ _ => by kernel_rfl) ?_
      refine (rgPushNext m p at_ size hd _ _ tl task _ _ q 0 c _ st w hw hrow hpm ho hs hr hlo (by decide)).mono ?_
      rintro e w2 ⟨rfl, h2⟩
      have hg : rgGive ⟨at_, size, 1, task, target, 5, hd, t, su, sn, 0, [], none⟩ v true = ⟨at_, size, 1, task, target, 6, hd, t, su, sn, 0, [], none⟩ := by simp [rgGive, rgPushGive]
      rw [hg]
      exact ⟨rfl, rg_asks hpT hT rfl (by simp [rgWant]) rfl h2 (rgE_mk ⟨hr, ut, uh, wt, wu, .inl ⟨rfl, .inr ⟨rfl, rfl, by show (0 : Int) < size / 2; omega⟩⟩⟩ hpT (by simp [rgFn]) (kn.step hT h2.2.2 (u' := 0) (n' := 0) (by simpa [rgLk, rgTr, rgRest] using h2.2.1) rfl rfl (fun _ => ⟨rfl, rfl, rfl⟩) (by simp) (by simp) (by simp) (by simp)))⟩
    | false =>
      refine (rgTriedLost_any m p at_ size hd _ _ tl v _ _ tk _ _ st w hw hrow hpm ho hs a0 a1 hv).mono ?_
      rintro e w2 ⟨rfl, h2⟩
      have hg : rgGive ⟨at_, size, 1, task, target, 5, hd, t, su, sn, 0, [], none⟩ v false = ⟨at_, size, 1, task, target, 2, v, t, su, sn, 0, [], none⟩ := by simp [rgGive, rgPushGive]
      rw [hg]
      exact ⟨rfl, rg_asks hpT hT rfl (by simp [rgWant]) rfl h2 (rgE_mk ⟨hr, ut, hv, wt, wu, .inl ⟨rfl, .inl ⟨by simp, rfl, rfl⟩⟩⟩ hpT (by simp [rgFn]) (kn.step hT h2.2.2 (u' := 0) (n' := 0) (by simpa [rgLk, rgTr, rgRest] using h2.2.1) rfl rfl (fun _ => ⟨rfl, rfl, rfl⟩) (by simp) (by simp) (by simp) (by simp)))⟩
  · subst h1
    subst h2
    obtain ⟨rfl, rfl, rfl⟩ := kn.head (by simp)
    by_cases hl : (took.length : Int) + 1 = size / 2
    · refine (rgPushLoadedLast m p at_ size hd _ _ tl task _ _ tk v won took 0 _ st w hw hrow hpm ho hs hr kn.took (Nat.zero_le _) htkm hl hover).mono ?_
      rintro e w2 ⟨rfl, t2, l', h2, h4, h5, h6⟩
      exact ⟨rfl, rg_ends_seen (A := []) hpT hT (us := took ++ [v]) (by simp [rgGive, rgPushGive, hl]) (by simp; omega) hs hrow hseen kn.own h2 h4 h5 h6⟩
    · refine (rgPushLoadedMore m p at_ size hd _ _ tl task _ _ tk v won took 0 _ st w hw hrow hpm ho hs hr hlo kn.took (Nat.zero_le _) htkm (by omega)).mono ?_
      rintro e w2 ⟨rfl, h2⟩
      have hg : rgGive ⟨at_, size, 1, task, target, 6, hd, t, su, sn, (took.length : Int), took, none⟩ v won = ⟨at_, size, 1, task, target, 6, hd, t, su, sn, (took.length : Int) + 1, took ++ [v], none⟩ := by simp [rgGive, rgPushGive, hl]
      rw [hg]
      refine ⟨rfl, rg_took hpT hT rfl (by simp [rgWant]) (by simp [ringM, rgHeld]) (by simp; omega) kn.own h2 fun tk' hk hr2 ht2 hb2 => ?_⟩
      refine rgE_mk (u := 0) (n := 0) ⟨hr, ut, uh, wt, wu, .inl ⟨rfl, .inr ⟨rfl, by simp, by show (took.length : Int) + 1 < size / 2; omega⟩⟩⟩ (List.mem_append_right _ hpT) (by simp [rgFn]) ⟨by simpa [rgLk, rgTr, rgRest] using hr2, ht2, fun g hg => ⟨List.mem_append_left _ ((ownBlock_toList _ _).2 hg), (hb2 g hg).2⟩, fun _ => ⟨rfl, rfl, rfl⟩, by simp, by simp, by simp, by simp, fun _ => ?_, by simp⟩
      exact hseen.keeps hk (fun k hk => List.mem_append_right _ hk) (fun k hk hp hn => by simp only [List.mem_append, List.mem_cons, List.not_mem_nil, or_false, not_or]; exact ⟨⟨(hT k hk).2, hp⟩, fun h => hn ((ownBlock_toList _ _).1 h)⟩) (fun x hx => (hb2 x hx).1)
end Go.Proofs.YtjbgkaleickknaaGreat

/-
  Contracts: each step of a ring's Pop and Steal goes as the machine's.
-/
namespace Go.Proofs.YtjbgkaleickknaaGreat
set_option maxRecDepth 100000
set_option linter.unusedSimpArgs false
set_option linter.unusedVariables false
open Go.ChangeShapes Go.WideShapes Go.ChangeAt Go.RowKit

set_option maxHeartbeats 3200000 in
/-- A pop's step. -/
theorem rgPop_goes (m p : Nat) (w : World) (T : List Nat) (s : RgS) (st : WSt) (v hd sl fi tl u n : Int) (tk : Value) (won : Bool) (hw : Wk w m st) (ho : st.over = false) (hs : st.sub = none) (hu : st.under = 1) (hT : ∀ k ∈ T, k < w.heap.size ∧ k ≠ m) (hv : M.U v)
    (hov : s.over = none) (hk : s.kind = 2) (hok : rgOk s) (hpT : p ∈ T) (kn : RgKnows w m p T st.outer s hd sl fi tl u n tk) :
    Calls Tryz.prog (rgFn s) #[.pointer (some ⟨p, 0, none⟩), .int .u64 v, .bool won] w fun e w' => e = .returned (.tuple #[]) ∧ GoesO ringM (rgE m) m st (ringM.held s) T (rgGive s v won) w w' := by
  obtain ⟨at_, size, kind, task, target, step, h, t, su, sn, k, took, over⟩ := s
  simp only at hov hk
  subst hov hk
  obtain ⟨hr, ut, uh, wt, wu, hst⟩ := hok
  simp only at hr ut uh wt wu hst
  have hst : (step = 1 ∨ step = 2 ∨ step = 3 ∨ step = 4) ∧ took = [] := by
    rcases hst with ⟨h, -⟩ | ⟨-, h⟩ | ⟨h, -⟩
    · simp at h
    · exact h
    · simp at h
  have hpm := (hT p hpT).2
  have a0 := hr.2.1
  have a1 : at_ < 65536 := by have := hr.2.2; have := hr.1; omega
  have hrow : Row w p (rgTy 2) (rgCells m at_ size hd sl fi tl (.func (.func 47) #[.pointer (some ⟨p, 0, none⟩)] #[]) (.func (.func 48) #[.pointer (some ⟨p, 0, none⟩)] #[]) tk []) := by simpa [rgLk, rgTr, rgRest] using kn.row
  have hout := kn.unseen rfl
  have hover : 0 < st.under := by omega
  have hhi := rgHi_range uh
  have hlo := rgLo_range h
  obtain ⟨hst2, rfl⟩ := hst
  have hnone : ∀ x, ringM.held ⟨at_, size, 2, task, target, x, h, t, su, sn, k, [], none⟩ = [] := fun x => by simp [ringM, rgHeld]
  rcases hst2 with h1 | h1 | h1 | h1
  · subst h1
    refine (rgReadHead_any m p at_ size hd sl fi tl v won _ _ tk _ _ st w hw hrow hpm ho hs a0 a1 hv).mono ?_
    rintro e w2 ⟨rfl, h2⟩
    have hg : rgGive ⟨at_, size, 2, task, target, 1, h, t, su, sn, k, [], none⟩ v won = ⟨at_, size, 2, task, target, 2, v, t, su, sn, k, [], none⟩ := by simp [rgGive, rgPopGive]
    rw [hg]
    exact ⟨rfl, rg_asks hpT hT rfl (by simp [rgWant]) rfl h2 (rgE_mk ⟨hr, ut, hv, wt, wu, .inr (.inl ⟨rfl, by simp, rfl⟩)⟩ hpT (by simp [rgFn]) (kn.step hT h2.2.2 (u' := 0) (n' := 0) (by simpa [rgLk, rgTr, rgRest] using h2.2.1) rfl rfl (fun _ => ⟨rfl, rfl, rfl⟩) (by simp) (by simp) (by simp) (by simp)))⟩
  · subst h1
    obtain ⟨rfl, rfl, rfl⟩ := kn.head (by simp)
    refine rgReadTail_any m p at_ size hd _ _ tl v won 47 _ tk _ _ w _ hrow hv (fun _ _ => by kernel_rfl) (fun W1 k1 hr1 => ?_)
    have hw1 := hw.keeps k1 (by simpa using Ne.symm hpm)
    by_cases hA : M.aheadI (rgLo v) (rgLo hd) < 1
    · refine (rgPopNone m p at_ size hd _ _ _ _ _ tk _ st W1 hw1 hr1 hpm ho hs (rgLo_range v) hhi hlo hA hover).mono ?_
      rintro e w2 ⟨rfl, h2⟩
      replace h2 := h2.from (k1.mono (by simp))
      exact ⟨rfl, rg_ends hpT (by simp [rgGive, rgPopGive, hA]) (hnone _) hs hout h2⟩
    · have hg : rgGive ⟨at_, size, 2, task, target, 2, hd, t, su, sn, k, [], none⟩ v won = ⟨at_, size, 2, task, target, 3, hd, t, su, sn, k, [], none⟩ := by simp [rgGive, rgPopGive, hA]
      rw [hg]
      by_cases hB : rgHi hd = rgLo hd
      · have hr1' := hr1
        rw [hB] at hr1'
        refine (rgPopTurnAll m p at_ size hd _ _ _ _ tk _ st W1 hw1 hr1' hpm ho hs (rgLo_range v) hlo hlo hA).mono ?_
        rintro e w2 ⟨rfl, h2⟩
        replace h2 := h2.from (k1.mono (by simp))
        exact ⟨rfl, rg_asks hpT hT rfl (by simp [rgWant, hB]) rfl h2 (rgE_mk ⟨hr, ut, uh, wt, wu, .inr (.inl ⟨rfl, by simp, rfl⟩)⟩ hpT (by simp [rgFn]) (kn.step hT h2.2.2 (u' := 0) (n' := 0) (by simpa [rgLk, rgTr, rgRest] using h2.2.1) rfl rfl (fun _ => ⟨rfl, hB.symm, rfl⟩) (by simp) (by simp) (by simp) (by simp)))⟩
      · refine (rgPopTurn m p at_ size hd _ _ _ _ _ tk _ st W1 hw1 hr1 hpm ho hs (rgLo_range v) hhi hlo hA hB).mono ?_
        rintro e w2 ⟨rfl, h2⟩
        replace h2 := h2.from (k1.mono (by simp))
        exact ⟨rfl, rg_asks hpT hT rfl (by simp [rgWant, hB]) rfl h2 (rgE_mk ⟨hr, ut, uh, wt, wu, .inr (.inl ⟨rfl, by simp, rfl⟩)⟩ hpT (by simp [rgFn]) (kn.step hT h2.2.2 (u' := 0) (n' := 0) (by simpa [rgLk, rgTr, rgRest] using h2.2.1) rfl rfl (fun _ => ⟨rfl, rfl, rfl⟩) (by simp) (by simp) (by simp) (by simp)))⟩
  · subst h1
    obtain ⟨rfl, rfl, rfl⟩ := kn.head (by simp)
    cases won with
    | true =>
      refine rgTriedWon_any m p at_ size hd _ _ tl v 48 _ _ _ _ w _ hrow (fun _ _ => by kernel_rfl) ?_
      refine (rgPopFirst m p at_ size hd _ _ tl _ _ tk _ st w hw hrow hpm ho hs hr hlo).mono ?_
      rintro e w2 ⟨rfl, h2⟩
      have hg : rgGive ⟨at_, size, 2, task, target, 3, hd, t, su, sn, k, [], none⟩ v true = ⟨at_, size, 2, task, target, 4, hd, t, su, sn, k, [], none⟩ := by simp [rgGive, rgPopGive]
      rw [hg]
      exact ⟨rfl, rg_asks hpT hT rfl (by simp [rgWant]) rfl h2 (rgE_mk ⟨hr, ut, uh, wt, wu, .inr (.inl ⟨rfl, by simp, rfl⟩)⟩ hpT (by simp [rgFn]) (kn.step hT h2.2.2 (u' := 0) (n' := 0) (by simpa [rgLk, rgTr, rgRest] using h2.2.1) rfl rfl (fun _ => ⟨rfl, rfl, rfl⟩) (by simp) (by simp) (by simp) (by simp)))⟩
    | false =>
      refine (rgTriedLost_any m p at_ size hd _ _ tl v _ _ tk _ _ st w hw hrow hpm ho hs a0 a1 hv).mono ?_
      rintro e w2 ⟨rfl, h2⟩
      have hg : rgGive ⟨at_, size, 2, task, target, 3, hd, t, su, sn, k, [], none⟩ v false = ⟨at_, size, 2, task, target, 2, v, t, su, sn, k, [], none⟩ := by simp [rgGive, rgPopGive]
      rw [hg]
      exact ⟨rfl, rg_asks hpT hT rfl (by simp [rgWant]) rfl h2 (rgE_mk ⟨hr, ut, hv, wt, wu, .inr (.inl ⟨rfl, by simp, rfl⟩)⟩ hpT (by simp [rgFn]) (kn.step hT h2.2.2 (u' := 0) (n' := 0) (by simpa [rgLk, rgTr, rgRest] using h2.2.1) rfl rfl (fun _ => ⟨rfl, rfl, rfl⟩) (by simp) (by simp) (by simp) (by simp)))⟩
  · subst h1
    refine (rgPopFinish m p at_ size hd sl fi tl _ _ tk v won _ st w hw hrow hpm ho hs hover).mono ?_
    rintro e w2 ⟨rfl, h2⟩
    exact ⟨rfl, rg_ends hpT (by simp [rgGive, rgPopGive]) (hnone _) hs hout h2⟩

set_option maxHeartbeats 6400000 in
/-- A steal's step. -/
theorem rgSteal_goes (m p : Nat) (w : World) (T : List Nat) (s : RgS) (st : WSt) (v hd sl fi tl u n : Int) (tk : Value) (won : Bool) (hw : Wk w m st) (ho : st.over = false) (hs : st.sub = none) (hu : st.under = 1) (hT : ∀ k ∈ T, k < w.heap.size ∧ k ≠ m) (hv : M.U v)
    (hov : s.over = none) (hk : s.kind = 3) (hok : rgOk s) (hpT : p ∈ T) (kn : RgKnows w m p T st.outer s hd sl fi tl u n tk) :
    Calls Tryz.prog (rgFn s) #[.pointer (some ⟨p, 0, none⟩), .int .u64 v, .bool won] w fun e w' => e = .returned (.tuple #[]) ∧ GoesO ringM (rgE m) m st (ringM.held s) T (rgGive s v won) w w' := by
  obtain ⟨at_, size, kind, task, target, step, h, t, su, sn, k, took, over⟩ := s
  simp only at hov hk
  subst hov hk
  obtain ⟨hr, ut, uh, wt, wu, hst⟩ := hok
  simp only at hr ut uh wt wu hst
  have hst : dqRight target size ∧ ((step = 1 ∨ step = 2 ∨ step = 3 ∨ step = 4) ∧ took = [] ∧ k = 0 ∨ 1 ≤ sn ∧ sn ≤ 256 ∧
      (step = 5 ∧ took = [] ∧ k = 0 ∨ step = 6 ∧ k = (took.length : Int) ∧ k < sn ∨ step = 60 ∧ k + 1 = (took.length : Int) ∧ k + 1 < sn ∧ 0 ≤ k ∨ (step = 7 ∨ step = 8 ∨ step = 9 ∧ 1 < sn) ∧ sn = (took.length : Int))) := by
    rcases hst with ⟨h, -⟩ | ⟨h, -⟩ | ⟨-, h⟩
    · simp at h
    · simp at h
    · exact h
  have hpm := (hT p hpT).2
  have hsz : 2 ≤ size ∧ size ≤ 256 := by have := hr.1; omega
  have a0 := hr.2.1
  have a1 : at_ < 65536 := by have := hr.2.2; omega
  obtain ⟨htr, hst⟩ := hst
  have b0 := htr.2.1
  have b1 : target < 65536 := by have := htr.2.2; omega
  have hrow : Row w p (rgTy 3) (rgCells m at_ size hd sl fi tl (.func (.func 42) #[.pointer (some ⟨p, 0, none⟩)] #[]) (.func (.func 43) #[.pointer (some ⟨p, 0, none⟩)] #[]) tk [.int .i64 target, .int .i64 size, .int .u32 u, .int .i64 n]) := by simpa [rgLk, rgTr, rgRest] using kn.row
  have htkm : ∀ g, tk.ownBlock = some g → g ≠ p ∧ g ≠ m := fun g hg => ⟨(kn.own g hg).2, (hT g (kn.own g hg).1).2⟩
  have hseen := kn.seen (by simp)
  have hover : 0 < st.under := by omega
  have hhi := rgHi_range uh
  have hlo := rgLo_range h
  rcases hst with ⟨h1 | h1 | h1 | h1, rfl, rfl⟩ | ⟨n1, n2, h1⟩
  · subst h1
    refine (rgReadEnd m p at_ size hd sl fi tl target u n _ _ tk v won _ st w hw hrow hpm ho hs hv).mono ?_
    rintro e w2 ⟨rfl, h2⟩
    have hg : rgGive ⟨at_, size, 3, task, target, 1, h, t, su, sn, 0, [], none⟩ v won = ⟨at_, size, 3, task, target, 2, h, t, rgLo v, sn, 0, [], none⟩ := by simp [rgGive, rgStealGive]
    rw [hg]
    exact ⟨rfl, rg_asks hpT hT rfl (by simp [rgWant]) rfl h2 (rgE_mk ⟨hr, ut, uh, wt, rgLo_range v, .inr (.inr ⟨rfl, htr, .inl ⟨by simp, rfl, rfl⟩⟩)⟩ hpT (by simp [rgFn]) (kn.step hT h2.2.2 (u' := rgLo v) (n' := n) (by simpa [rgLk, rgTr, rgRest] using h2.2.1) rfl rfl (by simp) (by simp) (by simp) (fun _ _ => rfl) (by simp)))⟩
  · subst h1
    obtain rfl := kn.end_ rfl (by simp)
    by_cases hA : size / 2 < M.aheadI u (rgHi v)
    · refine (rgReadRoomNo m p at_ size hd sl fi tl target u n _ _ tk v won _ st w hw hrow hpm ho hs hsz hv wu hA hover).mono ?_
      rintro e w2 ⟨rfl, h2⟩
      exact ⟨rfl, rg_ends_seen' hpT hT (by simp [rgGive, rgStealGive, hA]) hs hrow hseen kn.own h2⟩
    · refine (rgReadRoom m p at_ size hd sl fi tl target u n _ _ tk v won _ st w hw hrow hpm ho hs hsz hv wu hA).mono ?_
      rintro e w2 ⟨rfl, h2⟩
      have hg : rgGive ⟨at_, size, 3, task, target, 2, h, t, u, sn, 0, [], none⟩ v won = ⟨at_, size, 3, task, target, 3, h, t, u, sn, 0, [], none⟩ := by simp [rgGive, rgStealGive, hA]
      rw [hg]
      exact ⟨rfl, rg_asks hpT hT rfl (by simp [rgWant]) rfl h2 (rgE_mk ⟨hr, ut, uh, wt, wu, .inr (.inr ⟨rfl, htr, .inl ⟨by simp, rfl, rfl⟩⟩)⟩ hpT (by simp [rgFn]) (kn.step hT h2.2.2 (u' := u) (n' := n) (by simpa [rgLk, rgTr, rgRest] using h2.2.1) rfl rfl (by simp) (by simp) (by simp) (fun _ _ => rfl) (by simp)))⟩
  · subst h1
    obtain rfl := kn.end_ rfl (by simp)
    refine (rgReadHead_any m p at_ size hd sl fi tl v won _ _ tk _ _ st w hw hrow hpm ho hs a0 a1 hv).mono ?_
    rintro e w2 ⟨rfl, h2⟩
    have hg : rgGive ⟨at_, size, 3, task, target, 3, h, t, u, sn, 0, [], none⟩ v won = ⟨at_, size, 3, task, target, 4, v, t, u, sn, 0, [], none⟩ := by simp [rgGive, rgStealGive]
    rw [hg]
    exact ⟨rfl, rg_asks hpT hT rfl (by simp [rgWant]) rfl h2 (rgE_mk ⟨hr, ut, hv, wt, wu, .inr (.inr ⟨rfl, htr, .inl ⟨by simp, rfl, rfl⟩⟩)⟩ hpT (by simp [rgFn]) (kn.step hT h2.2.2 (u' := u) (n' := n) (by simpa [rgLk, rgTr, rgRest] using h2.2.1) rfl rfl (fun _ => ⟨rfl, rfl, rfl⟩) (by simp) (by simp) (fun _ _ => rfl) (by simp)))⟩
  · subst h1
    obtain rfl := kn.end_ rfl (by simp)
    obtain ⟨rfl, rfl, rfl⟩ := kn.head (by simp)
    refine rgReadTail_any m p at_ size hd _ _ tl v won 42 _ tk _ _ w _ hrow hv (fun _ _ => by kernel_rfl) (fun W1 k1 hr1 => ?_)
    have hw1 := hw.keeps k1 (by simpa using Ne.symm hpm)
    by_cases hB : rgHi hd = rgLo hd
    · have hr1' := hr1
      rw [hB] at hr1'
      by_cases hC : size < M.aheadI (rgLo v) (rgLo hd)
      · refine (rgClaimAgain m p at_ size hd _ _ target u n _ _ tk _ st W1 hw1 hr1' hpm ho hs (rgLo_range v) hlo hlo hC).mono ?_
        rintro e w2 ⟨rfl, h2⟩
        replace h2 := h2.from (k1.mono (by simp))
        have hg : rgGive ⟨at_, size, 3, task, target, 4, hd, t, u, sn, 0, [], none⟩ v won = ⟨at_, size, 3, task, target, 3, hd, t, u, rgCount (M.aheadI (rgLo v) (rgLo hd)), 0, [], none⟩ := by simp [rgGive, rgStealGive, hB, hC]
        rw [hg]
        exact ⟨rfl, rg_asks hpT hT rfl (by simp [rgWant]) rfl h2 (rgE_mk ⟨hr, ut, uh, wt, wu, .inr (.inr ⟨rfl, htr, .inl ⟨by simp, rfl, rfl⟩⟩)⟩ hpT (by simp [rgFn]) (kn.step hT h2.2.2 (u' := u) (n' := n) (by simpa [rgLk, rgTr, rgRest] using h2.2.1) rfl rfl (by simp) (by simp) (by simp) (fun _ _ => rfl) (by simp)))⟩
      · by_cases hD : M.aheadI (rgLo v) (rgLo hd) < 1
        · refine (rgClaimNone m p at_ size hd _ _ target u n _ _ tk _ st W1 hw1 hr1' hpm ho hs (rgLo_range v) hlo hlo hD (by omega) hover).mono ?_
          rintro e w2 ⟨rfl, h2⟩
          replace h2 := h2.from (k1.mono (by simp))
          exact ⟨rfl, rg_ends_seen' hpT hT (by simp [rgGive, rgStealGive, hB, hC, hD]) hs hrow hseen kn.own h2⟩
        · refine (rgClaimTurn m p at_ size hd _ _ target u n _ _ tk _ st W1 hw1 hr1' hpm ho hs (rgLo_range v) hlo hlo (by omega) (by omega) hsz.2).mono ?_
          rintro e w2 ⟨rfl, h2⟩
          replace h2 := h2.from (k1.mono (by simp))
          have hg : rgGive ⟨at_, size, 3, task, target, 4, hd, t, u, sn, 0, [], none⟩ v won = ⟨at_, size, 3, task, target, 5, hd, t, u, rgCount (M.aheadI (rgLo v) (rgLo hd)), 0, [], none⟩ := by simp [rgGive, rgStealGive, hB, hC, hD]
          rw [hg]
          have hc := rgCount_small (d := M.aheadI (rgLo v) (rgLo hd)) (by omega)
          exact ⟨rfl, rg_asks hpT hT rfl (by simp [rgWant, hB]) rfl h2 (rgE_mk ⟨hr, ut, uh, wt, wu, .inr (.inr ⟨rfl, htr, .inr ⟨by show 1 ≤ rgCount _; omega, by show rgCount _ ≤ 256; omega, .inl ⟨rfl, rfl, rfl⟩⟩⟩)⟩ hpT (by simp [rgFn]) (kn.step hT h2.2.2 (u' := u) (n' := rgCount (M.aheadI (rgLo v) (rgLo hd))) (by simpa [rgLk, rgTr, rgRest] using h2.2.1) rfl rfl (fun _ => ⟨rfl, hB.symm, rfl⟩) (by simp) (by simp) (fun _ _ => rfl) (fun _ _ => rfl)))⟩
    · refine (rgClaimBusy m p at_ size hd _ _ _ target u n _ _ tk _ st W1 hw1 hr1 hpm ho hs (rgLo_range v) hhi hlo hB hover).mono ?_
      rintro e w2 ⟨rfl, h2⟩
      replace h2 := h2.from (k1.mono (by simp))
      exact ⟨rfl, rg_ends_seen' hpT hT (by simp [rgGive, rgStealGive, hB]) hs hrow hseen kn.own h2⟩
  have hsu : u = su := kn.end_ rfl (by rcases h1 with ⟨h, -⟩ | ⟨h, -⟩ | ⟨h, -⟩ | ⟨h | h | ⟨h, -⟩, -⟩ <;> simp [h])
  have hsn : n = sn := kn.count rfl (by rcases h1 with ⟨h, -⟩ | ⟨h, -⟩ | ⟨h, -⟩ | ⟨h | h | ⟨h, -⟩, -⟩ <;> simp [h])
  subst hsu hsn
  rcases h1 with ⟨h1, h2, h3⟩ | ⟨h1, h2, h3⟩ | ⟨h1, h2, h3, h4⟩ | ⟨h1, h2⟩
  · subst h1 h2 h3
    obtain ⟨rfl, rfl, rfl⟩ := kn.head (by simp)
    cases won with
    | true =>
      obtain ⟨q, c, rfl⟩ := (Sl.of_owns kn.took).len
      refine rgTriedWon_any m p at_ size hd _ _ tl v 43 _ _ _ _ w _ hrow (fun _ _ => by kernel_rfl) ?_
      refine (rgStealNext m p at_ size hd _ _ tl target u n _ _ q 0 c _ st w hw hrow hpm ho hs hr hlo (by decide)).mono ?_
      rintro e w2 ⟨rfl, h2⟩
      have hg : rgGive ⟨at_, size, 3, task, target, 5, hd, t, u, n, 0, [], none⟩ v true = ⟨at_, size, 3, task, target, 6, hd, rgLo hd, u, n, 0, [], none⟩ := by simp [rgGive, rgStealGive]
      rw [hg]
      exact ⟨rfl, rg_asks hpT hT rfl (by simp [rgWant]) rfl h2 (rgE_mk ⟨hr, ut, uh, hlo, wu, .inr (.inr ⟨rfl, htr, .inr ⟨n1, n2, .inr (.inl ⟨rfl, rfl, by show (0 : Int) < n; omega⟩)⟩⟩)⟩ hpT (by simp [rgFn]) (kn.step hT h2.2.2 (u' := u) (n' := n) (by simpa [rgLk, rgTr, rgRest] using h2.2.1) rfl rfl (by simp) (fun _ _ => rfl) (by simp) (fun _ _ => rfl) (fun _ _ => rfl)))⟩
    | false =>
      refine (rgTriedLost_any m p at_ size hd _ _ tl v _ _ tk _ _ st w hw hrow hpm ho hs a0 a1 hv).mono ?_
      rintro e w2 ⟨rfl, h2⟩
      have hg : rgGive ⟨at_, size, 3, task, target, 5, hd, t, u, n, 0, [], none⟩ v false = ⟨at_, size, 3, task, target, 4, v, t, u, n, 0, [], none⟩ := by simp [rgGive, rgStealGive]
      rw [hg]
      exact ⟨rfl, rg_asks hpT hT rfl (by simp [rgWant]) rfl h2 (rgE_mk ⟨hr, ut, hv, wt, wu, .inr (.inr ⟨rfl, htr, .inl ⟨by simp, rfl, rfl⟩⟩)⟩ hpT (by simp [rgFn]) (kn.step hT h2.2.2 (u' := u) (n' := n) (by simpa [rgLk, rgTr, rgRest] using h2.2.1) rfl rfl (fun _ => ⟨rfl, rfl, rfl⟩) (by simp) (by simp) (fun _ _ => rfl) (fun _ _ => rfl)))⟩
  · subst h1 h2
    obtain rfl := kn.first rfl (by simp)
    obtain ⟨tq, tc, rfl⟩ := (Sl.of_owns kn.took).len
    have hkeep : ∀ (w2 : World) (tk' : Value), Keeps ([m, p] ++ (Value.slice tq took.length tc).ownBlock.toList) w w2 → (∀ g, tk'.ownBlock = some g → ((Value.slice tq took.length tc).ownBlock = some g ∨ w.heap.size ≤ g) ∧ g ≠ p) → rgSeen w2 m p (tk'.ownBlock.toList ++ T) st.outer tk' := fun w2 tk' hk hb =>
      hseen.keeps hk (fun k hk => List.mem_append_right _ hk) (fun k hk hp hn => by simp only [List.mem_append, List.mem_cons, List.not_mem_nil, or_false, not_or]; exact ⟨⟨(hT k hk).2, hp⟩, fun h => hn ((ownBlock_toList _ _).1 h)⟩) (fun x hx => (hb x hx).1)
    by_cases hl : (took.length : Int) = n - 1
    · refine (rgStealLoadedLast m p at_ size hd sl fi tl target u n _ _ v won took 0 tq tc _ st w hw hrow hpm ho hs htr wu kn.took (Nat.zero_le _) htkm (by omega) n2).mono ?_
      rintro e w2 ⟨rfl, h2⟩
      have hg : rgGive ⟨at_, size, 3, task, target, 6, h, fi, u, n, (took.length : Int), took, none⟩ v won = ⟨at_, size, 3, task, target, 7, h, fi, u, n, (took.length : Int), took ++ [v], none⟩ := by simp [rgGive, rgStealGive, hl]
      rw [hg]
      refine ⟨rfl, rg_took hpT hT rfl (by simp [rgWant]) (by simp [ringM, rgHeld]) (by simp; omega) kn.own h2 fun tk' hk hr2 ht2 hb2 => ?_⟩
      exact rgE_mk ⟨hr, ut, uh, wt, wu, .inr (.inr ⟨rfl, htr, .inr ⟨n1, n2, .inr (.inr (.inr ⟨by simp, by simp; omega⟩))⟩⟩)⟩ (List.mem_append_right _ hpT) (by simp [rgFn]) ⟨by simpa [rgLk, rgTr, rgRest] using hr2, ht2, fun g hg => ⟨List.mem_append_left _ ((ownBlock_toList _ _).2 hg), (hb2 g hg).2⟩, by simp, fun _ _ => rfl, by simp, fun _ _ => rfl, fun _ _ => rfl, fun _ => hkeep w2 tk' hk hb2, by simp⟩
    · refine (rgStealLoadedMore m p at_ size hd sl fi tl target u n _ _ v won took 0 tq tc _ st w hw hrow hpm ho hs htr wu kn.took (Nat.zero_le _) htkm (by omega) n2).mono ?_
      rintro e w2 ⟨rfl, h2⟩
      have hg : rgGive ⟨at_, size, 3, task, target, 6, h, fi, u, n, (took.length : Int), took, none⟩ v won = ⟨at_, size, 3, task, target, 60, h, fi, u, n, (took.length : Int), took ++ [v], none⟩ := by simp [rgGive, rgStealGive, hl]
      rw [hg]
      refine ⟨rfl, rg_took hpT hT rfl (by simp [rgWant]) (by simp [ringM, rgHeld]) (by simp; omega) kn.own h2 fun tk' hk hr2 ht2 hb2 => ?_⟩
      exact rgE_mk ⟨hr, ut, uh, wt, wu, .inr (.inr ⟨rfl, htr, .inr ⟨n1, n2, .inr (.inr (.inl ⟨rfl, by simp, by show (took.length : Int) + 1 < n; omega, by show (0 : Int) ≤ (took.length : Int); omega⟩))⟩⟩)⟩ (List.mem_append_right _ hpT) (by simp [rgFn]) ⟨by simpa [rgLk, rgTr, rgRest] using hr2, ht2, fun g hg => ⟨List.mem_append_left _ ((ownBlock_toList _ _).2 hg), (hb2 g hg).2⟩, by simp, fun _ _ => rfl, by simp, fun _ _ => rfl, fun _ _ => rfl, fun _ => hkeep w2 tk' hk hb2, by simp⟩
  · subst h1
    obtain rfl := kn.first rfl (by simp)
    obtain ⟨tq, tc, rfl⟩ := (Sl.of_owns kn.took).len
    refine (rgStealLaid m p at_ size hd sl fi tl target u n _ _ tq took.length tc v won _ st w hw hrow hpm ho hs hr wt (by omega)).mono ?_
    rintro e w2 ⟨rfl, h5⟩
    have hg : rgGive ⟨at_, size, 3, task, target, 60, h, fi, u, n, k, took, none⟩ v won = ⟨at_, size, 3, task, target, 6, h, fi, u, n, k + 1, took, none⟩ := by simp [rgGive, rgStealGive]
    rw [hg]
    exact ⟨rfl, rg_asks hpT hT rfl (by simp [rgWant, h2]) rfl h5 (rgE_mk ⟨hr, ut, uh, wt, wu, .inr (.inr ⟨rfl, htr, .inr ⟨n1, n2, .inr (.inl ⟨rfl, h2, h3⟩)⟩⟩)⟩ hpT (by simp [rgFn]) (kn.step hT h5.2.2 (u' := u) (n' := n) (by simpa [rgLk, rgTr, rgRest] using h5.2.1) rfl rfl (by simp) (fun _ _ => rfl) (by simp) (fun _ _ => rfl) (fun _ _ => rfl)))⟩
  · obtain ⟨tq, tc, rfl⟩ := (Sl.of_owns kn.took).len
    rcases h1 with h1 | h1 | ⟨h1, h3⟩
    · subst h1
      obtain rfl := kn.first rfl (by simp)
      refine (rgRelease m p at_ size hd sl fi tl target u n _ _ _ v won _ st w hw hrow hpm ho hs hv).mono ?_
      rintro e w2 ⟨rfl, h5⟩
      have hg : rgGive ⟨at_, size, 3, task, target, 7, h, fi, u, n, k, took, none⟩ v won = ⟨at_, size, 3, task, target, 8, v, fi, u, n, k, took, none⟩ := by simp [rgGive, rgStealGive]
      rw [hg]
      exact ⟨rfl, rg_asks hpT hT rfl (by simp [rgWant]) rfl h5 (rgE_mk ⟨hr, ut, hv, wt, wu, .inr (.inr ⟨rfl, htr, .inr ⟨n1, n2, .inr (.inr (.inr ⟨by simp, h2⟩))⟩⟩)⟩ hpT (by simp [rgFn]) (kn.step hT h5.2.2 (u' := u) (n' := n) (by simpa [rgLk, rgTr, rgRest] using h5.2.1) rfl rfl (by simp) (fun _ _ => rfl) (by simp) (fun _ _ => rfl) (fun _ _ => rfl)))⟩
    · subst h1
      obtain rfl := kn.first rfl (by simp)
      cases won with
      | true =>
        by_cases hn1 : n = 1
        · refine (rgReleasedOne m p at_ size hd sl fi tl target u n _ _ v tq took.length tc took 0 _ st w hw hrow hpm ho hs kn.took rfl h2 (by omega) hover).mono ?_
          rintro e w2 ⟨rfl, h5⟩
          have hx : (n - 1).toNat = took.length - 1 := by omega
          exact ⟨rfl, rg_ends_seen' hpT hT (by simp [rgGive, rgStealGive, hn1, rgLast]; rw [show took.length - 1 = 0 by omega]) hs hrow hseen kn.own h5⟩
        · refine (rgReleasedMore m p at_ size hd sl fi tl target u n _ _ _ v _ st w hw hrow hpm ho hs wu (by omega) n2 b0 b1).mono ?_
          rintro e w2 ⟨rfl, h5⟩
          have hg : rgGive ⟨at_, size, 3, task, target, 8, h, fi, u, n, k, took, none⟩ v true = ⟨at_, size, 3, task, target, 9, h, fi, u, n, k, took, none⟩ := by simp [rgGive, rgStealGive, hn1]
          rw [hg]
          exact ⟨rfl, rg_asks hpT hT rfl (by simp [rgWant]) rfl h5 (rgE_mk ⟨hr, ut, uh, wt, wu, .inr (.inr ⟨rfl, htr, .inr ⟨n1, n2, .inr (.inr (.inr ⟨.inr (.inr ⟨rfl, by show 1 < n; omega⟩), h2⟩))⟩⟩)⟩ hpT (by simp [rgFn]) (kn.step hT h5.2.2 (u' := u) (n' := n) (by simpa [rgLk, rgTr, rgRest] using h5.2.1) rfl rfl (by simp) (fun _ _ => rfl) (by simp) (fun _ _ => rfl) (fun _ _ => rfl)))⟩
      | false =>
        refine (rgReleasedLost m p at_ size hd sl fi tl target u n _ _ _ v _ st w hw hrow hpm ho hs hv).mono ?_
        rintro e w2 ⟨rfl, h5⟩
        have hg : rgGive ⟨at_, size, 3, task, target, 8, h, fi, u, n, k, took, none⟩ v false = ⟨at_, size, 3, task, target, 8, v, fi, u, n, k, took, none⟩ := by simp [rgGive, rgStealGive]
        rw [hg]
        exact ⟨rfl, rg_asks hpT hT rfl (by simp [rgWant]) rfl h5 (rgE_mk ⟨hr, ut, hv, wt, wu, .inr (.inr ⟨rfl, htr, .inr ⟨n1, n2, .inr (.inr (.inr ⟨by simp, h2⟩))⟩⟩)⟩ hpT (by simp [rgFn]) (kn.step hT h5.2.2 (u' := u) (n' := n) (by simpa [rgLk, rgTr, rgRest] using h5.2.1) rfl rfl (by simp) (fun _ _ => rfl) (by simp) (fun _ _ => rfl) (fun _ _ => rfl)))⟩
    · subst h1
      refine (rgFinish m p at_ size hd sl fi tl target u n _ _ v won tq took.length tc took 0 _ st w hw hrow hpm ho hs kn.took rfl h2 (by omega) (by omega) hover).mono ?_
      rintro e w2 ⟨rfl, h5⟩
      have hx : (n - 1).toNat = took.length - 1 := by omega
      exact ⟨rfl, rg_ends_seen' hpT hT (by simp [rgGive, rgStealGive, rgLast, hx]) hs hrow hseen kn.own h5⟩

theorem rgStepsAll (m : Nat) : ∀ w T F fi ca s st v won x, Wk w m st → st.over = false → st.sub = none → st.under = 1 → (∀ k ∈ T, k < w.heap.size ∧ k ≠ m) → Sl w 1 st.tasks (ringM.held s).length (ints .u64 (ringM.held s)) → rgE m w T (.func (.func F) fi ca) st.outer s → M.U v → ringM.want s = some x →
      Calls Tryz.prog F (fi ++ (#[.int .u64 v, .bool won] ++ ca)) w fun e w' => e = .returned (.tuple #[]) ∧ GoesO ringM (rgE m) m st (ringM.held s) T (ringM.give s v won) w w' := by
  intro w T F fi ca s st v won x hw ho hs hu hT _ hE hv hx
  have hov : s.over = none := by
    cases h : s.over with
    | none => rfl
    | some r => simp [ringM, h] at hx
  obtain ⟨hok, p, hd, sl, fi', tl, u, n, tk, hpT, hn, kn⟩ := hE hov
  injection hn with e1 e2 e3
  injection e1 with e1
  subst e1 e2 e3
  have hgv : ringM.give s v won = rgGive s v won := by simp [ringM, hov]
  rw [hgv]
  rcases hok.2.2.2.2.2 with h | h | h
  · exact rgPush_goes m p w T s st v hd sl fi' tl u n tk won hw ho hs hu hT hv hov h.1 hok hpT kn
  · exact rgPop_goes m p w T s st v hd sl fi' tl u n tk won hw ho hs hu hT hv hov h.1 hok hpT kn
  · exact rgSteal_goes m p w T s st v hd sl fi' tl u n tk won hw ho hs hu hT hv hov h.1 hok hpT kn
theorem rgRuns (m : Nat) : Runs ringM (LoneIO ringM (rgE m) m) m := by
  refine runs_ownO ringM (rgE m) m (rgE_keeps m) (rgEnded m) ?_ ?_ ?_ (rgStepsAll m)
  · intro s v won h
    cases ho : s.over with
    | none => simp [ringM, ho] at h
    | some r => simp [ringM, ho]
  · intro s x h
    cases ho : s.over with
    | none => exact ho
    | some r => simp [ringM, ho] at h
  · intro w T nx ov s x h hx
    have hov : s.over = none := by
      cases h : s.over with
      | none => rfl
      | some r => simp [ringM, h] at hx
    obtain ⟨-, p, _, _, _, _, _, _, _, -, hn, -⟩ := h hov
    exact ⟨_, _, _, hn, rgFn_ok s⟩
end Go.Proofs.YtjbgkaleickknaaGreat
