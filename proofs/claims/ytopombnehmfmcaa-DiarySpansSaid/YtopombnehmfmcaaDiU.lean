import Derived.Test.YtopombnehmfmcaaDiT
import Derived.Laws.Rows
/-
  Contracts of package diary: copies of spans; the spans of a diary.
-/
namespace Go.Proofs.Ytopombnehmfmcaa
set_option maxRecDepth 100000
set_option linter.unusedSimpArgs false
set_option linter.unusedVariables false
open Go.ChangeShapes Go.WideShapes Go.ChangeAt Go.RowKit

/-- s' says what s says, in lists of its own, made behind B. -/
structure Copied (B : Nat) (w' : World) (s s' : DSp) : Prop where
  who : s'.who = s.who
  nth : s'.nth = s.nth
  lo : s'.lo = s.lo
  hi : s'.hi = s.hi
  kind : s'.call.kind = s.call.kind
  task : s'.call.task = s.call.task
  vs : s'.call.vs = s.call.vs
  code : s'.res.code = s.res.code
  v : s'.res.v = s.res.v
  ls : s'.res.ls = s.res.ls
  n1 : s'.call.n ≤ 1000000
  n2 : s'.res.n ≤ 1000000
  own1 : w'.ownsRow B 3 1 (.slice s'.call.p s'.call.n s'.call.c) s'.call.n (ints .i64 s'.call.vs)
  own2 : w'.ownsRow B 24 1 (.slice s'.res.p s'.res.n s'.res.c) s'.res.n (ints .u64 s'.res.ls)
theorem Copied.at_ {B : Nat} {w : World} {s s' : DSp} (h : Copied B w s s') : s'.call.At w ∧ s'.res.At w := ⟨⟨Sl.of_owns h.own1, h.n1⟩, ⟨Sl.of_owns h.own2, h.n2⟩⟩
theorem Copied.same {B : Nat} {w : World} {s s' t : DSp} (h : Copied B w s s') : s'.same t = s.same t := by
  unfold DSp.same DCall.same DRes.same
  rw [h.who, h.nth, h.lo, h.hi, h.kind, h.task, h.vs, h.code, h.v, h.ls]
theorem Copied.base {B C : Nat} {w : World} {s s' : DSp} (h : Copied B w s s') (hC : C ≤ B) : Copied C w s s' := by
  have hb : ∀ {e : TypeId} {v : Value} {n : Nat} {xs : List Value}, w.ownsRow B e 1 v n xs → w.ownsRow C e 1 v n xs := by
    intro e v n xs h
    refine ⟨h.1, ?_⟩
    rcases h.2 with h | ⟨g, cap, cur, hv, hb, rest⟩
    · exact .inl h
    · exact .inr ⟨g, cap, cur, hv, Nat.le_trans hC hb, rest⟩
  exact { h with own1 := hb h.own1, own2 := hb h.own2 }
theorem Copied.keeps {B : Nat} {w w' : World} {S : List Nat} {s s' : DSp} (h : Copied B w s s') (k : Keeps S w w') (h1 : ∀ g, (Value.slice s'.call.p s'.call.n s'.call.c).ownBlock = some g → g ∉ S) (h2 : ∀ g, (Value.slice s'.res.p s'.res.n s'.res.c).ownBlock = some g → g ∉ S) : Copied B w' s s' :=
  { h with own1 := diOwnsKeeps h.own1 k h1, own2 := diOwnsKeeps h.own2 k h2 }

theorem blk_set {w : World} {g : Nat} {cs : Array Value} {t : TypeId} {fr : Nat × Nat} (h : w.heap[g]? = some (.cells cs t fr)) (j : Nat) (u : Value) : (w.setCell ⟨g, j, none⟩ u).heap[g]? = some (.cells (cs.setIfInBounds j u) t fr) := by
  have hlt := (Array.getElem?_eq_some_iff.1 h).1
  have hv := (Array.getElem?_eq_some_iff.1 h).2
  simp only [World.setCell]
  rw [Array.getElem?_eq_getElem (by simpa using hlt), Array.getElem_modify]
  simp [hv]
theorem blk_other {w : World} {g g' : Nat} {o : Obj} (h : w.heap[g]? = some o) (hn : g' ≠ g) (j : Nat) (u : Value) : (w.setCell ⟨g', j, none⟩ u).heap[g]? = some o := by
  rw [Below.heap_setCell _ _ _ _ hn.symm]; exact h

theorem blk_fill {w : World} {g : Nat} {t : TypeId} {fr : Nat × Nat} (a0 a1 a2 a3 a4 a5 a6 a7 a8 a9 b0 b1 b2 b3 b4 b5 b6 b7 b8 b9 : Value) (h : w.heap[g]? = some (.cells #[a0, a1, a2, a3, a4, a5, a6, a7, a8, a9] t fr)) :
    ((((((((((w.setCell ⟨g, 0, none⟩ b0).setCell ⟨g, 1, none⟩ b1).setCell ⟨g, 2, none⟩ b2).setCell ⟨g, 3, none⟩ b3).setCell ⟨g, 4, none⟩ b4).setCell ⟨g, 5, none⟩ b5).setCell ⟨g, 6, none⟩ b6).setCell ⟨g, 7, none⟩ b7).setCell ⟨g, 8, none⟩ b8).setCell ⟨g, 9, none⟩ b9).heap[g]? = some (.cells #[b0, b1, b2, b3, b4, b5, b6, b7, b8, b9] t fr) := by
  have := (blk_set (blk_set (blk_set (blk_set (blk_set (blk_set (blk_set (blk_set (blk_set (blk_set h 0 b0) 1 b1) 2 b2) 3 b3) 4 b4) 5 b5) 6 b6) 7 b7) 8 b8) 9 b9)
  simpa using this
theorem spFill (l : List DSp) (i : Nat) (who nth lo hi kind task : Int) (p : Option Addr) (n c : Nat) (vs : List Int) (code v : Int) (q : Option Addr) (m d : Nat) (ls : List Int)
    (who' nth' lo' hi' kind' task' : Int) (p' : Option Addr) (n' c' : Nat) (vs' : List Int) (code' v' : Int) (q' : Option Addr) (m' d' : Nat) (ls' : List Int)
    (h : l[i]? = some ⟨who, nth, lo, hi, ⟨kind, task, p, n, c, vs⟩, ⟨code, v, q, m, d, ls⟩⟩) : (((((((((((spCells l).set (i * 10) (.int .i64 who')).set (i * 10 + 1) (.int .i64 nth')).set (i * 10 + 2) (.int .i64 lo')).set (i * 10 + 3) (.int .i64 hi')).set (i * 10 + 4) (.int .i64 kind')).set (i * 10 + 5) (.int .u64 task')).set (i * 10 + 6) (.slice p' n' c')).set (i * 10 + 7) (.int .i64 code')).set (i * 10 + 8) (.int .u64 v')).set (i * 10 + 9) (.slice q' m' d')) = spCells (l.set i ⟨who', nth', lo', hi', ⟨kind', task', p', n', c', vs'⟩, ⟨code', v', q', m', d', ls'⟩⟩) := by
  have hk := (List.getElem?_eq_some_iff.1 h).1
  have key := flat_set 10 (fun s : DSp => [Value.int .i64 s.who, .int .i64 s.nth, .int .i64 s.lo, .int .i64 s.hi, .int .i64 s.call.kind, .int .u64 s.call.task, .slice s.call.p s.call.n s.call.c, .int .i64 s.res.code, .int .u64 s.res.v, .slice s.res.p s.res.n s.res.c]) (fun _ => rfl)
  have e0 := key l i 0 ⟨who, nth, lo, hi, ⟨kind, task, p, n, c, vs⟩, ⟨code, v, q, m, d, ls⟩⟩ ⟨who', nth, lo, hi, ⟨kind, task, p, n, c, vs⟩, ⟨code, v, q, m, d, ls⟩⟩ (.int .i64 who') h (by omega) rfl
  have e1 := key (l.set i ⟨who', nth, lo, hi, ⟨kind, task, p, n, c, vs⟩, ⟨code, v, q, m, d, ls⟩⟩) i 1 ⟨who', nth, lo, hi, ⟨kind, task, p, n, c, vs⟩, ⟨code, v, q, m, d, ls⟩⟩ ⟨who', nth', lo, hi, ⟨kind, task, p, n, c, vs⟩, ⟨code, v, q, m, d, ls⟩⟩ (.int .i64 nth') (by simp [hk]) (by omega) rfl
  have e2 := key (l.set i ⟨who', nth', lo, hi, ⟨kind, task, p, n, c, vs⟩, ⟨code, v, q, m, d, ls⟩⟩) i 2 ⟨who', nth', lo, hi, ⟨kind, task, p, n, c, vs⟩, ⟨code, v, q, m, d, ls⟩⟩ ⟨who', nth', lo', hi, ⟨kind, task, p, n, c, vs⟩, ⟨code, v, q, m, d, ls⟩⟩ (.int .i64 lo') (by simp [hk]) (by omega) rfl
  have e3 := key (l.set i ⟨who', nth', lo', hi, ⟨kind, task, p, n, c, vs⟩, ⟨code, v, q, m, d, ls⟩⟩) i 3 ⟨who', nth', lo', hi, ⟨kind, task, p, n, c, vs⟩, ⟨code, v, q, m, d, ls⟩⟩ ⟨who', nth', lo', hi', ⟨kind, task, p, n, c, vs⟩, ⟨code, v, q, m, d, ls⟩⟩ (.int .i64 hi') (by simp [hk]) (by omega) rfl
  have e4 := key (l.set i ⟨who', nth', lo', hi', ⟨kind, task, p, n, c, vs⟩, ⟨code, v, q, m, d, ls⟩⟩) i 4 ⟨who', nth', lo', hi', ⟨kind, task, p, n, c, vs⟩, ⟨code, v, q, m, d, ls⟩⟩ ⟨who', nth', lo', hi', ⟨kind', task, p, n, c, vs⟩, ⟨code, v, q, m, d, ls⟩⟩ (.int .i64 kind') (by simp [hk]) (by omega) rfl
  have e5 := key (l.set i ⟨who', nth', lo', hi', ⟨kind', task, p, n, c, vs⟩, ⟨code, v, q, m, d, ls⟩⟩) i 5 ⟨who', nth', lo', hi', ⟨kind', task, p, n, c, vs⟩, ⟨code, v, q, m, d, ls⟩⟩ ⟨who', nth', lo', hi', ⟨kind', task', p, n, c, vs⟩, ⟨code, v, q, m, d, ls⟩⟩ (.int .u64 task') (by simp [hk]) (by omega) rfl
  have e6 := key (l.set i ⟨who', nth', lo', hi', ⟨kind', task', p, n, c, vs⟩, ⟨code, v, q, m, d, ls⟩⟩) i 6 ⟨who', nth', lo', hi', ⟨kind', task', p, n, c, vs⟩, ⟨code, v, q, m, d, ls⟩⟩ ⟨who', nth', lo', hi', ⟨kind', task', p', n', c', vs⟩, ⟨code, v, q, m, d, ls⟩⟩ (.slice p' n' c') (by simp [hk]) (by omega) rfl
  have e7 := key (l.set i ⟨who', nth', lo', hi', ⟨kind', task', p', n', c', vs⟩, ⟨code, v, q, m, d, ls⟩⟩) i 7 ⟨who', nth', lo', hi', ⟨kind', task', p', n', c', vs⟩, ⟨code, v, q, m, d, ls⟩⟩ ⟨who', nth', lo', hi', ⟨kind', task', p', n', c', vs⟩, ⟨code', v, q, m, d, ls⟩⟩ (.int .i64 code') (by simp [hk]) (by omega) rfl
  have e8 := key (l.set i ⟨who', nth', lo', hi', ⟨kind', task', p', n', c', vs⟩, ⟨code', v, q, m, d, ls⟩⟩) i 8 ⟨who', nth', lo', hi', ⟨kind', task', p', n', c', vs⟩, ⟨code', v, q, m, d, ls⟩⟩ ⟨who', nth', lo', hi', ⟨kind', task', p', n', c', vs⟩, ⟨code', v', q, m, d, ls⟩⟩ (.int .u64 v') (by simp [hk]) (by omega) rfl
  have e9 := key (l.set i ⟨who', nth', lo', hi', ⟨kind', task', p', n', c', vs⟩, ⟨code', v', q, m, d, ls⟩⟩) i 9 ⟨who', nth', lo', hi', ⟨kind', task', p', n', c', vs⟩, ⟨code', v', q, m, d, ls⟩⟩ ⟨who', nth', lo', hi', ⟨kind', task', p', n', c', vs'⟩, ⟨code', v', q', m', d', ls'⟩⟩ (.slice q' m' d') (by simp [hk]) (by omega) rfl
  rw [Nat.add_zero] at e0
  unfold spCells
  rw [e0, e1, List.set_set, e2, List.set_set, e3, List.set_set, e4, List.set_set, e5, List.set_set, e6, List.set_set, e7, List.set_set, e8, List.set_set, e9, List.set_set]

set_option maxHeartbeats 1600000 in
theorem diCopied (s : DSp) (w : World) (h1 : s.call.At w) (h2 : s.res.At w) :
    Calls Try.prog 19 #[s.val] w fun e w' => ∃ s', e = .returned s'.val ∧ Copied w.heap.size w' s s' ∧ Keeps [] w w' := by
  obtain ⟨who, nth, lo, hi, ⟨kind, task, p, n, c, vs⟩, ⟨code, v, q, m, d, ls⟩⟩ := s
  obtain ⟨h1, n1⟩ := h1
  obtain ⟨h2, n2⟩ := h2
  simp only [DSp.val] at h1 h2 n1 n2 ⊢
  have C1 := fun W (k : Keeps [] w W) => cloneInts_sl (.slice p n c) n vs W (h1.keeps k (by simp)) (by omega)
  have C2 := fun W (k : Keeps [] w W) => cloneWords_sl (.slice q m d) m ls W (h2.keeps k (by simp)) (by omega)
  have HC1 := Lib.hid C1
  have HC2 := Lib.hid C2
  clear h1 h2 C1 C2
  go_enter Try.func19, Try.ntmps19
  go_wp2_with fail
  have k0 : Keeps [] w ((w.alloc (.cells #[.int .i64 who, .int .i64 nth, .int .i64 lo, .int .i64 hi, .int .i64 kind, .int .u64 task, .slice p n c, .int .i64 code, .int .u64 v, .slice q m d] 41)).alloc (.cells #[.int .i64 0, .int .i64 0, .int .i64 0, .int .i64 0, .int .i64 0, .int .u64 0, .slice none 0 0, .int .i64 0, .int .u64 0, .slice none 0 0] 41)) := ((Keeps.refl _ _).alloc _).alloc _
  have r0 := (Row.new w #[.int .i64 who, .int .i64 nth, .int .i64 lo, .int .i64 hi, .int .i64 kind, .int .u64 task, .slice p n c, .int .i64 code, .int .u64 v, .slice q m d] 41).alloc (.cells #[.int .i64 0, .int .i64 0, .int .i64 0, .int .i64 0, .int .i64 0, .int .u64 0, .slice none 0 0, .int .i64 0, .int .u64 0, .slice none 0 0] 41)
  have r1 := Row.new (w.alloc (.cells #[.int .i64 who, .int .i64 nth, .int .i64 lo, .int .i64 hi, .int .i64 kind, .int .u64 task, .slice p n c, .int .i64 code, .int .u64 v, .slice q m d] 41)) #[.int .i64 0, .int .i64 0, .int .i64 0, .int .i64 0, .int .i64 0, .int .u64 0, .slice none 0 0, .int .i64 0, .int .u64 0, .slice none 0 0] 41
  rw [show (w.alloc (.cells #[.int .i64 who, .int .i64 nth, .int .i64 lo, .int .i64 hi, .int .i64 kind, .int .u64 task, .slice p n c, .int .i64 code, .int .u64 v, .slice q m d] 41)).heap.size = w.heap.size + 1 by simp] at r1
  refine (HC1.out _ k0).mono ?_
  obtain ⟨WA, hWA⟩ : ∃ WA, ((w.alloc (.cells #[.int .i64 who, .int .i64 nth, .int .i64 lo, .int .i64 hi, .int .i64 kind, .int .u64 task, .slice p n c, .int .i64 code, .int .u64 v, .slice q m d] 41)).alloc (.cells #[.int .i64 0, .int .i64 0, .int .i64 0, .int .i64 0, .int .i64 0, .int .u64 0, .slice none 0 0, .int .i64 0, .int .u64 0, .slice none 0 0] 41)) = WA := ⟨_, rfl⟩
  have hx1 : WA.heap[w.heap.size + 1]? = some (.cells #[.int .i64 0, .int .i64 0, .int .i64 0, .int .i64 0, .int .i64 0, .int .u64 0, .slice none 0 0, .int .i64 0, .int .u64 0, .slice none 0 0] 41 (0, 0)) := by
    rw [← hWA]
    have := heap_alloc_new (w.alloc (.cells #[.int .i64 who, .int .i64 nth, .int .i64 lo, .int .i64 hi, .int .i64 kind, .int .u64 task, .slice p n c, .int .i64 code, .int .u64 v, .slice q m d] 41)) (.cells #[.int .i64 0, .int .i64 0, .int .i64 0, .int .i64 0, .int .i64 0, .int .u64 0, .slice none 0 0, .int .i64 0, .int .u64 0, .slice none 0 0] 41)
    simpa using this
  rw [hWA] at k0 r0 r1 ⊢
  have sWA : WA.heap.size = w.heap.size + 2 := by rw [← hWA]; simp
  clear hWA
  rintro e w1 ⟨v1, rfl, o1, k1⟩
  obtain ⟨p1, c1, rfl⟩ := (Sl.of_owns o1).len
  have a0 := r0.keeps k1 (by simp)
  have a1 := r1.keeps k1 (by simp)
  have s1 := k1.size
  have hx2 := (k1.block (w.heap.size + 1) (by omega) (by simp)).trans hx1
  have f6 := a0.frozen 6
  have e6 := a0.cell (j := 6) rfl
  have e9 := a0.cell (j := 9) rfl
  have KW1 := Lib.hid (k0.trans k1)
  have HA0 := Lib.hid a0
  have HA1 := Lib.hid a1
  have HO1 := Lib.hid o1
  clear k0 r0 r1 a0 a1 o1 k1
  go_wp2_with fail
  obtain ⟨W2, hW2⟩ : ∃ W2, w1.setCell ⟨w.heap.size, 6, none⟩ (.slice p1 n c1) = W2 := ⟨_, rfl⟩
  have t2 : Keeps [w.heap.size] w1 W2 := by rw [← hW2]; exact (Keeps.refl _ _).put (by simp) _ _
  have kW2 : Keeps [] w W2 := KW1.out.step t2 (by simp)
  have a0 := HA0.out.set 6 (.slice p1 n c1)
  rw [hW2] at a0
  have a1 := HA1.out.keeps t2 (by simp)
  have o1 := diOwnsKeeps HO1.out t2 (fun g hg hm => by have := (HO1.out.lt g hg).1; simp at hm; omega)
  have HA0 := Lib.hid a0
  have HA1 := Lib.hid a1
  have HO1 := Lib.hid o1
  have sz2 := t2.size
  have hx3 := (t2.block (w.heap.size + 1) (by omega) (by simp)).trans hx2
  rw [hW2]
  clear a0 a1 o1 t2 e6 f6 e9 hW2
  refine (HC2.out _ kW2).mono ?_
  rintro e w3 ⟨v2, rfl, o2, k3⟩
  obtain ⟨p2, c2, rfl⟩ := (Sl.of_owns o2).len
  have a0 := HA0.out.keeps k3 (by simp)
  have a1 := HA1.out.keeps k3 (by simp)
  have o1 := diOwnsKeeps HO1.out k3 (by simp)
  have sz3 := k3.size
  have hx4 := (k3.block (w.heap.size + 1) (by omega) (by simp)).trans hx3
  have d0 := a0.cell (j := 0) rfl
  have d1 := a0.cell (j := 1) rfl
  have d2 := a0.cell (j := 2) rfl
  have d3 := a0.cell (j := 3) rfl
  have d4 := a0.cell (j := 4) rfl
  have d5 := a0.cell (j := 5) rfl
  have d6 := a0.cell (j := 6) rfl
  have d7 := a0.cell (j := 7) rfl
  have d8 := a0.cell (j := 8) rfl
  have d9 := a0.cell (j := 9) rfl
  have g9 := a0.frozen 9
  have b0 := a1.cell (j := 0) rfl
  have b1 := a1.cell (j := 1) rfl
  have b2 := a1.cell (j := 2) rfl
  have b3 := a1.cell (j := 3) rfl
  have b4 := a1.cell (j := 4) rfl
  have b5 := a1.cell (j := 5) rfl
  have b6 := a1.cell (j := 6) rfl
  have b7 := a1.cell (j := 7) rfl
  have b8 := a1.cell (j := 8) rfl
  have b9 := a1.cell (j := 9) rfl
  have fb := fun i => a1.frozen i
  have HKf := Lib.hid (kW2.trans k3)
  have HO1 := Lib.hid o1
  have HO2 := Lib.hid o2
  have HX4 := Lib.hid hx4
  clear a0 a1 o1 o2 k3 kW2 HA0 HA1 hx1 hx2 hx3 hx4
  go_wp2
  have hfin := blk_fill _ _ _ _ _ _ _ _ _ _ (.int .i64 who) (.int .i64 nth) (.int .i64 lo) (.int .i64 hi) (.int .i64 kind) (.int .u64 task) (.slice p1 n c1) (.int .i64 code) (.int .u64 v) (.slice p2 m c2) (blk_other HX4.out (show w.heap.size ≠ w.heap.size + 1 by omega) 9 (.slice p2 m c2))
  have kfin : Keeps [w.heap.size, w.heap.size + 1] w3 _ := (((((((((((Keeps.refl [w.heap.size, w.heap.size + 1] w3).put (by simp : w.heap.size ∈ _) 9 (.slice p2 m c2)).put (by simp : w.heap.size + 1 ∈ _) 0 (.int .i64 who)).put (by simp : w.heap.size + 1 ∈ _) 1 (.int .i64 nth)).put (by simp : w.heap.size + 1 ∈ _) 2 (.int .i64 lo)).put (by simp : w.heap.size + 1 ∈ _) 3 (.int .i64 hi)).put (by simp : w.heap.size + 1 ∈ _) 4 (.int .i64 kind)).put (by simp : w.heap.size + 1 ∈ _) 5 (.int .u64 task)).put (by simp : w.heap.size + 1 ∈ _) 6 (.slice p1 n c1)).put (by simp : w.heap.size + 1 ∈ _) 7 (.int .i64 code)).put (by simp : w.heap.size + 1 ∈ _) 8 (.int .u64 v)).put (by simp : w.heap.size + 1 ∈ _) 9 (.slice p2 m c2)
  have e1 := diOwnsKeeps HO1.out kfin (fun g hg hm => by have := (HO1.out.lt g hg).1; simp at hm; omega)
  have e2 := diOwnsKeeps HO2.out kfin (fun g hg hm => by have := (HO2.out.lt g hg).1; simp at hm; omega)
  (try simp only [Exit.inBlock, Exit.then])
  refine bodyPost_ret (results_cell_row rfl _ _ (w.heap.size + 1) 41 #[.int .i64 who, .int .i64 nth, .int .i64 lo, .int .i64 hi, .int .i64 kind, .int .u64 task, .slice p1 n c1, .int .i64 code, .int .u64 v, .slice p2 m c2] (0, 0) _ rfl hfin Try.underlying41 rfl (by kernel_rfl)) rfl ?_
  have hb : ∀ {e : TypeId} {v : Value} {n : Nat} {xs : List Value} {W : World} {B : Nat}, w.heap.size ≤ B → W.ownsRow B e 1 v n xs → W.ownsRow w.heap.size e 1 v n xs := by
    intro e v n xs W B hC h
    refine ⟨h.1, ?_⟩
    rcases h.2 with h | ⟨g, cap, cur, hv, hb, rest⟩
    · exact .inl h
    · exact .inr ⟨g, cap, cur, hv, Nat.le_trans hC hb, rest⟩
  exact ⟨⟨who, nth, lo, hi, ⟨kind, task, p1, n, c1, vs⟩, ⟨code, v, p2, m, c2, ls⟩⟩, rfl, ⟨rfl, rfl, rfl, rfl, rfl, rfl, rfl, rfl, rfl, rfl, n1, n2, hb (by omega) e1, hb (by omega) e2⟩, HKf.out.step kfin (by simp)⟩
end Go.Proofs.Ytopombnehmfmcaa
