import Derived.Test.YtopombnehmfmcaaOpen
import Derived.Test.YtopombnehmfmcaaDiR
import Derived.Lib.SmallJoins
import Derived.Deep.Slices
import Derived.Deep.Fields
import Derived.ChangeSame
import Derived.ChangeArms
/-
  Events and spans that came in.
-/
namespace Go.Proofs.Ytopombnehmfmcaa
set_option maxRecDepth 100000
set_option linter.unusedSimpArgs false
set_option linter.unusedVariables false
open Go.ChangeShapes Go.WideShapes Go.ChangeAt Go.RowKit Go.Deep Go.Joins

def DCall.Op (w : World) (x : DCall) : Prop := Sl w 1 (.slice x.p x.n x.c) x.n (ints .i64 x.vs) ∧ x.n ≤ maxLen
def DRes.Op (w : World) (x : DRes) : Prop := Sl w 1 (.slice x.p x.n x.c) x.n (ints .u64 x.ls) ∧ x.n ≤ maxLen
def evTen (x : DEv) : List Value := [.int .i64 x.step, .int .i64 x.who, .int .i64 x.nth, .bool x.ends, .int .i64 x.call.kind, .int .u64 x.call.task, .slice x.call.p x.call.n x.call.c, .int .i64 x.res.code, .int .u64 x.res.v, .slice x.res.p x.res.n x.res.c]
def spTen (x : DSp) : List Value := [.int .i64 x.who, .int .i64 x.nth, .int .i64 x.lo, .int .i64 x.hi, .int .i64 x.call.kind, .int .u64 x.call.task, .slice x.call.p x.call.n x.call.c, .int .i64 x.res.code, .int .u64 x.res.v, .slice x.res.p x.res.n x.res.c]
theorem list_of15 {α : Type} (n : Nat) (P : Nat → α → Prop) (h : ∀ i, i < n → ∃ x, P i x) : ∃ xs : List α, xs.length = n ∧ ∀ i x, xs[i]? = some x → P i x := by
  induction n with
  | zero => exact ⟨[], rfl, by simp⟩
  | succ n ih =>
    obtain ⟨xs, hl, hp⟩ := ih fun i hi => h i (by omega)
    obtain ⟨x, hx⟩ := h n (by omega)
    refine ⟨xs ++ [x], by simp [hl], fun i y hy => ?_⟩
    by_cases hi : i < xs.length
    · rw [List.getElem?_append_left hi] at hy; exact hp i y hy
    · rw [List.getElem?_append_right (by omega)] at hy
      have h0 : i - xs.length = 0 := by
        have := (List.getElem?_eq_some_iff.1 hy).1
        simp at this; omega
      rw [h0] at hy
      obtain rfl : x = y := by simpa using hy
      obtain rfl : i = n := by omega
      exact hx
theorem slice_cells {H : Type} {enc : TypeId × Value → H} {P : Program} {W : World} {base : Nat} {spare : Nat → Bool} {held : Bool} {t e : TypeId} {k : IntKind} {fuel : Nat} {v : Value} {x : DataW H × List MemPlace}
    (ht : P.underlying t = some (.slice e)) (he : P.underlying e = some (.int k)) (hc : P.cellsOf e = 1) (h : DataW.trod enc P W base spare held fuel t [v] = some x) :
    ∃ (p : Option Addr) (n c : Nat) (zs : List Int), v = .slice p n c ∧ Sl W 1 (.slice p n c) n (ints k zs) ∧ n ≤ maxLen := by
  obtain ⟨p, n, c, rfl⟩ : ∃ p n c, v = .slice p n c := by
    rcases open_slice ht h with ⟨hcs, _⟩ | ⟨y, l, c, m, n, D, Pl, hcs, _⟩
    · simp at hcs; exact ⟨_, _, _, hcs⟩
    · simp at hcs; exact ⟨_, _, _, hcs⟩
  obtain ⟨zs, h1, h2, _⟩ := sl_ints ht he hc h
  exact ⟨p, n, c, zs, rfl, h1, h2⟩
theorem call_of_cells {H : Type} {enc : TypeId × Value → H} {W : World} {base : Nat} {spare : Nat → Bool} {held : Bool} {n : Nat} {cs : List Value} {y : DataW H × List MemPlace}
    (h : DataW.trod enc Try.prog W base spare held n 27 cs = some y) (hl : cs.length = 3) : ∃ x : DCall, cs = [.int .i64 x.kind, .int .u64 x.task, .slice x.p x.n x.c] ∧ x.Op W := by
  obtain ⟨y0, y1, y2, n', -, -, h0, h1, h2⟩ := trod_struct3 Try.underlying27 h
  rw [show Try.prog.cellsOf 3 = 1 by kernel_rfl] at h0
  rw [show Try.prog.cellsOf 24 = 1 by kernel_rfl] at h1
  rw [show Try.prog.cellsOf 25 = 1 by kernel_rfl] at h2
  match cs, hl with
  | [c0, c1, c2], _ =>
    obtain ⟨z0, e0, -, -⟩ := DataW.trod_int Try.underlying3 h0
    obtain ⟨z1, e1, -, -⟩ := DataW.trod_int Try.underlying24 h1
    obtain ⟨p, m, c, zs, e2, s2, l2⟩ := slice_cells (v := c2) Try.underlying25 Try.underlying3 (by kernel_rfl) (by simpa using h2)
    simp at e0 e1
    subst e0 e1 e2
    exact ⟨⟨z0, z1, p, m, c, zs⟩, rfl, s2, l2⟩
theorem res_of_cells {H : Type} {enc : TypeId × Value → H} {W : World} {base : Nat} {spare : Nat → Bool} {held : Bool} {n : Nat} {cs : List Value} {y : DataW H × List MemPlace}
    (h : DataW.trod enc Try.prog W base spare held n 31 cs = some y) (hl : cs.length = 3) : ∃ x : DRes, cs = [.int .i64 x.code, .int .u64 x.v, .slice x.p x.n x.c] ∧ x.Op W := by
  obtain ⟨y0, y1, y2, n', -, -, h0, h1, h2⟩ := trod_struct3 Try.underlying31 h
  rw [show Try.prog.cellsOf 28 = 1 by kernel_rfl] at h0
  rw [show Try.prog.cellsOf 24 = 1 by kernel_rfl] at h1
  rw [show Try.prog.cellsOf 29 = 1 by kernel_rfl] at h2
  match cs, hl with
  | [c0, c1, c2], _ =>
    obtain ⟨z0, e0, -, -⟩ := DataW.trod_int Try.underlying28 h0
    obtain ⟨z1, e1, -, -⟩ := DataW.trod_int Try.underlying24 h1
    obtain ⟨p, m, c, zs, e2, s2, l2⟩ := slice_cells (v := c2) Try.underlying29 Try.underlying24 (by kernel_rfl) (by simpa using h2)
    simp at e0 e1
    subst e0 e1 e2
    exact ⟨⟨z0, z1, p, m, c, zs⟩, rfl, s2, l2⟩
/-- A api.Event that came in: its ten cells. -/
theorem ev_of_cells {H : Type} {enc : TypeId × Value → H} {W : World} {base : Nat} {spare : Nat → Bool} {held : Bool} {n : Nat} {cs : List Value} {y : DataW H × List MemPlace}
    (h : DataW.trod enc Try.prog W base spare held n 33 cs = some y) (hl : cs.length = 10) : ∃ x : DEv, cs = evTen x ∧ x.call.Op W ∧ x.res.Op W := by
  obtain ⟨xs, n', _, -, -, hlen, hf⟩ := DataW.trod_struct Try.underlying33 h
  match xs, hlen with
  | [y0, y1, y2, y3, y4, y5], _ =>
    have h0 : DataW.trod enc Try.prog W base spare held n' 3 ((cs.drop 0).take (Try.prog.cellsOf 3)) = some y0 := hf 0 _ rfl
    rw [show Try.prog.cellsOf 3 = 1 by kernel_rfl] at h0
    have h1 : DataW.trod enc Try.prog W base spare held n' 3 ((cs.drop 1).take (Try.prog.cellsOf 3)) = some y1 := hf 1 _ rfl
    rw [show Try.prog.cellsOf 3 = 1 by kernel_rfl] at h1
    have h2 : DataW.trod enc Try.prog W base spare held n' 3 ((cs.drop 2).take (Try.prog.cellsOf 3)) = some y2 := hf 2 _ rfl
    rw [show Try.prog.cellsOf 3 = 1 by kernel_rfl] at h2
    have h3 : DataW.trod enc Try.prog W base spare held n' 4 ((cs.drop 3).take (Try.prog.cellsOf 4)) = some y3 := hf 3 _ rfl
    rw [show Try.prog.cellsOf 4 = 1 by kernel_rfl] at h3
    have h4 : DataW.trod enc Try.prog W base spare held n' 27 ((cs.drop 4).take (Try.prog.cellsOf 27)) = some y4 := hf 4 _ rfl
    rw [show Try.prog.cellsOf 27 = 3 by kernel_rfl] at h4
    have h5 : DataW.trod enc Try.prog W base spare held n' 31 ((cs.drop 7).take (Try.prog.cellsOf 31)) = some y5 := hf 5 _ rfl
    rw [show Try.prog.cellsOf 31 = 3 by kernel_rfl] at h5
    match cs, hl with
    | [c0, c1, c2, c3, c4, c5, c6, c7, c8, c9], _ =>
      obtain ⟨z0, e0, -, -⟩ := DataW.trod_int Try.underlying3 h0
      obtain ⟨z1, e1, -, -⟩ := DataW.trod_int Try.underlying3 h1
      obtain ⟨z2, e2, -, -⟩ := DataW.trod_int Try.underlying3 h2
      obtain ⟨z3, e3, -⟩ := DataW.trod_bool Try.underlying4 h3
      obtain ⟨xc, e4, o4⟩ := call_of_cells h4 rfl
      obtain ⟨xr, e5, o5⟩ := res_of_cells h5 rfl
      simp at e0 e1 e2 e3 e4 e5
      obtain ⟨rfl, rfl, rfl⟩ := e4
      obtain ⟨rfl, rfl, rfl⟩ := e5
      subst e0 e1 e2 e3
      exact ⟨⟨z0, z1, z2, z3, xc, xr⟩, rfl, o4, o5⟩

theorem ev_open {H : Type} {enc : TypeId × Value → H} {W : World} {base : Nat} {spare : Nat → Bool} {held : Bool} {t : TypeId} {fuel : Nat} {a : Option Addr} {len cap : Nat} {x : DataW H × List MemPlace}
    (ht : Try.prog.underlying t = some (.slice 33)) (h : DataW.trod enc Try.prog W base spare held fuel t (Value.cells (.slice a len cap)).toList = some x) :
    ∃ xs : List DEv, Sl W 10 (.slice a len cap) len (evCells xs) ∧ xs.length = len ∧ len ≤ maxLen ∧ (∀ x ∈ xs, x.call.Op W ∧ x.res.Op W) ∧ len ≤ cap ∧ cap ≤ maxLen := by
  rcases open_slice ht h with ⟨hcs, _⟩ | ⟨y, l, c, m, n, D, Pl, hcs, _, hlc, hm, hmm, _, hi⟩
  · simp [Value.cells] at hcs
    obtain ⟨rfl, rfl, rfl⟩ := hcs
    exact ⟨[], ⟨rfl, .inl ⟨_, _, rfl, rfl⟩⟩, rfl, Nat.zero_le _, by simp, Nat.le_refl _, Nat.zero_le _⟩
  · simp [Value.cells] at hcs
    obtain ⟨rfl, rfl, rfl⟩ := hcs
    rw [show Try.prog.cellsOf 33 = 10 by kernel_rfl] at hi
    have hlm : len ≤ m := by rw [hmm]; split <;> omega
    obtain ⟨xs, hxl, hxs⟩ := list_of15 len (fun i (x : DEv) => (∀ j u, (evTen x)[j]? = some u → W.cell? ((y.add (i * 10)).add j) = some u) ∧ x.call.Op W ∧ x.res.Op W) fun i hil => by
      obtain ⟨cs', hc, ht'⟩ := hi i (by omega)
      obtain ⟨_, hcl, hat⟩ := World.cells?_some hc
      obtain ⟨x, rfl, hx⟩ := ev_of_cells ht' hcl
      exact ⟨x, fun j u hu => (hat j (by have := (List.getElem?_eq_some_iff.1 hu).1; exact this)).trans hu, hx⟩
    refine ⟨xs, Sl.of_cells (by decide) (by rw [evCells_len, hxl]) (fun i u hu => ?_), hxl, by omega, fun x hx => ?_, hlc, hm⟩
    · have hil : i < xs.length * 10 := by have := (List.getElem?_eq_some_iff.1 hu).1; rwa [evCells_len] at this
      have hq : i / 10 < xs.length := by omega
      have hx := List.getElem?_eq_getElem hq
      have hat := (hxs _ _ hx).1
      have e : (y.add (i / 10 * 10)).add (i % 10) = y.add i := by
        rw [show y.add i = y.add (i / 10 * 10 + i % 10) by congr 1; omega]; exact Go.Deep.add_add _ _ _
      have hm4 : i % 10 < 10 := Nat.mod_lt _ (by omega)
      have hi4 : i = i / 10 * 10 + i % 10 := by omega
      rw [← e]
      refine hat (i % 10) u ?_
      rw [hi4, ev_at xs (i / 10) (i % 10) _ hx hm4] at hu
      exact hu
    · obtain ⟨i, hi', rfl⟩ := List.mem_iff_getElem.1 hx
      exact (hxs i _ (List.getElem?_eq_getElem hi')).2

/-- A api.Span that came in: its ten cells. -/
theorem sp_of_cells {H : Type} {enc : TypeId × Value → H} {W : World} {base : Nat} {spare : Nat → Bool} {held : Bool} {n : Nat} {cs : List Value} {y : DataW H × List MemPlace}
    (h : DataW.trod enc Try.prog W base spare held n 41 cs = some y) (hl : cs.length = 10) : ∃ x : DSp, cs = spTen x ∧ x.call.Op W ∧ x.res.Op W := by
  obtain ⟨xs, n', _, -, -, hlen, hf⟩ := DataW.trod_struct Try.underlying41 h
  match xs, hlen with
  | [y0, y1, y2, y3, y4, y5], _ =>
    have h0 : DataW.trod enc Try.prog W base spare held n' 3 ((cs.drop 0).take (Try.prog.cellsOf 3)) = some y0 := hf 0 _ rfl
    rw [show Try.prog.cellsOf 3 = 1 by kernel_rfl] at h0
    have h1 : DataW.trod enc Try.prog W base spare held n' 3 ((cs.drop 1).take (Try.prog.cellsOf 3)) = some y1 := hf 1 _ rfl
    rw [show Try.prog.cellsOf 3 = 1 by kernel_rfl] at h1
    have h2 : DataW.trod enc Try.prog W base spare held n' 3 ((cs.drop 2).take (Try.prog.cellsOf 3)) = some y2 := hf 2 _ rfl
    rw [show Try.prog.cellsOf 3 = 1 by kernel_rfl] at h2
    have h3 : DataW.trod enc Try.prog W base spare held n' 3 ((cs.drop 3).take (Try.prog.cellsOf 3)) = some y3 := hf 3 _ rfl
    rw [show Try.prog.cellsOf 3 = 1 by kernel_rfl] at h3
    have h4 : DataW.trod enc Try.prog W base spare held n' 27 ((cs.drop 4).take (Try.prog.cellsOf 27)) = some y4 := hf 4 _ rfl
    rw [show Try.prog.cellsOf 27 = 3 by kernel_rfl] at h4
    have h5 : DataW.trod enc Try.prog W base spare held n' 31 ((cs.drop 7).take (Try.prog.cellsOf 31)) = some y5 := hf 5 _ rfl
    rw [show Try.prog.cellsOf 31 = 3 by kernel_rfl] at h5
    match cs, hl with
    | [c0, c1, c2, c3, c4, c5, c6, c7, c8, c9], _ =>
      obtain ⟨z0, e0, -, -⟩ := DataW.trod_int Try.underlying3 h0
      obtain ⟨z1, e1, -, -⟩ := DataW.trod_int Try.underlying3 h1
      obtain ⟨z2, e2, -, -⟩ := DataW.trod_int Try.underlying3 h2
      obtain ⟨z3, e3, -, -⟩ := DataW.trod_int Try.underlying3 h3
      obtain ⟨xc, e4, o4⟩ := call_of_cells h4 rfl
      obtain ⟨xr, e5, o5⟩ := res_of_cells h5 rfl
      simp at e0 e1 e2 e3 e4 e5
      obtain ⟨rfl, rfl, rfl⟩ := e4
      obtain ⟨rfl, rfl, rfl⟩ := e5
      subst e0 e1 e2 e3
      exact ⟨⟨z0, z1, z2, z3, xc, xr⟩, rfl, o4, o5⟩

theorem sp_open {H : Type} {enc : TypeId × Value → H} {W : World} {base : Nat} {spare : Nat → Bool} {held : Bool} {t : TypeId} {fuel : Nat} {a : Option Addr} {len cap : Nat} {x : DataW H × List MemPlace}
    (ht : Try.prog.underlying t = some (.slice 41)) (h : DataW.trod enc Try.prog W base spare held fuel t (Value.cells (.slice a len cap)).toList = some x) :
    ∃ xs : List DSp, Sl W 10 (.slice a len cap) len (spCells xs) ∧ xs.length = len ∧ len ≤ maxLen ∧ (∀ x ∈ xs, x.call.Op W ∧ x.res.Op W) ∧ len ≤ cap ∧ cap ≤ maxLen := by
  rcases open_slice ht h with ⟨hcs, _⟩ | ⟨y, l, c, m, n, D, Pl, hcs, _, hlc, hm, hmm, _, hi⟩
  · simp [Value.cells] at hcs
    obtain ⟨rfl, rfl, rfl⟩ := hcs
    exact ⟨[], ⟨rfl, .inl ⟨_, _, rfl, rfl⟩⟩, rfl, Nat.zero_le _, by simp, Nat.le_refl _, Nat.zero_le _⟩
  · simp [Value.cells] at hcs
    obtain ⟨rfl, rfl, rfl⟩ := hcs
    rw [show Try.prog.cellsOf 41 = 10 by kernel_rfl] at hi
    have hlm : len ≤ m := by rw [hmm]; split <;> omega
    obtain ⟨xs, hxl, hxs⟩ := list_of15 len (fun i (x : DSp) => (∀ j u, (spTen x)[j]? = some u → W.cell? ((y.add (i * 10)).add j) = some u) ∧ x.call.Op W ∧ x.res.Op W) fun i hil => by
      obtain ⟨cs', hc, ht'⟩ := hi i (by omega)
      obtain ⟨_, hcl, hat⟩ := World.cells?_some hc
      obtain ⟨x, rfl, hx⟩ := sp_of_cells ht' hcl
      exact ⟨x, fun j u hu => (hat j (by have := (List.getElem?_eq_some_iff.1 hu).1; exact this)).trans hu, hx⟩
    refine ⟨xs, Sl.of_cells (by decide) (by rw [spCells_len, hxl]) (fun i u hu => ?_), hxl, by omega, fun x hx => ?_, hlc, hm⟩
    · have hil : i < xs.length * 10 := by have := (List.getElem?_eq_some_iff.1 hu).1; rwa [spCells_len] at this
      have hq : i / 10 < xs.length := by omega
      have hx := List.getElem?_eq_getElem hq
      have hat := (hxs _ _ hx).1
      have e : (y.add (i / 10 * 10)).add (i % 10) = y.add i := by
        rw [show y.add i = y.add (i / 10 * 10 + i % 10) by congr 1; omega]; exact Go.Deep.add_add _ _ _
      have hm4 : i % 10 < 10 := Nat.mod_lt _ (by omega)
      have hi4 : i = i / 10 * 10 + i % 10 := by omega
      rw [← e]
      refine hat (i % 10) u ?_
      rw [hi4, sp_at xs (i / 10) (i % 10) _ hx hm4] at hu
      exact hu
    · obtain ⟨i, hi', rfl⟩ := List.mem_iff_getElem.1 hx
      exact (hxs i _ (List.getElem?_eq_getElem hi')).2

end Go.Proofs.Ytopombnehmfmcaa
