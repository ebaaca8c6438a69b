import Derived.Test.YtjbgkaleickknaaGreatCells
import Derived.Test.YtjbgkaleickknaaGreatOpen
import Derived.Lib.SmallJoins
import Derived.Deep.Slices
import Derived.Deep.Fields
import Derived.ChangeSame
/-
  Arguments that came in: accesses by value, and slices of accesses.
-/
namespace Go.Proofs.YtjbgkaleickknaaGreat
set_option maxRecDepth 100000
set_option linter.unusedSimpArgs false
set_option linter.unusedVariables false
open Go Go.RowKit Go.ChangeShapes Go.WideShapes Go.Deep Go.Joins

theorem list_of {α : Type} (n : Nat) (P : Nat → α → Prop) (h : ∀ i, i < n → ∃ x, P i x) : ∃ xs : List α, xs.length = n ∧ ∀ i x, xs[i]? = some x → P i x := by
  induction n with
  | zero => exact ⟨[], rfl, by simp⟩
  | succ n ih =>
    obtain ⟨xs, hl, hp⟩ := ih fun i hi => h i (by omega)
    obtain ⟨x, hx⟩ := h n (by omega)
    refine ⟨xs ++ [x], by simp [hl], fun i y hy => ?_⟩
    by_cases hi : i < xs.length
    · rw [List.getElem?_append_left hi] at hy; exact hp i y hy
    · rw [List.getElem?_append_right (by omega)] at hy
      have h0 : i - xs.length = 0 := by
        have := (List.getElem?_eq_some_iff.1 hy).1
        simp at this; omega
      rw [h0] at hy
      obtain rfl : x = y := by simpa using hy
      obtain rfl : i = n := by omega
      exact hx

/-- Accesses as cells. -/
def accs (xs : List C.Acc) : List Value := xs.flatMap fun x => [.int .i64 x.k, .int .i64 x.c, .int .u64 x.a, .int .u64 x.b]
theorem accs_len (xs : List C.Acc) : (accs xs).length = xs.length * 4 := by
  induction xs with
  | nil => rfl
  | cons x xs ih => unfold accs at ih ⊢; rw [List.flatMap_cons, List.length_append, ih]; simp; omega
theorem accs_at (xs : List C.Acc) (i : Nat) (x : C.Acc) (h : xs[i]? = some x) :
    (accs xs)[i * 4]? = some (.int .i64 x.k) ∧ (accs xs)[i * 4 + 1]? = some (.int .i64 x.c) ∧ (accs xs)[i * 4 + 2]? = some (.int .u64 x.a) ∧ (accs xs)[i * 4 + 3]? = some (.int .u64 x.b) := by
  induction xs generalizing i with
  | nil => simp at h
  | cons y ys ih =>
    cases i with
    | zero => obtain rfl : y = x := by simpa using h
              simp [accs]
    | succ i =>
      have := ih i (by simpa using h)
      have e : ∀ j, (accs (y :: ys))[(i + 1) * 4 + j]? = (accs ys)[i * 4 + j]? := fun j => by
        unfold accs
        rw [List.flatMap_cons, List.getElem?_append_right (by simp; omega)]
        congr 1
        simp; omega
      refine ⟨?_, ?_, ?_, ?_⟩
      · exact (e 0).trans this.1
      · exact (e 1).trans this.2.1
      · exact (e 2).trans this.2.2.1
      · exact (e 3).trans this.2.2.2

theorem open_acc {H : Type} {enc : TypeId × Value → H} {W : World} {base : Nat} {spare : Nat → Bool} {held : Bool} {r : Reach} {b0 : Nat} {v : Value} {d : DataW H} {p : List MemPlace}
    (hv : Value.okWide Tryz.prog W r b0 68 v) (h : DataW.Trod enc Tryz.prog W base spare held 68 v d p) :
    ∃ x : C.Acc, v = .agg #[.int .i64 x.k, .int .i64 x.c, .int .u64 x.a, .int .u64 x.b] ∧ x.ok := by
  obtain ⟨v0, v1, v2, v3, y0, y1, y2, y3, n, rfl, -, -, h0, h1, h2, h3⟩ := open_agg4 Tryz.underlying68 (by kernel_rfl) (by kernel_rfl) hv h
  obtain ⟨z0, e0, -, w0⟩ := DataW.trod_int Tryz.underlying3 h0
  obtain ⟨z1, e1, -, w1⟩ := DataW.trod_int Tryz.underlying3 h1
  obtain ⟨z2, e2, -, w2⟩ := DataW.trod_int Tryz.underlying34 h2
  obtain ⟨z3, e3, -, w3⟩ := DataW.trod_int Tryz.underlying34 h3
  simp only [List.cons.injEq, and_true] at e0 e1 e2 e3
  subst e0 e1 e2 e3
  exact ⟨⟨z0, z1, z2, z3⟩, rfl, M.U.wf w2, M.U.wf w3⟩

theorem acc_of_cells {H : Type} {enc : TypeId × Value → H} {W : World} {base : Nat} {spare : Nat → Bool} {held : Bool} {n : Nat} {cs : List Value} {y : DataW H × List MemPlace}
    (h : DataW.trod enc Tryz.prog W base spare held n 68 cs = some y) (hl : cs.length = 4) :
    ∃ x : C.Acc, cs = [.int .i64 x.k, .int .i64 x.c, .int .u64 x.a, .int .u64 x.b] ∧ x.ok := by
  obtain ⟨y0, y1, y2, y3, n', -, -, h0, h1, h2, h3⟩ := trod_struct4 Tryz.underlying68 h
  rw [show Tryz.prog.cellsOf 3 = 1 by kernel_rfl] at h0 h1
  rw [show Tryz.prog.cellsOf 34 = 1 by kernel_rfl] at h2 h3
  match cs, hl with
  | [c0, c1, c2, c3], _ =>
    obtain ⟨z0, e0, -, w0⟩ := DataW.trod_int Tryz.underlying3 h0
    obtain ⟨z1, e1, -, w1⟩ := DataW.trod_int Tryz.underlying3 h1
    obtain ⟨z2, e2, -, w2⟩ := DataW.trod_int Tryz.underlying34 h2
    obtain ⟨z3, e3, -, w3⟩ := DataW.trod_int Tryz.underlying34 h3
    simp at e0 e1 e2 e3
    subst e0 e1 e2 e3
    exact ⟨⟨z0, z1, z2, z3⟩, rfl, M.U.wf w2, M.U.wf w3⟩

theorem sl_accs {H : Type} {enc : TypeId × Value → H} {W : World} {base : Nat} {spare : Nat → Bool} {held : Bool} {t : TypeId} {fuel : Nat} {a : Option Addr} {len cap : Nat} {x : DataW H × List MemPlace}
    (ht : Tryz.prog.underlying t = some (.slice 68)) (h : DataW.trod enc Tryz.prog W base spare held fuel t (Value.cells (.slice a len cap)).toList = some x) :
    ∃ xs : List C.Acc, Sl W 4 (.slice a len cap) len (accs xs) ∧ xs.length = len ∧ len ≤ maxLen ∧ ∀ x ∈ xs, x.ok := by
  rcases open_slice ht h with ⟨hcs, _⟩ | ⟨y, l, c, m, n, D, Pl, hcs, _, hlc, hm, hmm, _, hi⟩
  · simp [Value.cells] at hcs
    obtain ⟨rfl, rfl, rfl⟩ := hcs
    exact ⟨[], ⟨rfl, .inl ⟨_, _, rfl, rfl⟩⟩, rfl, Nat.zero_le _, by simp⟩
  · simp [Value.cells] at hcs
    obtain ⟨rfl, rfl, rfl⟩ := hcs
    rw [show Tryz.prog.cellsOf 68 = 4 by kernel_rfl] at hi
    have hlm : len ≤ m := by rw [hmm]; split <;> omega
    obtain ⟨xs, hxl, hxs⟩ := list_of len (fun i (x : C.Acc) => (∀ j u, [Value.int .i64 x.k, .int .i64 x.c, .int .u64 x.a, .int .u64 x.b][j]? = some u → W.cell? ((y.add (i * 4)).add j) = some u) ∧ x.ok) fun i hil => by
      obtain ⟨cs', hc, ht'⟩ := hi i (by omega)
      obtain ⟨_, hcl, hat⟩ := World.cells?_some hc
      obtain ⟨x, rfl, hx⟩ := acc_of_cells ht' hcl
      exact ⟨x, fun j u hu => (hat j (by have := (List.getElem?_eq_some_iff.1 hu).1; simpa using this)).trans hu, hx⟩
    refine ⟨xs, Sl.of_cells (by decide) (by rw [accs_len, hxl]) (fun i u hu => ?_), hxl, by omega, fun x hx => ?_⟩
    · have hil : i < xs.length * 4 := by have := (List.getElem?_eq_some_iff.1 hu).1; rwa [accs_len] at this
      have hq : i / 4 < xs.length := by omega
      have hx := List.getElem?_eq_getElem hq
      have hat := (hxs _ _ hx).1
      have hacc := accs_at xs (i / 4) _ hx
      have e : (y.add (i / 4 * 4)).add (i % 4) = y.add i := by
        rw [show y.add i = y.add (i / 4 * 4 + i % 4) by congr 1; omega]; exact Go.Deep.add_add _ _ _
      have hm4 : i % 4 < 4 := Nat.mod_lt _ (by omega)
      have hi4 : i = i / 4 * 4 + i % 4 := by omega
      rw [← e]
      refine hat (i % 4) u ?_
      rw [hi4] at hu
      rcases (show i % 4 = 0 ∨ i % 4 = 1 ∨ i % 4 = 2 ∨ i % 4 = 3 by omega) with h4 | h4 | h4 | h4 <;> rw [h4] at hu ⊢
      · rw [Nat.add_zero, hacc.1] at hu; exact hu
      · rw [hacc.2.1] at hu; exact hu
      · rw [hacc.2.2.1] at hu; exact hu
      · rw [hacc.2.2.2] at hu; exact hu
    · obtain ⟨i, hi', rfl⟩ := List.mem_iff_getElem.1 hx
      exact (hxs i _ (List.getElem?_eq_getElem hi')).2
end Go.Proofs.YtjbgkaleickknaaGreat
