import Derived.Test.YtopombnehmfmcaaDiW
import Derived.Test.YtopombnehmfmcaaFresh
import Derived.Deep.RegionHeld3
import Derived.Test.YtopombnehmfmcaaDraw
import Derived.IntWalk
import Derived.StillTailTactics
/-
  A reader of diaries, as it lies in memory.
-/
namespace Go.Proofs.Ytopombnehmfmcaa
set_option maxRecDepth 100000
set_option linter.unusedSimpArgs false
set_option linter.unusedVariables false
open Go.ChangeShapes Go.WideShapes Go.ChangeAt Go.RowKit

def rwCells (ws : List RdW) : List Value := ws.flatMap fun k => [.int .i64 (k.begun : Int), .bool k.opn, .int .i64 (k.last : Int)]
def rdCells (step : Int) (sv : Value) (ws : List RdW) : List Value := .int .i64 step :: sv :: rwCells ws
def spCells (l : List DSp) : List Value := l.flatMap fun s => [.int .i64 s.who, .int .i64 s.nth, .int .i64 s.lo, .int .i64 s.hi, .int .i64 s.call.kind, .int .u64 s.call.task, .slice s.call.p s.call.n s.call.c, .int .i64 s.res.code, .int .u64 s.res.v, .slice s.res.p s.res.n s.res.c]
def evCells (l : List DEv) : List Value := l.flatMap fun s => [.int .i64 s.step, .int .i64 s.who, .int .i64 s.nth, .bool s.ends, .int .i64 s.call.kind, .int .u64 s.call.task, .slice s.call.p s.call.n s.call.c, .int .i64 s.res.code, .int .u64 s.res.v, .slice s.res.p s.res.n s.res.c]

theorem flat_len {α : Type} (n : Nat) (f : α → List Value) (hf : ∀ x, (f x).length = n) (l : List α) : (l.flatMap f).length = l.length * n := by
  induction l with
  | nil => simp
  | cons x l ih => rw [List.flatMap_cons, List.length_append, ih, hf, List.length_cons]; rw [Nat.succ_mul]; omega
theorem flat_at {α : Type} (n : Nat) (f : α → List Value) (hf : ∀ x, (f x).length = n) (l : List α) (i j : Nat) (x : α) (h : l[i]? = some x) (hj : j < n) : (l.flatMap f)[i * n + j]? = (f x)[j]? := by
  induction l generalizing i with
  | nil => simp at h
  | cons y l ih =>
    rw [List.flatMap_cons]
    cases i with
    | zero =>
      obtain rfl : y = x := by simpa using h
      rw [Nat.zero_mul, Nat.zero_add, List.getElem?_append_left (by rw [hf]; exact hj)]
    | succ i =>
      rw [List.getElem?_append_right (by rw [hf, Nat.succ_mul]; omega), hf]
      rw [show (i + 1) * n + j - n = i * n + j by rw [Nat.succ_mul]; omega]
      exact ih i (by simpa using h)
theorem flat_set {α : Type} (n : Nat) (f : α → List Value) (hf : ∀ x, (f x).length = n) (l : List α) (i j : Nat) (x y : α) (u : Value) (h : l[i]? = some x) (hj : j < n) (hu : (f x).set j u = f y) : (l.flatMap f).set (i * n + j) u = (l.set i y).flatMap f := by
  induction l generalizing i with
  | nil => simp at h
  | cons z l ih =>
    cases i with
    | zero =>
      obtain rfl : z = x := by simpa using h
      rw [Nat.zero_mul, Nat.zero_add, List.flatMap_cons, List.set_append, if_pos (by rw [hf]; exact hj), hu]
      simp
    | succ i =>
      rw [List.flatMap_cons, List.set_append, if_neg (by rw [hf, Nat.succ_mul]; omega), hf]
      rw [show (i + 1) * n + j - n = i * n + j by rw [Nat.succ_mul]; omega]
      rw [ih i (by simpa using h), List.set_cons_succ, List.flatMap_cons]

theorem spCells_len (l : List DSp) : (spCells l).length = l.length * 10 := flat_len 10 _ (fun _ => rfl) l
theorem evCells_len (l : List DEv) : (evCells l).length = l.length * 10 := flat_len 10 _ (fun _ => rfl) l


theorem diOwnsKeeps {w w' : World} {S : List Nat} {B size n : Nat} {e : TypeId} {v : Value} {xs : List Value} (h : w.ownsRow B e size v n xs) (hk : Keeps S w w') (hS : ∀ g, v.ownBlock = some g → g ∉ S) : w'.ownsRow B e size v n xs := by
  have hlt := h.lt
  refine ⟨h.1, ?_⟩
  rcases h.2 with h | ⟨g, cap, cur, hv, hb, hg, rest⟩
  · exact .inl h
  · subst hv
    exact .inr ⟨g, cap, cur, rfl, hb, (hk.block g (hlt g rfl).2 (hS g rfl)).trans hg, rest⟩
theorem Keeps.put {S : List Nat} {a w : World} (h : Keeps S a w) {m : Nat} (hm : m ∈ S) (o : Nat) (u : Value) : Keeps S a (w.setCell ⟨m, o, none⟩ u) := h.setCell (fun _ => hm) u
theorem elemSp : Elem Try.prog 41 (.agg #[.int .i64 0, .int .i64 0, .int .i64 0, .int .i64 0, .int .i64 0, .int .u64 0, .slice none 0 0, .int .i64 0, .int .u64 0, .slice none 0 0]) 10 112 := ⟨by kernel_rfl, rfl, by decide, by decide⟩
theorem spCells_snoc (l : List DSp) (s : DSp) : spCells (l ++ [s]) = spCells l ++ [.int .i64 s.who, .int .i64 s.nth, .int .i64 s.lo, .int .i64 s.hi, .int .i64 s.call.kind, .int .u64 s.call.task, .slice s.call.p s.call.n s.call.c, .int .i64 s.res.code, .int .u64 s.res.v, .slice s.res.p s.res.n s.res.c] := by
  simp [spCells, List.flatMap_append]
/-- A worker's three cells are stored. -/
theorem rwCells_set (ws : List RdW) (k : Nat) (x y : RdW) (h : ws[k]? = some x) : (((rwCells ws).set (k * 3) (.int .i64 (y.begun : Int))).set (k * 3 + 1) (.bool y.opn)).set (k * 3 + 2) (.int .i64 (y.last : Int)) = rwCells (ws.set k y) := by
  obtain ⟨a, b, c⟩ := x
  obtain ⟨a', b', c'⟩ := y
  have hk := (List.getElem?_eq_some_iff.1 h).1
  have e0 := flat_set 3 (fun k : RdW => [Value.int .i64 (k.begun : Int), .bool k.opn, .int .i64 (k.last : Int)]) (fun _ => rfl) ws k 0 ⟨a, b, c⟩ ⟨a', b, c⟩ (.int .i64 (a' : Int)) h (by omega) rfl
  have e1 := flat_set 3 (fun k : RdW => [Value.int .i64 (k.begun : Int), .bool k.opn, .int .i64 (k.last : Int)]) (fun _ => rfl) (ws.set k ⟨a', b, c⟩) k 1 ⟨a', b, c⟩ ⟨a', b', c⟩ (.bool b') (by simp [hk]) (by omega) rfl
  have e2 := flat_set 3 (fun k : RdW => [Value.int .i64 (k.begun : Int), .bool k.opn, .int .i64 (k.last : Int)]) (fun _ => rfl) ((ws.set k ⟨a', b, c⟩).set k ⟨a', b', c⟩) k 2 ⟨a', b', c⟩ ⟨a', b', c'⟩ (.int .i64 (c' : Int)) (by simp [hk]) (by omega) rfl
  rw [Nat.add_zero] at e0
  unfold rwCells
  rw [e0, e1, e2]
  simp

theorem DRes.none_at (w : World) : DRes.none.At w := ⟨⟨rfl, .inl ⟨_, _, rfl, rfl⟩⟩, by simp [DRes.none]⟩

/-- A reader in the world w: W0 is the world in which it was made. -/
structure RdAt (W0 w : World) (R : Nat) (s : Rd) (sv : Value) : Prop where
  bel : Below W0.heap.size W0 w
  row : Row w R 51 (rdCells s.step sv s.ws)
  own : w.ownsRow W0.heap.size 41 10 sv s.sps.length (spCells s.sps)
  new : W0.heap.size ≤ R
  apart : sv.ownBlock ≠ some R
  at_ : ∀ x ∈ s.sps, x.call.At W0 ∧ x.res.At W0

theorem RdAt.keeps {W0 w w' : World} {R : Nat} {s : Rd} {sv : Value} (h : RdAt W0 w R s sv) (k : Keeps [] w w') : RdAt W0 w' R s sv :=
  ⟨h.bel.trans (k.below h.bel.size (by simp)), h.row.keeps k (by simp), owns_below h.own (k.below (Nat.le_refl _) (by simp)) (Nat.le_refl _), h.new, h.apart, h.at_⟩

end Go.Proofs.Ytopombnehmfmcaa
