import Derived.WalkKit
import Derived.ProofKit
import Derived.OpenShut
import Derived.Deep.QuietTactic
import Derived.BigQuiet
import Derived.Lib.Hide
import Derived.Laws.AppendOwn
import Derived.Laws.MakeOwn
import Derived.OwnWalk
import Derived.Laws.CopyOwn
/-
  Small lemmas for the walks.
-/
namespace Go.Proofs.Ytopombnehmfmcaa
set_option maxRecDepth 100000
set_option linter.unusedSimpArgs false
set_option linter.unusedVariables false
open Go

theorem ret_bool {a b : Bool} (h : a = b) : Ending.returned (.bool a) = .returned (.bool b) := by rw [h]

theorem dn2 (w : World) (a b : Nat) : ∃ m, w.drewN m = (w.drewN a).drewN b := ⟨a + b, (World.drewN_drewN ..).symm⟩
end Go.Proofs.Ytopombnehmfmcaa

/-
  Slices that are read: where their cells lie.
-/
namespace Go.Proofs.Ytopombnehmfmcaa
set_option maxRecDepth 100000
set_option linter.unusedSimpArgs false
set_option linter.unusedVariables false
open Go Go.RowKit

/-- The slice v has n elements of 'size' cells each, which hold xs. -/
def Sl (w : World) (size : Nat) (v : Value) (n : Nat) (xs : List Value) : Prop :=
  xs.length = n * size ∧ ((∃ p cap, v = .slice p 0 cap ∧ n = 0) ∨
   ∃ b off cap, v = .slice (some ⟨b, off, none⟩) n cap ∧ b < w.heap.size ∧ ∀ j u, xs[j]? = some u → w.cell? ⟨b, off + j, none⟩ = some u)

theorem Sl.drewN {w : World} {size n m : Nat} {v : Value} {xs : List Value} (h : Sl w size v n xs) : Sl (w.drewN m) size v n xs := h

theorem Sl.below {w w' : World} {B size n : Nat} {v : Value} {xs : List Value} (h : Sl w size v n xs) (hb : Below B w w') (hB : w.heap.size ≤ B) : Sl w' size v n xs := by
  refine ⟨h.1, ?_⟩
  rcases h.2 with h | ⟨b, off, cap, hv, hs, hc⟩
  · exact .inl h
  · exact .inr ⟨b, off, cap, hv, Nat.lt_of_lt_of_le hs hb.size, fun j u hu => (hb.cell (p := ⟨b, off + j, none⟩) (Nat.lt_of_lt_of_le hs hB)).trans (hc j u hu)⟩

theorem Sl.len {w : World} {size n : Nat} {v : Value} {xs : List Value} (h : Sl w size v n xs) : ∃ p cap, v = .slice p n cap := by
  rcases h.2 with ⟨p, cap, rfl, rfl⟩ | ⟨b, off, cap, rfl, _⟩
  · exact ⟨p, cap, rfl⟩
  · exact ⟨_, cap, rfl⟩

theorem Sl.some {w : World} {size n : Nat} {v : Value} {xs : List Value} (h : Sl w size v n xs) (hn : 0 < n) :
    ∃ b off cap, v = .slice (some ⟨b, off, none⟩) n cap ∧ b < w.heap.size ∧ ∀ j u, xs[j]? = some u → w.cell? ⟨b, off + j, none⟩ = some u := by
  rcases h.2 with ⟨p, cap, rfl, rfl⟩ | h
  · omega
  · exact h

/-- A row that a call owns is a slice that can be read. -/
theorem Sl.of_owns {w : World} {base size n : Nat} {e : TypeId} {v : Value} {xs : List Value} (h : w.ownsRow base e size v n xs) : Sl w size v n xs := by
  refine ⟨h.1, ?_⟩
  rcases h.2 with ⟨rfl, rfl⟩ | ⟨g, cap, cur, rfl, hb, hg, _⟩
  · exact .inl ⟨_, _, rfl, rfl⟩
  · refine .inr ⟨g, 0, cap, rfl, (h.lt g rfl).2, fun j u hu => ?_⟩
    have := h.cells (g := g) rfl j u hu
    unfold Addr.add at this
    split at this
    · subst_vars; simpa using this
    · exact this

/-- An owned row is kept below a later base. -/
theorem owns_below {w w' : World} {base B size n : Nat} {e : TypeId} {v : Value} {xs : List Value} (h : w.ownsRow base e size v n xs) (hb : Below B w w') (hB : w.heap.size ≤ B) : w'.ownsRow base e size v n xs := by
  refine ⟨h.1, ?_⟩
  rcases h.2 with hn | ⟨g, cap, cur, rfl, hb', hg, rest⟩
  · exact .inl hn
  · refine .inr ⟨g, cap, cur, rfl, hb', ?_, rest⟩
    rw [hb.block g (Nat.lt_of_lt_of_le (Array.getElem?_eq_some_iff.1 hg).1 hB)]
    exact hg

/-- A list of numbers, as cells. -/
def ints (k : IntKind) (zs : List Int) : List Value := zs.map (Value.int k)
theorem ints_length (k : IntKind) (zs : List Int) : (ints k zs).length = zs.length := by simp [ints]
theorem ints_at {k : IntKind} {zs : List Int} {j : Nat} (h : j < zs.length) : (ints k zs)[j]? = some (.int k (zs.getD j 0)) := by
  simp [ints, h]
theorem Sl.ints_len {w : World} {n : Nat} {v : Value} {k : IntKind} {zs : List Int} (h : Sl w 1 v n (ints k zs)) : zs.length = n := by
  have := h.1; rw [ints_length] at this; omega

theorem take_eq_step {zs ys : List Int} {k : Nat} (h : zs.take k = ys.take k) (hz : k < zs.length) (hy : k < ys.length) (he : zs.getD k 0 = ys.getD k 0) : zs.take (k + 1) = ys.take (k + 1) := by
  rw [List.take_succ_eq_append_getElem hz, List.take_succ_eq_append_getElem hy, h]
  congr 2
  simpa [hz, hy] using he
theorem ne_of_at {zs ys : List Int} {k : Nat} (he : zs.getD k 0 ≠ ys.getD k 0) : zs ≠ ys := fun h => he (by rw [h])

/-- An element type: its zero, its cells, its bytes. -/
def Elem (P : Program) (e : TypeId) (z : Value) (size bytes : Nat) : Prop :=
  (P.info? e).map (fun i => (i.zero, i.size, i.bytes)) = some (some z, size, bytes) ∧ z.cells.size = size ∧ 0 < size ∧ 0 < bytes

theorem Elem.parts {P : Program} {e : TypeId} {z : Value} {size bytes : Nat} (h : Elem P e z size bytes) :
    ∃ i, P.info? e = some i ∧ i.zero = some z ∧ i.size = size ∧ i.bytes = bytes := by
  obtain ⟨h, _⟩ := h
  cases hi : P.info? e with
  | none => rw [hi] at h; cases h
  | some i =>
    rw [hi] at h
    simp only [Option.map_some, Option.some.injEq, Prod.mk.injEq] at h
    exact ⟨i, rfl, h.1, h.2.1, h.2.2⟩

theorem belowD {w w' : World} {B n : Nat} (h : Below B w w') : Below B w (w'.drewN n) := by
  induction n with
  | zero => exact h
  | succ n ih => exact ih.drew
theorem owns_empty (w : World) (e : TypeId) (size : Nat) : (w.alloc (.cells #[] e)).ownsRow w.heap.size e size (.slice (some ⟨w.heap.size, 0, none⟩) 0 0) 0 [] :=
  World.ownsRow_made w #[] 0 (Nat.le_refl _) (Nat.zero_le _) (by simp)

/-- A literal's block is a slice that can be read. -/
theorem Sl.lit (w : World) (C : Array Value) (e : TypeId) (size n cap : Nat) (h : C.size = n * size) : Sl (w.alloc (.cells C e)) size (.slice (Option.some ⟨w.heap.size, 0, none⟩) n cap) n C.toList := by
  refine ⟨by simpa using h, .inr ⟨w.heap.size, 0, cap, rfl, by simp, fun j u hu => ?_⟩⟩
  rw [Nat.zero_add, World.cell?_alloc_at _ _ _ _ rfl]
  simpa using hu
end Go.Proofs.Ytopombnehmfmcaa

/-
  Worlds that keep all blocks but some; rows of cells that can be read and written.
-/
namespace Go.Proofs.Ytopombnehmfmcaa
set_option maxRecDepth 100000
set_option linter.unusedSimpArgs false
set_option linter.unusedVariables false
open Go Go.RowKit

/-- All blocks that were there are as they were, but for those of S. -/
structure Keeps (S : List Nat) (w w' : World) : Prop where
  os : w'.os = w.os
  tape : w'.tape = w.tape
  output : w'.output = w.output
  size : w.heap.size ≤ w'.heap.size
  block : ∀ k, k < w.heap.size → k ∉ S → w'.heap[k]? = w.heap[k]?

theorem Keeps.refl (S : List Nat) (w : World) : Keeps S w w := ⟨rfl, rfl, rfl, Nat.le_refl _, fun _ _ _ => rfl⟩
theorem Keeps.trans {S : List Nat} {a b c : World} (h : Keeps S a b) (k : Keeps S b c) : Keeps S a c :=
  ⟨k.os.trans h.os, k.tape.trans h.tape, k.output.trans h.output, Nat.le_trans h.size k.size, fun i hi hn => (k.block i (Nat.lt_of_lt_of_le hi h.size) hn).trans (h.block i hi hn)⟩
/-- What counts is which old blocks are named. -/
theorem Keeps.mono {S T : List Nat} {w w' : World} (h : Keeps S w w') (hs : ∀ k ∈ S, k < w.heap.size → k ∈ T) : Keeps T w w' :=
  ⟨h.os, h.tape, h.output, h.size, fun k hk hn => h.block k hk fun hm => hn (hs k hm hk)⟩
theorem Keeps.nil {S : List Nat} {w w' : World} (h : Keeps [] w w') : Keeps S w w' := h.mono (by simp)
theorem Keeps.drew {S : List Nat} {a w : World} (h : Keeps S a w) : Keeps S a w.drew := ⟨h.os, h.tape, h.output, h.size, h.block⟩
theorem Keeps.drewN {S : List Nat} {a w : World} {n : Nat} (h : Keeps S a w) : Keeps S a (w.drewN n) := ⟨h.os, h.tape, h.output, h.size, h.block⟩
theorem Keeps.undrewN {S : List Nat} {a w : World} {n : Nat} (h : Keeps S (a.drewN n) w) : Keeps S a w := ⟨h.os, h.tape, h.output, h.size, h.block⟩
theorem Keeps.undrew {S : List Nat} {a w : World} (h : Keeps S a.drew w) : Keeps S a w := ⟨h.os, h.tape, h.output, h.size, h.block⟩
theorem Keeps.alloc {S : List Nat} {a w : World} (h : Keeps S a w) (o : Obj) : Keeps S a (w.alloc o) :=
  h.trans ⟨rfl, rfl, rfl, by simp, fun k hk _ => Below.heap_alloc _ _ _ hk⟩
/-- A store into a block that is named, or is newer. -/
theorem Keeps.setCell {S : List Nat} {a w : World} (h : Keeps S a w) {p : Addr} (hp : p.block < a.heap.size → p.block ∈ S) (u : Value) : Keeps S a (w.setCell p u) := by
  refine ⟨h.os, h.tape, h.output, by simpa using h.size, fun k hk hn => ?_⟩
  rw [Below.heap_setCell _ _ _ _ (fun e => by subst e; exact hn (hp hk))]
  exact h.block k hk hn
theorem Keeps.grown {S : List Nat} {a w w' : World} {row : Option Nat} (h : Keeps S a w) (hg : w.grownBy w' row) (hr : ∀ k, row = some k → k < a.heap.size → k ∈ S) : Keeps S a w' :=
  ⟨hg.os.trans h.os, hg.tape.trans h.tape, hg.output.trans h.output, Nat.le_trans h.size hg.size, fun k hk hn =>
    (hg.block k (Nat.lt_of_lt_of_le hk h.size) (fun e => hn (hr k e.symm hk))).trans (h.block k hk hn)⟩
theorem Keeps.cell {S : List Nat} {w w' : World} (h : Keeps S w w') {p : Addr} (hp : p.block < w.heap.size) (hn : p.block ∉ S) : w'.cell? p = w.cell? p := World.cell?_of_block (w := w) (h.block p.block hp hn)
theorem Keeps.frozen {S : List Nat} {w w' : World} (h : Keeps S w w') {p : Addr} (hp : p.block < w.heap.size) (hn : p.block ∉ S) : w'.frozen? p = w.frozen? p := World.frozen?_of_block (w := w) (h.block p.block hp hn)
/-- All that is named is from B on. -/
theorem Keeps.below {S : List Nat} {w w' : World} {B : Nat} (h : Keeps S w w') (hB : B ≤ w.heap.size) (hs : ∀ k ∈ S, B ≤ k) : Below B w w' :=
  ⟨h.os, h.tape, h.output, h.size, fun k hk => h.block k (Nat.lt_of_lt_of_le hk hB) fun hm => by have := hs k hm; omega⟩
theorem Keeps.of_below {w w' : World} {B : Nat} (h : Below B w w') (hB : w.heap.size ≤ B) : Keeps [] w w' :=
  ⟨h.os, h.tape, h.output, h.size, fun k hk _ => h.block k (Nat.lt_of_lt_of_le hk hB)⟩
theorem Keeps.of_drewN (w : World) (n : Nat) : Keeps [] w (w.drewN n) := (Keeps.refl _ _).drewN

/-- The first cells of block b, which is no constant, hold xs. -/
def Row (w : World) (b : Nat) (e : TypeId) (xs : List Value) : Prop := ∃ cur : Array Value, w.heap[b]? = some (.cells cur e (0, 0)) ∧ cur.toList.take xs.length = xs

theorem Row.lt {w : World} {b : Nat} {e : TypeId} {xs : List Value} (h : Row w b e xs) : b < w.heap.size := by
  obtain ⟨cur, h, _⟩ := h
  exact (Array.getElem?_eq_some_iff.1 h).1
theorem Row.keeps {S : List Nat} {w w' : World} {b : Nat} {e : TypeId} {xs : List Value} (h : Row w b e xs) (hk : Keeps S w w') (hn : b ∉ S) : Row w' b e xs := by
  have hlt := h.lt
  obtain ⟨cur, h, ht⟩ := h
  exact ⟨cur, (hk.block b hlt hn).trans h, ht⟩
theorem Row.alloc {w : World} {b : Nat} {e : TypeId} {xs : List Value} (h : Row w b e xs) (o : Obj) : Row (w.alloc o) b e xs := h.keeps ((Keeps.refl [] w).alloc o) (by simp)
theorem Row.cell {w : World} {b : Nat} {e : TypeId} {xs : List Value} (h : Row w b e xs) {j : Nat} {u : Value} (hu : xs[j]? = some u) : w.cell? ⟨b, j, none⟩ = some u := by
  obtain ⟨cur, h, ht⟩ := h
  rw [cell_of_row w b j cur e (0, 0) h]
  rw [← ht, List.getElem?_take] at hu
  split at hu
  · simpa using hu
  · cases hu
theorem Row.frozen {w : World} {b : Nat} {e : TypeId} {xs : List Value} (h : Row w b e xs) (j : Nat) : w.frozen? ⟨b, j, none⟩ = false := by
  obtain ⟨cur, h, _⟩ := h
  simp [World.frozen?, h]
theorem Row.set {w : World} {b : Nat} {e : TypeId} {xs : List Value} (h : Row w b e xs) (i : Nat) (u : Value) : Row (w.setCell ⟨b, i, none⟩ u) b e (xs.set i u) := by
  obtain ⟨cur, h, ht⟩ := h
  refine ⟨cur.setIfInBounds i u, ?_, ?_⟩
  · have hlt := (Array.getElem?_eq_some_iff.1 h).1
    have hv := (Array.getElem?_eq_some_iff.1 h).2
    simp only [World.setCell]
    rw [Array.getElem?_eq_getElem (by simpa using hlt), Array.getElem_modify]
    simp [hv]
  · rw [List.length_set, Array.toList_setIfInBounds, List.take_set, ht]
theorem Row.new (w : World) (C : Array Value) (e : TypeId) : Row (w.alloc (.cells C e)) w.heap.size e C.toList :=
  ⟨C, heap_alloc_new w _, by rw [List.take_of_length_le (Nat.le_refl _)]⟩
theorem Row.of_owns {w : World} {base size n g cap : Nat} {e : TypeId} {xs : List Value} (h : w.ownsRow base e size (.slice (some ⟨g, 0, none⟩) n cap) n xs) : Row w g e xs := by
  rcases h.2 with ⟨h1, _⟩ | ⟨g', cap', cur, h1, hb, hg, _, _, hs, ht⟩
  · cases h1
  · cases h1
    exact ⟨cur, hg, by rw [h.1, ht]⟩
theorem Row.sl {w : World} {b : Nat} {e : TypeId} {xs : List Value} {size n cap : Nat} (h : Row w b e xs) (hl : xs.length = n * size) : Sl w size (.slice (some ⟨b, 0, none⟩) n cap) n xs :=
  ⟨hl, .inr ⟨b, 0, cap, rfl, h.lt, fun j u hu => by rw [Nat.zero_add]; exact h.cell hu⟩⟩
theorem Row.take {w : World} {b : Nat} {e : TypeId} {xs ys : List Value} (h : Row w b e (xs ++ ys)) : Row w b e xs := by
  obtain ⟨cur, h, ht⟩ := h
  refine ⟨cur, h, ?_⟩
  have := congrArg (List.take xs.length) ht
  rw [List.take_take, List.take_left, List.length_append, Nat.min_eq_left (by omega)] at this
  exact this
theorem Sl.keeps {S : List Nat} {w w' : World} {size n : Nat} {v : Value} {xs : List Value} (h : Sl w size v n xs) (hk : Keeps S w w') (hn : ∀ k ∈ S, w.heap.size ≤ k) : Sl w' size v n xs :=
  h.below (hk.below (Nat.le_refl _) hn) (Nat.le_refl _)

/-- A step that touches new blocks alone. -/
theorem Keeps.step {S : List Nat} {w a b : World} (h : Keeps [] w a) (k : Keeps S a b) (hs : ∀ k ∈ S, w.heap.size ≤ k) : Keeps [] w b :=
  ((h.nil (S := S)).trans k).mono fun i hi hl => by have := hs i hi; omega
theorem Keeps.end {w w' : World} (h : Keeps [] w w') : Below w.heap.size w w' := h.below (Nat.le_refl _) (by simp)

/-- Block b holds just C. -/
structure Box (w : World) (b : Nat) (C : Array Value) : Prop where
  lt : b < w.heap.size
  cells : ∀ i, w.cell? ⟨b, i, none⟩ = C[i]?
theorem Box.new (w : World) (C : Array Value) (e : TypeId) : Box (w.alloc (.cells C e)) w.heap.size C := ⟨by simp, fun i => World.cell?_alloc_at _ _ _ _ rfl⟩
theorem Box.keeps {S : List Nat} {w w' : World} {b : Nat} {C : Array Value} (h : Box w b C) (hk : Keeps S w w') (hn : b ∉ S) : Box w' b C :=
  ⟨Nat.lt_of_lt_of_le h.lt hk.size, fun i => (hk.cell (p := ⟨b, i, none⟩) h.lt hn).trans (h.cells i)⟩
theorem Box.alloc {w : World} {b : Nat} {C : Array Value} (h : Box w b C) (o : Obj) : Box (w.alloc o) b C := h.keeps ((Keeps.refl [] w).alloc o) (by simp)

/-- What a law keeps beside the library's tables: blocks that no walk writes, and what holds of them. -/
structure Around where
  at_ : Nat → Prop
  holds : World → Prop
  lt : ∀ {w : World}, holds w → ∀ k, at_ k → k < w.heap.size
  keeps : ∀ {S : List Nat} {w w' : World}, holds w → Keeps S w w' → (∀ k ∈ S, ¬ at_ k) → holds w'
def Around.bare : Around := ⟨fun _ => False, fun _ => True, fun _ _ h => h.elim, fun _ _ _ => trivial⟩
instance : Inhabited Around := ⟨Around.bare⟩
def TabAt (_ : Nat) : Prop := False
def Tab (_ : World) : Prop := True
theorem Tab.keeps {S : List Nat} {w w' : World} (_ : Tab w) (_ : Keeps S w w') (_ : ∀ k ∈ S, ¬ TabAt k) : Tab w' := trivial
theorem Tab.lt {w : World} (_ : Tab w) : ∀ k, TabAt k → k < w.heap.size := fun _ hk => hk.elim
def AmbAt [Inhabited Around] (k : Nat) : Prop := TabAt k ∨ (default : Around).at_ k
def Amb [Inhabited Around] (w : World) : Prop := Tab w ∧ (default : Around).holds w
theorem Amb.keeps [Inhabited Around] {S : List Nat} {w w' : World} (h : Amb w) (hk : Keeps S w w') (hS : ∀ k ∈ S, ¬ AmbAt k) : Amb w' :=
  ⟨h.1.keeps hk fun k hk ha => hS k hk (.inl ha), (default : Around).keeps h.2 hk fun k hk ha => hS k hk (.inr ha)⟩
theorem Amb.lt [Inhabited Around] {w : World} (h : Amb w) : ∀ k, AmbAt k → k < w.heap.size := fun k hk => hk.elim (h.1.lt k) ((default : Around).lt h.2 k)
end Go.Proofs.Ytopombnehmfmcaa
