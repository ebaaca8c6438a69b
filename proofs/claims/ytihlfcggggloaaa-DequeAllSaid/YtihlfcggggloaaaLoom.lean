/-
  Contracts: a loom, whose workers each have a walk that goes as a machine goes.
-/
import Derived.Test.YtihlfcggggloaaaMach
import Derived.Test.YtihlfcggggloaaaMem
namespace Go.Proofs.Ytihlfcggggloaaa
set_option maxRecDepth 100000
open Go.ChangeShapes Go.WideShapes Go.ChangeAt Go.RowKit

/-- A worker's walk: its block, the machine as which it goes, and the state of that. -/
structure Strand : Type 1 where
  σ : Type
  K : Mach σ
  I : World → List Nat → σ → Prop
  m : Nat
  runs : Runs K I m
  s : σ
def Strand.want (t : Strand) : Option C.Acc := t.K.want t.s
def Strand.res (t : Strand) : Option Rs := t.K.res t.s
def Strand.go (t : Strand) (v : Int) (won : Bool) : Strand := { t with s := t.K.give t.s v won }
def thread (o : Option Strand) : Value := .pointer (o.map fun t => ⟨t.m, 0, none⟩)
/-- Whether one has a walk that hasn't ended. -/
def busy (o : Option Strand) : Bool := match o with
  | none => false
  | some t => !t.res.isSome

/-- A loom: its blocks, its words, its walks, its steps. -/
structure LSt : Type 1 where
  l : Nat
  g : Nat
  mm : Nat
  b : Nat
  us : List Int
  ts : List (Option Strand)
  steps : Nat

def loomCells (L : LSt) (cap : Nat) : List Value := [.pointer (some ⟨L.mm, 0, none⟩), .slice (some ⟨L.g, 0, none⟩) L.ts.length cap, .int .i64 (L.steps : Int)]
/-- The blocks of D are as they were. -/
structure Held (D : Nat → Prop) (w w' : World) : Prop where
  os : w'.os = w.os
  tape : w'.tape = w.tape
  output : w'.output = w.output
  size : w.heap.size ≤ w'.heap.size
  block : ∀ k, D k → w'.heap[k]? = w.heap[k]?
theorem Held.trans {D : Nat → Prop} {a b c : World} (h : Held D a b) (k : Held D b c) : Held D a c :=
  ⟨k.os.trans h.os, k.tape.trans h.tape, k.output.trans h.output, Nat.le_trans h.size k.size, fun i hi => (k.block i hi).trans (h.block i hi)⟩
theorem Held.refl (D : Nat → Prop) (w : World) : Held D w w := ⟨rfl, rfl, rfl, Nat.le_refl _, fun _ _ => rfl⟩
theorem Held.below {B : Nat} {w w' : World} (h : Held (· < B) w w') : Below B w w' := ⟨h.os, h.tape, h.output, h.size, h.block⟩
theorem Below.held {B : Nat} {w w' : World} (h : Below B w w') : Held (· < B) w w' := ⟨h.os, h.tape, h.output, h.size, h.block⟩
theorem Keeps.held {S : List Nat} {D : Nat → Prop} {w w' : World} (h : Keeps S w w') (hd : ∀ k, D k → k < w.heap.size) (hs : ∀ k ∈ S, ¬ D k) : Held D w w' :=
  ⟨h.os, h.tape, h.output, h.size, fun k hk => h.block k (hd k hk) fun hm => hs k hm hk⟩
theorem Held.narrow {D E : Nat → Prop} {w w' : World} (h : Held D w w') (he : ∀ k, E k → D k) : Held E w w' := ⟨h.os, h.tape, h.output, h.size, fun k hk => h.block k (he k hk)⟩
theorem Held.cell {D : Nat → Prop} {w w' : World} (h : Held D w w') {p : Addr} (hp : D p.block) : w'.cell? p = w.cell? p := World.cell?_of_block (w := w) (h.block p.block hp)
/-- At block l is a loom; the blocks of D are none of those that it may write. -/
structure Loom (D : Nat → Prop) (w : World) (L : LSt) : Prop where
  head : ∃ cap, Row w L.l 70 (loomCells L cap)
  row : Row w L.g 46 (L.ts.map thread)
  mem : Mem w L.mm L.b L.us
  few : 1 ≤ L.ts.length ∧ L.ts.length ≤ 16
  base : ¬ D L.l ∧ ¬ D L.g ∧ ¬ D L.b
  dom : ∀ k, D k → k < w.heap.size
  lg : L.l ≠ L.g
  lm : L.l ≠ L.mm
  lb : L.l ≠ L.b
  gm : L.g ≠ L.mm
  gb : L.g ≠ L.b
  at_ : ∃ F : Nat → List Nat, (∀ (i : Nat) (t : Strand), L.ts[i]? = some (some t) → t.I w (F i) t.s) ∧ (∀ i j, i ≠ j → ∀ k ∈ F i, k ∉ F j) ∧
    ∀ i, ∀ k ∈ F i, ¬ D k ∧ k < w.heap.size ∧ k ≠ L.l ∧ k ≠ L.g ∧ k ≠ L.mm ∧ k ≠ L.b

theorem Loom.keeps {D : Nat → Prop} {w w' : World} {L : LSt} (h : Loom D w L) (hk : Keeps [] w w') : Loom D w' L := by
  obtain ⟨cap, hh⟩ := h.head
  obtain ⟨F, f1, f2, f3⟩ := h.at_
  exact { h with
    dom := fun k hd => Nat.lt_of_lt_of_le (h.dom k hd) hk.size
    head := ⟨cap, hh.keeps hk (by simp)⟩
    row := h.row.keeps hk (by simp)
    mem := h.mem.keeps hk (by simp) (by simp)
    at_ := ⟨F, fun i t ht => t.runs.frame (f1 i t ht) hk (by simp), f2, fun i k hm => ⟨(f3 i k hm).1, Nat.lt_of_lt_of_le (f3 i k hm).2.1 hk.size, (f3 i k hm).2.2⟩⟩ }
/-- The memory's words alone are written. -/
theorem Loom.setMem {D : Nat → Prop} {w w' : World} {L : LSt} {us : List Int} (h : Loom D w L) (hk : Keeps [L.b] w w') (hm : Mem w' L.mm L.b us) : Loom D w' { L with us := us } := by
  obtain ⟨cap, hh⟩ := h.head
  obtain ⟨F, f1, f2, f3⟩ := h.at_
  exact { h with
    dom := fun k hd => Nat.lt_of_lt_of_le (h.dom k hd) hk.size
    head := ⟨cap, hh.keeps hk (by simpa using h.lb)⟩
    row := h.row.keeps hk (by simpa using h.gb)
    mem := hm
    at_ := ⟨F, fun i t ht => t.runs.frame (f1 i t ht) hk (fun k hk' => by simpa using (f3 i k hk').2.2.2.2.2), f2, fun i k hm => ⟨(f3 i k hm).1, Nat.lt_of_lt_of_le (f3 i k hm).2.1 hk.size, (f3 i k hm).2.2⟩⟩ }
theorem Loom.cells {D : Nat → Prop} {w : World} {L : LSt} (h : Loom D w L) : ∃ cap, w.cell? ⟨L.l, 0, none⟩ = some (.pointer (some ⟨L.mm, 0, none⟩)) ∧ w.cell? ⟨L.l, 1, none⟩ = some (.slice (some ⟨L.g, 0, none⟩) L.ts.length cap) ∧ w.cell? ⟨L.l, 2, none⟩ = some (.int .i64 (L.steps : Int)) := by
  obtain ⟨cap, hh⟩ := h.head
  exact ⟨cap, hh.cell rfl, hh.cell rfl, hh.cell rfl⟩
theorem Loom.threadAt {D : Nat → Prop} {w : World} {L : LSt} (h : Loom D w L) {i : Nat} {o : Option Strand} (ho : L.ts[i]? = some o) : w.cell? ⟨L.g, i, none⟩ = some (thread o) :=
  h.row.cell (by rw [List.getElem?_map, ho]; rfl)
theorem Loom.lts {D : Nat → Prop} {w : World} {L : LSt} (h : Loom D w L) : L.l < w.heap.size ∧ L.g < w.heap.size ∧ L.b < w.heap.size := by
  obtain ⟨cap, hh⟩ := h.head
  exact ⟨hh.lt, h.row.lt, h.mem.lt.2⟩

/-- A worker's walk is another one now; its blocks are new ones, or were its own. -/
theorem Loom.setThread {D : Nat → Prop} {w : World} {L : LSt} (h : Loom D w L) {who : Nat} {o : Option Strand} (ho : L.ts[who]? = some o) (t : Strand) (S : List Nat) (hI : t.I w S t.s)
    (hS : ∀ k ∈ S, ¬ D k ∧ k ≠ L.l ∧ k ≠ L.g ∧ k ≠ L.mm ∧ k ≠ L.b)
    (hF : ∃ F : Nat → List Nat, (∀ (i : Nat) (u : Strand), i ≠ who → L.ts[i]? = some (some u) → u.I w (F i) u.s) ∧ (∀ i j, i ≠ j → ∀ k ∈ F i, k ∉ F j) ∧ (∀ i, ∀ k ∈ F i, ¬ D k ∧ k < w.heap.size ∧ k ≠ L.l ∧ k ≠ L.g ∧ k ≠ L.mm ∧ k ≠ L.b) ∧ ∀ i, i ≠ who → ∀ k ∈ S, k ∉ F i) :
    Loom D (w.setCell ⟨L.g, who, none⟩ (.pointer (some ⟨t.m, 0, none⟩))) { L with ts := L.ts.set who (some t) } := by
  obtain ⟨cap, hh⟩ := h.head
  obtain ⟨F, f1, f2, f3, f4⟩ := hF
  have hk : Keeps [L.g] w (w.setCell ⟨L.g, who, none⟩ (.pointer (some ⟨t.m, 0, none⟩))) := (Keeps.refl _ _).setCell (fun _ => by simp) _
  have hlt := (List.getElem?_eq_some_iff.1 ho).1
  have hlS := t.runs.lt hI
  refine { h with
    dom := fun k hd => by simpa using h.dom k hd
    head := ⟨cap, ?_⟩
    row := ?_
    mem := h.mem.keeps hk (by simpa using Ne.symm h.gm) (by simpa using Ne.symm h.gb)
    few := by simpa using h.few
    at_ := ⟨fun i => if i = who then S else F i, fun i u hu => ?_, fun i j hij k hk1 hk2 => ?_, fun i k hk1 => ?_⟩ }
  · have := hh.keeps hk (by simpa using h.lg)
    simpa [loomCells] using this
  · rw [List.map_set]; exact h.row.set who _
  · simp only at hu
    by_cases e : i = who
    · subst e
      rw [List.getElem?_set_self hlt] at hu
      cases hu
      simp only [if_true]
      exact t.runs.frame hI hk (fun k hk' => by simpa using (hS k hk').2.2.1)
    · rw [List.getElem?_set_ne (Ne.symm e)] at hu
      simp only [if_neg e]
      exact u.runs.frame (f1 i u e hu) hk (fun k hk' => by simpa using (f3 i k hk').2.2.2.1)
  · simp only at hk1 hk2
    split at hk1 <;> split at hk2
    · omega
    · rename_i h1 h2; exact f4 j h2 k hk1 hk2
    · rename_i h1 h2; exact f4 i h1 k hk2 hk1
    · exact f2 i j hij k hk1 hk2
  · simp only at hk1
    rw [show (w.setCell ⟨L.g, who, none⟩ (.pointer (some ⟨t.m, 0, none⟩))).heap.size = w.heap.size by simp]
    split at hk1
    · have := hS k hk1
      exact ⟨this.1, hlS k hk1, this.2⟩
    · exact f3 i k hk1

/-- The loom's own block alone is written: its steps. -/
theorem Loom.step {D : Nat → Prop} {w : World} {L : LSt} (h : Loom D w L) (n : Nat) : Loom D (w.setCell ⟨L.l, 2, none⟩ (.int .i64 (n : Int))) { L with steps := n } := by
  obtain ⟨cap, hh⟩ := h.head
  obtain ⟨F, f1, f2, f3⟩ := h.at_
  have hk : Keeps [L.l] w (w.setCell ⟨L.l, 2, none⟩ (.int .i64 (n : Int))) := (Keeps.refl _ _).setCell (fun _ => by simp) _
  exact { h with
    dom := fun k hd => by simpa using h.dom k hd
    head := ⟨cap, hh.set 2 _⟩
    row := h.row.keeps hk (by simpa using Ne.symm h.lg)
    mem := h.mem.keeps hk (by simpa using Ne.symm h.lm) (by simpa using Ne.symm h.lb)
    at_ := ⟨F, fun i t ht => t.runs.frame (f1 i t ht) hk (fun k hk' => by simpa using (f3 i k hk').2.2.1), f2, fun i k hm => by simpa using f3 i k hm⟩ }
/-- Others write blocks of D. -/
theorem Loom.apart {D : Nat → Prop} {S : List Nat} {w w' : World} {L : LSt} (h : Loom D w L) (hk : Keeps S w w') (hS : ∀ k ∈ S, D k) (hm : L.mm ∉ S) : Loom D w' L := by
  obtain ⟨cap, hh⟩ := h.head
  obtain ⟨F, f1, f2, f3⟩ := h.at_
  have no : ∀ k, ¬ D k → k ∉ S := fun k hd hm => hd (hS k hm)
  exact { h with
    dom := fun k hd => Nat.lt_of_lt_of_le (h.dom k hd) hk.size
    head := ⟨cap, hh.keeps hk (no _ h.base.1)⟩
    row := h.row.keeps hk (no _ h.base.2.1)
    mem := h.mem.keeps hk hm (no _ h.base.2.2)
    at_ := ⟨F, fun i t ht => t.runs.frame (f1 i t ht) hk (fun k hk' => no k (f3 i k hk').1), f2, fun i k hm => ⟨(f3 i k hm).1, Nat.lt_of_lt_of_le (f3 i k hm).2.1 hk.size, (f3 i k hm).2.2⟩⟩ }
/-- Fewer blocks, or new ones besides, are none of its own either; others wrote blocks of D meanwhile. -/
theorem Loom.widenX {D E : Nat → Prop} {X : List Nat} {w0 w : World} {L : LSt} (h : Loom D w0 L) (hk : Keeps X w0 w) (hX : ∀ k ∈ X, D k) (hXm : L.mm ∉ X) (hE : ∀ k, E k → D k ∨ (w0.heap.size ≤ k ∧ k < w.heap.size)) : Loom E w L := by
  have hw := h.apart hk hX hXm
  obtain ⟨F, f1, f2, f3⟩ := h.at_
  obtain ⟨l1, l2, l3⟩ := h.lts
  have no : ∀ k, ¬ D k → k < w0.heap.size → ¬ E k := fun k hd hl he => by
    rcases hE k he with h | h
    · exact hd h
    · omega
  exact { hw with
    dom := fun k he => by
      rcases hE k he with h1 | h1
      · exact Nat.lt_of_lt_of_le (h.dom k h1) hk.size
      · exact h1.2
    base := ⟨no _ h.base.1 l1, no _ h.base.2.1 l2, no _ h.base.2.2 l3⟩
    at_ := ⟨F, fun i t ht => t.runs.frame (f1 i t ht) hk (fun k hk' hm => (f3 i k hk').1 (hX k hm)), f2, fun i k hm => ⟨no _ (f3 i k hm).1 (f3 i k hm).2.1, Nat.lt_of_lt_of_le (f3 i k hm).2.1 hk.size, (f3 i k hm).2.2⟩⟩ }
theorem Loom.widen {D E : Nat → Prop} {w0 w : World} {L : LSt} (h : Loom D w0 L) (hk : Keeps [] w0 w) (hE : ∀ k, E k → D k ∨ (w0.heap.size ≤ k ∧ k < w.heap.size)) : Loom E w L :=
  h.widenX hk (by simp) (by simp) hE
end Go.Proofs.Ytihlfcggggloaaa
