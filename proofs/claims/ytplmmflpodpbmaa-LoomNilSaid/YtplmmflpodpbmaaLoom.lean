/-
  Contracts: a loom, whose workers each have a walk that goes as a machine goes.
-/
import Derived.Test.YtplmmflpodpbmaaKinds3
import Derived.Test.YtplmmflpodpbmaaMem
namespace Go.Proofs.Ytplmmflpodpbmaa
open Go.ChangeShapes Go.WideShapes Go.ChangeAt Go.RowKit

/-- A worker's walk: its block, the machine as which it goes, and the state of that. -/
structure Strand : Type 1 where
  σ : Type
  K : Mach σ
  I : World → List Nat → σ → Prop
  m : Nat
  runs : Runs K I m
  s : σ
def Strand.want (t : Strand) : Option C.Acc := t.K.want t.s
def Strand.res (t : Strand) : Option Rs := t.K.res t.s
def Strand.go (t : Strand) (v : Int) (won : Bool) : Strand := { t with s := t.K.give t.s v won }
def thread (o : Option Strand) : Value := .pointer (o.map fun t => ⟨t.m, 0, none⟩)
/-- Whether one has a walk that hasn't ended. -/
def busy (o : Option Strand) : Bool := match o with
  | none => false
  | some t => !t.res.isSome

/-- A loom: its blocks, its words, its walks, its steps. -/
structure LSt : Type 1 where
  l : Nat
  g : Nat
  mm : Nat
  b : Nat
  us : List Int
  ts : List (Option Strand)
  steps : Nat

def loomCells (L : LSt) (cap : Nat) : List Value := [.pointer (some ⟨L.mm, 0, none⟩), .slice (some ⟨L.g, 0, none⟩) L.ts.length cap, .int .i64 (L.steps : Int)]
/-- At block l is a loom; all that it may write is from B on, but for its memory. -/
structure Loom (B : Nat) (w : World) (L : LSt) : Prop where
  head : ∃ cap, Row w L.l 60 (loomCells L cap)
  row : Row w L.g 37 (L.ts.map thread)
  mem : Mem w L.mm L.b L.us
  few : 1 ≤ L.ts.length ∧ L.ts.length ≤ 16
  base : B ≤ L.l ∧ B ≤ L.g ∧ B ≤ L.b
  lg : L.l ≠ L.g
  lm : L.l ≠ L.mm
  lb : L.l ≠ L.b
  gm : L.g ≠ L.mm
  gb : L.g ≠ L.b
  at_ : ∃ F : Nat → List Nat, (∀ (i : Nat) (t : Strand), L.ts[i]? = some (some t) → t.I w (F i) t.s) ∧ (∀ i j, i ≠ j → ∀ k ∈ F i, k ∉ F j) ∧
    ∀ i, ∀ k ∈ F i, B ≤ k ∧ k < w.heap.size ∧ k ≠ L.l ∧ k ≠ L.g ∧ k ≠ L.mm ∧ k ≠ L.b

theorem Loom.keeps {B : Nat} {w w' : World} {L : LSt} (h : Loom B w L) (hk : Keeps [] w w') : Loom B w' L := by
  obtain ⟨cap, hh⟩ := h.head
  obtain ⟨F, f1, f2, f3⟩ := h.at_
  exact { h with
    head := ⟨cap, hh.keeps hk (by simp)⟩
    row := h.row.keeps hk (by simp)
    mem := h.mem.keeps hk (by simp) (by simp)
    at_ := ⟨F, fun i t ht => t.runs.frame (f1 i t ht) hk (by simp), f2, fun i k hm => ⟨(f3 i k hm).1, Nat.lt_of_lt_of_le (f3 i k hm).2.1 hk.size, (f3 i k hm).2.2⟩⟩ }
/-- The memory's words alone are written. -/
theorem Loom.setMem {B : Nat} {w w' : World} {L : LSt} {us : List Int} (h : Loom B w L) (hk : Keeps [L.b] w w') (hm : Mem w' L.mm L.b us) : Loom B w' { L with us := us } := by
  obtain ⟨cap, hh⟩ := h.head
  obtain ⟨F, f1, f2, f3⟩ := h.at_
  exact { h with
    head := ⟨cap, hh.keeps hk (by simpa using h.lb)⟩
    row := h.row.keeps hk (by simpa using h.gb)
    mem := hm
    at_ := ⟨F, fun i t ht => t.runs.frame (f1 i t ht) hk (fun k hk' => by simpa using (f3 i k hk').2.2.2.2.2), f2, fun i k hm => ⟨(f3 i k hm).1, Nat.lt_of_lt_of_le (f3 i k hm).2.1 hk.size, (f3 i k hm).2.2⟩⟩ }
theorem Loom.cells {B : Nat} {w : World} {L : LSt} (h : Loom B w L) : ∃ cap, w.cell? ⟨L.l, 0, none⟩ = some (.pointer (some ⟨L.mm, 0, none⟩)) ∧ w.cell? ⟨L.l, 1, none⟩ = some (.slice (some ⟨L.g, 0, none⟩) L.ts.length cap) ∧ w.cell? ⟨L.l, 2, none⟩ = some (.int .i64 (L.steps : Int)) := by
  obtain ⟨cap, hh⟩ := h.head
  exact ⟨cap, hh.cell rfl, hh.cell rfl, hh.cell rfl⟩
theorem Loom.threadAt {B : Nat} {w : World} {L : LSt} (h : Loom B w L) {i : Nat} {o : Option Strand} (ho : L.ts[i]? = some o) : w.cell? ⟨L.g, i, none⟩ = some (thread o) :=
  h.row.cell (by rw [List.getElem?_map, ho]; rfl)
theorem Loom.lts {B : Nat} {w : World} {L : LSt} (h : Loom B w L) : L.l < w.heap.size ∧ L.g < w.heap.size ∧ L.b < w.heap.size := by
  obtain ⟨cap, hh⟩ := h.head
  exact ⟨hh.lt, h.row.lt, h.mem.lt.2⟩

/-- A worker's walk is another one now; its blocks are new ones, or were its own. -/
theorem Loom.setThread {B : Nat} {w : World} {L : LSt} (h : Loom B w L) {who : Nat} {o : Option Strand} (ho : L.ts[who]? = some o) (t : Strand) (S : List Nat) (hI : t.I w S t.s)
    (hS : ∀ k ∈ S, B ≤ k ∧ k ≠ L.l ∧ k ≠ L.g ∧ k ≠ L.mm ∧ k ≠ L.b)
    (hF : ∃ F : Nat → List Nat, (∀ (i : Nat) (u : Strand), i ≠ who → L.ts[i]? = some (some u) → u.I w (F i) u.s) ∧ (∀ i j, i ≠ j → ∀ k ∈ F i, k ∉ F j) ∧ (∀ i, ∀ k ∈ F i, B ≤ k ∧ k < w.heap.size ∧ k ≠ L.l ∧ k ≠ L.g ∧ k ≠ L.mm ∧ k ≠ L.b) ∧ ∀ i, i ≠ who → ∀ k ∈ S, k ∉ F i) :
    Loom B (w.setCell ⟨L.g, who, none⟩ (.pointer (some ⟨t.m, 0, none⟩))) { L with ts := L.ts.set who (some t) } := by
  obtain ⟨cap, hh⟩ := h.head
  obtain ⟨F, f1, f2, f3, f4⟩ := hF
  have hk : Keeps [L.g] w (w.setCell ⟨L.g, who, none⟩ (.pointer (some ⟨t.m, 0, none⟩))) := (Keeps.refl _ _).setCell (fun _ => by simp) _
  have hlt := (List.getElem?_eq_some_iff.1 ho).1
  have hlS := t.runs.lt hI
  refine { h with
    head := ⟨cap, ?_⟩
    row := ?_
    mem := h.mem.keeps hk (by simpa using Ne.symm h.gm) (by simpa using Ne.symm h.gb)
    few := by simpa using h.few
    at_ := ⟨fun i => if i = who then S else F i, fun i u hu => ?_, fun i j hij k hk1 hk2 => ?_, fun i k hk1 => ?_⟩ }
  · have := hh.keeps hk (by simpa using h.lg)
    simpa [loomCells] using this
  · rw [List.map_set]; exact h.row.set who _
  · simp only at hu
    by_cases e : i = who
    · subst e
      rw [List.getElem?_set_self hlt] at hu
      cases hu
      simp only [if_true]
      exact t.runs.frame hI hk (fun k hk' => by simpa using (hS k hk').2.2.1)
    · rw [List.getElem?_set_ne (Ne.symm e)] at hu
      simp only [if_neg e]
      exact u.runs.frame (f1 i u e hu) hk (fun k hk' => by simpa using (f3 i k hk').2.2.2.1)
  · simp only at hk1 hk2
    split at hk1 <;> split at hk2
    · omega
    · rename_i h1 h2; exact f4 j h2 k hk1 hk2
    · rename_i h1 h2; exact f4 i h1 k hk2 hk1
    · exact f2 i j hij k hk1 hk2
  · simp only at hk1
    rw [show (w.setCell ⟨L.g, who, none⟩ (.pointer (some ⟨t.m, 0, none⟩))).heap.size = w.heap.size by simp]
    split at hk1
    · have := hS k hk1
      exact ⟨this.1, hlS k hk1, this.2⟩
    · exact f3 i k hk1

/-- The loom's own block alone is written: its steps. -/
theorem Loom.step {B : Nat} {w : World} {L : LSt} (h : Loom B w L) (n : Nat) : Loom B (w.setCell ⟨L.l, 2, none⟩ (.int .i64 (n : Int))) { L with steps := n } := by
  obtain ⟨cap, hh⟩ := h.head
  obtain ⟨F, f1, f2, f3⟩ := h.at_
  have hk : Keeps [L.l] w (w.setCell ⟨L.l, 2, none⟩ (.int .i64 (n : Int))) := (Keeps.refl _ _).setCell (fun _ => by simp) _
  exact { h with
    head := ⟨cap, hh.set 2 _⟩
    row := h.row.keeps hk (by simpa using Ne.symm h.lg)
    mem := h.mem.keeps hk (by simpa using Ne.symm h.lm) (by simpa using Ne.symm h.lb)
    at_ := ⟨F, fun i t ht => t.runs.frame (f1 i t ht) hk (fun k hk' => by simpa using (f3 i k hk').2.2.1), f2, fun i k hm => by simpa using f3 i k hm⟩ }
end Go.Proofs.Ytplmmflpodpbmaa
