import Derived.Test.YtjbgkaleickknaaGreatMach
import Derived.Test.YtjbgkaleickknaaGreatMem
/-
  Contracts: a loom, whose workers each have a walk that goes as a machine goes.
-/
namespace Go.Proofs.YtjbgkaleickknaaGreat
set_option maxRecDepth 100000
set_option linter.unusedSimpArgs false
set_option linter.unusedVariables false
open Go.ChangeShapes Go.WideShapes Go.ChangeAt Go.RowKit

/-- A worker's walk: its block, the machine as which it goes, and the state of that. -/
structure Strand : Type 1 where
  σ : Type
  K : Mach σ
  I : World → List Nat → σ → Prop
  m : Nat
  runs : Runs K I m
  s : σ
def Strand.want (t : Strand) : Option C.Acc := t.K.want t.s
def Strand.res (t : Strand) : Option Rs := t.K.res t.s
def Strand.go (t : Strand) (v : Int) (won : Bool) : Strand := { t with s := t.K.give t.s v won }
def thread (o : Option Strand) : Value := .pointer (o.map fun t => ⟨t.m, 0, none⟩)
/-- Whether one has a walk that hasn't ended. -/
def busy (o : Option Strand) : Bool := match o with
  | none => false
  | some t => !t.res.isSome

/-- A loom: its blocks, its words, its walks, its steps. -/
structure LSt : Type 1 where
  l : Nat
  g : Nat
  mm : Nat
  b : Nat
  us : List Int
  ts : List (Option Strand)
  steps : Nat

def loomCells (L : LSt) (cap : Nat) : List Value := [.pointer (some ⟨L.mm, 0, none⟩), .slice (some ⟨L.g, 0, none⟩) L.ts.length cap, .int .i64 (L.steps : Int)]
/-- The blocks of D are as they were. -/
structure Held (D : Nat → Prop) (w w' : World) : Prop where
  os : w'.os = w.os
  tape : w'.tape = w.tape
  output : w'.output = w.output
  size : w.heap.size ≤ w'.heap.size
  block : ∀ k, D k → w'.heap[k]? = w.heap[k]?
theorem Held.trans {D : Nat → Prop} {a b c : World} (h : Held D a b) (k : Held D b c) : Held D a c :=
  ⟨k.os.trans h.os, k.tape.trans h.tape, k.output.trans h.output, Nat.le_trans h.size k.size, fun i hi => (k.block i hi).trans (h.block i hi)⟩
theorem Held.refl (D : Nat → Prop) (w : World) : Held D w w := ⟨rfl, rfl, rfl, Nat.le_refl _, fun _ _ => rfl⟩
theorem Held.below {B : Nat} {w w' : World} (h : Held (· < B) w w') : Below B w w' := ⟨h.os, h.tape, h.output, h.size, h.block⟩
theorem Below.held {B : Nat} {w w' : World} (h : Below B w w') : Held (· < B) w w' := ⟨h.os, h.tape, h.output, h.size, h.block⟩
theorem Keeps.held {S : List Nat} {D : Nat → Prop} {w w' : World} (h : Keeps S w w') (hd : ∀ k, D k → k < w.heap.size) (hs : ∀ k ∈ S, ¬ D k) : Held D w w' :=
  ⟨h.os, h.tape, h.output, h.size, fun k hk => h.block k (hd k hk) fun hm => hs k hm hk⟩
theorem Held.narrow {D E : Nat → Prop} {w w' : World} (h : Held D w w') (he : ∀ k, E k → D k) : Held E w w' := ⟨h.os, h.tape, h.output, h.size, fun k hk => h.block k (he k hk)⟩
theorem Held.cell {D : Nat → Prop} {w w' : World} (h : Held D w w') {p : Addr} (hp : D p.block) : w'.cell? p = w.cell? p := World.cell?_of_block (w := w) (h.block p.block hp)
/-- At block l is a loom; the blocks of D are none of those that it may write. -/
structure Loom (D : Nat → Prop) (w : World) (L : LSt) : Prop where
  head : ∃ cap, Row w L.l 65 (loomCells L cap)
  row : Row w L.g 44 (L.ts.map thread)
  mem : Mem w L.mm L.b L.us
  few : 1 ≤ L.ts.length ∧ L.ts.length ≤ 16
  base : ¬ D L.l ∧ ¬ D L.g ∧ ¬ D L.b
  dom : ∀ k, D k → k < w.heap.size
  amb : Amb w
  ambD : ∀ k, AmbAt k → D k
  lg : L.l ≠ L.g
  lm : L.l ≠ L.mm
  lb : L.l ≠ L.b
  gm : L.g ≠ L.mm
  gb : L.g ≠ L.b
  at_ : ∃ F : Nat → List Nat, (∀ (i : Nat) (t : Strand), L.ts[i]? = some (some t) → t.I w (F i) t.s) ∧ (∀ i j, i ≠ j → ∀ k ∈ F i, k ∉ F j) ∧
    ∀ i, ∀ k ∈ F i, ¬ D k ∧ k < w.heap.size ∧ k ≠ L.l ∧ k ≠ L.g ∧ k ≠ L.mm ∧ k ≠ L.b

theorem Loom.keeps {D : Nat → Prop} {w w' : World} {L : LSt} (h : Loom D w L) (hk : Keeps [] w w') : Loom D w' L := by
  obtain ⟨cap, hh⟩ := h.head
  obtain ⟨F, f1, f2, f3⟩ := h.at_
  exact { h with
    amb := h.amb.keeps hk (by simp)
    dom := fun k hd => Nat.lt_of_lt_of_le (h.dom k hd) hk.size
    head := ⟨cap, hh.keeps hk (by simp)⟩
    row := h.row.keeps hk (by simp)
    mem := h.mem.keeps hk (by simp) (by simp)
    at_ := ⟨F, fun i t ht => t.runs.frame (f1 i t ht) hk (by simp), f2, fun i k hm => ⟨(f3 i k hm).1, Nat.lt_of_lt_of_le (f3 i k hm).2.1 hk.size, (f3 i k hm).2.2⟩⟩ }
/-- The memory's words alone are written. -/
theorem Loom.setMem {D : Nat → Prop} {w w' : World} {L : LSt} {us : List Int} (h : Loom D w L) (hk : Keeps [L.b] w w') (hm : Mem w' L.mm L.b us) : Loom D w' { L with us := us } := by
  obtain ⟨cap, hh⟩ := h.head
  obtain ⟨F, f1, f2, f3⟩ := h.at_
  exact { h with
    amb := h.amb.keeps hk (fun k hk' ha => by simp at hk'; subst hk'; exact h.base.2.2 (h.ambD _ ha))
    dom := fun k hd => Nat.lt_of_lt_of_le (h.dom k hd) hk.size
    head := ⟨cap, hh.keeps hk (by simpa using h.lb)⟩
    row := h.row.keeps hk (by simpa using h.gb)
    mem := hm
    at_ := ⟨F, fun i t ht => t.runs.frame (f1 i t ht) hk (fun k hk' => by simpa using (f3 i k hk').2.2.2.2.2), f2, fun i k hm => ⟨(f3 i k hm).1, Nat.lt_of_lt_of_le (f3 i k hm).2.1 hk.size, (f3 i k hm).2.2⟩⟩ }
theorem Loom.cells {D : Nat → Prop} {w : World} {L : LSt} (h : Loom D w L) : ∃ cap, w.cell? ⟨L.l, 0, none⟩ = some (.pointer (some ⟨L.mm, 0, none⟩)) ∧ w.cell? ⟨L.l, 1, none⟩ = some (.slice (some ⟨L.g, 0, none⟩) L.ts.length cap) ∧ w.cell? ⟨L.l, 2, none⟩ = some (.int .i64 (L.steps : Int)) := by
  obtain ⟨cap, hh⟩ := h.head
  exact ⟨cap, hh.cell rfl, hh.cell rfl, hh.cell rfl⟩
theorem Loom.threadAt {D : Nat → Prop} {w : World} {L : LSt} (h : Loom D w L) {i : Nat} {o : Option Strand} (ho : L.ts[i]? = some o) : w.cell? ⟨L.g, i, none⟩ = some (thread o) :=
  h.row.cell (by rw [List.getElem?_map, ho]; rfl)
theorem Loom.lts {D : Nat → Prop} {w : World} {L : LSt} (h : Loom D w L) : L.l < w.heap.size ∧ L.g < w.heap.size ∧ L.b < w.heap.size := by
  obtain ⟨cap, hh⟩ := h.head
  exact ⟨hh.lt, h.row.lt, h.mem.lt.2⟩

/-- A worker's walk is another one now; its blocks are new ones, or were its own. -/
theorem Loom.setThread {D : Nat → Prop} {w : World} {L : LSt} (h : Loom D w L) {who : Nat} {o : Option Strand} (ho : L.ts[who]? = some o) (t : Strand) (S : List Nat) (hI : t.I w S t.s)
    (hS : ∀ k ∈ S, ¬ D k ∧ k ≠ L.l ∧ k ≠ L.g ∧ k ≠ L.mm ∧ k ≠ L.b)
    (hF : ∃ F : Nat → List Nat, (∀ (i : Nat) (u : Strand), i ≠ who → L.ts[i]? = some (some u) → u.I w (F i) u.s) ∧ (∀ i j, i ≠ j → ∀ k ∈ F i, k ∉ F j) ∧ (∀ i, ∀ k ∈ F i, ¬ D k ∧ k < w.heap.size ∧ k ≠ L.l ∧ k ≠ L.g ∧ k ≠ L.mm ∧ k ≠ L.b) ∧ ∀ i, i ≠ who → ∀ k ∈ S, k ∉ F i) :
    Loom D (w.setCell ⟨L.g, who, none⟩ (.pointer (some ⟨t.m, 0, none⟩))) { L with ts := L.ts.set who (some t) } := by
  obtain ⟨cap, hh⟩ := h.head
  obtain ⟨F, f1, f2, f3, f4⟩ := hF
  have hk : Keeps [L.g] w (w.setCell ⟨L.g, who, none⟩ (.pointer (some ⟨t.m, 0, none⟩))) := (Keeps.refl _ _).setCell (fun _ => by simp) _
  have hlt := (List.getElem?_eq_some_iff.1 ho).1
  have hlS := t.runs.lt hI
  refine { h with
    amb := h.amb.keeps hk (fun k hk' ha => by simp at hk'; subst hk'; exact h.base.2.1 (h.ambD _ ha))
    dom := fun k hd => by simpa using h.dom k hd
    head := ⟨cap, ?_⟩
    row := ?_
    mem := h.mem.keeps hk (by simpa using Ne.symm h.gm) (by simpa using Ne.symm h.gb)
    few := by simpa using h.few
    at_ := ⟨fun i => if i = who then S else F i, fun i u hu => ?_, fun i j hij k hk1 hk2 => ?_, fun i k hk1 => ?_⟩ }
  · have := hh.keeps hk (by simpa using h.lg)
    simpa [loomCells] using this
  · rw [List.map_set]; exact h.row.set who _
  · simp only at hu
    by_cases e : i = who
    · subst e
      rw [List.getElem?_set_self hlt] at hu
      cases hu
      simp only [if_true]
      exact t.runs.frame hI hk (fun k hk' => by simpa using (hS k hk').2.2.1)
    · rw [List.getElem?_set_ne (Ne.symm e)] at hu
      simp only [if_neg e]
      exact u.runs.frame (f1 i u e hu) hk (fun k hk' => by simpa using (f3 i k hk').2.2.2.1)
  · simp only at hk1 hk2
    split at hk1 <;> split at hk2
    · omega
    · rename_i h1 h2; exact f4 j h2 k hk1 hk2
    · rename_i h1 h2; exact f4 i h1 k hk2 hk1
    · exact f2 i j hij k hk1 hk2
  · simp only at hk1
    rw [show (w.setCell ⟨L.g, who, none⟩ (.pointer (some ⟨t.m, 0, none⟩))).heap.size = w.heap.size by simp]
    split at hk1
    · have := hS k hk1
      exact ⟨this.1, hlS k hk1, this.2⟩
    · exact f3 i k hk1

/-- The loom's own block alone is written: its steps. -/
theorem Loom.step {D : Nat → Prop} {w : World} {L : LSt} (h : Loom D w L) (n : Nat) : Loom D (w.setCell ⟨L.l, 2, none⟩ (.int .i64 (n : Int))) { L with steps := n } := by
  obtain ⟨cap, hh⟩ := h.head
  obtain ⟨F, f1, f2, f3⟩ := h.at_
  have hk : Keeps [L.l] w (w.setCell ⟨L.l, 2, none⟩ (.int .i64 (n : Int))) := (Keeps.refl _ _).setCell (fun _ => by simp) _
  exact { h with
    amb := h.amb.keeps hk (fun k hk' ha => by simp at hk'; subst hk'; exact h.base.1 (h.ambD _ ha))
    dom := fun k hd => by simpa using h.dom k hd
    head := ⟨cap, hh.set 2 _⟩
    row := h.row.keeps hk (by simpa using Ne.symm h.lg)
    mem := h.mem.keeps hk (by simpa using Ne.symm h.lm) (by simpa using Ne.symm h.lb)
    at_ := ⟨F, fun i t ht => t.runs.frame (f1 i t ht) hk (fun k hk' => by simpa using (f3 i k hk').2.2.1), f2, fun i k hm => by simpa using f3 i k hm⟩ }
/-- Others write blocks of D. -/
theorem Loom.apart {D : Nat → Prop} {S : List Nat} {w w' : World} {L : LSt} (h : Loom D w L) (hk : Keeps S w w') (hS : ∀ k ∈ S, D k) (hm : L.mm ∉ S) (hSa : ∀ k ∈ S, ¬ AmbAt k := by exact fun _ _ h => h) : Loom D w' L := by
  obtain ⟨cap, hh⟩ := h.head
  obtain ⟨F, f1, f2, f3⟩ := h.at_
  have no : ∀ k, ¬ D k → k ∉ S := fun k hd hm => hd (hS k hm)
  exact { h with
    amb := h.amb.keeps hk hSa
    dom := fun k hd => Nat.lt_of_lt_of_le (h.dom k hd) hk.size
    head := ⟨cap, hh.keeps hk (no _ h.base.1)⟩
    row := h.row.keeps hk (no _ h.base.2.1)
    mem := h.mem.keeps hk hm (no _ h.base.2.2)
    at_ := ⟨F, fun i t ht => t.runs.frame (f1 i t ht) hk (fun k hk' => no k (f3 i k hk').1), f2, fun i k hm => ⟨(f3 i k hm).1, Nat.lt_of_lt_of_le (f3 i k hm).2.1 hk.size, (f3 i k hm).2.2⟩⟩ }
/-- Fewer blocks, or new ones besides, are none of its own either; others wrote blocks of D meanwhile. -/
theorem Loom.widenX {D E : Nat → Prop} {X : List Nat} {w0 w : World} {L : LSt} (h : Loom D w0 L) (hk : Keeps X w0 w) (hX : ∀ k ∈ X, D k) (hXm : L.mm ∉ X) (hE : ∀ k, E k → D k ∨ (w0.heap.size ≤ k ∧ k < w.heap.size)) (hSa : ∀ k ∈ X, ¬ AmbAt k := by exact fun _ _ h => h) (hEa : ∀ k, AmbAt k → E k := by exact fun _ h => h.elim) : Loom E w L := by
  have hw := h.apart hk hX hXm hSa
  obtain ⟨F, f1, f2, f3⟩ := h.at_
  obtain ⟨l1, l2, l3⟩ := h.lts
  have no : ∀ k, ¬ D k → k < w0.heap.size → ¬ E k := fun k hd hl he => by
    rcases hE k he with h | h
    · exact hd h
    · omega
  exact { hw with
    ambD := hEa
    dom := fun k he => by
      rcases hE k he with h1 | h1
      · exact Nat.lt_of_lt_of_le (h.dom k h1) hk.size
      · exact h1.2
    base := ⟨no _ h.base.1 l1, no _ h.base.2.1 l2, no _ h.base.2.2 l3⟩
    at_ := ⟨F, fun i t ht => t.runs.frame (f1 i t ht) hk (fun k hk' hm => (f3 i k hk').1 (hX k hm)), f2, fun i k hm => ⟨no _ (f3 i k hm).1 (f3 i k hm).2.1, Nat.lt_of_lt_of_le (f3 i k hm).2.1 hk.size, (f3 i k hm).2.2⟩⟩ }
theorem Loom.widen {D E : Nat → Prop} {w0 w : World} {L : LSt} (h : Loom D w0 L) (hk : Keeps [] w0 w) (hE : ∀ k, E k → D k ∨ (w0.heap.size ≤ k ∧ k < w.heap.size)) (hEa : ∀ k, AmbAt k → E k := by exact fun _ h => h.elim) : Loom E w L :=
  h.widenX hk (by simp) (by simp) hE (by simp) hEa
end Go.Proofs.YtjbgkaleickknaaGreat

/-
  Contracts: the calls of a loom that change nothing of it; New and Start.
-/
namespace Go.Proofs.YtjbgkaleickknaaGreat
set_option maxRecDepth 100000
set_option linter.unusedSimpArgs false
set_option linter.unusedVariables false
open Go.ChangeShapes Go.WideShapes Go.ChangeAt Go.RowKit

theorem elemThread : Elem Tryz.prog 44 (.pointer none) 1 8 := ⟨by kernel_rfl, rfl, by decide, by decide⟩
theorem made_threads (n : Nat) : (madeCells (Value.pointer none).cells (n * 1)).toList = (List.replicate n (none : Option Strand)).map thread := by
  rw [Nat.mul_one]
  apply List.ext_getElem?
  intro i
  by_cases h : i < n
  · simp [madeCells, thread, Value.cells, h, Nat.mod_one]
  · simp [madeCells, thread, Value.cells, h, Nat.mod_one]
set_option maxRecDepth 100000 in
set_option maxHeartbeats 800000 in
theorem loomNew_any (D : Nat → Prop) (n mm b : Nat) (us : List Int) (w : World) (h : Mem w mm b us) (h1 : 1 ≤ n) (h2 : n ≤ 16) (hD : ∀ k, D k → k < w.heap.size) (hb : ¬ D b) (hamb : Amb w := by trivial) (hambD : ∀ k, AmbAt k → D k := by exact fun _ h => h.elim) :
    Calls Tryz.prog 9 #[.pointer (some ⟨mm, 0, none⟩), .int .i64 (n : Int)] w fun e w' => ∃ l g, e = .returned (.tuple #[.pointer (some ⟨l, 0, none⟩), .int .i64 0]) ∧ Loom D w' ⟨l, g, mm, b, us, List.replicate n none, 0⟩ ∧ Keeps [] w w' := by
  obtain ⟨w1, hrun, hrow, hk, hs⟩ := make_row (P := Tryz.prog) w 63 44 _ 1 8 Tryz.underlying63 elemThread .i64 .i64 n (by omega)
  rw [made_threads] at hrow
  have HR := Lib.hid hrow
  have HK := Lib.hid hk
  have HS := Lib.hid hs
  have HM := Lib.hid h
  clear hrow hk hs h
  go_enter Tryz.func9, Tryz.ntmps9
  go_wp2
  go_ret2
  have hm := HM.out.lt
  have hs := HS.out
  have k1 : Keeps [] w (w1.alloc (.cells #[.pointer (some ⟨mm, 0, none⟩), .slice (some ⟨w.heap.size, 0, none⟩) n n, .int .i64 0] 65)) := HK.out.alloc _
  refine ⟨w1.heap.size, w.heap.size, rfl, ⟨⟨n, ?_⟩, HR.out.alloc _, HM.out.keeps k1 (by simp) (by simp), by simpa using ⟨h1, h2⟩, ⟨fun hd => by have := hD _ hd; simp only at this; omega, fun hd => by have := hD _ hd; simp only at this; omega, hb⟩, fun k hd => Nat.lt_of_lt_of_le (hD k hd) k1.size, hamb.keeps k1 (by simp), hambD, by simp only; omega, by simp only; omega, by simp only; omega, by simp only; omega, by simp only; omega, ⟨fun _ => [], fun i t ht => ?_, by simp, by simp⟩⟩, k1⟩
  · have := Row.new w1 #[.pointer (some ⟨mm, 0, none⟩), .slice (some ⟨w.heap.size, 0, none⟩) n n, .int .i64 0] 65
    simpa [loomCells] using this
  · simp only at ht
    rw [List.getElem?_replicate] at ht
    split at ht <;> simp at ht
theorem workers_any (D : Nat → Prop) (L : LSt) (w : World) (h : Loom D w L) :
    Calls Tryz.prog 49 #[.pointer (some ⟨L.l, 0, none⟩)] w fun e w' => e = .returned (.int .i64 (L.ts.length : Int)) ∧ w = w' := by
  obtain ⟨cap, -, h1, -⟩ := h.cells
  clear h
  go_enter Tryz.func49, Tryz.ntmps49
  go_wp2
  go_ret
  exact ⟨rfl, rfl⟩
theorem has_yes (D : Nat → Prop) (L : LSt) (who : Nat) (w : World) (h : Loom D w L) (hw : who < L.ts.length) :
    Calls Tryz.prog 21 #[.pointer (some ⟨L.l, 0, none⟩), .int .i64 (who : Int)] w fun e w' => e = .returned (.bool true) ∧ w = w' := by
  have HW := workers_any D L w h
  have hf := h.few
  clear h
  go_enter Tryz.func21, Tryz.ntmps21
  go_wp2_with (go_at_call 49; refine HW.mono ?_; rintro e w' ⟨rfl, rfl⟩)
  go_wp2
  go_ret
  exact ⟨rfl, rfl⟩
/-- What is asked of a walk, or of none. -/
theorem want_thread (o : Option Strand) (w : World) (S : List Nat) (h : ∀ t, o = some t → t.I w S t.s) :
    Calls Tryz.prog 50 #[thread o] w fun e w' => e = .returned (.tuple #[((o.bind Strand.want).getD zacc).val, .bool (o.bind Strand.want).isSome]) ∧ Keeps [] w w' := by
  cases o with
  | none => exact wWantNil w
  | some t => exact t.runs.want w S t.s (h t rfl)
theorem Loom.threadI {D : Nat → Prop} {w : World} {L : LSt} (h : Loom D w L) {i : Nat} {o : Option Strand} (ho : L.ts[i]? = some o) : ∃ S, ∀ t, o = some t → t.I w S t.s := by
  obtain ⟨F, f1, -⟩ := h.at_
  exact ⟨F i, fun t ht => f1 i t (by rw [ho, ht])⟩

set_option maxHeartbeats 800000 in
theorem wanted_idle (D : Nat → Prop) (L : LSt) (who : Nat) (o : Option Strand) (w : World) (h : Loom D w L) (ho : L.ts[who]? = some o) (hn : o.bind Strand.want = none) :
    Calls Tryz.prog 23 #[.pointer (some ⟨L.l, 0, none⟩), .int .i64 (who : Int)] w fun e w' => e = .returned (.tuple #[zacc.val, .int .i64 10]) ∧ Keeps [] w w' := by
  have hlt := (List.getElem?_eq_some_iff.1 ho).1
  have HH := Lib.hid (fun W (k : Keeps [] w W) => has_yes D L who W (h.keeps k) hlt)
  obtain ⟨S, hS⟩ := h.threadI ho
  have hw := fun W (k : Keeps [] w W) => want_thread o W S (fun t ht => t.runs.frame (hS t ht) k (by simp))
  rw [hn] at hw
  have HW := Lib.hid hw
  obtain ⟨cap, -, h1, -⟩ := h.cells
  have ht := h.threadAt ho
  obtain ⟨l1, l2, -⟩ := h.lts
  have hf := h.few
  obtain ⟨tv, htv⟩ : ∃ tv, Option.map (fun t : Strand => (⟨t.m, 0, none⟩ : Addr)) o = tv := ⟨_, rfl⟩
  rw [thread, htv] at ht
  have HTV := Lib.hid htv
  clear h hw hS ho htv hn
  obtain ⟨W0, hW0⟩ : ∃ W0, w.alloc (.cells #[.int .i64 0, .int .i64 0, .int .u64 0, .int .u64 0] 68) = W0 := ⟨_, rfl⟩
  have k0 : Keeps [] w W0 := by rw [← hW0]; exact (Keeps.refl _ _).alloc _
  have r0 : Row W0 w.heap.size 68 [.int .i64 0, .int .i64 0, .int .u64 0, .int .u64 0] := by rw [← hW0]; exact Row.new _ _ _
  have h1' := (k0.cell (p := ⟨L.l, 1, none⟩) l1 (by simp)).trans h1
  have ht' := (k0.cell (p := ⟨L.g, who, none⟩) l2 (by simp)).trans ht
  go_enter Tryz.func23, Tryz.ntmps23
  go_wp2_with fail
  refine (HH.out _ k0).mono ?_
  rintro e w1 ⟨rfl, rfl⟩
  go_wp2_with fail
  have hw := HW.out W0 k0
  rw [thread, HTV.out] at hw
  refine hw.mono ?_
  rintro e w1 ⟨rfl, k1⟩
  have hr1 := r0.keeps k1 (by simp)
  have c0 := hr1.cell (j := 0) rfl
  have c1 := hr1.cell (j := 1) rfl
  have c2 := hr1.cell (j := 2) rfl
  have c3 := hr1.cell (j := 3) rfl
  have f0 := hr1.frozen 0
  have f1 := hr1.frozen 1
  have f2 := hr1.frozen 2
  have f3 := hr1.frozen 3
  have hlr := hr1.lt
  have HK := Lib.hid (k0.trans k1)
  clear hW0 k0 r0 k1 h1 h1' ht ht' hw
  have HR1 := Lib.hid hr1
  clear hr1
  go_wp2
  generalize hW : World.alloc _ _ = W2
  have hr2 : Row W2 w.heap.size 68 [.int .i64 0, .int .i64 0, .int .u64 0, .int .u64 0] := by rw [← hW]; exact ((((HR1.out.set 0 _).set 1 _).set 2 _).set 3 _).alloc _
  have hk2 : Keeps [] w W2 := by
    rw [← hW]
    refine (HK.out.step (S := [w.heap.size]) ?_ (by simp)).alloc _
    exact ((((Keeps.refl _ _).set (by simp) _ _).set (by simp) _ _).set (by simp) _ _).set (by simp) _ _
  have d0 := hr2.cell (j := 0) rfl
  have d1 := hr2.cell (j := 1) rfl
  have d2 := hr2.cell (j := 2) rfl
  have d3 := hr2.cell (j := 3) rfl
  refine bodyPost_ret (v := .tuple #[zacc.val, .int .i64 10]) (by simp [results, Tryz.results23, go_sem, d0, d1, d2, d3]) rfl ⟨rfl, hk2⟩
set_option maxHeartbeats 800000 in
theorem wanted_some (D : Nat → Prop) (L : LSt) (who : Nat) (o : Option Strand) (x : C.Acc) (w : World) (h : Loom D w L) (ho : L.ts[who]? = some o) (hn : o.bind Strand.want = some x) :
    Calls Tryz.prog 23 #[.pointer (some ⟨L.l, 0, none⟩), .int .i64 (who : Int)] w fun e w' => e = .returned (.tuple #[x.val, .int .i64 0]) ∧ Keeps [] w w' := by
  have hlt := (List.getElem?_eq_some_iff.1 ho).1
  have HH := Lib.hid (fun W (k : Keeps [] w W) => has_yes D L who W (h.keeps k) hlt)
  obtain ⟨S, hS⟩ := h.threadI ho
  have hw := fun W (k : Keeps [] w W) => want_thread o W S (fun t ht => t.runs.frame (hS t ht) k (by simp))
  rw [hn] at hw
  have HW := Lib.hid hw
  obtain ⟨cap, -, h1, -⟩ := h.cells
  have ht := h.threadAt ho
  obtain ⟨l1, l2, -⟩ := h.lts
  have hf := h.few
  obtain ⟨tv, htv⟩ : ∃ tv, Option.map (fun t : Strand => (⟨t.m, 0, none⟩ : Addr)) o = tv := ⟨_, rfl⟩
  rw [thread, htv] at ht
  have HTV := Lib.hid htv
  clear h hw hS ho htv hn
  obtain ⟨W0, hW0⟩ : ∃ W0, w.alloc (.cells #[.int .i64 0, .int .i64 0, .int .u64 0, .int .u64 0] 68) = W0 := ⟨_, rfl⟩
  have k0 : Keeps [] w W0 := by rw [← hW0]; exact (Keeps.refl _ _).alloc _
  have r0 : Row W0 w.heap.size 68 [.int .i64 0, .int .i64 0, .int .u64 0, .int .u64 0] := by rw [← hW0]; exact Row.new _ _ _
  have h1' := (k0.cell (p := ⟨L.l, 1, none⟩) l1 (by simp)).trans h1
  have ht' := (k0.cell (p := ⟨L.g, who, none⟩) l2 (by simp)).trans ht
  go_enter Tryz.func23, Tryz.ntmps23
  go_wp2_with fail
  refine (HH.out _ k0).mono ?_
  rintro e w1 ⟨rfl, rfl⟩
  go_wp2_with fail
  have hw := HW.out W0 k0
  rw [thread, HTV.out] at hw
  refine hw.mono ?_
  rintro e w1 ⟨rfl, k1⟩
  have hr1 := r0.keeps k1 (by simp)
  have c0 := hr1.cell (j := 0) rfl
  have c1 := hr1.cell (j := 1) rfl
  have c2 := hr1.cell (j := 2) rfl
  have c3 := hr1.cell (j := 3) rfl
  have f0 := hr1.frozen 0
  have f1 := hr1.frozen 1
  have f2 := hr1.frozen 2
  have f3 := hr1.frozen 3
  have hlr := hr1.lt
  have HK := Lib.hid (k0.trans k1)
  clear hW0 k0 r0 k1 h1 h1' ht ht' hw
  have HR1 := Lib.hid hr1
  clear hr1
  go_wp2
  generalize hW : World.alloc _ _ = W2
  have hr2 : Row W2 w.heap.size 68 [.int .i64 x.k, .int .i64 x.c, .int .u64 x.a, .int .u64 x.b] := by rw [← hW]; exact ((((HR1.out.set 0 _).set 1 _).set 2 _).set 3 _).alloc _
  have hk2 : Keeps [] w W2 := by
    rw [← hW]
    refine (HK.out.step (S := [w.heap.size]) ?_ (by simp)).alloc _
    exact ((((Keeps.refl _ _).set (by simp) _ _).set (by simp) _ _).set (by simp) _ _).set (by simp) _ _
  have d0 := hr2.cell (j := 0) rfl
  have d1 := hr2.cell (j := 1) rfl
  have d2 := hr2.cell (j := 2) rfl
  have d3 := hr2.cell (j := 3) rfl
  refine bodyPost_ret (v := .tuple #[x.val, .int .i64 0]) (by simp [results, Tryz.results23, go_sem, d0, d1, d2, d3]) rfl ⟨rfl, hk2⟩

/-- What came of a walk, or of none. -/
theorem result_thread (o : Option Strand) (w : World) (S : List Nat) (h : ∀ t, o = some t → t.I w S t.s) :
    Calls Tryz.prog 26 #[thread o] w fun e w' => ∃ l,
      e = .returned (.tuple #[.agg #[.int .i64 ((o.bind Strand.res).getD Rs.zero).code, .int .u64 ((o.bind Strand.res).getD Rs.zero).v, l], .bool (o.bind Strand.res).isSome]) ∧
        w'.ownsRow w.heap.size 34 1 l ((o.bind Strand.res).getD Rs.zero).l.length (ints .u64 ((o.bind Strand.res).getD Rs.zero).l) ∧ Keeps [] w w' := by
  cases o with
  | none => exact (wResultNil w).mono fun e w' ⟨he, hk⟩ => ⟨_, he, World.ownsRow_nil _ _ _ _, hk⟩
  | some t => exact t.runs.result w S t.s (h t rfl)

set_option maxHeartbeats 800000 in
theorem runs_any (o : Option Strand) (w : World) (S : List Nat) (h : ∀ t, o = some t → t.I w S t.s) :
    Calls Tryz.prog 22 #[thread o] w fun e w' => e = .returned (.bool (busy o)) ∧ Keeps [] w w' := by
  cases o with
  | none =>
    show Calls Tryz.prog 22 #[.pointer none] w fun e w' => e = .returned (.bool false) ∧ Keeps [] w w'
    go_enter Tryz.func22, Tryz.ntmps22
    go_wp2
    go_ret
    exact ⟨rfl, Keeps.refl _ _⟩
  | some t =>
    have HR := Lib.hid (t.runs.result w S t.s (h t rfl))
    obtain ⟨bb, hbb⟩ : ∃ bb, (t.K.res t.s).isSome = bb := ⟨_, rfl⟩
    have HBB := Lib.hid hbb
    rw [hbb] at HR
    show Calls Tryz.prog 22 #[.pointer (some ⟨t.m, 0, none⟩)] w fun e w' => e = .returned (.bool (!(t.K.res t.s).isSome)) ∧ Keeps [] w w'
    rw [hbb]
    clear hbb h
    go_enter Tryz.func22, Tryz.ntmps22
    go_wp2_with fail
    refine HR.out.mono ?_
    rintro e w1 ⟨l, rfl, ho, k1⟩
    obtain ⟨q, c, rfl⟩ := (Sl.of_owns ho).len
    have HK := Lib.hid k1
    clear ho k1 HR
    go_wp2
    go_ret
    exact ⟨rfl, HK.out.alloc _⟩

set_option maxHeartbeats 800000 in
theorem busy_at (D : Nat → Prop) (L : LSt) (who : Nat) (o : Option Strand) (w : World) (h : Loom D w L) (ho : L.ts[who]? = some o) :
    Calls Tryz.prog 10 #[.pointer (some ⟨L.l, 0, none⟩), .int .i64 (who : Int)] w fun e w' => e = .returned (.bool (busy o)) ∧ Keeps [] w w' := by
  have hlt := (List.getElem?_eq_some_iff.1 ho).1
  have HH := Lib.hid (has_yes D L who w h hlt)
  obtain ⟨S, hS⟩ := h.threadI ho
  have HR := Lib.hid (runs_any o w S hS)
  obtain ⟨bb, hbb⟩ : ∃ bb, busy o = bb := ⟨_, rfl⟩
  rw [hbb] at HR ⊢
  obtain ⟨cap, -, h1, -⟩ := h.cells
  have ht := h.threadAt ho
  have hf := h.few
  obtain ⟨tv, htv⟩ : ∃ tv, Option.map (fun t : Strand => (⟨t.m, 0, none⟩ : Addr)) o = tv := ⟨_, rfl⟩
  rw [thread, htv] at ht
  rw [thread, htv] at HR
  clear h hS ho htv hbb
  go_enter Tryz.func10, Tryz.ntmps10
  go_wp2_with fail
  refine HH.out.mono ?_
  rintro e w1 ⟨rfl, rfl⟩
  go_wp2_with fail
  refine HR.out.mono ?_
  rintro e w1 ⟨rfl, k1⟩
  have HK := Lib.hid k1
  clear k1 HR HH h1 ht
  go_wp2
  go_ret
  exact ⟨rfl, HK.out⟩

set_option maxHeartbeats 800000 in
theorem loomResult_at (D : Nat → Prop) (L : LSt) (who : Nat) (o : Option Strand) (w : World) (h : Loom D w L) (ho : L.ts[who]? = some o) :
    Calls Tryz.prog 14 #[.pointer (some ⟨L.l, 0, none⟩), .int .i64 (who : Int)] w fun e w' => ∃ l,
      e = .returned (.tuple #[.agg #[.int .i64 ((o.bind Strand.res).getD Rs.zero).code, .int .u64 ((o.bind Strand.res).getD Rs.zero).v, l], .bool (o.bind Strand.res).isSome]) ∧
        w'.ownsRow w.heap.size 34 1 l ((o.bind Strand.res).getD Rs.zero).l.length (ints .u64 ((o.bind Strand.res).getD Rs.zero).l) ∧ Keeps [] w w' := by
  have hlt := (List.getElem?_eq_some_iff.1 ho).1
  have HH := Lib.hid (fun W (k : Keeps [] w W) => has_yes D L who W (h.keeps k) hlt)
  obtain ⟨S, hS⟩ := h.threadI ho
  have hw := fun W (k : Keeps [] w W) => result_thread o W S (fun t ht => t.runs.frame (hS t ht) k (by simp))
  obtain ⟨rr, hrr⟩ : ∃ rr, (o.bind Strand.res).getD Rs.zero = rr := ⟨_, rfl⟩
  obtain ⟨bb, hbb⟩ : ∃ bb, (o.bind Strand.res).isSome = bb := ⟨_, rfl⟩
  simp only [hrr, hbb] at hw ⊢
  obtain ⟨rc, rv, rl⟩ := rr
  simp only at hw ⊢
  have HW := Lib.hid hw
  obtain ⟨cap, -, h1, -⟩ := h.cells
  have ht := h.threadAt ho
  obtain ⟨l1, l2, -⟩ := h.lts
  have hf := h.few
  obtain ⟨tv, htv⟩ : ∃ tv, Option.map (fun t : Strand => (⟨t.m, 0, none⟩ : Addr)) o = tv := ⟨_, rfl⟩
  rw [thread, htv] at ht
  have HTV := Lib.hid htv
  clear h hw hS ho htv hrr hbb
  obtain ⟨W0, hW0⟩ : ∃ W0, w.alloc (.cells #[.int .i64 0, .int .u64 0, .slice none 0 0] 48) = W0 := ⟨_, rfl⟩
  have k0 : Keeps [] w W0 := by rw [← hW0]; exact (Keeps.refl _ _).alloc _
  have r0 : Row W0 w.heap.size 48 [.int .i64 0, .int .u64 0, .slice none 0 0] := by rw [← hW0]; exact Row.new _ _ _
  have h1' := (k0.cell (p := ⟨L.l, 1, none⟩) l1 (by simp)).trans h1
  have ht' := (k0.cell (p := ⟨L.g, who, none⟩) l2 (by simp)).trans ht
  have hz0 : w.heap.size < W0.heap.size := r0.lt
  go_enter Tryz.func14, Tryz.ntmps14
  go_wp2_with fail
  refine (HH.out _ k0).mono ?_
  rintro e w1 ⟨rfl, rfl⟩
  go_wp2_with fail
  have hw := HW.out W0 k0
  rw [thread, HTV.out] at hw
  refine hw.mono ?_
  rintro e w1 ⟨l', rfl, ho, k1⟩
  obtain ⟨q, c', rfl⟩ := (Sl.of_owns ho).len
  have hR1 := r0.keeps k1 (by simp)
  have r0 := hR1.cell (j := 0) rfl
  have r1 := hR1.cell (j := 1) rfl
  have r2 := hR1.cell (j := 2) rfl
  have g0 := hR1.frozen 0
  have g1 := hR1.frozen 1
  have g2 := hR1.frozen 2
  have hsz : w.heap.size < w1.heap.size := hR1.lt
  have HO := Lib.hid ho
  have HK := Lib.hid (k0.trans k1)
  have HZ := Lib.hid (show ∀ g, (Value.slice q rl.length c').ownBlock = some g → g ≠ w.heap.size from fun g hg => by have := (ho.lt g hg).1; omega)
  clear hR1 ho k1 hW0 k0 h1 h1' ht ht' hw
  go_wp2
  refine bodyPost_ret (v := .tuple #[.agg #[.int .i64 rc, .int .u64 rv, .slice q rl.length c'], .bool bb]) (by simp [results, Tryz.results14, go_sem, r0, r1, r2]) rfl ⟨_, rfl, ?_, ?_⟩
  · refine owns_base (owns_keeps (S := [w.heap.size]) HO.out ?_ ?_) (by omega)
    · exact (((Keeps.refl _ _).set (by simp) _ _).set (by simp) _ _).set (by simp) _ _
    · intro g hg
      simpa using HZ.out g hg
  · refine HK.out.step (S := [w.heap.size]) ?_ (by simp)
    exact (((Keeps.refl _ _).set (by simp) _ _).set (by simp) _ _).set (by simp) _ _
end Go.Proofs.YtjbgkaleickknaaGreat

/-
  Contracts: Held of a loom that isn't there.
-/
namespace Go.Proofs.YtjbgkaleickknaaGreat
set_option maxRecDepth 100000
set_option linter.unusedSimpArgs false
set_option linter.unusedVariables false
open Go.ChangeShapes Go.WideShapes Go.ChangeAt Go.RowKit
end Go.Proofs.YtjbgkaleickknaaGreat
