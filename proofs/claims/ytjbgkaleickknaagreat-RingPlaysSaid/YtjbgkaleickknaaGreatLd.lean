import Derived.Test.YtjbgkaleickknaaGreatMem
import Derived.Test.YtjbgkaleickknaaGreatFresh
/-
  A load changes nothing; rows and boxes whose blocks are as they were.
-/
namespace Go.Proofs.YtjbgkaleickknaaGreat
set_option maxRecDepth 100000
set_option linter.unusedSimpArgs false
set_option linter.unusedVariables false
open Go.ChangeShapes Go.WideShapes Go.ChangeAt Go.RowKit

theorem Row.block {w w' : World} {b : Nat} {e : TypeId} {xs : List Value} (h : Row w b e xs) (hb : w'.heap[b]? = w.heap[b]?) : Row w' b e xs := by
  obtain ⟨cur, h1, h2⟩ := h
  exact ⟨cur, hb.trans h1, h2⟩
theorem Box.block {w w' : World} {b : Nat} {C : Array Value} (h : Box w b C) (hs : w.heap.size ≤ w'.heap.size) (hb : w'.heap[b]? = w.heap[b]?) : Box w' b C :=
  ⟨Nat.lt_of_lt_of_le h.lt hs, fun i => (World.cell?_of_block (w := w) (a := ⟨b, i, none⟩) hb).trans (h.cells i)⟩
/-- A cell that gets what it was: nothing has changed. -/
theorem Row.setSame {w : World} {b : Nat} {e : TypeId} {xs : List Value} (h : Row w b e xs) {i : Nat} {u : Value} (hu : xs[i]? = some u) : Keeps [] w (w.setCell ⟨b, i, none⟩ u) := by
  have hk : Keeps [b] w (w.setCell ⟨b, i, none⟩ u) := (Keeps.refl _ _).setCell (fun _ => by simp) _
  refine ⟨hk.os, hk.tape, hk.output, hk.size, fun k hk' _ => ?_⟩
  by_cases e : k = b
  · subst e
    obtain ⟨cur, h, ht⟩ := h
    have hlt := (Array.getElem?_eq_some_iff.1 h).1
    have hv := (Array.getElem?_eq_some_iff.1 h).2
    have hc : cur[i]? = some u := by
      rw [← ht, List.getElem?_take] at hu
      split at hu
      · simpa using hu
      · cases hu
    have hcc : cur.setIfInBounds i u = cur := by
      obtain ⟨hi, hc⟩ := Array.getElem?_eq_some_iff.1 hc
      apply Array.ext
      · simp
      · intro j h1 h2
        rw [Array.getElem_setIfInBounds]
        split
        · rename_i e; subst e; exact hc.symm
        · rfl
    simp only [World.setCell]
    rw [Array.getElem?_eq_getElem (by simpa using hlt), Array.getElem_modify, Array.getElem?_eq_getElem hlt]
    simp [hv, hcc]
  · exact hk.block k hk' (by simpa using e)

/-- A load changes nothing. -/
theorem do_load (m b : Nat) (us : List Int) (i : Nat) (w : World) (h : Mem w m b us) (hiu : i < us.length) :
    Calls Tryz.prog 51 #[.pointer (some ⟨m, 0, none⟩), .agg #[.int .i64 1, .int .i64 (i : Int), .int .u64 0, .int .u64 0]] w fun e w' =>
      e = .returned (.tuple #[.int .u64 (us.getD i 0), .bool true, .int .i64 0]) ∧ Keeps [] w w' := by
  obtain ⟨cap, hm⟩ := h.at
  obtain ⟨hml, hbl⟩ := h.lt
  have hlen := h.len
  obtain ⟨w1, w2, w3⟩ := h.word hiu
  have hU : M.U 0 := ⟨by decide, by decide⟩
  refine (do_core m b i us.length cap ⟨1, i, 0, 0⟩ _ 94 (us.getD i 0) true w hm hiu hlen hml hbl w1 w2 (show (1 : Int) ≤ 1 by decide) (show (1 : Int) ≤ 7 by decide) rfl (fun _ _ => by kernel_rfl) (Lib.hid deedOf_1) (Lib.hid (fun w => stay_any ⟨1, i, 0, 0⟩ _ w w3 ⟨hU, hU⟩))).mono ?_
  rintro e w' ⟨rfl, w1', hk', rfl⟩
  exact ⟨rfl, hk'.trans ((h.keeps hk' (by simp) (by simp)).row.setSame (ints_at hiu))⟩

end Go.Proofs.YtjbgkaleickknaaGreat
