/-
  Walks that are made at once, in one literal: whatever the order in which the operations are done.
-/
import Derived.Test.YtamcfobgmpgbeaaDoorAny
import Derived.Test.YtamcfobgmpgbeaaDoorStart
namespace Go.Proofs.YtamcfobgmpgbeaaDoor
set_option maxRecDepth 100000
set_option linter.unusedSimpArgs false
set_option linter.unusedVariables false
open Go.ChangeShapes Go.WideShapes Go.ChangeAt Go.RowKit

/-- What is said of a slot: a value; the walk number j; the row of the walks; what another slot holds. -/
inductive SlK
  | val (x : Value)
  | walk (j : Nat)
  | row
  | copy (f : Nat)
def slPd {σ : Type} (tbl : Nat → SlK) (I : Nat → World → List Nat → σ → Prop) (st : Nat → σ) (ix : List Nat) (d : Nat) (v : Nat → Value) (γ : List Nat) (w : World) : Prop :=
  match tbl d with
  | .val x => v d = x
  | .walk j => ExW I st w (v d) γ j
  | .row => ∃ bl, γ = [bl] ∧ v d = .slice (some ⟨bl, 0, none⟩) ix.length ix.length ∧ Row w bl 47 (ix.map v)
  | .copy f => v d = v f
def slR (tbl : Nat → SlK) (ix : List Nat) (d : Nat) : List Nat :=
  match tbl d with
  | .row => ix
  | .copy f => [f]
  | _ => []
theorem slPd_stable {σ : Type} {K : Mach σ} {I : Nat → World → List Nat → σ → Prop} (RR : ∀ m, Runs K (I m) m) {st : Nat → σ} (tbl : Nat → SlK) (ix : List Nat) (d : Nat) (v v' : Nat → Value) (γ : List Nat) (w w' : World) (h : slPd tbl I st ix d v γ w) (e : v' d = v d) (hR : ∀ j ∈ slR tbl ix d, v' j = v j) (_hγ : ∀ k ∈ γ, k < w.heap.size) (hk : Keeps [] w w') : slPd tbl I st ix d v' γ w' := by
  unfold slPd at h ⊢
  unfold slR at hR
  cases ht : tbl d with
  | val x => simp only [ht] at h ⊢; rw [e, h]
  | walk j => simp only [ht] at h ⊢; rw [e]; exact h.keeps RR hk
  | row =>
    simp only [ht] at h hR ⊢
    obtain ⟨bl, h1, h2, h3⟩ := h
    refine ⟨bl, h1, by rw [e, h2], ?_⟩
    rw [List.map_congr_left (fun j hj => hR j hj)]
    exact h3.keeps hk (by simp)
  | copy f => simp only [ht] at h hR ⊢; rw [e, h, hR f (by simp)]
theorem slPd_rowI {σ : Type} {tbl : Nat → SlK} {I : Nat → World → List Nat → σ → Prop} {st : Nat → σ} {ix : List Nat} {d : Nat} {v : Nat → Value} {γ : List Nat} {w : World} (h : tbl d = .row) (bl : Nat) (hγ : γ = [bl]) (hv : v d = .slice (some ⟨bl, 0, none⟩) ix.length ix.length) (xs : List Value) (hx : ix.map v = xs) (hr : Row w bl 47 xs) : slPd tbl I st ix d v γ w := by
  unfold slPd
  simp only [h]
  exact ⟨bl, hγ, hv, by rw [hx]; exact hr⟩
theorem slPd_copyI {σ : Type} {tbl : Nat → SlK} {I : Nat → World → List Nat → σ → Prop} {st : Nat → σ} {ix : List Nat} {d f : Nat} {v : Nat → Value} {γ : List Nat} {w : World} (h : tbl d = .copy f) (hv : v d = v f) : slPd tbl I st ix d v γ w := by
  unfold slPd
  simp only [h]
  exact hv
/-- All of them were made. -/
theorem slAll {σ : Type} {I : Nat → World → List Nat → σ → Prop} {st : Nat → σ} {tbl : Nat → SlK} {ix dl : List Nat} {v : Nat → Value} {g : Nat → List Nat} {w0 w : World} (N dr : Nat) (hN : ix.length = N) (hr : tbl dr = .row) (hdr : dr ∈ dl) (hix : ∀ j, j < N → ix.getD j 0 ∈ dl ∧ tbl (ix.getD j 0) = .walk j)
    (hall : ∀ d ∈ dl, slPd tbl I st ix d v (g d) w ∧ ∀ k ∈ g d, w0.heap.size ≤ k ∧ k < w.heap.size) (hdis : ∀ d ∈ dl, ∀ d' ∈ dl, d ≠ d' → ∀ k ∈ g d, k ∉ g d') :
    ∃ bl, v dr = .slice (some ⟨bl, 0, none⟩) N N ∧ ExAll N I st w0 w bl (fun j => v (ix.getD j 0)) (fun j => g (ix.getD j 0)) := by
  obtain ⟨h1, h2⟩ := hall dr hdr
  unfold slPd at h1
  simp only [hr] at h1
  obtain ⟨bl, e1, e2, e3⟩ := h1
  have hbl := h2 bl (by rw [e1]; simp)
  have hne : ∀ j, j < N → ix.getD j 0 ≠ dr := fun j hj h => by
    have := (hix j hj).2
    rw [h, hr] at this
    cases this
  have hin : ∀ i j, i < N → j < N → i ≠ j → ix.getD i 0 ≠ ix.getD j 0 := fun i j hi hj hij h => by
    have a := (hix i hi).2
    have b := (hix j hj).2
    rw [h, b] at a
    cases a
    exact hij rfl
  refine ⟨bl, by rw [e2, hN], ⟨?_, hbl, fun j hj => ?_, fun j hj => ⟨fun x hx => ?_, fun i hi hij => ?_⟩⟩⟩
  · have : (List.range N).map (fun j => v (ix.getD j 0)) = ix.map v := by
      apply List.ext_getElem?
      intro j
      by_cases h : j < N
      · simp [h, List.getD, show j < ix.length by omega]
      · rw [List.getElem?_eq_none (by simp; omega), List.getElem?_eq_none (by simp; omega)]
    rw [this]
    exact e3
  · have h3 := (hall _ (hix j hj).1).1
    unfold slPd at h3
    simp only [(hix j hj).2] at h3
    exact h3
  · have h3 := (hall _ (hix j hj).1).2 x hx
    exact ⟨h3.1, h3.2, fun h => hdis _ (hix j hj).1 dr hdr (hne j hj) x hx (by rw [e1, h]; simp)⟩
  · exact hdis _ (hix j hj).1 _ (hix i hi).1 (hin j i hj hi (Ne.symm hij))
end Go.Proofs.YtamcfobgmpgbeaaDoor
