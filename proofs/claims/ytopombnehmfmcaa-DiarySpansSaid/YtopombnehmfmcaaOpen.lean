import Derived.Test.YtopombnehmfmcaaKeep
import Derived.ChangeSlices
import Derived.OpenShut
/-
  Arguments that came in: slices that can be read.
-/
namespace Go.Proofs.Ytopombnehmfmcaa
set_option maxRecDepth 100000
set_option linter.unusedSimpArgs false
set_option linter.unusedVariables false
open Go Go.RowKit Go.ChangeShapes Go.WideShapes

theorem addr_plain {W : World} {a : Addr} {v : Value} (h : W.cell? a = some v) : a = ⟨a.block, a.off, none⟩ ∧ a.block < W.heap.size := by
  obtain ⟨b, o, s⟩ := a
  unfold World.cell? at h
  cases hb : W.heap[b]? with
  | none => simp [hb] at h
  | some x =>
    have hlt := (Array.getElem?_eq_some_iff.1 hb).1
    cases x with
    | cells c t f =>
      cases s with
      | none => exact ⟨rfl, hlt⟩
      | some s => simp [hb] at h
    | _ => simp [hb] at h

theorem add_at (b o : Nat) (i : Nat) : (⟨b, o, none⟩ : Addr).add i = ⟨b, o + i, none⟩ := by
  unfold Addr.add; split
  · subst_vars; rfl
  · rfl

/-- A slice whose cells are known is a slice that can be read. -/
theorem Sl.of_cells {W : World} {a : Addr} {size len cap : Nat} {xs : List Value} (h0 : 0 < size) (hl : xs.length = len * size) (hc : ∀ (i : Nat) (u : Value), xs[i]? = Option.some u → W.cell? (a.add i) = Option.some u) : Sl W size (.slice (Option.some a) len cap) len xs := by
  refine ⟨hl, ?_⟩
  by_cases hn : len = 0
  · subst hn; exact .inl ⟨_, _, rfl, rfl⟩
  · have hp : 0 < xs.length := by rw [hl]; exact Nat.mul_pos (Nat.pos_of_ne_zero hn) h0
    have h1 := hc 0 _ (List.getElem?_eq_getElem hp)
    have e0 : a.add 0 = a := by unfold Addr.add; simp
    rw [e0] at h1
    obtain ⟨ha, hb⟩ := addr_plain h1
    rw [ha] at hc ⊢
    exact .inr ⟨a.block, a.off, cap, rfl, hb, fun j u hu => by rw [← add_at]; exact hc j u hu⟩

theorem sl_ints {H : Type} {enc : TypeId × Value → H} {P : Program} {W : World} {base : Nat} {spare : Nat → Bool} {held : Bool} {t e : TypeId} {k : IntKind} {fuel : Nat} {a : Option Addr} {len cap : Nat} {x : DataW H × List MemPlace}
    (ht : P.underlying t = some (.slice e)) (he : P.underlying e = some (.int k)) (hc : P.cellsOf e = 1) (h : DataW.trod enc P W base spare held fuel t (Value.cells (.slice a len cap)).toList = some x) :
    ∃ zs : List Int, Sl W 1 (.slice a len cap) len (ints k zs) ∧ len ≤ maxLen ∧ ∀ z ∈ zs, (Lit.int k z).wf = true := by
  rcases open_ints ht he hc h with ⟨hcs, _⟩ | ⟨y, l, c, zs, hcs, _, hl, hm, hz, _, hcell, hwz⟩
  · simp [Value.cells] at hcs
    obtain ⟨rfl, rfl, rfl⟩ := hcs
    exact ⟨[], ⟨by simp [ints], .inl ⟨_, _, rfl, rfl⟩⟩, Nat.zero_le _, by simp⟩
  · simp [Value.cells] at hcs
    obtain ⟨rfl, rfl, rfl⟩ := hcs
    have hlz : len ≤ zs.length := by rw [hz]; split <;> omega
    refine ⟨zs.take len, Sl.of_cells (by decide) (by rw [ints_length, List.length_take]; omega) (fun i u hu => ?_), by omega, fun z hz => hwz z (List.mem_of_mem_take hz)⟩
    have hi : i < len := by
      have := (List.getElem?_eq_some_iff.1 hu).1
      rw [ints_length, List.length_take] at this; omega
    rw [hcell i (by omega)]
    rw [ints_at (by rw [List.length_take]; omega)] at hu
    rw [← hu]
    congr 2
    simp [List.getD, List.getElem?_take, hi]
end Go.Proofs.Ytopombnehmfmcaa
