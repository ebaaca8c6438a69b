/-
  Workers at a yard, at a loom: what holds at every pick.
-/
import Derived.Test.YtamcfobgmpgbeaaDoorIdC
import Derived.Test.YtamcfobgmpgbeaaDoorIdQ
import Derived.Test.YtamcfobgmpgbeaaDoorCrew
import Derived.Test.YtamcfobgmpgbeaaDoorRowF
namespace Go.Proofs.YtamcfobgmpgbeaaDoor
set_option maxRecDepth 100000
set_option linter.unusedSimpArgs false
set_option linter.unusedVariables false
open Go Go.RowKit

structure IdPlay (W k : Nat) (L : LSt) (ss : Nat → Option IdS) (sr : Int) (al : Nat → Bool) (kd : Nat → Int) : Prop where
  crew : Crew idM (fun m => LoneI idM (idE m) m) idRuns W L ss
  inv : IdInv W L.us ss sr al
  kinds : ∀ i s, i < W → ss i = some s → s.over = none → kd i = s.kind - 1
  st : L.steps ≤ k
section
variable {W k : Nat} {L : LSt} {ss : Nat → Option IdS} {sr : Int} {al : Nat → Bool} {kd : Nat → Int}
theorem IdPlay.work (_h : IdPlay W k L ss sr al kd) {i : Nat} (hb : atWork idM (ss i) = true) : ∃ s, ss i = some s ∧ s.over = none := by
  cases hs : ss i with
  | none => rw [hs] at hb; cases hb
  | some s =>
    rw [hs] at hb
    refine ⟨s, rfl, ?_⟩
    cases ho : s.over with
    | none => rfl
    | some r => simp [atWork, idM, ho] at hb
theorem IdPlay.more (h : IdPlay W k L ss sr al kd) : IdPlay W (k + 1) L ss sr al kd := { h with st := by have := h.st; omega }
theorem IdPlay.same (h : IdPlay W k L ss sr al kd) {L' : LSt} (h1 : L'.ts = L.ts) (h2 : L'.us = L.us) (h3 : L'.steps = L.steps) : IdPlay W k L' ss sr al kd :=
  ⟨⟨by rw [h1]; exact h.crew.len, by rw [h1]; exact h.crew.th⟩, by rw [h2]; exact h.inv, h.kinds, by rw [h3]; exact h.st⟩
/-- The five walks of a worker. -/
def idFive (W who : Nat) (j : Nat) : IdS := idNew 0 W ((j : Int) + 1) (if j = 4 then 0 else who)
theorem idFive_over {W who j : Nat} (h1 : 1 ≤ W) (h2 : W ≤ 16) (hw : who < W) : (idFive W who j).over = none := by
  have hr : idRight 0 W := ⟨by omega, by omega, by omega, by omega⟩
  by_cases h : j = 4
  · have h0 : (0 : Int) < W := by omega
    simp [idFive, idNew, hr, h]; omega
  · simp [idFive, idNew, hr, h, hw]
theorem IdPlay.start (h : IdPlay W k L ss sr al kd) {who : Nat} (hw : who < W) (m : Nat) (j : Nat) (hj : j < 5) :
    IdPlay W k { L with ts := L.ts.set who (some ⟨IdS, idM, LoneI idM (idE m) m, m, idRuns m, idFive W who j⟩) } (updG ss who (some (idFive W who j))) sr al (updG kd who (j : Int)) := by
  refine ⟨h.crew.start hw m _, h.inv.begin_ hw _ (by omega) _ ?_, fun i s hi hs ho => ?_, h.st⟩
  · by_cases e : j = 4
    · subst e; exact .inl rfl
    · rw [if_neg e]; exact .inr rfl
  · by_cases e : i = who
    · subst e
      rw [updG_same] at hs ⊢
      cases hs
      show _ = ((j : Int) + 1) - 1
      omega
    · rw [updG_ne _ _ e] at hs ⊢
      exact h.kinds i s hi hs ho
/-- What a look tells. -/
theorem IdInv.look {us : List Int} (h : IdInv W us ss sr al) : us.length = 1 ∧ us.getD 0 0 / 4294967296 = sr ∧ ∀ j, j < W → (us.getD 0 0).toNat.testBit j = al j := by
  obtain ⟨mk, hus, hmk, hb⟩ := h.cell
  have hwn := h.wn
  have hsr := h.sr_
  have hm16 := idMask_lt hmk hwn.2
  have hm32 : mk < 2 ^ 32 := Nat.lt_of_lt_of_le hmk (Nat.pow_le_pow_right (by decide) (by omega))
  have hu : us.getD 0 0 = sr * 4294967296 + mk := by rw [hus]; rfl
  refine ⟨by rw [hus]; rfl, by rw [hu]; omega, fun j hj => ?_⟩
  rw [hu, show (sr * 4294967296 + (mk : Int)).toNat = 2 ^ 32 * sr.toNat + mk by omega, Nat.testBit_two_pow_mul_add _ hm32, ← hb j hj]
  simp [show j < 32 by omega]
theorem idM_want {s : IdS} (ho : s.over = none) : idM.want s = some (idWant s) := by simp [idM, ho]
theorem idM_give {s : IdS} (v : Int) (won : Bool) (ho : s.over = none) : idM.give s v won = idGive s v won := by simp [idM, ho]
theorem IdPlay.step (h : IdPlay W k L ss sr al kd) {i : Nat} (hi : i < W) {s : IdS} (hs : ss i = some s) (ho : s.over = none) :
    ∃ M s' sr' al', OneStep i L M ∧ M.mm = L.mm ∧ M.b = L.b ∧ IdPlay W (k + 1) M (updG ss i (some s')) sr' al' kd ∧ IdEv W i s s' sr al sr' al' ∧ kd i = s.kind - 1 ∧ 0 ≤ sr ∧ sr ≤ 16 := by
  obtain ⟨h1, h2, h3, s', sr', al', h4, h5, h6, h7⟩ := h.inv.step hi hs ho
  obtain ⟨M, m1, m2, m3, m4, m5⟩ := h.crew.step hi hs (idM_want ho) h1 h2 h3
  rw [idM_give _ _ ho, h4] at m2
  have hsr := h.inv.sr_
  have hwn := h.inv.wn
  refine ⟨M, s', sr', al', m1, m4, m5, ⟨m2, by rw [m3]; exact h5, fun j u hj hu hov => ?_, by have := m1.steps; have := h.st; omega⟩, h6, h.kinds i s hi hs ho, hsr.1, by omega⟩
  by_cases e : j = i
  · subst e
    rw [updG_same] at hu
    cases hu
    rw [h7]
    exact h.kinds j s hi hs ho
  · rw [updG_ne _ _ e] at hu
    exact h.kinds j u hj hu hov
end
end Go.Proofs.YtamcfobgmpgbeaaDoor
