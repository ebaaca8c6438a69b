import Derived.Test.YtopombnehmfmcaaDiC
/-
  The chapter's example.
-/
namespace Go.Proofs.Ytopombnehmfmcaa
set_option maxRecDepth 100000
set_option linter.unusedSimpArgs false
set_option linter.unusedVariables false
open Go.ChangeShapes Go.WideShapes Go.ChangeAt Go.RowKit

theorem mem_getD {α : Type} [Inhabited α] (l : List α) (x : α) (h : x ∈ l) : ∃ i, i < l.length ∧ l.getD i default = x := by
  obtain ⟨i, hi, rfl⟩ := List.mem_iff_getElem.1 h
  exact ⟨i, hi, by simp [List.getD_eq_getElem?_getD, hi]⟩
/-- Copies can be read. -/
theorem sps_of {w : World} {B C : Nat} {v : Value} {M L : List DSp} (ho : w.ownsRow B 41 10 v L.length (spCells L)) (hl : L.length = M.length) (hc : ∀ i, i < L.length → Copied C w (M.getD i default) (L.getD i default)) : SpsAt w v L :=
  ⟨Sl.of_owns ho, fun x hx => by
    obtain ⟨i, hi, rfl⟩ := mem_getD L x hx
    exact (hc i hi).at_⟩

def exEvs : List DEv := [⟨0, 0, 0, false, default, default⟩, ⟨0, 1, 0, false, default, default⟩, ⟨0, 0, 0, true, default, default⟩]
theorem exEvs_at (w : World) (C : Array Value) (hC : C.toList = evCells exEvs) : EvsAt (w.alloc (.cells C 33)) (.slice (some ⟨w.heap.size, 0, none⟩) 3 3) exEvs := by
  refine ⟨?_, fun e he => ?_⟩
  · rw [← hC]
    exact Sl.lit w C _ 10 3 3 (by rw [← Array.length_toList, hC]; rfl)
  · have hd : ∀ W : World, (default : DCall).At W ∧ (default : DRes).At W := fun W => ⟨⟨⟨rfl, .inl ⟨_, _, rfl, rfl⟩⟩, by show 0 ≤ 1000000; omega⟩, ⟨⟨rfl, .inl ⟨_, _, rfl, rfl⟩⟩, by show 0 ≤ 1000000; omega⟩⟩
    simp only [exEvs, List.mem_cons, List.mem_nil_iff, or_false] at he
    rcases he with rfl | rfl | rfl <;> exact hd _
def exRd : Rd := ⟨0, [⟨0, 0, 0, 2, default, default⟩, ⟨1, 0, 1, -1, default, DRes.none⟩], (⟨1, false, 0⟩ : RdW) :: ⟨1, true, 1⟩ :: List.replicate 14 default⟩
theorem exRd_is : rdAll exEvs 3 = some exRd := by rfl

theorem ex_most (a b : DSp) (h1 : a.lo = 0) (h2 : a.hi = 2) (h3 : b.lo = 1) (h4 : b.hi = -1) : diMost [a, b] = 2 := by
  simp [diMost, diMostTo, diCnt, DSp.fit, DSp.at_, h1, h2, h3, h4, List.countP_cons]

set_option maxHeartbeats 4000000 in
theorem awake15 (w : World) : Calls Try.prog 6 #[] w fun e w' => e = .returned (.bool true) ∧ Keeps [] w w' := by
  have HSp := fun C hC => diSpans_any _ exEvs _ (by decide) (exEvs_at w C hC)
  rw [show exEvs.length = 3 from rfl, exRd_is] at HSp
  have HMo := Lib.hid (fun v l W h hl => diMost_any v l W h hl)
  have HSp := Lib.hid HSp
  go_enter Try.func6, Try.ntmps6
  go_wp2_with fail
  refine (HSp.out _ (by rfl)).mono ?_
  rintro e w1 ⟨k1, sv, L, rfl, hL, hown, hcop⟩
  have hsp := sps_of hown hL hcop
  have hL2 : L.length = 2 := hL
  obtain ⟨a, b, rfl⟩ : ∃ a b, L = [a, b] := by
    match L, hL2 with
    | [a, b], _ => exact ⟨a, b, rfl⟩
  have ha := hcop 0 (by simp)
  have hb := hcop 1 (by simp)
  have a1 : a.lo = 0 := ha.lo
  have a2 : a.hi = 2 := ha.hi
  have b1 : b.lo = 1 := hb.lo
  have b2 : b.hi = -1 := hb.hi
  have hmo := HMo.out _ _ w1 hsp (by simp)
  rw [ex_most a b a1 a2 b1 b2] at hmo
  have hlen : [a, b].length = 2 := rfl
  obtain ⟨g, cap, hv, hgr⟩ : ∃ g cap, sv = .slice (some ⟨g, 0, none⟩) 2 cap ∧ Row w1 g 41 (spCells [a, b]) := by
    rcases hown.2 with ⟨_, h2⟩ | ⟨g, cap, cur, h1, _⟩
    · simp at h2
    · subst h1; exact ⟨g, cap, rfl, Row.of_owns hown⟩
  subst hv
  have c3 := hgr.cell (j := 3) (u := .int .i64 a.hi) rfl
  have c12 := hgr.cell (j := 12) (u := .int .i64 b.lo) rfl
  have c13 := hgr.cell (j := 13) (u := .int .i64 b.hi) rfl
  rw [a2] at c3
  rw [b1] at c12
  rw [b2] at c13
  have HMo2 := Lib.hid hmo
  have HK1 := Lib.hid k1
  clear hown hcop hsp ha hb a1 a2 b1 b2 hmo hgr k1
  go_wp2_with (go_at_call 15; refine HMo2.out.mono ?_; rintro e w2 ⟨rfl, k2⟩)
  go_ret
  exact ⟨rfl, (((Keeps.refl [] w).alloc _).trans HK1.out).trans k2⟩
end Go.Proofs.Ytopombnehmfmcaa
