/-
  The law WordBits holds for every input: the call returns true, and the argument reads as before; math/bits' table is tied to the program's text.
-/
import Derived.Test.YtiohhajljfindaaDoorBits
import Derived.Test.YtiohhajljfindaaDoorSame
import Derived.Test.YtiohhajljfindaaDoorAwake1
import Derived.Test.YtiohhajljfindaaDoorTie
import Derived.Test.YtiohhajljfindaaDoorCards
import Derived.ChangeOld
import Derived.LaidMore
import Derived.SevenTiedAt
import Derived.Lib.LaidTab
import Derived.Stop.Joined
namespace Go.Proofs.YtiohhajljfindaaDoor.wordBits
open Go.ChangeShapes Go.WideShapes Go.ChangeAt Go.RowKit

theorem own : ownKnob Tryd.prog.godebug = none := by kernel_rfl
theorem laidOut : laidOutB Tryd.prog = true := by kernel_rfl
theorem gTab : Tryd.prog.globalNamed "math/bits.deBruijn64tab" = some 0 := by kernel_rfl

theorem placesI_head {l : List Nat} {x : Value} (h : (l.map (fun i : Nat => Value.int .i64 (i : Int)))[0]? = some x) : (ints .i64 (placesI l))[0]? = some x := by
  rw [← h, ints, placesI, List.map_map]; rfl

theorem walk (u : Int) (wf : (Lit.int .u64 u).wf = true) (w : World) (hT : TabThere w) (hB : 0 < w.heap.size) :
    Calls Tryd.prog 3 #[.int .u64 u] w fun e w' => e = .returned (.bool true) ∧ Below w.heap.size w w' := by
  have hu := M.U.wf wf
  have u0 := hu.nn
  by_cases h0 : u = 0
  · subst h0
    go_enter Tryd.func3, Tryd.ntmps3
    go_wp2_with fail
    refine (awake1 _).mono ?_
    rintro e w' ⟨rfl, m, rfl⟩
    go_wp2_with fail
    refine (bits_any 0 (w.drewN m) u0 hu hT hB).mono ?_
    rintro e w1 ⟨v, rfl, hs, hb⟩
    obtain ⟨pv, cv, rfl⟩ := hs.len
    have hb := belowU hb
    have hT1 := hT.below hb hB
    go_wp2_with fail
    refine (first_zero _).mono ?_
    rintro e w' ⟨rfl, rfl⟩
    go_wp2_with fail
    refine (refBits_any 0 _ u0 hu).mono ?_
    rintro e w2 ⟨v2, rfl, hs2, hb2⟩
    obtain ⟨pv2, cv2, rfl⟩ := hs2.len
    go_wp2_with fail
    refine (sameInts_any _ _ _ _ _ _ _ (by decide) (by decide) (hs.below hb2 (Nat.le_refl _)) hs2).mono ?_
    rw [decide_eq_true rfl]
    rintro e w' ⟨rfl, m2, rfl⟩
    go_wp2
    go_ret
    exact ⟨rfl, belowD (hb.trans (hb2.mono (hb.size)))⟩
  · obtain ⟨c, hc, hlen, hhead⟩ := M.places_head u hu h0
    have hne : (u != 0) = true := by rw [bne_iff_ne]; exact h0
    have HC := Lib.hid hc
    have HH := Lib.hid hhead
    clear hc hhead
    go_enter Tryd.func3, Tryd.ntmps3
    go_wp2_with fail
    refine (awake1 _).mono ?_
    rintro e w' ⟨rfl, m, rfl⟩
    go_wp2_with fail
    refine (bits_any u (w.drewN m) u0 hu hT hB).mono ?_
    rintro e w1 ⟨v, rfl, hs, hb⟩
    obtain ⟨pv, cv, rfl⟩ := hs.len
    have hb := belowU hb
    have hT1 := hT.below hb hB
    go_wp2_with fail
    refine (first_any _ _ u0 hu h0 hT1).mono ?_
    rw [HC.out]
    rintro e w' ⟨rfl, m1, rfl⟩
    go_wp2_with fail
    refine (refBits_any u (w1.drewN m1) u0 hu).mono ?_
    rintro e w2 ⟨v2, rfl, hs2, hb2⟩
    have hb2 := belowU hb2
    obtain ⟨b2, o2, cv2, rfl, z2, k2⟩ := hs2.some hlen
    have hcell : w2.cell? ⟨b2, o2, none⟩ = some (.int .i64 (c : Int)) := k2 0 (.int .i64 (c : Int)) (placesI_head HH.out)
    have l64 := M.places_len u.toNat
    have L := Lib.hid hlen
    clear k2 hlen
    go_wp2_with fail
    refine (sameInts_any _ _ _ _ _ _ _ (by unfold maxLen; omega) (by unfold maxLen; omega) (hs.below hb2 (Nat.le_refl _)) hs2).mono ?_
    rw [decide_eq_true rfl]
    rintro e w' ⟨rfl, m2, rfl⟩
    have hlen := L.out
    go_wp2
    go_ret
    exact ⟨rfl, belowD (hb.trans (hb2.mono (hb.size)))⟩

theorem tTab : (Tryd.prog.globals[0]?).map (·.type) = some 40 := by kernel_rfl

/-- The door's own heap meets the condition. -/
theorem door_met (os : Os) (args : Array Value) : laidMetH Tryd.prog [("math/bits.deBruijn64tab", Rows.laid_math_bits_deBruijn64tab)] ((World.doorLaid Tryd.prog 14 os).forCall (fun _ _ => 0) ⟨#[], args, []⟩).memory :=
  laidMetH_of_parts3 (fuel := 8) (laidMet_of_run' 8 (by kernel_rfl) (by kernel_rfl)) (by kernel_rfl) (by kernel_rfl)

/-- What the condition gives the walk: the table's cells. -/
theorem tab_of_laid {W : World} (h : laidMetH Tryd.prog [("math/bits.deBruijn64tab", Rows.laid_math_bits_deBruijn64tab)] W) : TabThere W := by
  rw [MakeChecks.laidMetH_plain _ _ _ (by kernel_rfl)] at h
  have hT := Lib.tabIs_of_head (k := .u8) (zs := Lib.deBruijn64tab.map (fun i : Nat => (i : Int))) gTab tTab Tryd.underlying40 Tryd.underlying5 (by kernel_rfl) (by kernel_rfl) h
  intro j hj
  have := hT.cell gTab j (by simpa [Lib.deBruijn64tab] using hj)
  rw [this]
  congr 2
  simp only [List.getD, List.getElem?_map]
  cases Lib.deBruijn64tab[j]? <;> rfl

abbrev Ld : List (String × DataW Unit) := [("math/bits.deBruijn64tab", Rows.laid_math_bits_deBruijn64tab)]

set_option maxRecDepth 100000 in
theorem lifted (os : Os) (started : os.Started) (H : Type) (enc : TypeId × Value → H) :
    ReturnsInHanded {} Tryd.checked os 3 .any (fun w args => (Rows.wordBitsSpec.pre enc Tryd.prog Tryd.f3 [] false w args ∧ laidMetH Tryd.prog Ld w) ∧ sizedMet enc Tryd.prog Tryd.f3 (OpenSpec.ofChange Rows.wordBitsSpec) false w args)
      (Rows.wordBitsSpec.post enc Tryd.prog Tryd.f3 false true false false) := by
  refine returnsInHanded_of_change_and (C := Tryd.checked) (X := fun w _ => laidMetH Tryd.prog Ld w) (fun _ _ _ hh h => h.of_heap hh) own started (by kernel_rfl) Tryd.func3
    (ChangeSpec.witness_shaped (enc := enc) (C := Tryd.checked) (os := os) (X := fun w _ => laidMetH Tryd.prog Ld w) false (World.doorLaid Tryd.prog 14 os) #[.int .u64 0] 8 rfl (World.shaped_of_RefB (by kernel_rfl) (by kernel_rfl)) (by kernel_rfl) (by kernel_rfl) (by kernel_rfl) (door_met os _)) ?_
  intro W base args ds gs before hval0 hW _ _ hL _
  have hval : ∀ (j : Nat) t v, Tryd.f3.params[j]? = some t → args[j]? = some v → Value.okWide Tryd.prog W .any base t v := hval0
  have hW' := hW
  obtain ⟨p, q, hA0, hV, rfl, hfz, hnd⟩ := hW
  have hA : DataW.TrodAll enc Tryd.prog W 0 (fun _ => true) true Tryd.f3.params.toList args.toList ds p := hA0
  rw [Tryd.params3] at hA hval
  obtain ⟨v0, d0, rfl, rfl, h0⟩ := trodAll_one hA
  obtain ⟨rfl, rfl⟩ := trodVars_none hV
  obtain ⟨u, rfl, rfl, rfl, wf⟩ := open_int Tryd.underlying22 (hval 0 22 v0 rfl rfl) h0
  have hT := tab_of_laid hL
  have hB : 0 < W.heap.size := World.block_lt_of_cell? W _ (hT 0 (by decide))
  clear hA0 hval0
  simp only [List.append_nil] at hW'
  refine (walk u wf W hT hB).mono fun e W' ⟨he, bel⟩ => ?_
  subst he
  exact ⟨_, rfl, _, _, _, [], [], [], hW', trodAll_mk1 (shut_bool Tryd.underlying4 _), trodAll_mk1 (shut_int Tryd.underlying22 wf), rfl, bel.frame _, fun h => by cases h⟩

theorem wordBits_holds : Rows.WordBitsSaid :=
  OpenClaim.holds_of_wide 3 Tryd.f3 rfl rfl rfl rfl rfl rfl rfl ⟨rfl, rfl, rfl, rfl, rfl⟩ rfl rfl rfl rfl rfl (by kernel_rfl) Tryd.func3 (by kernel_rfl)
    (of_decide_eq_true (by kernel_rfl)) (by unfold Func.isWrapper; first | (rw [if_pos (by decide +kernel)]; kernel_rfl) | (rw [if_neg (by decide +kernel)]; exact ⟨rfl, rfl⟩))
    (fun os started H enc _ => lifted os started H enc)

theorem proved : Rows.WordBitsCardSaid :=
  Claim7.holds_tied_plain_at .later [] [.data] true (true, "238cef156be4bf33e1c2bd24ff23baa4d413c0cfcbe31ae60c144a82f9e6de82") false
    wordBits_holds (fun _ h => by cases h) (by kernel_rfl) (fun _ h => by cases h) wordBits_row_tie rfl ⟨rfl, rfl⟩ (by kernel_rfl) rfl
    (fun f fn hf hfn => by
      obtain rfl : f = 3 := Option.some.inj ((show Tryd.prog.funcNamed "coachyard/coachyardlaw01.WordBits" = some 3 by kernel_rfl).symm.trans hf) |>.symm
      obtain rfl : fn = Tryd.f3 := (Option.some.inj (Tryd.func3.symm.trans hfn)).symm
      exact ⟨by kernel_rfl, fun j t ht => by
        rw [Tryd.params3] at ht
        have hm : t ∈ [22] := by simpa using Array.mem_of_getElem? ht
        have hall : ([22].all fun u => !Tryd.prog.wantsStandIn u) = true := by kernel_rfl
        exact (show Tryd.prog.wantsStandIn t = false by simpa using List.all_eq_true.1 hall t hm)⟩)
    (by kernel_rfl)
#print axioms proved
end Go.Proofs.YtiohhajljfindaaDoor.wordBits
