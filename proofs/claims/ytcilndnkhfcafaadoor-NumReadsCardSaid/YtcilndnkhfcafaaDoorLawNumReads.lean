/-
  The law NumReads of the statements holds for every input: the call returns true, and the arguments read as before.
-/
import Derived.Test.YtcilndnkhfcafaaDoorMath
import Derived.Test.YtcilndnkhfcafaaDoorNumLaid
import Derived.Test.YtcilndnkhfcafaaDoorAwake2
import Derived.Test.YtcilndnkhfcafaaDoorRows
import Derived.WalkKit
import Derived.ProofKit
import Derived.OpenShut
import Derived.ShutString
import Derived.ChangeOld
import Derived.Below
import Derived.Test.YtcilndnkhfcafaaDoorOpen
import Derived.Test.YtcilndnkhfcafaaDoorTie
import Derived.Test.YtcilndnkhfcafaaDoorCards
import Derived.LaidMore
import Derived.SevenTiedAt
import Derived.Lib.LaidTab
import Derived.Stop.Joined
import Derived.Stop.LaidErr
namespace Go.Proofs.YtcilndnkhfcafaaDoor.numReads
open Go.ChangeShapes Go.WideShapes Go.ChangeAt Go.RowKit
open Go.ChangeMaps (open_string shut_string)
set_option linter.unusedVariables false

theorem own : ownKnob Tryd.prog.godebug = none := by kernel_rfl
theorem laidOut : laidOutB Tryd.prog = true := by kernel_rfl
abbrev Ld : List (String × DataW Unit) := [("math/bits.deBruijn32tab", Rows.laid_math_bits_deBruijn32tab), ("math/bits.deBruijn64tab", Rows.laid_math_bits_deBruijn64tab), ("internal/strconv.uint64pow10", Rows.laid_internal_strconv_uint64pow10), ("strconv.ErrRange", Rows.laid_strconv_ErrRange), ("strconv.ErrSyntax", Rows.laid_strconv_ErrSyntax)]
/-- The door's own heap meets the condition. -/
theorem door_met (os : Os) (args : Array Value) : laidMetH Tryd.prog Ld ((World.doorLaid Tryd.prog 64 os).forCall (fun _ _ => 0) ⟨#[], args, []⟩).memory :=
  laidMetH_of_parts3 (fuel := 8) (laidMet_of_run' 8 (by kernel_rfl) (by kernel_rfl)) (by kernel_rfl) (by kernel_rfl)

theorem facts {W : World} (h : laidMetH Tryd.prog Ld W) : NumTabs W := by
  rw [MakeChecks.laidMetH_plain _ _ _ (by kernel_rfl)] at h
  exact ⟨range_of_laid h.tail.tail.tail, pow_of_laid h.tail.tail⟩

set_option maxHeartbeats 1600000 in
set_option maxRecDepth 100000 in
theorem walk (s : ByteArray) (u : Int) (w : World) (hs : s.size ≤ maxLen) (wf : (Lit.int .u64 u).wf = true) (hT : NumTabs w) :
    Calls Tryd.prog 4 #[.string s, .int .u64 u] w fun e w' => e = .returned (.bool true) ∧ Below w.heap.size w w' := by
  obtain ⟨n, rfl, hn⟩ : ∃ n : Nat, u = (n : Int) ∧ n < 18446744073709551616 := by
    have hu := M.U.wf wf
    have u0 := hu.nn
    exact ⟨u.toNat, (Int.toNat_of_nonneg u0).symm, hu.nat⟩
  clear wf
  unfold maxLen at hs
  have HT := Lib.hid hT
  clear hT
  by_cases h4 : 400 < s.size
  · go_enter Tryd.func4, Tryd.ntmps4
    go_wp2_with (go_at_call 11; refine (awake2 w HT.out).mono ?_; rintro e w1 ⟨rfl, hb1⟩)
    go_ret
    exact ⟨rfl, hb1⟩
  · obtain ⟨⟨v, c⟩, hr⟩ : ∃ r, D.readL s.data.toList = r := ⟨_, rfl⟩
    have HR := Lib.hid hr
    have hv := D.readL_le s.data.toList
    rw [hr] at hv
    simp only [D.top] at hv
    have hl := D.len_le n (by unfold D.top; omega)
    have HP := Lib.hid (D.read_printed n (by unfold D.top; omega))
    have hpl := str_toList (Lib.decDigits n)
    have hvl := str_toList (Lib.decDigits v)
    have hsl : Hid (c = 0 → s.toList = Lib.decDigits v) := Lib.hid (by
      rintro rfl
      have := D.printed_of_read (l := s.data.toList) (by rw [hr])
      rw [hr] at this
      rw [ByteArray.toList_eq, ← this])
    clear hr
    go_enter Tryd.func4, Tryd.ntmps4
    go_wp2_with (go_at_call 11; refine (awake2 w HT.out).mono ?_; rintro e w1 ⟨rfl, hb1⟩)
    have T1 := HT.out.below hb1 (Nat.le_refl _)
    go_at_call 12
    refine (read_any s w1 (by omega) T1).mono ?_
    rw [HR.out]
    rintro e w2 ⟨rfl, hb2⟩
    have hB2 := hb1.trans (hb2.mono hb1.size)
    clear T1
    go_wp2_with fail
    refine (refRead_any s w2 (by unfold maxLen; omega)).mono ?_
    rw [HR.out]
    rintro e w2' ⟨rfl, m, rfl⟩
    go_wp2_with fail
    refine (print_any n hn _ (HT.out.below (belowD hB2) (Nat.le_refl _))).mono ?_
    rintro e w3 ⟨rfl, hb3⟩
    have hB3 := hB2.trans ((belowU hb3).mono hB2.size)
    go_wp2_with fail
    refine (read_any (str (Lib.decDigits n)) w3 (by rw [str_size]; omega) (HT.out.below hB3 (Nat.le_refl _))).mono ?_
    rw [str_data, HP.out]
    rintro e w4 ⟨rfl, hb4⟩
    have hB4 := hB3.trans (hb4.mono hB3.size)
    by_cases hc : c = 0
    · subst hc
      have hsl := hsl.out rfl
      rw [show ((0 : Nat) : Int) = 0 from rfl]
      go_wp2_with fail
      refine (print_any v (by omega) _ (HT.out.below hB4 (Nat.le_refl _))).mono ?_
      rintro e w5 ⟨rfl, hb5⟩
      have hB5 := hB4.trans (hb5.mono hB4.size)
      go_wp2_with fail
      refine (refPrint_any n w5 (by omega)).mono ?_
      rintro e w6 ⟨rfl, hb6⟩
      have hB6 := hB5.trans (hb6.mono hB5.size)
      go_wp2
      go_ret
      exact ⟨rfl, hB6⟩
    · have hc0 : ((c : Int) != 0) = true := by rw [bne_iff_ne]; omega
      clear hsl
      go_wp2_with fail
      refine (refPrint_any n w4 (by omega)).mono ?_
      rintro e w6 ⟨rfl, hb6⟩
      have hB6 := hB4.trans (hb6.mono hB4.size)
      go_wp2
      go_ret
      exact ⟨rfl, hB6⟩

set_option maxRecDepth 100000 in
theorem lifted (os : Os) (started : os.Started) (H : Type) (enc : TypeId × Value → H) :
    ReturnsInHanded {} Tryd.checked os 4 .any (fun w args => (Rows.numReadsSpec.pre enc Tryd.prog Tryd.f4 [] false w args ∧ laidMetH Tryd.prog Ld w) ∧ sizedMet enc Tryd.prog Tryd.f4 (OpenSpec.ofChange Rows.numReadsSpec) false w args)
      (Rows.numReadsSpec.post enc Tryd.prog Tryd.f4 false true false false) := by
  refine returnsInHanded_of_change_and (C := Tryd.checked) (X := fun w _ => laidMetH Tryd.prog Ld w) (fun _ _ _ hh h => h.of_heap hh) own started (by kernel_rfl) Tryd.func4
    (ChangeSpec.witness_shaped (enc := enc) (C := Tryd.checked) (os := os) (X := fun w _ => laidMetH Tryd.prog Ld w) false (World.doorLaid Tryd.prog 64 os) #[.string ByteArray.empty, .int .u64 0] 8 rfl (World.shaped_of_RefB (by kernel_rfl) (by kernel_rfl)) (by kernel_rfl) (by kernel_rfl) (by kernel_rfl) (door_met os _)) ?_
  intro W base args ds gs before hval0 hW _ _ hL _
  have hval : ∀ (j : Nat) t v, Tryd.f4.params[j]? = some t → args[j]? = some v → Value.okWide Tryd.prog W .any base t v := hval0
  have hW' := hW
  obtain ⟨p, q, hA0, hV, rfl, hfz, hnd⟩ := hW
  have hA : DataW.TrodAll enc Tryd.prog W 0 (fun _ => true) true Tryd.f4.params.toList args.toList ds p := hA0
  rw [Tryd.params4] at hA hval
  obtain ⟨v0, vs0, d0, ds0, q0, qs0, hargs, rfl, rfl, h0, r0⟩ := trodAll_cons hA
  obtain ⟨v1, vs1, d1, ds1, q1, qs1, rfl, rfl, rfl, h1, r1⟩ := trodAll_cons r0
  obtain ⟨rfl, rfl, rfl⟩ := trodAll_nil r1
  obtain rfl : args = #[v0, v1] := by cases args; simp_all
  obtain ⟨rfl, rfl⟩ := trodVars_none hV
  have hF := facts hL
  obtain ⟨a0, rfl, rfl, rfl, w0⟩ := open_string Tryd.underlying9 (hval 0 9 v0 rfl rfl) h0
  obtain ⟨a1, rfl, rfl, rfl, w1⟩ := open_int Tryd.underlying22 (hval 1 22 v1 rfl rfl) h1
  clear hA0 hval0
  simp only [List.append_nil] at hW'
  refine (walk a0 a1 W w0 w1 hF).mono fun e W' ⟨he, bel⟩ => ?_
  subst he
  exact ⟨_, rfl, _, _, _, [], _, [], hW', trodAll_mk1 (shut_bool Tryd.underlying4 _), (trodAll_cons_mk (shut_string Tryd.underlying9 w0) (trodAll_cons_mk (shut_int Tryd.underlying22 w1) trodAll_mk0)), rfl, bel.frame _, fun h => by cases h⟩

theorem holds : Rows.NumReadsSaid :=
  OpenClaim.holds_of_wide 4 Tryd.f4 rfl rfl rfl rfl rfl rfl rfl ⟨rfl, rfl, rfl, rfl, rfl⟩ rfl rfl rfl rfl rfl (by kernel_rfl) Tryd.func4 (by kernel_rfl)
    (of_decide_eq_true (by kernel_rfl)) (by unfold Func.isWrapper; first | (rw [if_pos (by decide +kernel)]; kernel_rfl) | (rw [if_neg (by decide +kernel)]; exact ⟨rfl, rfl⟩))
    (fun os started H enc _ => lifted os started H enc)

theorem proved : Rows.NumReadsCardSaid :=
  Claim7.holds_tied_plain_at .later [] [.data, .data, .data, .sentinel, .sentinel] true (true, "beadfc74261953279f9336867e89dea267cc7f080eeae3fa85c2d404562110de") true
    holds (fun _ h => by cases h) (by kernel_rfl) (fun _ h => by cases h) numReads_row_tie rfl ⟨rfl, rfl⟩ (by kernel_rfl) rfl
    (fun f fn hf hfn => by
      obtain rfl : f = 4 := Option.some.inj ((show Tryd.prog.funcNamed "coachyard/coachyardlaw02.NumReads" = some 4 by kernel_rfl).symm.trans hf) |>.symm
      obtain rfl : fn = Tryd.f4 := (Option.some.inj (Tryd.func4.symm.trans hfn)).symm
      exact ⟨by kernel_rfl, fun j t ht => by
        rw [Tryd.params4] at ht
        have hm : t ∈ [9, 22] := by simpa using Array.mem_of_getElem? ht
        have hall : ([9, 22].all fun u => !Tryd.prog.wantsStandIn u) = true := by kernel_rfl
        exact (show Tryd.prog.wantsStandIn t = false by simpa using List.all_eq_true.1 hall t hm)⟩)
    (by kernel_rfl)
#print axioms proved
end Go.Proofs.YtcilndnkhfcafaaDoor.numReads
