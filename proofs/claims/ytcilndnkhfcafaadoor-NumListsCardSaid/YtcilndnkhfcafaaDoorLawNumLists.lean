/-
  The law NumLists of the statements holds for every input: the call returns true, and the arguments read as before.
-/
import Derived.Test.YtcilndnkhfcafaaDoorMath
import Derived.Test.YtcilndnkhfcafaaDoorNumLaid
import Derived.Test.YtcilndnkhfcafaaDoorNumWords
import Derived.Test.YtcilndnkhfcafaaDoorAwake2
import Derived.Test.YtcilndnkhfcafaaDoorRows
import Derived.WalkKit
import Derived.ProofKit
import Derived.OpenShut
import Derived.ShutString
import Derived.ChangeOld
import Derived.Below
import Derived.Test.YtcilndnkhfcafaaDoorOpen
import Derived.Test.YtcilndnkhfcafaaDoorTie
import Derived.Test.YtcilndnkhfcafaaDoorCards
import Derived.LaidMore
import Derived.Lay
import Derived.MakeChecks
import Derived.SevenTiedAt
import Derived.Lib.LaidTab
import Derived.Stop.Joined
import Derived.Stop.LaidErr
namespace Go.Proofs.YtcilndnkhfcafaaDoor.numLists
open Go.ChangeShapes Go.WideShapes Go.ChangeAt Go.RowKit
open Go.ChangeMaps (open_string shut_string)
set_option linter.unusedVariables false

theorem own : ownKnob Tryd.prog.godebug = none := by kernel_rfl
theorem laidOut : laidOutB Tryd.prog = true := by kernel_rfl
abbrev Ld : List (String × DataW Unit) := [("math/bits.deBruijn32tab", Rows.laid_math_bits_deBruijn32tab), ("math/bits.deBruijn64tab", Rows.laid_math_bits_deBruijn64tab), ("internal/strconv.uint64pow10", Rows.laid_internal_strconv_uint64pow10), ("unicode/utf8.acceptRanges", Rows.laid_unicode_utf8_acceptRanges), ("strconv.ErrRange", Rows.laid_strconv_ErrRange), ("strconv.ErrSyntax", Rows.laid_strconv_ErrSyntax), ("unicode/utf8.first", Rows.laid_unicode_utf8_first)]
/-- A world in which the listed variables are laid as the condition says. -/
theorem start_met (os : Os) (args : Array Value) : laidMetH Tryd.prog Ld ((World.laidAll Tryd.prog os Ld).forCall (fun _ _ => 0) ⟨#[], args, []⟩).memory := by
  rw [MakeChecks.laidMetH_plain _ _ _ (by kernel_rfl)]
  exact laidMet_laidAll _ (by kernel_rfl) (by kernel_rfl)

theorem facts {W : World} (h : laidMetH Tryd.prog Ld W) : NumTabs W := by
  rw [MakeChecks.laidMetH_plain _ _ _ (by kernel_rfl)] at h
  exact ⟨range_of_laid h.tail.tail.tail.tail, pow_of_laid h.tail.tail⟩

/-- Numbers that fit 64 bits. -/
theorem nats_of (zs : List Int) (h : ∀ z ∈ zs, (Lit.int .u64 z).wf = true) : ∃ us : List Nat, ints .u64 zs = nats us ∧ ∀ u ∈ us, u ≤ D.top := by
  refine ⟨zs.map Int.toNat, ?_, ?_⟩
  · unfold ints nats
    rw [List.map_map]
    refine List.map_congr_left fun z hz => ?_
    have := (M.U.wf (h z hz)).nn
    simp [Int.toNat_of_nonneg this]
  · intro u hu
    obtain ⟨z, hz, rfl⟩ := List.mem_map.1 hu
    have := (M.U.wf (h z hz)).nat
    unfold D.top; omega

set_option maxHeartbeats 1600000 in
set_option maxRecDepth 100000 in
theorem walk (p : Option Addr) (n c : Nat) (zs : List Int) (s : ByteArray) (w : World) (hsl : Sl w 1 (.slice p n c) n (ints .u64 zs)) (hn : n ≤ maxLen) (hz : ∀ z ∈ zs, (Lit.int .u64 z).wf = true) (hs : s.size ≤ maxLen) (hT : NumTabs w) :
    Calls Tryd.prog 5 #[.slice p n c, .string s] w fun e w' => e = .returned (.bool true) ∧ Below w.heap.size w w' := by
  obtain ⟨us, hus, hu⟩ := nats_of zs hz
  rw [hus] at hsl
  have hul := hsl.nats_len
  unfold maxLen at hs hn
  have HT := Lib.hid hT
  have HS := Lib.hid hsl
  have HU := Lib.hid hu
  clear hT hsl hu hus hz
  by_cases h1 : 100 < n
  · go_enter Tryd.func5, Tryd.ntmps5
    go_wp2_with (go_at_call 11; refine (awake2 w HT.out).mono ?_; rintro e w1 ⟨rfl, hb1⟩)
    go_ret
    exact ⟨rfl, hb1⟩
  · have hd1 : decide (100 < (n : Int)) = false := decide_eq_false (by omega)
    by_cases h4 : 400 < s.size
    · go_enter Tryd.func5, Tryd.ntmps5
      go_wp2_with (go_at_call 11; refine (awake2 w HT.out).mono ?_; rintro e w1 ⟨rfl, hb1⟩)
      go_ret
      exact ⟨rfl, hb1⟩
    · have hd2 : decide (400 < (s.size : Int)) = false := decide_eq_false (by omega)
      go_enter Tryd.func5, Tryd.ntmps5
      go_wp2_with (go_at_call 11; refine (awake2 w HT.out).mono ?_; rintro e w1 ⟨rfl, hb1⟩)
      subst hul
      go_at_call 16
      refine (list_any _ us w1 (by omega) HU.out (HS.out.below hb1 (Nat.le_refl _)) (HT.out.below hb1 (Nat.le_refl _))).mono ?_
      rintro e w2 ⟨rfl, hb2⟩
      have hB2 := hb1.trans (hb2.mono hb1.size)
      go_wp2_with fail
      refine (refList_any _ us w2 (by omega) HU.out (HS.out.below hB2 (Nat.le_refl _))).mono ?_
      rintro e w3 ⟨rfl, hb3⟩
      have hB3 := hB2.trans (hb3.mono hB2.size)
      go_wp2_with fail
      refine (words_any s w3 (by omega)).mono ?_
      rintro e w4 ⟨v4, rfl, hs4, hb4⟩
      have hB4 := hB3.trans (hb4.mono hB3.size)
      obtain ⟨p4, c4, rfl⟩ := hs4.len
      go_wp2_with fail
      refine (refWords_any s w4 (by omega)).mono ?_
      rintro e w5 ⟨v5, rfl, hs5, hb5⟩
      have hB5 := hB4.trans (hb5.mono hB4.size)
      obtain ⟨p5, c5, rfl⟩ := hs5.len
      have hwl := D.wordsL_len s.data.toList
      rw [← size_list] at hwl
      go_wp2_with fail
      refine (sameTexts_any _ _ _ _ _ _ w5 (by unfold maxLen; omega) (by unfold maxLen; omega) (hs4.below hb5 (Nat.le_refl _)) hs5).mono ?_
      rw [decide_eq_true rfl]
      rintro e w6 ⟨rfl, m, rfl⟩
      go_wp2
      go_ret
      exact ⟨rfl, belowD hB5⟩

set_option maxRecDepth 100000 in
theorem lifted (os : Os) (started : os.Started) (H : Type) (enc : TypeId × Value → H) :
    ReturnsInHanded {} Tryd.checked os 5 .any (fun w args => (Rows.numListsSpec.pre enc Tryd.prog Tryd.f5 [] false w args ∧ laidMetH Tryd.prog Ld w) ∧ sizedMet enc Tryd.prog Tryd.f5 (OpenSpec.ofChange Rows.numListsSpec) false w args)
      (Rows.numListsSpec.post enc Tryd.prog Tryd.f5 false true false false) := by
  refine returnsInHanded_of_change_and (C := Tryd.checked) (X := fun w _ => laidMetH Tryd.prog Ld w) (fun _ _ _ hh h => h.of_heap hh) own started (by kernel_rfl) Tryd.func5
    (ChangeSpec.witness_shaped (enc := enc) (C := Tryd.checked) (os := os) (X := fun w _ => laidMetH Tryd.prog Ld w) false (World.laidAll Tryd.prog os Ld) #[.slice none 0 0, .string ByteArray.empty] 8 (World.laidAll_os _ _ _) (World.shaped_of_ZipB (by kernel_rfl) (by kernel_rfl)) (by kernel_rfl) (by kernel_rfl) (by kernel_rfl) (start_met os _)) ?_
  intro W base args ds gs before hval0 hW _ _ hL _
  have hval : ∀ (j : Nat) t v, Tryd.f5.params[j]? = some t → args[j]? = some v → Value.okWide Tryd.prog W .any base t v := hval0
  have hW' := hW
  obtain ⟨p, q, hA0, hV, rfl, hfz, hnd⟩ := hW
  have hA : DataW.TrodAll enc Tryd.prog W 0 (fun _ => true) true Tryd.f5.params.toList args.toList ds p := hA0
  rw [Tryd.params5] at hA hval
  obtain ⟨v0, vs0, d0, ds0, q0, qs0, hargs, rfl, rfl, h0, r0⟩ := trodAll_cons hA
  obtain ⟨v1, vs1, d1, ds1, q1, qs1, rfl, rfl, rfl, h1, r1⟩ := trodAll_cons r0
  obtain ⟨rfl, rfl, rfl⟩ := trodAll_nil r1
  obtain rfl : args = #[v0, v1] := by cases args; simp_all
  obtain ⟨rfl, rfl⟩ := trodVars_none hV
  have hF := facts hL
  obtain ⟨p0, n0, c0, rfl⟩ := okWide_slice Tryd.underlying35 (hval 0 35 v0 rfl rfl)
  have k0 := h0
  have lt0 : ∀ x ∈ q0, x.block < W.heap.size := by obtain ⟨m, hm⟩ := k0; exact DataW.trod_lt m _ _ _ hm
  obtain ⟨z0, s0, m0, b0⟩ := (by obtain ⟨fu, hf⟩ := h0; exact sl_ints Tryd.underlying35 Tryd.underlying22 (by kernel_rfl) hf : ∃ zs : List Int, Sl W 1 (.slice p0 n0 c0) n0 (ints .u64 zs) ∧ n0 ≤ maxLen ∧ ∀ z ∈ zs, (Lit.int .u64 z).wf = true)
  obtain ⟨a1, rfl, rfl, rfl, w1⟩ := open_string Tryd.underlying9 (hval 1 9 v1 rfl rfl) h1
  clear hA0 hval0
  simp only [List.append_nil] at hW'
  refine (walk p0 n0 c0 z0 a1 W s0 m0 b0 w1 hF).mono fun e W' ⟨he, bel⟩ => ?_
  subst he
  exact ⟨_, rfl, _, _, _, [], _, [], hW', trodAll_mk1 (shut_bool Tryd.underlying4 _), (trodAll_cons_mk (Below.trod laidOut (by kernel_rfl) (of_decide_eq_true (by kernel_rfl)) k0 bel lt0) (trodAll_cons_mk (shut_string Tryd.underlying9 w1) trodAll_mk0)), rfl, bel.frame _, fun h => by cases h⟩

theorem holds : Rows.NumListsSaid :=
  OpenClaim.holds_of_wide 5 Tryd.f5 rfl rfl rfl rfl rfl rfl rfl ⟨rfl, rfl, rfl, rfl, rfl⟩ rfl rfl rfl rfl rfl (by kernel_rfl) Tryd.func5 (by kernel_rfl)
    (of_decide_eq_true (by kernel_rfl)) (by unfold Func.isWrapper; first | (rw [if_pos (by decide +kernel)]; kernel_rfl) | (rw [if_neg (by decide +kernel)]; exact ⟨rfl, rfl⟩))
    (fun os started H enc _ => lifted os started H enc)

theorem proved : Rows.NumListsCardSaid :=
  Claim7.holds_tied_plain_at .later [] [.data, .data, .data, .data, .sentinel, .sentinel, .pinned] true (true, "beadfc74261953279f9336867e89dea267cc7f080eeae3fa85c2d404562110de") true
    holds (fun _ h => by cases h) (by kernel_rfl) (fun _ h => by cases h) numLists_row_tie rfl ⟨rfl, rfl⟩ (by kernel_rfl) rfl
    (fun f fn hf hfn => by
      obtain rfl : f = 5 := Option.some.inj ((show Tryd.prog.funcNamed "coachyard/coachyardlaw02.NumLists" = some 5 by kernel_rfl).symm.trans hf) |>.symm
      obtain rfl : fn = Tryd.f5 := (Option.some.inj (Tryd.func5.symm.trans hfn)).symm
      exact ⟨by kernel_rfl, fun j t ht => by
        rw [Tryd.params5] at ht
        have hm : t ∈ [35, 9] := by simpa using Array.mem_of_getElem? ht
        have hall : ([35, 9].all fun u => !Tryd.prog.wantsStandIn u) = true := by kernel_rfl
        exact (show Tryd.prog.wantsStandIn t = false by simpa using List.all_eq_true.1 hall t hm)⟩)
    (by kernel_rfl)
#print axioms proved
end Go.Proofs.YtcilndnkhfcafaaDoor.numLists
