/-
  The law IdleLooks of the statements holds for every input: the call returns true, and the arguments read as before.
-/
import Derived.Test.YtamcfobgmpgbeaaDoorIdA
import Derived.Test.YtamcfobgmpgbeaaDoorIdL
import Derived.Test.YtamcfobgmpgbeaaDoorAmbLaid
import Derived.Test.YtamcfobgmpgbeaaDoorOpenA
import Derived.Test.YtamcfobgmpgbeaaDoorLook
import Derived.Test.YtamcfobgmpgbeaaDoorOpen
import Derived.Test.YtamcfobgmpgbeaaDoorAcc
import Derived.Test.YtamcfobgmpgbeaaDoorMem3
import Derived.Test.YtamcfobgmpgbeaaDoorRows
import Derived.WalkKit
import Derived.ProofKit
import Derived.OpenShut
import Derived.ShutString
import Derived.ChangeOld
import Derived.Below
import Derived.Test.YtamcfobgmpgbeaaDoorOpen
import Derived.Test.YtamcfobgmpgbeaaDoorTie
import Derived.Test.YtamcfobgmpgbeaaDoorCards
import Derived.LaidMore
import Derived.Lay
import Derived.MakeChecks
import Derived.SevenTiedAt
import Derived.Lib.LaidTab
import Derived.Stop.Joined
import Derived.Stop.LaidErr
namespace Go.Proofs.YtamcfobgmpgbeaaDoor.idleLooks
open Go.ChangeShapes Go.WideShapes Go.ChangeAt Go.RowKit
open Go.ChangeMaps (open_string shut_string)
set_option linter.unusedVariables false
set_option linter.unusedSimpArgs false

theorem own : ownKnob Tryd.prog.godebug = none := by kernel_rfl
theorem laidOut : laidOutB Tryd.prog = true := by kernel_rfl
abbrev Ld : List (String × DataW Unit) := [("math/bits.deBruijn64tab", Rows.laid_math_bits_deBruijn64tab)]
/-- A world in which the listed variables are laid as the condition says. -/
theorem start_met (os : Os) (args : Array Value) : laidMetH Tryd.prog Ld ((World.laidAll Tryd.prog os Ld).forCall (fun _ _ => 0) ⟨#[], args, []⟩).memory := by
  rw [MakeChecks.laidMetH_plain _ _ _ (by kernel_rfl)]
  exact laidMet_laidAll _ (by kernel_rfl) (by kernel_rfl)

theorem facts {W : World} (h : laidMetH Tryd.prog Ld W) : Amb W := by
  rw [MakeChecks.laidMetH_plain _ _ _ (by kernel_rfl)] at h
  exact Amb.of_tab (tab_of_laid h)
theorem fill_all (us zs : List Int) (h : us.length = zs.length) : C.fill us zs = zs := by
  unfold C.fill
  rw [if_neg (by omega)]
  simp [← h]
theorem places_field (x n : Nat) (hn : n ≤ 64) : M.places (M.fieldN x 0 n) = M.placesTo x n := by
  unfold M.places M.placesTo
  have e : List.range 64 = List.range n ++ (List.range' n (64 - n)) := by
    rw [List.range_eq_range', List.range_eq_range', show 64 = n + (64 - n) by omega, ← List.range'_append_1]; simp [show n + (64 - n) - n = 64 - n by omega]
  rw [e, List.filter_append]
  have h1 : (List.range n).filter (fun i => (M.fieldN x 0 n).testBit i) = (List.range n).filter (fun i => x.testBit i) := by
    apply List.filter_congr; intro i hi
    rw [M.fieldN_tb]; simp [List.mem_range.1 hi]
  have h2 : (List.range' n (64 - n)).filter (fun i => (M.fieldN x 0 n).testBit i) = [] := List.filter_eq_nil_iff.2 fun i hi => by
    have := (List.mem_range'_1.1 hi).1
    rw [M.fieldN_tb]; simp; omega
  rw [h1, h2, List.append_nil]

set_option maxHeartbeats 12800000 in
set_option maxRecDepth 200000 in
theorem walk (pp : Option Addr) (q cp : Nat) (zs : List Int) (at_ N : Int) (w : World) (hsl : Sl w 1 (.slice pp q cp) q (ints .u64 zs)) (hq : q ≤ maxLen) (hz : ∀ z ∈ zs, (Lit.int .u64 z).wf = true)
    (haw : (Lit.int .i64 at_).wf = true) (hsw : (Lit.int .i64 N).wf = true) (hA : Amb w) :
    Calls Tryd.prog 3 #[.slice pp q cp, .agg #[.int .i64 at_, .int .i64 N]] w fun e w' => e = .returned (.bool true) ∧ Below w.heap.size w w' := by
  have HSl := Lib.hid hsl
  have hzl := hsl.ints_len
  have HZ : Hid (∀ z ∈ zs, M.U z) := Lib.hid fun z h => M.U.wf (hz z h)
  have bs := bounds_i64 hsw
  have ba := bounds_i64 haw
  have HA := Lib.hid hA
  unfold maxLen at hq
  clear hsl hz haw hsw hA
  obtain ⟨W0, hW0⟩ : ∃ W0, w.alloc (.cells #[.int .i64 at_, .int .i64 N] 24) = W0 := ⟨_, rfl⟩
  have HB0 : Hid (Box W0 w.heap.size #[.int .i64 at_, .int .i64 N]) := Lib.hid (by rw [← hW0]; exact Box.new _ _ _)
  have HK0 : Hid (Keeps [] w W0) := Lib.hid (by rw [← hW0]; exact (Keeps.refl _ _).alloc _)
  go_enter Tryd.func3, Tryd.ntmps3
  go_wp2_with fail
  clear hW0
  refine (awake10 W0 (HA.out.keeps HK0.out (by simp))).mono ?_
  rintro e w1 ⟨rfl, k1⟩
  have kk1 : Keeps [] W0 w1 := ⟨k1.os, k1.tape, k1.output, k1.size, fun k hk _ => k1.block k hk⟩
  have HB1 := Lib.hid (HB0.out.keeps kk1 (by simp))
  have HK1 := Lib.hid (HK0.out.trans kk1)
  have HAlt : Hid (∀ k, AmbAt k → k < w.heap.size) := Lib.hid HA.out.lt
  clear k1 kk1 HK0 HB0
  obtain ⟨ab, hab⟩ : ∃ ab, w.heap.size = ab := ⟨_, rfl⟩
  have HAB := Lib.hid hab
  rw [hab] at HB1 ⊢
  have hablt := HB1.out.lt
  clear hab
  by_cases h1 : q < 1
  · have d1 : decide ((q : Int) < 1) = true := decide_eq_true (by omega)
    go_wp2
    go_ret
    exact ⟨rfl, HK1.out.end⟩
  have d1 : decide ((q : Int) < 1) = false := decide_eq_false (by omega)
  by_cases h2 : 20 < q
  · have d2 : decide (20 < (q : Int)) = true := decide_eq_true (by omega)
    go_wp2
    go_ret
    exact ⟨rfl, HK1.out.end⟩
  have d2 : decide (20 < (q : Int)) = false := decide_eq_false (by omega)
  have NA := Lib.hid (new_any q w1 (by omega) (by omega))
  go_wp2_with fail
  refine NA.out.mono ?_
  rintro e w2 ⟨m, b, rfl, hM, k2, hm, hb⟩
  have HM2 := Lib.hid hM
  have HK2 := Lib.hid k2
  clear hM k2 NA
  go_wp2_with fail
  refine (fill_any m b _ zs _ q w2 HM2.out (HSl.out.below (HK1.out.trans HK2.out).end (Nat.le_refl _)) HZ.out (by unfold maxLen; omega)).mono ?_
  rintro e w3 ⟨rfl, hM3, k3⟩
  rw [fill_all _ zs (by simp; omega)] at hM3
  have HM3 := Lib.hid hM3
  have HK3 : Hid (Keeps [] w1 w3) := Lib.hid (HK2.out.step k3 (by intro k hk; simp at hk; omega))
  have HA3 := Lib.hid (HA.out.keeps (HK1.out.trans HK3.out) (by simp))
  have b3 := HB1.out.keeps HK3.out (by simp)
  have c0 := b3.cells 0
  have c1 := b3.cells 1
  simp at c0 c1
  clear hM3 k3 HM2 HK2 b3
  have HRR := Lib.hid (fun W => refRight10_any at_ N W)
  have HNil := Lib.hid (fun W => idLook_nil at_ N W)
  have hk31 := HK3.out.size
  have hbA : Hid (¬ AmbAt b) := Lib.hid fun h => by have h1 := HAlt.out b h; have h2 := HK1.out.size; omega
  have hbw : Hid (w.heap.size ≤ b) := Lib.hid (Nat.le_trans HK1.out.size hb)
  have hbab : Hid (b ≠ ab) := Lib.hid (by intro h; omega)
  have HBx : Hid (∀ W, Keeps [b] w3 W → W.cell? ⟨ab, 0, none⟩ = some (.int .i64 at_) ∧ W.cell? ⟨ab, 1, none⟩ = some (.int .i64 N)) := Lib.hid fun W hk =>
    ⟨(hk.cell (p := ⟨ab, 0, none⟩) (Nat.lt_of_lt_of_le hablt hk31) (by simpa using Ne.symm hbab.out)).trans c0, (hk.cell (p := ⟨ab, 1, none⟩) (Nat.lt_of_lt_of_le hablt hk31) (by simpa using Ne.symm hbab.out)).trans c1⟩
  have hzq : zs.length = q := hzl
  clear c0 c1
  obtain ⟨c0, c1⟩ := HBx.out w3 (Keeps.refl _ _)
  have HE : Hid (∀ W, Keeps [b] w3 W → Below w.heap.size w W) := Lib.hid fun W hk => ((HK1.out.trans HK3.out).step hk (fun k hk => by simp at hk; subst hk; exact hbw.out)).end
  have HE' : Hid (∀ W, Keeps [b] w3 W → Below ab w W) := Lib.hid fun W hk => by have := HE.out W hk; rwa [HAB.out] at this
  by_cases hr : idRight at_ N
  · obtain ⟨r1, r2, r3, r4⟩ := hr
    have hrr : idRight at_ N := ⟨r1, r2, r3, r4⟩
    obtain ⟨n, rfl⟩ := Int.eq_ofNat_of_zero_le (show 0 ≤ N by omega)
    rw [decide_eq_true hrr] at HRR
    by_cases hl : (q : Int) ≤ at_
    · have d3 : decide ((q : Int) ≤ at_) = true := decide_eq_true hl
      have HLo := Lib.hid (idLook_place at_ (n : Int) m b zs w3 HM3.out hrr (by rw [hzq]; exact hl))
      clear hrr
      go_wp2_with fail
      refine HLo.out.mono ?_
      rintro e w4 ⟨rfl, hm4, k4⟩
      obtain ⟨b40, b41⟩ := HBx.out w4 k4
      have HK4 := Lib.hid k4
      clear k4 hm4
      go_wp2_with fail
      refine (HNil.out w4).mono ?_
      rintro e w5 ⟨rfl, k5⟩
      obtain ⟨b50, b51⟩ := HBx.out w5 (HK4.out.trans k5.nil)
      have HK5 := Lib.hid (HK4.out.trans k5.nil)
      clear k5
      go_wp2_with fail
      refine (HRR.out w5).mono ?_
      rintro e w6 ⟨rfl, rfl⟩
      go_wp2
      go_ret
      exact ⟨rfl, HE.out _ HK5.out⟩
    · have d3 : decide ((q : Int) ≤ at_) = false := decide_eq_false hl
      have HLo := Lib.hid (idLook_fine at_ (n : Int) m b zs w3 HM3.out hrr (by rw [hzq]; omega) HA3.out hbA.out)
      simp only [Int.toNat_natCast] at HLo
      rw [places_field _ _ (by omega)] at HLo
      have hxU : M.U (zs.getD at_.toNat 0) := HZ.out _ (by simp [List.getD, show at_.toNat < zs.length by omega])
      obtain ⟨sb, so, hpp, hsb, hsc⟩ : ∃ sb so, pp = some ⟨sb, so, none⟩ ∧ sb < w.heap.size ∧ w.cell? ⟨sb, so + at_.toNat, none⟩ = some (.int .u64 (zs.getD at_.toNat 0)) := by
        rcases HSl.out.2 with ⟨p', c', -, h0⟩ | ⟨b', off', cap', hv, hb', hc'⟩
        · omega
        · cases hv; exact ⟨b', off', rfl, hb', hc' at_.toNat _ (ints_at (by omega))⟩
      subst hpp
      obtain ⟨x, hx⟩ : ∃ x, zs.getD at_.toNat 0 = x := ⟨_, rfl⟩
      rw [hx] at HLo hxU hsc
      have HSC : Hid (∀ W, Keeps [b] w3 W → W.cell? ⟨sb, so + at_.toNat, none⟩ = some (.int .u64 x)) := Lib.hid fun W hk =>
        ((HE.out W hk).cell (p := ⟨sb, so + at_.toNat, none⟩) hsb).trans hsc
      have HHi := Lib.hid (fun W => refHi_any x W hxU.nn hxU)
      have u0 := hxU.nn
      have u1 := hxU.lt
      obtain ⟨hi, hhi⟩ : ∃ hi, x / 4294967296 = hi := ⟨_, rfl⟩
      have hi0 : 0 ≤ hi := by omega
      have hi1 : hi < 4294967296 := by omega
      rw [hhi] at HLo HHi
      have whi : IntKind.i64.wrap hi = hi := by rw [IntKind.wrap_i64]; omega
      have HId := Lib.hid (fun (k : Nat) (hk : k ≤ 31) W => refIdle_any x k W hxU hk)
      obtain ⟨pl, hpl⟩ : ∃ pl, M.placesTo x.toNat n = pl := ⟨_, rfl⟩
      have hplen : pl.length ≤ 16 := by rw [← hpl]; exact Nat.le_trans (M.placesTo_len _ _) (by omega)
      rw [hpl] at HLo
      have HPl := Lib.hid hpl
      clear hrr hhi hx hsc hpl u0 u1
      go_wp2_with fail
      refine HLo.out.mono ?_
      rintro e w4 ⟨vL, rfl, sL, hm4, k4⟩
      obtain ⟨b40, b41⟩ := HBx.out w4 k4
      have HK4 := Lib.hid k4
      obtain ⟨qL, cL, rfl⟩ := sL.len
      have HSL := Lib.hid sL
      clear k4 hm4 sL
      go_wp2_with fail
      refine (HNil.out w4).mono ?_
      rintro e w5 ⟨rfl, k5⟩
      obtain ⟨b50, b51⟩ := HBx.out w5 (HK4.out.trans k5.nil)
      have HK5 := Lib.hid (HK4.out.trans k5.nil)
      have HSL5 := Lib.hid (HSL.out.keeps k5 (by simp))
      clear k5 HSL
      go_wp2_with fail
      refine (HRR.out w5).mono ?_
      rintro e w6 ⟨rfl, rfl⟩
      clear hzl hq ba bs
      have n1 : 1 ≤ n := by omega
      have n2 : n ≤ 16 := by omega
      clear r1 r2 r4
      have hown := owns_empty w5 3 1
      go_wp2_with fail
      have hs5 : w3.heap.size ≤ w5.heap.size := HK5.out.size
      go_loopw [13, 14] (fun v i wr => ∃ k : Nat, k ≤ n ∧ i = .int .i64 (k : Int) ∧ wr.ownsRow w5.heap.size 3 1 v (M.placesTo x.toNat k).length (ints .i64 (placesI (M.placesTo x.toNat k))) ∧ Below w5.heap.size w5 wr ∧ w5.heap.size ≤ wr.heap.size) (fun _ i _ => n - (intOf i).toNat)
      case atStart => exact ⟨0, by omega, rfl, hown, (Below.refl _ _).alloc (Nat.le_refl _) _, by simp⟩
      case round =>
        obtain ⟨k, hk, rfl, hown', hbel', hsz'⟩ := hrel
        have HKr := Lib.hid (HK5.out.trans ((Keeps.of_below hbel' (Nat.le_refl _)).nil (S := [b])))
        have e0 := (HBx.out wr HKr.out).1
        have e1 := (HBx.out wr HKr.out).2
        have e2 := HSC.out wr HKr.out
        clear hown
        by_cases hlt : k < n
        · have hlen := M.placesTo_len x.toNat k
          have hik : (k : Int) < (n : Int) := by omega
          have hal : at_ < (q : Int) := by omega
          by_cases hb : x.toNat.testBit k = true
          · have HY := Lib.hid (M.placesTo_yes (u := x.toNat) (k := k) (by rw [M.bitN_tb, hb]; rfl))
            have HI := Lib.hid (HId.out k (by omega))
            rw [hb] at HI
            clear hb
            go_wp2_with (first | (go_at_call 10; refine (HI.out _).mono ?_; rintro e w' ⟨rfl, rfl⟩) | (at_builtin; refine append_one rfl _ _ 31 rfl w5.heap.size 3 _ 1 8 Tryd.underlying31 elemInt _ _ _ rfl hown' #[.int .i64 (k : Int)] rfl rfl (by simp [Value.oneCell']) (by omega) hsz' ?_; intro v' w2 hown3 hbel3))
            go_roundw
            case rel => exact ⟨k + 1, by omega, by go_num, by rw [HY.out, List.length_append, placesI_snoc]; exact hown3, hbel'.trans hbel3, Nat.le_trans hsz' hbel3.size⟩
            case measure => simp [intOf]; omega
          · have hb' : x.toNat.testBit k = false := by simpa using hb
            have HY := Lib.hid (M.placesTo_no (u := x.toNat) (k := k) (by rw [M.bitN_tb, hb']; decide))
            have HI := Lib.hid (HId.out k (by omega))
            rw [hb'] at HI
            clear hb hb'
            go_wp2_with (go_at_call 10; refine (HI.out _).mono ?_; rintro e w' ⟨rfl, rfl⟩)
            go_roundw
            case rel => exact ⟨k + 1, by omega, by go_num, by rw [HY.out]; exact hown', hbel', hsz'⟩
            case measure => simp [intOf]; omega
        · obtain rfl : n = k := by omega
          rw [HPl.out] at hown'
          have HOw := Lib.hid hown'
          have HBl := Lib.hid hbel'
          have hal : at_ < (q : Int) := by omega
          clear hown' hbel' HId
          go_wp2_with fail
          refine (HHi.out _).mono ?_
          rintro e w9 ⟨rfl, rfl⟩
          go_wp2_with fail
          refine (sameInts_any _ _ _ _ (placesI pl) (placesI pl) wr (by unfold maxLen; omega) (by unfold maxLen; omega) (HSL5.out.below HBl.out (Nat.le_refl _)) (Sl.of_owns HOw.out)).mono ?_
          rintro e w10 ⟨rfl, m10, rfl⟩
          rw [decide_eq_true rfl]
          go_wp2
          go_ret
          exact ⟨rfl, belowD (HE.out _ HKr.out)⟩
  · rw [decide_eq_false hr] at HRR
    have HLo := Lib.hid (idLook_arg at_ N m w3 hr)
    clear hr
    go_wp2_with fail
    refine HLo.out.mono ?_
    rintro e w4 ⟨rfl, k4⟩
    obtain ⟨b40, b41⟩ := HBx.out w4 k4.nil
    have HK4 := Lib.hid (k4.nil (S := [b]))
    clear k4
    go_wp2_with fail
    refine (HNil.out w4).mono ?_
    rintro e w5 ⟨rfl, k5⟩
    obtain ⟨b50, b51⟩ := HBx.out w5 (HK4.out.trans k5.nil)
    have HK5 := Lib.hid (HK4.out.trans k5.nil)
    clear k5
    go_wp2_with fail
    refine (HRR.out w5).mono ?_
    rintro e w6 ⟨rfl, rfl⟩
    go_wp2
    go_ret
    exact ⟨rfl, HE.out _ HK5.out⟩

set_option maxRecDepth 100000 in
theorem lifted (os : Os) (started : os.Started) (H : Type) (enc : TypeId × Value → H) :
    ReturnsInHanded {} Tryd.checked os 3 .any (fun w args => (Rows.idleLooksSpec.pre enc Tryd.prog Tryd.f3 [] false w args ∧ laidMetH Tryd.prog Ld w) ∧ sizedMet enc Tryd.prog Tryd.f3 (OpenSpec.ofChange Rows.idleLooksSpec) false w args)
      (Rows.idleLooksSpec.post enc Tryd.prog Tryd.f3 false true false false) := by
  refine returnsInHanded_of_change_and (C := Tryd.checked) (X := fun w _ => laidMetH Tryd.prog Ld w) (fun _ _ _ hh h => h.of_heap hh) own started (by kernel_rfl) Tryd.func3
    (ChangeSpec.witness_shaped (enc := enc) (C := Tryd.checked) (os := os) (X := fun w _ => laidMetH Tryd.prog Ld w) false (World.laidAll Tryd.prog os Ld) #[.slice none 0 0, .agg #[.int .i64 0, .int .i64 0]] 8 (World.laidAll_os _ _ _) (World.shaped_of_ZipB (by kernel_rfl) (by kernel_rfl)) (by kernel_rfl) (by kernel_rfl) (by kernel_rfl) (start_met os _)) ?_
  intro W base args ds gs before hval0 hW _ _ hL _
  have hval : ∀ (j : Nat) t v, Tryd.f3.params[j]? = some t → args[j]? = some v → Value.okWide Tryd.prog W .any base t v := hval0
  have hW' := hW
  obtain ⟨p, q, hA0, hV, rfl, hfz, hnd⟩ := hW
  have hA : DataW.TrodAll enc Tryd.prog W 0 (fun _ => true) true Tryd.f3.params.toList args.toList ds p := hA0
  rw [Tryd.params3] at hA hval
  obtain ⟨v0, vs0, d0, ds0, q0, qs0, hargs, rfl, rfl, h0, r0⟩ := trodAll_cons hA
  obtain ⟨v1, vs1, d1, ds1, q1, qs1, rfl, rfl, rfl, h1, r1⟩ := trodAll_cons r0
  obtain ⟨rfl, rfl, rfl⟩ := trodAll_nil r1
  obtain rfl : args = #[v0, v1] := by cases args; simp_all
  obtain ⟨rfl, rfl⟩ := trodVars_none hV
  have hF := facts hL
  obtain ⟨p0, n0, c0, rfl⟩ := okWide_slice Tryd.underlying22 (hval 0 22 v0 rfl rfl)
  have k0 := h0
  have lt0 : ∀ x ∈ q0, x.block < W.heap.size := by obtain ⟨m, hm⟩ := k0; exact DataW.trod_lt m _ _ _ hm
  obtain ⟨z0, s0, m0, b0⟩ := (by obtain ⟨fu, hf⟩ := h0; exact sl_ints Tryd.underlying22 Tryd.underlying36 (by kernel_rfl) hf : ∃ zs : List Int, Sl W 1 (.slice p0 n0 c0) n0 (ints .u64 zs) ∧ n0 ≤ maxLen ∧ ∀ z ∈ zs, (Lit.int .u64 z).wf = true)
  have k1 := h1
  have lt1 : ∀ x ∈ q1, x.block < W.heap.size := by obtain ⟨m, hm⟩ := k1; exact DataW.trod_lt m _ _ _ hm
  obtain ⟨a1, n1, rfl, b1, c1⟩ := open_yard (hval 1 24 v1 rfl rfl) h1
  clear hA0 hval0
  simp only [List.append_nil] at hW'
  refine (walk p0 n0 c0 z0 a1 n1 W s0 m0 b0 b1 c1 hF).mono fun e W' ⟨he, bel⟩ => ?_
  subst he
  exact ⟨_, rfl, _, _, _, [], _, [], hW', trodAll_mk1 (shut_bool Tryd.underlying4 _), (trodAll_cons_mk (Below.trod laidOut (by kernel_rfl) (of_decide_eq_true (by kernel_rfl)) k0 bel lt0) (trodAll_cons_mk (Below.trod laidOut (by kernel_rfl) (of_decide_eq_true (by kernel_rfl)) k1 bel lt1) trodAll_mk0)), rfl, bel.frame _, fun h => by cases h⟩

theorem holds : Rows.IdleLooksSaid :=
  OpenClaim.holds_of_wide 3 Tryd.f3 rfl rfl rfl rfl rfl rfl rfl ⟨rfl, rfl, rfl, rfl, rfl⟩ rfl rfl rfl rfl rfl (by kernel_rfl) Tryd.func3 (by kernel_rfl)
    (of_decide_eq_true (by kernel_rfl)) (by unfold Func.isWrapper; first | (rw [if_pos (by decide +kernel)]; kernel_rfl) | (rw [if_neg (by decide +kernel)]; exact ⟨rfl, rfl⟩))
    (fun os started H enc _ => lifted os started H enc)

theorem proved : Rows.IdleLooksCardSaid :=
  Claim7.holds_tied_plain_at .later [] [.data] true (true, "77d570d79d0a981462a94565f79024614f7c52ac0de47a2ce15cad8cf7510714") false
    holds (fun _ h => by cases h) (by kernel_rfl) (fun _ h => by cases h) idleLooks_row_tie rfl ⟨rfl, rfl⟩ (by kernel_rfl) rfl
    (fun f fn hf hfn => by
      obtain rfl : f = 3 := Option.some.inj ((show Tryd.prog.funcNamed "coachyard/coachyardlaw10.IdleLooks" = some 3 by kernel_rfl).symm.trans hf) |>.symm
      obtain rfl : fn = Tryd.f3 := (Option.some.inj (Tryd.func3.symm.trans hfn)).symm
      exact ⟨by kernel_rfl, fun j t ht => by
        rw [Tryd.params3] at ht
        have hm : t ∈ [22, 24] := by simpa using Array.mem_of_getElem? ht
        have hall : ([22, 24].all fun u => !Tryd.prog.wantsStandIn u) = true := by kernel_rfl
        exact (show Tryd.prog.wantsStandIn t = false by simpa using List.all_eq_true.1 hall t hm)⟩)
    (by kernel_rfl)
#print axioms proved
end Go.Proofs.YtamcfobgmpgbeaaDoor.idleLooks
