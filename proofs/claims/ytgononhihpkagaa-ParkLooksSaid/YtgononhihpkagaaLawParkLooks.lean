/-
  The law ParkLooks of the statements holds for every input: the call returns true, and the arguments read as before.
-/
import Derived.Test.YtgononhihpkagaaPkA
import Derived.Test.YtgononhihpkagaaPkL
import Derived.Test.YtgononhihpkagaaOpenA
import Derived.Test.YtgononhihpkagaaLook
import Derived.Test.YtgononhihpkagaaOpen
import Derived.Test.YtgononhihpkagaaAcc
import Derived.Test.YtgononhihpkagaaMem3
import Derived.Test.YtgononhihpkagaaRows
import Derived.WalkKit
import Derived.ProofKit
import Derived.OpenShut
import Derived.ShutString
import Derived.ChangeOld
import Derived.Below
import Derived.Test.YtgononhihpkagaaOpen
namespace Go.Proofs.Ytgononhihpkagaa.parkLooks
open Go.ChangeShapes Go.WideShapes Go.ChangeAt Go.RowKit
open Go.ChangeMaps (open_string shut_string)
set_option linter.unusedVariables false
set_option linter.unusedSimpArgs false

theorem own : ownKnob Try.prog.godebug = none := by kernel_rfl
theorem laidOut : laidOutB Try.prog = true := by kernel_rfl

theorem fill_all (us zs : List Int) (h : us.length = zs.length) : C.fill us zs = zs := by
  unfold C.fill
  rw [if_neg (by omega)]
  simp [← h]

set_option maxHeartbeats 6400000 in
set_option maxRecDepth 200000 in
theorem walk (pp : Option Addr) (q cp : Nat) (zs : List Int) (at_ : Int) (w : World) (hsl : Sl w 1 (.slice pp q cp) q (ints .u64 zs)) (hq : q ≤ maxLen) (hz : ∀ z ∈ zs, (Lit.int .u64 z).wf = true)
    (haw : (Lit.int .i64 at_).wf = true) :
    Calls Try.prog 4 #[.slice pp q cp, .agg #[.int .i64 at_]] w fun e w' => e = .returned (.bool true) ∧ Below w.heap.size w w' := by
  have HSl := Lib.hid hsl
  have hzl := hsl.ints_len
  have HZ : Hid (∀ z ∈ zs, M.U z) := Lib.hid fun z h => M.U.wf (hz z h)
  have ba := bounds_i64 haw
  unfold maxLen at hq
  clear hsl hz haw
  obtain ⟨W0, hW0⟩ : ∃ W0, w.alloc (.cells #[.int .i64 at_] 23) = W0 := ⟨_, rfl⟩
  have HB0 : Hid (Box W0 w.heap.size #[.int .i64 at_]) := Lib.hid (by rw [← hW0]; exact Box.new _ _ _)
  have HK0 : Hid (Keeps [] w W0) := Lib.hid (by rw [← hW0]; exact (Keeps.refl _ _).alloc _)
  go_enter Try.func4, Try.ntmps4
  go_wp2_with fail
  clear hW0
  refine (awake11 W0).mono ?_
  rintro e w1 ⟨rfl, k1⟩
  have kk1 : Keeps [] W0 w1 := ⟨k1.os, k1.tape, k1.output, k1.size, fun k hk _ => k1.block k hk⟩
  have HB1 := Lib.hid (HB0.out.keeps kk1 (by simp))
  have HK1 := Lib.hid (HK0.out.trans kk1)
  clear k1 kk1 HK0 HB0
  obtain ⟨ab, hab⟩ : ∃ ab, w.heap.size = ab := ⟨_, rfl⟩
  have HAB := Lib.hid hab
  rw [hab] at HB1 ⊢
  have hablt := HB1.out.lt
  clear hab
  by_cases h1 : q < 1
  · have d1 : decide ((q : Int) < 1) = true := decide_eq_true (by omega)
    go_wp2
    go_ret
    exact ⟨rfl, HK1.out.end⟩
  have d1 : decide ((q : Int) < 1) = false := decide_eq_false (by omega)
  by_cases h2 : 20 < q
  · have d2 : decide (20 < (q : Int)) = true := decide_eq_true (by omega)
    go_wp2
    go_ret
    exact ⟨rfl, HK1.out.end⟩
  have d2 : decide (20 < (q : Int)) = false := decide_eq_false (by omega)
  have NA := Lib.hid (new_any q w1 (by omega) (by omega))
  go_wp2_with fail
  refine NA.out.mono ?_
  rintro e w2 ⟨m, b, rfl, hM, k2, hm, hb⟩
  have HM2 := Lib.hid hM
  have HK2 := Lib.hid k2
  clear hM k2 NA
  go_wp2_with fail
  refine (fill_any m b _ zs _ q w2 HM2.out (HSl.out.below (HK1.out.trans HK2.out).end (Nat.le_refl _)) HZ.out (by unfold maxLen; omega)).mono ?_
  rintro e w3 ⟨rfl, hM3, k3⟩
  rw [fill_all _ zs (by simp; omega)] at hM3
  have HM3 := Lib.hid hM3
  have HK3 : Hid (Keeps [] w1 w3) := Lib.hid (HK2.out.step k3 (by intro k hk; simp at hk; omega))
  have b3 := HB1.out.keeps HK3.out (by simp)
  have c0 := b3.cells 0
  simp at c0
  clear hM3 k3 HM2 HK2 b3
  have HNil := Lib.hid (fun W => pkLook_nil at_ W)
  have hk31 := HK3.out.size
  have hbw : Hid (w.heap.size ≤ b) := Lib.hid (Nat.le_trans HK1.out.size hb)
  have hbab : Hid (b ≠ ab) := Lib.hid (by intro h; omega)
  have HBx : Hid (∀ W, Keeps [b] w3 W → W.cell? ⟨ab, 0, none⟩ = some (.int .i64 at_)) := Lib.hid fun W hk =>
    (hk.cell (p := ⟨ab, 0, none⟩) (Nat.lt_of_lt_of_le hablt hk31) (by simpa using Ne.symm hbab.out)).trans c0
  have hzq : zs.length = q := hzl
  clear c0
  have c0 := HBx.out w3 (Keeps.refl _ _)
  have HE : Hid (∀ W, Keeps [b] w3 W → Below w.heap.size w W) := Lib.hid fun W hk => ((HK1.out.trans HK3.out).step hk (fun k hk => by simp at hk; subst hk; exact hbw.out)).end
  have HE' : Hid (∀ W, Keeps [b] w3 W → Below ab w W) := Lib.hid fun W hk => by have := HE.out W hk; rwa [HAB.out] at this
  by_cases hr : pkRight at_
  · obtain ⟨r3, r4⟩ := hr
    have hrr : pkRight at_ := ⟨r3, r4⟩
    have dn : decide (at_ < 0) = false := decide_eq_false (by omega)
    have dg : decide (65535 < at_) = false := decide_eq_false (by omega)
    by_cases hl : (q : Int) ≤ at_
    · have d3 : decide ((q : Int) ≤ at_) = true := decide_eq_true hl
      have HLo := Lib.hid (pkLook_place at_ m b zs w3 HM3.out hrr (by rw [hzq]; exact hl))
      clear hrr
      go_wp2_with fail
      refine HLo.out.mono ?_
      rintro e w4 ⟨rfl, hm4, k4⟩
      have b40 := HBx.out w4 k4
      have HK4 := Lib.hid k4
      clear k4 hm4
      go_wp2_with fail
      refine (HNil.out w4).mono ?_
      rintro e w5 ⟨rfl, k5⟩
      have b50 := HBx.out w5 (HK4.out.trans k5.nil)
      have HK5 := Lib.hid (HK4.out.trans k5.nil)
      clear k5
      go_wp2
      go_ret
      exact ⟨rfl, HE.out _ HK5.out⟩
    · have d3 : decide ((q : Int) ≤ at_) = false := decide_eq_false hl
      have HLo := Lib.hid (pkLook_fine at_ m b zs w3 HM3.out hrr (by rw [hzq]; omega))
      have hxU : M.U (zs.getD at_.toNat 0) := HZ.out _ (by simp [List.getD, show at_.toNat < zs.length by omega])
      obtain ⟨sb, so, hpp, hsb, hsc⟩ : ∃ sb so, pp = some ⟨sb, so, none⟩ ∧ sb < w.heap.size ∧ w.cell? ⟨sb, so + at_.toNat, none⟩ = some (.int .u64 (zs.getD at_.toNat 0)) := by
        rcases HSl.out.2 with ⟨p', c', -, h0⟩ | ⟨b', off', cap', hv, hb', hc'⟩
        · omega
        · cases hv; exact ⟨b', off', rfl, hb', hc' at_.toNat _ (ints_at (by omega))⟩
      subst hpp
      obtain ⟨x, hx⟩ : ∃ x, zs.getD at_.toNat 0 = x := ⟨_, rfl⟩
      rw [hx] at HLo hxU hsc
      have HSC : Hid (∀ W, Keeps [b] w3 W → W.cell? ⟨sb, so + at_.toNat, none⟩ = some (.int .u64 x)) := Lib.hid fun W hk =>
        ((HE.out W hk).cell (p := ⟨sb, so + at_.toNat, none⟩) hsb).trans hsc
      have HHi := Lib.hid (fun W => refHi_any x W hxU.nn hxU)
      have u0 := hxU.nn
      have u1 := hxU.lt
      obtain ⟨hi, hhi⟩ : ∃ hi, x / 4294967296 = hi := ⟨_, rfl⟩
      have hi0 : 0 ≤ hi := by omega
      have hi1 : hi < 4294967296 := by omega
      rw [hhi] at HLo HHi
      have ht : x.tmod 2 = x % 2 := Int.tmod_eq_emod_of_nonneg u0
      obtain ⟨y, hy⟩ : ∃ y, x % 2 = y := ⟨_, rfl⟩
      rw [hy] at HLo ht
      have htt : (y == 1) = false ∨ (y == 1) = true := by cases (y == 1) <;> simp
      clear hrr hhi hx hsc u0 u1 hy
      have hal : at_ < (q : Int) := by omega
      go_wp2_with fail
      refine HLo.out.mono ?_
      rintro e w4 ⟨rfl, hm4, k4⟩
      have b40 := HBx.out w4 k4
      have HK4 := Lib.hid k4
      clear k4 hm4
      go_wp2_with fail
      refine (HNil.out w4).mono ?_
      rintro e w5 ⟨rfl, k5⟩
      have b50 := HBx.out w5 (HK4.out.trans k5.nil)
      have HK5 := Lib.hid (HK4.out.trans k5.nil)
      have e2 := HSC.out w5 HK5.out
      clear k5
      go_wp2_with fail
      refine (HHi.out _).mono ?_
      rintro e w6 ⟨rfl, rfl⟩
      clear htt
      obtain ⟨tt, htt⟩ : ∃ tt, (y == 1) = tt := ⟨_, rfl⟩
      rw [htt]
      have h5 : tt = false ∨ tt = true := by cases tt <;> simp
      rcases h5 with rfl | rfl
      all_goals (
        go_wp2
        go_ret
        exact ⟨rfl, HE.out _ HK5.out⟩)
  · have HLo := Lib.hid (pkLook_arg at_ m w3 hr)
    have dcase : decide (at_ < 0) = true ∨ (decide (at_ < 0) = false ∧ decide (65535 < at_) = true) := by
      by_cases h : at_ < 0
      · exact .inl (decide_eq_true h)
      · refine .inr ⟨decide_eq_false h, decide_eq_true ?_⟩
        unfold pkRight at hr; omega
    clear hr
    rcases dcase with dn | ⟨dn, dg⟩
    all_goals (
      go_wp2_with fail
      refine HLo.out.mono ?_
      rintro e w4 ⟨rfl, k4⟩
      have b40 := HBx.out w4 k4.nil
      have HK4 := Lib.hid (k4.nil (S := [b]))
      clear k4
      go_wp2_with fail
      refine (HNil.out w4).mono ?_
      rintro e w5 ⟨rfl, k5⟩
      have b50 := HBx.out w5 (HK4.out.trans k5.nil)
      have HK5 := Lib.hid (HK4.out.trans k5.nil)
      clear k5
      go_wp2
      go_ret
      exact ⟨rfl, HE.out _ HK5.out⟩)

set_option maxRecDepth 100000 in
theorem lifted (os : Os) (started : os.Started) (H : Type) (enc : TypeId × Value → H) :
    ReturnsInHanded {} Try.checked os 4 .any (Rows.parkLooksSpec.pre6 enc Try.prog Try.f4 Rows.parkLooksRow.domain false) (Rows.parkLooksSpec.post enc Try.prog Try.f4 false true false false) := by
  refine returnsInHanded_of_change (C := Try.checked) own started (by kernel_rfl) Try.func4
    (ChangeSpec.witness6 (enc := enc) (C := Try.checked) false ⟨#[], #[.slice none 0 0, .agg #[.int .i64 0]], []⟩ 8 (by kernel_rfl) (by kernel_rfl) (by kernel_rfl) (by kernel_rfl)) ?_
  intro W base args ds gs before hval0 hW hcnd _
  have hval : ∀ (j : Nat) t v, Try.f4.params[j]? = some t → args[j]? = some v → Value.okWide Try.prog W .any base t v := hval0
  have hW' := hW
  obtain ⟨p, q, hA0, hV, rfl, hfz, hnd⟩ := hW
  have hA : DataW.TrodAll enc Try.prog W 0 (fun _ => true) true Try.f4.params.toList args.toList ds p := hA0
  rw [Try.params4] at hA hval
  obtain ⟨v0, vs0, d0, ds0, q0, qs0, hargs, rfl, rfl, h0, r0⟩ := trodAll_cons hA
  obtain ⟨v1, vs1, d1, ds1, q1, qs1, rfl, rfl, rfl, h1, r1⟩ := trodAll_cons r0
  obtain ⟨rfl, rfl, rfl⟩ := trodAll_nil r1
  obtain rfl : args = #[v0, v1] := by cases args; simp_all
  obtain ⟨rfl, rfl⟩ := trodVars_none hV
  obtain ⟨p0, n0, c0, rfl⟩ := okWide_slice Try.underlying37 (hval 0 37 v0 rfl rfl)
  have k0 := h0
  have lt0 : ∀ x ∈ q0, x.block < W.heap.size := by obtain ⟨m, hm⟩ := k0; exact DataW.trod_lt m _ _ _ hm
  obtain ⟨z0, s0, m0, b0⟩ := (by obtain ⟨fu, hf⟩ := h0; exact sl_ints Try.underlying37 Try.underlying46 (by kernel_rfl) hf : ∃ zs : List Int, Sl W 1 (.slice p0 n0 c0) n0 (ints .u64 zs) ∧ n0 ≤ maxLen ∧ ∀ z ∈ zs, (Lit.int .u64 z).wf = true)
  have k1 := h1
  have lt1 : ∀ x ∈ q1, x.block < W.heap.size := by obtain ⟨m, hm⟩ := k1; exact DataW.trod_lt m _ _ _ hm
  obtain ⟨a1, rfl, b1⟩ := open_spot (hval 1 23 v1 rfl rfl) h1
  clear hA0 hval0
  simp only [List.append_nil] at hW'
  refine (walk p0 n0 c0 z0 a1 W s0 m0 b0 b1).mono fun e W' ⟨he, bel⟩ => ?_
  subst he
  exact ⟨_, rfl, _, _, _, [], _, [], hW', trodAll_mk1 (shut_bool Try.underlying4 _), (trodAll_cons_mk (Below.trod laidOut (by kernel_rfl) (of_decide_eq_true (by kernel_rfl)) k0 bel lt0) (trodAll_cons_mk (Below.trod laidOut (by kernel_rfl) (of_decide_eq_true (by kernel_rfl)) k1 bel lt1) trodAll_mk0)), rfl, bel.frame _, fun h => by cases h⟩

theorem proved : Rows.ParkLooksSaid :=
  OpenClaim.holds_of_wide 4 Try.f4 rfl rfl rfl rfl rfl rfl rfl ⟨rfl, rfl, rfl, rfl, rfl⟩ rfl rfl rfl rfl rfl (by kernel_rfl) Try.func4 (by kernel_rfl)
    (of_decide_eq_true (by kernel_rfl)) (by unfold Func.isWrapper; first | (rw [if_pos (by decide +kernel)]; kernel_rfl) | (rw [if_neg (by decide +kernel)]; exact ⟨rfl, rfl⟩))
    (fun os started H enc _ => lifted os started H enc)
#print axioms proved
end Go.Proofs.Ytgononhihpkagaa.parkLooks
