/-
  The law PlanInits of the statements holds for every input: the call returns true, and the arguments read as before.
-/
import Derived.Test.YtnlkbmjelkbfkaaPlA
import Derived.Test.YtnlkbmjelkbfkaaOpenA
import Derived.Test.YtnlkbmjelkbfkaaLook
import Derived.Test.YtnlkbmjelkbfkaaRows
import Derived.WalkKit
import Derived.ProofKit
import Derived.OpenShut
import Derived.ShutString
import Derived.ChangeOld
import Derived.Below
import Derived.Test.YtnlkbmjelkbfkaaOpen
namespace Go.Proofs.Ytnlkbmjelkbfkaa.planInits
open Go.ChangeShapes Go.WideShapes Go.ChangeAt Go.RowKit
open Go.ChangeMaps (open_string shut_string)
set_option linter.unusedVariables false
set_option linter.unusedSimpArgs false

theorem own : ownKnob Try.prog.godebug = none := by kernel_rfl
theorem laidOut : laidOutB Try.prog = true := by kernel_rfl

set_option maxHeartbeats 12800000 in
set_option maxRecDepth 200000 in
theorem walk (W K S N : Int) (w : World) (hW : (Lit.int .i64 W).wf = true) (hK : (Lit.int .i64 K).wf = true) (hS : (Lit.int .i64 S).wf = true) (hN : (Lit.int .i64 N).wf = true) :
    Calls Try.prog 4 #[.agg #[.int .i64 W, .int .i64 K, .int .i64 S, .int .i64 N]] w fun e w' => e = .returned (.bool true) ∧ Below w.heap.size w w' := by
  have bS := bounds_i64 hS
  have HM := Lib.hid (fun Wx => refMay12_any W K S N Wx trivial)
  have HNw := Lib.hid (fun Wx (h : plRight W K S N) => plNew_fine W K S N Wx bS.1 h)
  have HI0 := Lib.hid (fun Wx => plInit_zero Wx)
  clear hW hK hS hN bS
  obtain ⟨W0, hW0⟩ : ∃ W0, w.alloc (.cells #[.int .i64 W, .int .i64 K, .int .i64 S, .int .i64 N] 23) = W0 := ⟨_, rfl⟩
  have HB0 : Hid (Box W0 w.heap.size #[.int .i64 W, .int .i64 K, .int .i64 S, .int .i64 N]) := Lib.hid (by rw [← hW0]; exact Box.new _ _ _)
  have HK0 : Hid (Keeps [] w W0) := Lib.hid (by rw [← hW0]; exact (Keeps.refl _ _).alloc _)
  have HX := Lib.hid (fun Wx (k : Keeps [] W0 Wx) => show Wx.cell? ⟨w.heap.size, 0, none⟩ = some (.int .i64 W) ∧ Wx.cell? ⟨w.heap.size, 1, none⟩ = some (.int .i64 K) ∧ Wx.cell? ⟨w.heap.size, 2, none⟩ = some (.int .i64 S) ∧ Wx.cell? ⟨w.heap.size, 3, none⟩ = some (.int .i64 N) from ⟨(HB0.out.keeps k (by simp)).cells 0, (HB0.out.keeps k (by simp)).cells 1, (HB0.out.keeps k (by simp)).cells 2, (HB0.out.keeps k (by simp)).cells 3⟩)
  go_enter Try.func4, Try.ntmps4
  go_wp2_with fail
  clear hW0
  refine (awake12 W0).mono ?_
  rintro e w1 ⟨rfl, k1⟩
  have HK1 := Lib.hid k1
  obtain ⟨c0, c1, c2, c3⟩ := HX.out _ k1
  clear k1
  by_cases hr : plRight W K S N
  · rw [if_pos hr] at HM
    have HR := Lib.hid hr
    obtain ⟨r1, r2, r3, r4, r5, r6, r7⟩ := hr
    obtain ⟨nw, rfl⟩ : ∃ nw : Nat, W = (nw : Int) := ⟨W.toNat, by omega⟩
    have HLo := Lib.hid (fun Wx => refLocal12_any (nw : Int) K S N nw Wx HR.out (by omega))
    rw [show (nw : Int) + 3 * N + 4 + nw * (S + 2) = plCells nw S N from rfl] at HLo
    obtain ⟨m1, m2⟩ := mul_fits (W := (nw : Int)) (S := S) (by omega) r2 (by omega) (by omega)
    obtain ⟨nc, hnc⟩ : ∃ nc : Nat, plCells nw S N = (nc : Int) := ⟨(plCells nw S N).toNat, by unfold plCells; omega⟩
    have HIn := Lib.hid (fun Wx => plInit_fine (nw : Int) K S N nc Wx HR.out hnc)
    have HRI := Lib.hid (fun Wx => refInit12_any (nw : Int) K S N Wx HR.out)
    rw [hnc] at HLo HRI
    have HNC := Lib.hid hnc
    have HRP := Lib.hid (⟨r1, r2, r6, r7⟩ : _ ∧ _ ∧ _ ∧ _)
    have HM12 := Lib.hid (⟨m1, m2⟩ : _ ∧ _)
    clear r1 r2 r3 r4 r5 r6 r7 m1 m2 hnc
    go_wp2_with fail
    refine (HM.out _).mono ?_
    rintro e w2 ⟨rfl, k2⟩
    have HK2 := Lib.hid (HK1.out.trans k2)
    clear k2 c0 c1 c2 c3
    obtain ⟨c0, c1, c2, c3⟩ := HX.out _ HK2.out
    go_wp2_with fail
    refine (HLo.out _).mono ?_
    rintro e w3 ⟨rfl, k3⟩
    have HK3 := Lib.hid (HK2.out.trans k3)
    clear k3 c0 c1 c2 c3
    obtain ⟨c0, c1, c2, c3⟩ := HX.out _ HK3.out
    by_cases h20 : 2000 < (nc : Int)
    · have d1 : decide (2000 < (nc : Int)) = true := decide_eq_true h20
      go_wp2
      go_ret
      exact ⟨rfl, (HK0.out.trans HK3.out).end⟩
    have d1 : decide (2000 < (nc : Int)) = false := decide_eq_false h20
    go_wp2_with fail
    refine (HNw.out _ HR.out).mono ?_
    rintro e w4 ⟨rfl, k4⟩
    have HK4 := Lib.hid (HK3.out.trans k4)
    clear k4 c0 c1 c2 c3
    go_wp2_with fail
    generalize hW5 : World.alloc w4 _ = W5
    have HK5 : Hid (Keeps [] W0 W5) := Lib.hid (HK4.out.trans (by rw [← hW5]; exact (Keeps.refl _ _).alloc _))
    clear hW5
    refine (HIn.out _).mono ?_
    rintro e w6 ⟨m, b, rfl, hM, k6, hm, hb⟩
    have HM6 := Lib.hid hM
    have HK6 := Lib.hid (HK5.out.trans k6)
    clear k6 hM
    obtain ⟨c0, c1, c2, c3⟩ := HX.out _ HK6.out
    have HKK : Hid (Keeps [] W0 w6) := HK6
    have hulen : (laidAt (List.replicate nc 0) (quRow N.toNat) (1 + (nw : Int)).toNat (3 * N.toNat + 3)).length = nc := by rw [laidAt_len]; simp
    have heq : List.replicate (1 + (nw : Int)).toNat 0 ++ quRow N.toNat ++ List.replicate ((nw : Int) * (S + 2)).toNat 0 = laidAt (List.replicate nc 0) (quRow N.toNat) (1 + (nw : Int)).toNat (3 * N.toNat + 3) := by
      have h1 := HNC.out
      have h2 := HRP.out
      have h3 := HM12.out
      unfold plCells at h1
      have h4 := laidAt_all (List.replicate nc 0) (quRow N.toNat) (1 + (nw : Int)).toNat (by rw [quRow_len, List.length_replicate]; omega)
      rw [quRow_len] at h4
      rw [← h4, List.take_replicate, List.drop_replicate, List.append_assoc, show min (1 + (nw : Int)).toNat nc = (1 + (nw : Int)).toNat by omega, show nc - ((1 + (nw : Int)).toNat + (3 * N.toNat + 3)) = ((nw : Int) * (S + 2)).toNat by omega]
    rw [heq] at HRI
    have HUL := Lib.hid hulen
    obtain ⟨us, hus⟩ : ∃ us, laidAt (List.replicate nc 0) (quRow N.toNat) (1 + (nw : Int)).toNat (3 * N.toNat + 3) = us := ⟨_, rfl⟩
    rw [hus] at HRI HM6 HUL
    have HRJ : Hid (∀ Wx, Calls Try.prog 22 #[plV (nw : Int) K S N] Wx fun e w' => ∃ g c, e = .returned (.slice (some ⟨g, 0, none⟩) nc c) ∧ Row w' g 58 (ints .u64 us) ∧ Keeps [] Wx w') := Lib.hid fun Wx => by
      refine (HRI.out Wx).mono ?_
      rintro e w' ⟨g, c, L, rfl, hr2, hL, k9, -⟩
      rw [Int.toNat_natCast] at hL
      subst hL
      exact ⟨g, c, rfl, hr2, k9⟩
    have HMX : Hid (nc ≤ maxLen) := Lib.hid (by unfold maxLen; omega)
    have HIL : Hid ((ints .u64 us).length = nc * 1) := Lib.hid (by rw [ints_length, HUL.out, Nat.mul_one])
    clear HRI heq hulen hus HM HNw HI0 HLo HIn HNC HRP HM12 HB0 d1 h20 hm hb HR HK1 HK2 HK3 HK4 HK5
    go_wp2
    go_region_held3 (fun w' => w'.cell? ⟨w.heap.size, 0, none⟩ = some (.int .i64 (nw : Int)) ∧ w'.cell? ⟨w.heap.size, 1, none⟩ = some (.int .i64 K) ∧ w'.cell? ⟨w.heap.size, 2, none⟩ = some (.int .i64 S) ∧ w'.cell? ⟨w.heap.size, 3, none⟩ = some (.int .i64 N))
      (first
        | exact ⟨by assumption, by assumption, by assumption, by assumption⟩
        | exact HX.out _ HKK.out
        | fail)
      (first
        | (go_at_call 21; refine (all_own m b us _ (HM6.out.keeps ((Keeps.refl [] _).drew) (by simp) (by simp))).mono ?_; rintro e w7 ⟨g1, cap1, rfl, ho1, k7, hg1⟩; rw [HUL.out] at ho1; have HR1 := Lib.hid (Row.of_owns ho1); have HKN := Lib.hid (show Keeps [] W0 w7 from HKK.out.trans k7.undrew); rw [HUL.out]; clear k7 HKK ho1; have HKK := HKN; clear HKN)
        | (go_at_call 22; refine (HRJ.out _).mono ?_; rintro e w9 ⟨g2, cap2, rfl, hr2, k9⟩; have HR2 := Lib.hid hr2; have HRN := Lib.hid (HR1.out.keeps k9 (by simp)); have HKN := Lib.hid (show Keeps [] W0 w9 from HKK.out.trans k9); clear k9 HKK hr2 HR1; have HKK := HKN; clear HKN; have HR1 := HRN; clear HRN)
        | (go_at_call 20; refine (sameWords_any _ _ nc nc us us _ HMX.out HMX.out (HR1.out.sl HIL.out) (HR2.out.sl HIL.out)).mono ?_; rintro e w10 ⟨rfl, m10, hw10⟩; have HKN : Hid (Keeps [] W0 w10) := Lib.hid (by rw [← hw10]; exact HKK.out.drewN); rw [decide_eq_true (rfl : us = us)]; clear hw10 HKK HR1 HR2 HM6; have HKK := HKN; clear HKN)
        | fail)
    go_wp2
    go_ret
    exact ⟨rfl, (HK0.out.trans HKK.out).end⟩
  · rw [if_neg hr] at HM
    clear hr HNw
    go_wp2_with fail
    refine (HM.out _).mono ?_
    rintro e w2 ⟨rfl, k2⟩
    have HK2 := Lib.hid (HK1.out.trans k2)
    clear k2 c0 c1 c2 c3
    go_wp2_with fail
    refine (HI0.out _).mono ?_
    rintro e w3 ⟨rfl, k3⟩
    have HK3 := Lib.hid (HK2.out.trans k3)
    clear k3
    go_wp2
    go_ret
    exact ⟨rfl, (HK0.out.trans HK3.out).end⟩

set_option maxRecDepth 100000 in
theorem lifted (os : Os) (started : os.Started) (H : Type) (enc : TypeId × Value → H) :
    ReturnsInHanded {} Try.checked os 4 .any (Rows.planInitsSpec.pre6 enc Try.prog Try.f4 Rows.planInitsRow.domain false) (Rows.planInitsSpec.post enc Try.prog Try.f4 false true false false) := by
  refine returnsInHanded_of_change (C := Try.checked) own started (by kernel_rfl) Try.func4
    (ChangeSpec.witness6 (enc := enc) (C := Try.checked) false ⟨#[], #[.agg #[.int .i64 0, .int .i64 0, .int .i64 0, .int .i64 0]], []⟩ 8 (by kernel_rfl) (by kernel_rfl) (by kernel_rfl) (by kernel_rfl)) ?_
  intro W base args ds gs before hval0 hW hcnd _
  have hval : ∀ (j : Nat) t v, Try.f4.params[j]? = some t → args[j]? = some v → Value.okWide Try.prog W .any base t v := hval0
  have hW' := hW
  obtain ⟨p, q, hA0, hV, rfl, hfz, hnd⟩ := hW
  have hA : DataW.TrodAll enc Try.prog W 0 (fun _ => true) true Try.f4.params.toList args.toList ds p := hA0
  rw [Try.params4] at hA hval
  obtain ⟨v0, vs0, d0, ds0, q0, qs0, hargs, rfl, rfl, h0, r0⟩ := trodAll_cons hA
  obtain ⟨rfl, rfl, rfl⟩ := trodAll_nil r0
  obtain rfl : args = #[v0] := by cases args; simp_all
  obtain ⟨rfl, rfl⟩ := trodVars_none hV
  have k0 := h0
  have lt0 : ∀ x ∈ q0, x.block < W.heap.size := by obtain ⟨m, hm⟩ := k0; exact DataW.trod_lt m _ _ _ hm
  obtain ⟨a0, b0, c0, e0, rfl, f0, g0, j0, l0⟩ := open_config (hval 0 23 v0 rfl rfl) h0
  clear hA0 hval0
  simp only [List.append_nil] at hW'
  refine (walk a0 b0 c0 e0 W f0 g0 j0 l0).mono fun e W' ⟨he, bel⟩ => ?_
  subst he
  exact ⟨_, rfl, _, _, _, [], _, [], hW', trodAll_mk1 (shut_bool Try.underlying4 _), (trodAll_cons_mk (Below.trod laidOut (by kernel_rfl) (of_decide_eq_true (by kernel_rfl)) k0 bel lt0) trodAll_mk0), rfl, bel.frame _, fun h => by cases h⟩

theorem proved : Rows.PlanInitsSaid :=
  OpenClaim.holds_of_wide 4 Try.f4 rfl rfl rfl rfl rfl rfl rfl ⟨rfl, rfl, rfl, rfl, rfl⟩ rfl rfl rfl rfl rfl (by kernel_rfl) Try.func4 (by kernel_rfl)
    (of_decide_eq_true (by kernel_rfl)) (by unfold Func.isWrapper; first | (rw [if_pos (by decide +kernel)]; kernel_rfl) | (rw [if_neg (by decide +kernel)]; exact ⟨rfl, rfl⟩))
    (fun os started H enc _ => lifted os started H enc)
#print axioms proved
end Go.Proofs.Ytnlkbmjelkbfkaa.planInits
