/-
  The law LocalAll of the statements holds for every input: the call returns true, and the arguments read as before.
-/
import Derived.Test.YtjfgpplnlepnoaaGreatLcB
import Derived.Test.YtjfgpplnlepnoaaGreatLcA
import Derived.Test.YtjfgpplnlepnoaaGreatOpenA
import Derived.Test.YtjfgpplnlepnoaaGreatLook
import Derived.Test.YtjfgpplnlepnoaaGreatOpen
import Derived.Test.YtjfgpplnlepnoaaGreatAcc
import Derived.Test.YtjfgpplnlepnoaaGreatMem3
import Derived.IntWalk
import Derived.Test.YtjfgpplnlepnoaaGreatRows
import Derived.WalkKit
import Derived.ProofKit
import Derived.OpenShut
import Derived.ShutString
import Derived.ChangeOld
import Derived.Below
import Derived.Test.YtjfgpplnlepnoaaGreatOpen
namespace Go.Proofs.YtjfgpplnlepnoaaGreat.localAll
open Go.ChangeShapes Go.WideShapes Go.ChangeAt Go.RowKit
open Go.ChangeMaps (open_string shut_string)
set_option linter.unusedVariables false
set_option linter.unusedSimpArgs false

theorem own : ownKnob Tryz.prog.godebug = none := by kernel_rfl
theorem laidOut : laidOutB Tryz.prog = true := by kernel_rfl

-- caps
theorem fill_all (us zs : List Int) (h : us.length = zs.length) : C.fill us zs = zs := by
  unfold C.fill
  rw [if_neg (by omega)]
  simp [← h]
set_option maxHeartbeats 12800000 in
set_option maxRecDepth 200000 in
theorem walk (pp : Option Addr) (q cp : Nat) (zs : List Int) (kind at_ size : Int) (w : World) (hsl : Sl w 1 (.slice pp q cp) q (ints .u64 zs)) (hq : q ≤ maxLen) (hz : ∀ z ∈ zs, (Lit.int .u64 z).wf = true) (hcap : q ≤ cp ∧ cp ≤ maxLen)
    (hkw : (Lit.int .i64 kind).wf = true) (haw : (Lit.int .i64 at_).wf = true) (hsw : (Lit.int .i64 size).wf = true) :
    Calls Tryz.prog 4 #[.slice pp q cp, .agg #[.int .i64 kind, .int .i64 at_, .int .i64 size]] w fun e w' => e = .returned (.bool true) ∧ Below w.heap.size w w' := by
  have HSl := Lib.hid hsl
  have hzl := hsl.ints_len
  have HZ : Hid (∀ z ∈ zs, M.U z) := Lib.hid fun z h => M.U.wf (hz z h)
  have bs := bounds_i64 hsw
  have ba := bounds_i64 haw
  unfold maxLen at hq hcap
  clear hsl hz hkw haw hsw
  obtain ⟨W0, hW0⟩ : ∃ W0, w.alloc (.cells #[.int .i64 kind, .int .i64 at_, .int .i64 size] 23) = W0 := ⟨_, rfl⟩
  have HB0 : Hid (Box W0 w.heap.size #[.int .i64 kind, .int .i64 at_, .int .i64 size]) := Lib.hid (by rw [← hW0]; exact Box.new _ _ _)
  have HK0 : Hid (Keeps [] w W0) := Lib.hid (by rw [← hW0]; exact (Keeps.refl _ _).alloc _)
  go_enter Tryz.func4, Tryz.ntmps4
  go_wp2_with fail
  clear hW0
  refine (awake13 W0).mono ?_
  rintro e w1 ⟨rfl, k1⟩
  have kk1 : Keeps [] W0 w1 := ⟨k1.os, k1.tape, k1.output, k1.size, fun k hk _ => k1.block k hk⟩
  have HB1 := Lib.hid (HB0.out.keeps kk1 (by simp))
  have HK1 := Lib.hid (HK0.out.trans kk1)
  clear k1 kk1 HK0 HB0
  obtain ⟨ab, hab⟩ : ∃ ab, w.heap.size = ab := ⟨_, rfl⟩
  have HAB := Lib.hid hab
  rw [hab] at HB1 ⊢
  have hablt := HB1.out.lt
  clear hab
  by_cases h1 : q < 1
  · have d1 : decide ((q : Int) < 1) = true := decide_eq_true (by omega)
    go_wp2
    go_ret
    exact ⟨rfl, HK1.out.end⟩
  have d1 : decide ((q : Int) < 1) = false := decide_eq_false (by omega)
  by_cases h2 : 300 < q
  · have d2 : decide (300 < (q : Int)) = true := decide_eq_true (by omega)
    go_wp2
    go_ret
    exact ⟨rfl, HK1.out.end⟩
  have d2 : decide (300 < (q : Int)) = false := decide_eq_false (by omega)
  have NA := Lib.hid (new_any q w1 (by omega) (by omega))
  go_wp2_with fail
  refine NA.out.mono ?_
  rintro e w2 ⟨m, b, rfl, hM, k2, hm, hb⟩
  have HM2 := Lib.hid hM
  have HK2 := Lib.hid k2
  clear hM k2 NA
  go_wp2_with fail
  refine (fill_any m b _ zs _ q w2 HM2.out (HSl.out.below (HK1.out.trans HK2.out).end (Nat.le_refl _)) HZ.out (by unfold maxLen; omega)).mono ?_
  rintro e w3 ⟨rfl, hM3, k3⟩
  rw [fill_all _ zs (by simp; omega)] at hM3
  have HM3 := Lib.hid hM3
  have HK3 : Hid (Keeps [] w1 w3) := Lib.hid (HK2.out.step k3 (by intro k hk; simp at hk; omega))
  have b3 := HB1.out.keeps HK3.out (by simp)
  have c0 := b3.cells 0
  have c1 := b3.cells 1
  have c2 := b3.cells 2
  simp at c0 c1 c2
  clear hM3 k3 HM2 HK2 b3
  have HRR := Lib.hid (fun W => rcRight_any kind at_ size W)
  have HNil := Lib.hid (fun W => lcAll_nil kind at_ size W)
  have HBx : Hid (∀ W, Keeps [] w3 W → W.cell? ⟨ab, 0, none⟩ = some (.int .i64 kind) ∧ W.cell? ⟨ab, 1, none⟩ = some (.int .i64 at_) ∧ W.cell? ⟨ab, 2, none⟩ = some (.int .i64 size)) := Lib.hid fun W hk =>
    ⟨(hk.cell (p := ⟨ab, 0, none⟩) (Nat.lt_of_lt_of_le hablt HK3.out.size) (by simp)).trans c0, (hk.cell (p := ⟨ab, 1, none⟩) (Nat.lt_of_lt_of_le hablt HK3.out.size) (by simp)).trans c1, (hk.cell (p := ⟨ab, 2, none⟩) (Nat.lt_of_lt_of_le hablt HK3.out.size) (by simp)).trans c2⟩
  have hzq : zs.length = q := hzl
  by_cases hr : lcRight kind at_ size
  · obtain ⟨hkk, hp, r0, r1⟩ := hr
    have hrr : dqRight at_ size := ⟨hp, r0, r1⟩
    have hlr : lcRight kind at_ size := ⟨hkk, hrr⟩
    have hs2 : 2 ≤ size ∧ size ≤ 256 := by omega
    obtain ⟨a, rfl⟩ := Int.eq_ofNat_of_zero_le r0
    obtain ⟨sz, rfl⟩ := Int.eq_ofNat_of_zero_le (show 0 ≤ size by omega)
    rw [decide_eq_true hlr] at HRR
    have w64 : IntKind.i64.wrap ((a : Int) + (sz : Int)) = (a : Int) + (sz : Int) := IntWalk.i64_in _ (by omega)
    have w65 : IntKind.i64.wrap ((a : Int) + (sz : Int) + 1) = (a : Int) + (sz : Int) + 1 := IntWalk.i64_in _ (by omega)
    have w66 : IntKind.i64.wrap ((a : Int) + (sz : Int) + 2) = (a : Int) + (sz : Int) + 2 := IntWalk.i64_in _ (by omega)
    by_cases hl : (q : Int) ≤ (a : Int) + sz + 1
    · have d3 : decide ((q : Int) ≤ (a : Int) + sz + 1) = true := decide_eq_true hl
      have hcd : lcRefused zs.length kind a sz = 3 := by unfold lcRefused; rw [if_neg (by simpa using hlr), if_pos (by omega)]
      have HA := lcAll_refused kind a sz m b zs w3 HM3.out (by omega) (by rw [hcd]; decide)
      rw [hcd] at HA
      have HA := Lib.hid HA
      clear hcd hp hkk hlr
      go_wp2_with fail
      refine HA.out.mono ?_
      rintro e w4 ⟨rfl, k4⟩
      obtain ⟨b40, b41, b42⟩ := HBx.out w4 k4
      have HK4 := Lib.hid k4
      clear k4
      go_wp2_with fail
      refine (HNil.out w4).mono ?_
      rintro e w5 ⟨rfl, k5⟩
      obtain ⟨b50, b51, b52⟩ := HBx.out w5 (HK4.out.trans k5)
      have HK5 := Lib.hid (HK4.out.trans k5)
      clear k5
      go_wp2_with fail
      refine (HRR.out w5).mono ?_
      rintro e w6 ⟨rfl, rfl⟩
      go_wp2
      go_ret
      exact ⟨rfl, ((HK1.out.trans HK3.out).trans HK5.out).end⟩
    · have d3 : decide ((q : Int) ≤ (a : Int) + sz + 1) = false := decide_eq_false hl
      have HA := Lib.hid (lcAll_any kind a sz m b zs w3 HM3.out hlr (by omega))
      obtain ⟨sb, so, hpp, hsb, hsc⟩ : ∃ sb so, pp = some ⟨sb, so, none⟩ ∧ sb < w.heap.size ∧ ∀ j u, (ints .u64 zs)[j]? = some u → w.cell? ⟨sb, so + j, none⟩ = some u := by
        rcases HSl.out.2 with ⟨p', c', -, h0⟩ | ⟨b', off', cap', hv, hb', hc'⟩
        · omega
        · cases hv; exact ⟨b', off', rfl, hb', hc'⟩
      subst hpp
      have HU : Hid (∀ i : Nat, i < zs.length → M.U (zs.getD i 0)) := Lib.hid fun i hi => HZ.out _ (by simp [List.getD, hi])
      obtain ⟨us, hus⟩ : ∃ us, (zs.drop a).take (sz + 2) = us := ⟨_, rfl⟩
      have hul : us.length = sz + 2 := by rw [← hus]; simp; omega
      have hug : ∀ j : Nat, j < us.length → us.getD j 0 = zs.getD (a + j) 0 := fun j hj => by rw [← hus]; simp [List.getD, List.getElem?_take, show j < sz + 2 by omega, List.getElem?_drop]
      have hO : lcAllOf kind 0 sz us = lcAllOf kind a sz zs := by rw [← hus]; exact lcAllOf_sub kind a sz zs hrr (by omega)
      obtain ⟨O, hOO⟩ : ∃ O, lcAllOf kind a sz zs = O := ⟨_, rfl⟩
      have HOL : Hid (∀ xs, O = some xs → xs.length ≤ 256) := Lib.hid fun xs h => lcAllOf_len kind a sz zs xs (hOO.trans h) (by omega)
      rw [hOO] at HA hO
      have HRA : Hid (∀ W, Keeps [] w W → Calls Tryz.prog 23 #[.int .i64 kind, .slice (some ⟨sb, so + a, none⟩) (sz + 2) (cp - a)] W fun e w' => Keeps [] W w' ∧ rcTold W w' e O) := Lib.hid fun W hk => by
        rw [← hO]
        refine rcAll_any kind hkk sz sb (so + a) (cp - a) us W ⟨hp, by decide, by omega⟩ hul (fun i hi => by rw [hug i hi]; exact HU.out _ (by omega)) (Nat.lt_of_lt_of_le hsb hk.size) (fun j hj => ?_)
        rw [hug j hj]
        refine (hk.cell (p := ⟨sb, so + a + j, none⟩) hsb (by simp)).trans ?_
        have := hsc (a + j) (.int .u64 (zs.getD (a + j) 0)) (by simp [ints, List.getD, show a + j < zs.length by omega])
        rwa [← Nat.add_assoc] at this
      clear hus hul hug hO hOO hsc hp hkk hlr
      have hca : (cp = a) = False := eq_false (by omega)
      have hac : a ≤ cp := by omega
      have x1 : (a : Int) + (sz : Int) + 2 ≤ (cp : Int) := by omega
      have x2 : (a : Int) ≤ (a : Int) + (sz : Int) + 2 := by omega
      have x3 : 0 ≤ (a : Int) + (sz : Int) + 2 := by omega
      have x4 : ((a : Int) + (sz : Int) + 2).toNat = a + sz + 2 := by omega
      have x5 : a + sz + 2 ≤ cp := by omega
      have x6 : a ≤ a + sz + 2 := by omega
      go_wp2_with fail
      refine HA.out.mono ?_
      rintro e w4 ⟨k4, ht4⟩
      obtain ⟨b40, b41, b42⟩ := HBx.out w4 k4
      have HK4 := Lib.hid k4
      have HTo : Hid ((∃ lo nn, e = .returned (.tuple #[lo, .int .i64 9]) ∧ O = none ∧ lo = .slice none 0 0 ∧ nn = (0 : Nat)) ∨ ∃ xs p4 c4, O = some xs ∧ e = .returned (.tuple #[.slice p4 xs.length c4, .int .i64 0]) ∧ w4.ownsRow w3.heap.size 26 1 (.slice p4 xs.length c4) xs.length (ints .u64 xs)) := Lib.hid (by
        cases hO : O with
        | none => exact .inl ⟨_, 0, ht4.1 hO, rfl, rfl, rfl⟩
        | some xs =>
          obtain ⟨l4, e4, o4⟩ := ht4.2 xs hO
          obtain ⟨p4, c4, rfl⟩ := (Sl.of_owns o4).len
          exact .inr ⟨xs, p4, c4, rfl, e4, o4⟩)
      clear k4 ht4
      rcases HTo.out with ⟨lo, nn, rfl, hO, rfl, -⟩ | ⟨xs, p4, c4, hO, rfl, o4⟩
      · go_wp2_with fail
        refine (HNil.out w4).mono ?_
        rintro e w5 ⟨rfl, k5⟩
        obtain ⟨b50, b51, b52⟩ := HBx.out w5 (HK4.out.trans k5)
        have HK5 := Lib.hid (HK4.out.trans k5)
        clear k5
        go_wp2_with fail
        refine (HRR.out w5).mono ?_
        rintro e w6 ⟨rfl, rfl⟩
        go_wp2
        have hkd := ((HK1.out.trans HK3.out).trans HK5.out).drew
        go_region_held3 (fun w' => w'.cell? ⟨ab, 0, none⟩ = some (.int .i64 kind) ∧ w'.cell? ⟨ab, 1, none⟩ = some (.int .i64 (a : Int)) ∧ w'.cell? ⟨ab, 2, none⟩ = some (.int .i64 (sz : Int)))
          (first
            | exact HBx.out _ hk7
            | exact ⟨b50, b51, b52⟩
            | fail)
          (first
            | (go_at_call 23; (try rw [show a + sz + 2 - a = sz + 2 by omega]); refine (HRA.out _ hkd).mono ?_; rintro e w7 ⟨k7', t7⟩; have k7 := k7'.undrew; have hk7 := HK5.out.trans k7; obtain rfl := t7.1 hO; clear k7' t7)
            | fail)
        have HK7 := Lib.hid (HK5.out.trans k7)
        clear k7 hk7 hkd
        go_wp2
        go_ret
        exact ⟨rfl, ((HK1.out.trans HK3.out).trans HK7.out).end⟩
      · have hxl := HOL.out xs hO
        have HO4 := Lib.hid o4
        clear o4
        go_wp2_with fail
        refine (HNil.out w4).mono ?_
        rintro e w5 ⟨rfl, k5⟩
        obtain ⟨b50, b51, b52⟩ := HBx.out w5 (HK4.out.trans k5)
        have HO5 := Lib.hid (owns_keeps HO4.out k5 (by simp))
        have HK5 := Lib.hid (HK4.out.trans k5)
        clear k5
        go_wp2_with fail
        refine (HRR.out w5).mono ?_
        rintro e w6 ⟨rfl, rfl⟩
        go_wp2
        have hkd := ((HK1.out.trans HK3.out).trans HK5.out).drew
        go_region_held3 (fun w' => w'.cell? ⟨ab, 0, none⟩ = some (.int .i64 kind) ∧ w'.cell? ⟨ab, 1, none⟩ = some (.int .i64 (a : Int)) ∧ w'.cell? ⟨ab, 2, none⟩ = some (.int .i64 (sz : Int)))
          (first
            | exact HBx.out _ hk7
            | exact ⟨b50, b51, b52⟩
            | fail)
          (first
            | (go_at_call 23; (try rw [show a + sz + 2 - a = sz + 2 by omega]); refine (HRA.out _ hkd).mono ?_; rintro e w7 ⟨k7', t7⟩; have k7 := k7'.undrew; have hk7 := HK5.out.trans k7; obtain ⟨l7, rfl, o7⟩ := t7.2 xs hO; clear k7' t7)
            | fail)
        have HS7 := Lib.hid (sameWords_any _ _ _ _ xs xs w7 (by unfold maxLen; omega) (by unfold maxLen; omega) (Sl.of_owns (owns_keeps HO5.out k7 (by simp))) (Sl.of_owns o7))
        have HK7 := Lib.hid (HK5.out.trans k7)
        clear k7 hk7 hkd o7
        go_wp2_with fail
        refine HS7.out.mono ?_
        rintro e w8 ⟨rfl, nd, rfl⟩
        rw [show decide True = true from rfl]
        go_wp2
        go_ret
        exact ⟨rfl, ((HK1.out.trans HK3.out).trans HK7.out.drewN).end⟩
  · rw [decide_eq_false hr] at HRR
    have hcd : lcRefused zs.length kind at_ size = 2 := by unfold lcRefused; rw [if_pos hr]
    have HA := lcAll_refused kind at_ size m b zs w3 HM3.out (by omega) (by rw [hcd]; decide)
    rw [hcd] at HA
    have HA := Lib.hid HA
    clear hcd hr
    go_wp2_with fail
    refine HA.out.mono ?_
    rintro e w4 ⟨rfl, k4⟩
    obtain ⟨b40, b41, b42⟩ := HBx.out w4 k4
    have HK4 := Lib.hid k4
    clear k4
    go_wp2_with fail
    refine (HNil.out w4).mono ?_
    rintro e w5 ⟨rfl, k5⟩
    obtain ⟨b50, b51, b52⟩ := HBx.out w5 (HK4.out.trans k5)
    have HK5 := Lib.hid (HK4.out.trans k5)
    clear k5
    go_wp2_with fail
    refine (HRR.out w5).mono ?_
    rintro e w6 ⟨rfl, rfl⟩
    go_wp2
    go_ret
    exact ⟨rfl, ((HK1.out.trans HK3.out).trans HK5.out).end⟩

set_option maxRecDepth 100000 in
theorem lifted (os : Os) (started : os.Started) (H : Type) (enc : TypeId × Value → H) :
    ReturnsInHanded {} Tryz.checked os 4 .any (Rows.localAllSpec.pre6 enc Tryz.prog Tryz.f4 Rows.localAllRow.domain false) (Rows.localAllSpec.post enc Tryz.prog Tryz.f4 false true false false) := by
  refine returnsInHanded_of_change (C := Tryz.checked) own started (by kernel_rfl) Tryz.func4
    (ChangeSpec.witness6 (enc := enc) (C := Tryz.checked) false ⟨#[], #[.slice none 0 0, .agg #[.int .i64 0, .int .i64 0, .int .i64 0]], []⟩ 8 (by kernel_rfl) (by kernel_rfl) (by kernel_rfl) (by kernel_rfl)) ?_
  intro W base args ds gs before hval0 hW hcnd _
  have hval : ∀ (j : Nat) t v, Tryz.f4.params[j]? = some t → args[j]? = some v → Value.okWide Tryz.prog W .any base t v := hval0
  have hW' := hW
  obtain ⟨p, q, hA0, hV, rfl, hfz, hnd⟩ := hW
  have hA : DataW.TrodAll enc Tryz.prog W 0 (fun _ => true) true Tryz.f4.params.toList args.toList ds p := hA0
  rw [Tryz.params4] at hA hval
  obtain ⟨v0, vs0, d0, ds0, q0, qs0, hargs, rfl, rfl, h0, r0⟩ := trodAll_cons hA
  obtain ⟨v1, vs1, d1, ds1, q1, qs1, rfl, rfl, rfl, h1, r1⟩ := trodAll_cons r0
  obtain ⟨rfl, rfl, rfl⟩ := trodAll_nil r1
  obtain rfl : args = #[v0, v1] := by cases args; simp_all
  obtain ⟨rfl, rfl⟩ := trodVars_none hV
  obtain ⟨p0, n0, c0, rfl⟩ := okWide_slice Tryz.underlying46 (hval 0 46 v0 rfl rfl)
  have k0 := h0
  have lt0 : ∀ x ∈ q0, x.block < W.heap.size := by obtain ⟨m, hm⟩ := k0; exact DataW.trod_lt m _ _ _ hm
  obtain ⟨z0, s0, m0, b0⟩ := (by obtain ⟨fu, hf⟩ := h0; exact sl_ints Tryz.underlying46 Tryz.underlying26 (by kernel_rfl) hf : ∃ zs : List Int, Sl W 1 (.slice p0 n0 c0) n0 (ints .u64 zs) ∧ n0 ≤ maxLen ∧ ∀ z ∈ zs, (Lit.int .u64 z).wf = true)
  have cc0 : n0 ≤ c0 ∧ c0 ≤ maxLen := by obtain ⟨fu, hf⟩ := h0; exact sl_caps Tryz.underlying46 Tryz.underlying26 (by kernel_rfl) hf
  have k1 := h1
  have lt1 : ∀ x ∈ q1, x.block < W.heap.size := by obtain ⟨m, hm⟩ := k1; exact DataW.trod_lt m _ _ _ hm
  obtain ⟨a1, b1, c1, rfl, f1, g1, j1⟩ := open_local (hval 1 23 v1 rfl rfl) h1
  clear hA0 hval0
  simp only [List.append_nil] at hW'
  refine (walk p0 n0 c0 z0 a1 b1 c1 W s0 m0 b0 cc0 f1 g1 j1).mono fun e W' ⟨he, bel⟩ => ?_
  subst he
  exact ⟨_, rfl, _, _, _, [], _, [], hW', trodAll_mk1 (shut_bool Tryz.underlying4 _), (trodAll_cons_mk (Below.trod laidOut (by kernel_rfl) (of_decide_eq_true (by kernel_rfl)) k0 bel lt0) (trodAll_cons_mk (Below.trod laidOut (by kernel_rfl) (of_decide_eq_true (by kernel_rfl)) k1 bel lt1) trodAll_mk0)), rfl, bel.frame _, fun h => by cases h⟩

theorem proved : Rows.LocalAllSaid :=
  OpenClaim.holds_of_wide 4 Tryz.f4 rfl rfl rfl rfl rfl rfl rfl ⟨rfl, rfl, rfl, rfl, rfl⟩ rfl rfl rfl rfl rfl (by kernel_rfl) Tryz.func4 (by kernel_rfl)
    (of_decide_eq_true (by kernel_rfl)) (by unfold Func.isWrapper; first | (rw [if_pos (by decide +kernel)]; kernel_rfl) | (rw [if_neg (by decide +kernel)]; exact ⟨rfl, rfl⟩))
    (fun os started H enc _ => lifted os started H enc)
#print axioms proved
end Go.Proofs.YtjfgpplnlepnoaaGreat.localAll
