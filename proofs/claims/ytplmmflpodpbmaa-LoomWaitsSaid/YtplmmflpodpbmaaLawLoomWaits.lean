/-
  The law LoomWaits of the statements holds for every input: the call returns true, and the arguments read as before.
-/
import Derived.Test.YtplmmflpodpbmaaAwake5
import Derived.Test.YtplmmflpodpbmaaLook
import Derived.Test.YtplmmflpodpbmaaOpen
import Derived.Test.YtplmmflpodpbmaaAcc
import Derived.Test.YtplmmflpodpbmaaRows
import Derived.WalkKit
import Derived.ProofKit
import Derived.OpenShut
import Derived.ShutString
import Derived.ChangeOld
import Derived.Below
import Derived.Test.YtplmmflpodpbmaaOpen
namespace Go.Proofs.Ytplmmflpodpbmaa.loomWaits
open Go.ChangeShapes Go.WideShapes Go.ChangeAt Go.RowKit
open Go.ChangeMaps (open_string shut_string)
set_option linter.unusedVariables false

theorem own : ownKnob Try.prog.godebug = none := by kernel_rfl
theorem laidOut : laidOutB Try.prog = true := by kernel_rfl

set_option maxHeartbeats 3200000 in
set_option maxRecDepth 100000 in
theorem walk (v : Int) (p : Option Addr) (n c : Nat) (zs : List Int) (w : World) (hv : (Lit.int .u64 v).wf = true) (hsl : Sl w 1 (.slice p n c) n (ints .u64 zs)) (hn : n ≤ maxLen) (hz : ∀ z ∈ zs, (Lit.int .u64 z).wf = true) :
    Calls Try.prog 4 #[.int .u64 v, .slice p n c] w fun e w' => e = .returned (.bool true) ∧ Below w.heap.size w w' := by
  have HU : Hid (M.U v) := Lib.hid (M.U.wf hv)
  have HZ : Hid (∀ z ∈ zs, M.U z) := Lib.hid fun z h => M.U.wf (hz z h)
  have HS := Lib.hid hsl
  have HLen := Lib.hid hsl.ints_len
  unfold maxLen at hn
  obtain ⟨B, hB⟩ : ∃ B, w.heap.size = B := ⟨_, rfl⟩
  rw [hB]
  clear hv hz hsl
  go_enter Try.func4, Try.ntmps4
  go_wp2_with fail
  refine (awake5 w).mono ?_
  rintro e w1 ⟨rfl, b1⟩
  rw [hB] at b1
  have HB1 := Lib.hid b1
  clear b1
  by_cases h1 : 100 < n
  · have d1 : decide ((100 : Int) < n) = true := decide_eq_true (by omega)
    go_wp2
    go_ret
    exact ⟨rfl, HB1.out⟩
  have d1 : decide ((100 : Int) < n) = false := decide_eq_false (by omega)
  have s1 := HB1.out.size
  go_wp2_with fail
  refine (new_any 1 w1 (by omega) (by omega)).mono ?_
  rintro e w2 ⟨m, b, rfl, hM, k2, hm, hb⟩
  have HB2 := Lib.hid (HB1.out.trans (k2.below (by omega) (by simp)))
  have HM2 := Lib.hid hM
  clear hM k2 HB1
  go_wp2_with fail
  generalize hW : World.alloc _ _ = W3
  have k3 : Keeps [] w2 W3 := by rw [← hW]; exact (Keeps.refl _ _).alloc _
  have hsl3 : Sl W3 1 (.slice (some ⟨w2.heap.size, 0, none⟩) 1 1) 1 (ints .u64 [v]) := by rw [← hW]; exact Sl.lit w2 #[.int .u64 v] 33 1 1 1 rfl
  have HM3 := Lib.hid (HM2.out.keeps k3 (by simp) (by simp))
  have s2 := HB2.out.size
  have HB3 := Lib.hid (HB2.out.trans (k3.below (by omega) (by simp)))
  clear hW HM2 HB2 k3
  refine (fill_any m b _ [v] _ 1 W3 HM3.out hsl3 (by simpa using HU.out) (by decide)).mono ?_
  rintro e w4 ⟨rfl, hM, k4⟩
  have s3 := HB3.out.size
  have HM4 := Lib.hid (show Mem w4 m b [v] from hM)
  have HB4 := Lib.hid (HB3.out.trans (k4.below (by omega) (by simp; omega)))
  clear hM k4 HM3 HB3 hsl3
  go_wp2_with fail
  have s4 := HB4.out.size
  refine (loomNew_any B 2 m b [v] w4 HM4.out (by omega) (by omega) (by omega) (by omega)).mono ?_
  rintro e w5 ⟨l, g, rfl, hL, k5⟩
  have HL5 := Lib.hid (show Loom B w5 ⟨l, g, m, b, [v], [none, none], 0⟩ from hL)
  have HB5 := Lib.hid (HB4.out.trans (k5.below (by omega) (by simp)))
  clear hL k5 HM4 HB4
  go_wp2_with fail
  refine (wUntil ⟨7, 0, v, 0⟩ w5).mono ?_
  rintro e w6 ⟨m0, S0, rfl, hI, k6, hS⟩
  have D := start_at B _ 0 none (untilStrand m0 ⟨7, 0, v, 0⟩ none) S0 w5 w6 HL5.out k6 rfl rfl hI hS
  have s5 := HB5.out.size
  have HB6 := Lib.hid (HB5.out.trans (k6.below (by omega) (by simp)))
  have hgb := Lib.hid HL5.out.base
  clear hI k6 hS HL5 HB5
  go_wp2_with fail
  refine D.mono ?_
  clear D
  rintro e w7 ⟨rfl, hL, k7⟩
  have s6 := HB6.out.size
  have HL7 := Lib.hid (show Loom B w7 ⟨l, g, m, b, [v], [some (untilStrand m0 ⟨7, 0, v, 0⟩ none), none], 0⟩ from hL)
  have HB7 := Lib.hid (HB6.out.trans (k7.below (by omega) (fun k hk => by simp at hk; have : B ≤ g := hgb.out.2.1; omega)))
  clear hL k7 HB6
  have HX : Hid ((⟨7, 0, v, 0⟩ : C.Acc).ok) := Lib.hid ⟨HU.out, (⟨by decide, by decide⟩ : M.U 0)⟩
  have HPk : Hid (parks [v] ⟨7, 0, v, 0⟩ = true) := Lib.hid (by simp [parks, C.won, C.code, C.deed])
  go_wp2
  go_loopw [9] (fun i wr => ∃ k : Nat, k ≤ n ∧ i = .int .i64 (k : Int) ∧ Below B w wr ∧ ∃ o1, busy o1 = false ∧ Loom B wr ⟨l, g, m, b, [v], [some (untilStrand m0 ⟨7, 0, v, 0⟩ none), o1], k⟩) (fun i _ => n - (intOf i).toNat)
  case atStart => exact ⟨0, Nat.zero_le _, rfl, HB7.out, none, rfl, HL7.out⟩
  case round =>
    obtain ⟨k, hk, rfl, hbr, o1, ho1, hL⟩ := hrel
    have HLr := Lib.hid hL
    have HBr := Lib.hid hbr
    have HO1 := Lib.hid ho1
    have hsr := hbr.size
    clear hL hbr ho1 HL7 HB7
    by_cases hlt : k < n
    · go_wp2_with fail
      have D := parked_some B _ 0 _ ⟨7, 0, v, 0⟩ wr HLr.out rfl rfl HX.out
      rw [HPk.out] at D
      refine D.mono ?_
      clear D
      rintro e w9 ⟨rfl, hL9, k9⟩
      have HL9 := Lib.hid hL9
      have HB9 := Lib.hid (HBr.out.trans (k9.below (by omega) (fun k hk => by simp at hk; have : B ≤ b := hgb.out.2.2; omega)))
      clear hL9 k9 HLr HBr
      have s9 := HB9.out.size
      go_wp2_with fail
      refine (pick_parked B _ 0 _ ⟨7, 0, v, 0⟩ w9 HL9.out rfl rfl HX.out HPk.out).mono ?_
      rintro e w10 ⟨rfl, hL10, k10⟩
      have HL10 := Lib.hid hL10
      have HB10 := Lib.hid (HB9.out.trans (k10.below (by omega) (fun k hk => by simp at hk; have : B ≤ b := hgb.out.2.2; omega)))
      clear hL10 k10 HL9 HB9
      have s10 := HB10.out.size
      go_wp2_with fail
      have D := busy_at B _ 0 _ w10 HL10.out rfl
      refine D.mono ?_
      clear D
      rintro e w11 ⟨rfl, k11⟩
      have HL11 := Lib.hid (HL10.out.keeps k11)
      have HB11 := Lib.hid (HB10.out.trans (k11.below (by omega) (by simp)))
      clear k11 HL10 HB10
      have s11 := HB11.out.size
      go_wp2_with fail
      refine (steps_any B _ w11 HL11.out).mono ?_
      rintro e w12 ⟨rfl, rfl⟩
      have hs11 : Sl w11 1 (.slice p n c) n (ints .u64 zs) := HS.out.below HB11.out (by omega)
      obtain ⟨pb, off, cap, he, hpb, hcell⟩ := hs11.some (by omega)
      cases he
      have hkz : k < zs.length := by rw [HLen.out]; exact hlt
      have az := hcell k _ (ints_at (k := .u64) hkz)
      have HAt : Hid (M.U (zs.getD k 0)) := Lib.hid (HZ.out _ (by rw [List.getD, List.getElem?_eq_getElem hkz]; exact List.getElem_mem hkz))
      obtain ⟨z, hzz⟩ : ∃ z, zs.getD k 0 = z := ⟨_, rfl⟩
      rw [hzz] at az HAt
      have HZZ := Lib.hid hzz
      clear hs11 hcell hzz
      go_wp2_with fail
      generalize hW : World.alloc _ _ = W13
      have k13 : Keeps [] w11 W13 := by rw [← hW]; exact (Keeps.refl _ _).alloc _
      have hsl13 : Sl W13 4 (.slice (some ⟨w11.heap.size, 0, none⟩) 1 1) 1 (accs [⟨2, 0, z, 0⟩]) := by rw [← hW]; exact Sl.lit w11 #[.int .i64 2, .int .i64 0, .int .u64 z, .int .u64 0] 35 4 1 1 rfl
      have HL13 := Lib.hid (HL11.out.keeps k13)
      have HB13 := Lib.hid (HB11.out.trans (k13.below (by omega) (by simp)))
      clear hW k13 HL11 HB11
      have s13 := HB13.out.size
      refine (wPlain _ [⟨2, 0, z, 0⟩] W13 hsl13 (by simp)).mono ?_
      rintro e w14 ⟨m1, S1, rfl, hI, k14, hS⟩
      have D := start_at B _ 1 o1 (plainStrand m1 [⟨2, 0, z, 0⟩] []) S1 W13 w14 HL13.out k14 rfl HO1.out hI hS
      have HB14 := Lib.hid (HB13.out.trans (k14.below (by omega) (by simp)))
      clear hI k14 hS hsl13 HL13 HB13
      have s14 := HB14.out.size
      go_wp2_with fail
      refine D.mono ?_
      clear D
      rintro e w15 ⟨rfl, hL, k15⟩
      have HL15 := Lib.hid (show Loom B w15 ⟨l, g, m, b, [v], [some (untilStrand m0 ⟨7, 0, v, 0⟩ none), some (plainStrand m1 [⟨2, 0, z, 0⟩] [])], k⟩ from hL)
      have HB15 := Lib.hid (HB14.out.trans (k15.below (by omega) (fun k hk => by simp at hk; have : B ≤ g := hgb.out.2.1; omega)))
      clear hL k15 HB14
      have s15 := HB15.out.size
      go_wp2_with fail
      have HX2 : Hid ((⟨2, 0, z, 0⟩ : C.Acc).ok) := Lib.hid ⟨HAt.out, (⟨by decide, by decide⟩ : M.U 0)⟩
      refine (pick_fine B _ 1 _ ⟨2, 0, z, 0⟩ w15 HL15.out rfl rfl HX2.out rfl rfl (by simp only; omega)).mono ?_
      rintro e w16 ⟨rfl, hL, b16⟩
      have HL16 := Lib.hid (show Loom B w16 ⟨l, g, m, b, [z], [some (untilStrand m0 ⟨7, 0, v, 0⟩ none), some (plainStrand m1 [⟨2, 0, z, 0⟩] [v])], k + 1⟩ from hL)
      have HB16 := Lib.hid (HB15.out.trans b16)
      clear hL b16 HL15 HB15
      have s16 := HB16.out.size
      have hs16 : Sl w16 1 (.slice (some ⟨pb, off, none⟩) n c) n (ints .u64 zs) := HS.out.below HB16.out (by omega)
      obtain ⟨pb', off', cap', he, hpb', hcell⟩ := hs16.some (by omega)
      cases he
      have az' := hcell k _ (ints_at (k := .u64) hkz)
      rw [HZZ.out] at az'
      clear hs16 hcell az
      by_cases hzv : z = v
      · have hbz : (z != v) = false := by simp [hzv]
        have HZV := Lib.hid hzv
        clear hzv
        go_wp2
        go_roundw
        case rel => exact ⟨k + 1, by omega, by go_num, HB16.out, some (plainStrand m1 [⟨2, 0, v, 0⟩] [v]), rfl, by have := HL16.out; rw [HZV.out] at this; exact this⟩
        case measure => simp [intOf]; omega
      · have hbz : (z != v) = true := by simp [hzv]
        have HZV := Lib.hid hzv
        clear hzv
        go_wp2_with fail
        have hp0 : parks [z] ⟨7, 0, v, 0⟩ = false := by simp [parks, C.won, C.code, C.deed, HZV.out]
        have hw0 : C.won [z] ⟨7, 0, v, 0⟩ = true := by simp [C.won, C.code, C.deed, HZV.out]
        refine (pick_fine B _ 0 _ ⟨7, 0, v, 0⟩ w16 HL16.out rfl rfl HX.out rfl hp0 (by simp only; omega)).mono ?_
        rintro e w17 ⟨rfl, hL, b17⟩
        have hL' : Loom B w17 ⟨l, g, m, b, [z], [some (untilStrand m0 ⟨7, 0, v, 0⟩ (some z)), some (plainStrand m1 [⟨2, 0, z, 0⟩] [v])], k + 2⟩ := by
          have := hL
          unfold LSt.after at this
          rw [untilStrand_go, hw0] at this
          exact this
        have HL17 := Lib.hid hL'
        have HB17 := Lib.hid (HB16.out.trans b17)
        clear hL hL' b17 HL16 HB16 hp0 hw0 az'
        have s17 := HB17.out.size
        go_wp2_with fail
        have D := loomResult_at B _ 0 _ w17 HL17.out rfl
        rw [show (some (untilStrand m0 ⟨7, 0, v, 0⟩ (some z))).bind Strand.res = some ⟨0, z, []⟩ from rfl] at D
        simp only [Option.getD_some, Option.isSome_some, List.length_nil] at D
        refine D.mono ?_
        clear D
        rintro e w18 ⟨rl, rfl, ho, k18⟩
        obtain ⟨q1, c1, rfl⟩ := (Sl.of_owns ho).len
        have HL18 := Lib.hid (HL17.out.keeps k18)
        have HB18 := Lib.hid (HB17.out.trans (k18.below (by omega) (by simp)))
        clear ho k18 HL17 HB17
        have s18 := HB18.out.size
        go_wp2_with fail
        generalize hW : World.alloc _ _ = W19
        have k19 : Keeps [] w18 W19 := by rw [← hW]; exact (Keeps.refl _ _).alloc _
        have r19 : Row W19 w18.heap.size 49 [.int .i64 0, .int .u64 z, .slice q1 0 c1] := by rw [← hW]; exact Row.new _ _ _
        have HL19 := Lib.hid (HL18.out.keeps k19)
        have HB19 := Lib.hid (HB18.out.trans (k19.below (by omega) (by simp)))
        have HR19 := Lib.hid r19
        clear hW k19 r19 HL18 HB18
        have s19 := HB19.out.size
        refine wp_region_mid 1 (by kernel_rfl) (by kernel_rfl) ?_
        simp only [List.take_succ_cons, List.take_zero, List.drop_succ_cons, List.drop_zero]
        repeat still_step
        refine wpStill_nil ?_
        go_wp2_with fail
        refine (parked_idle B _ 0 _ W19.drew (HL19.out.keeps (Keeps.refl _ _).drew) rfl rfl).mono ?_
        rintro e w20 ⟨rfl, k20⟩
        have HB20 := Lib.hid (HB19.out.trans ((k20.undrew).below (by omega) (by simp)))
        have r20 := HR19.out.keeps k20.undrew (by simp)
        have e1 := r20.cell (j := 1) rfl
        have hs20 : Sl w20 1 (.slice (some ⟨pb, off, none⟩) n c) n (ints .u64 zs) := HS.out.below HB20.out (by omega)
        obtain ⟨pb2, off2, cap2, he, hpb2, hcell⟩ := hs20.some (by omega)
        cases he
        have az2 := hcell k _ (ints_at (k := .u64) hkz)
        rw [HZZ.out] at az2
        clear k20 r20 hs20 hcell HL19 HB19 HR19
        go_wp2
        show wpStill _ _ _ _ _ _
        repeat still_step
        refine wpStill_nil ?_
        go_wp2
        go_ret
        exact ⟨rfl, HB20.out⟩
    · obtain rfl : n = k := by omega
      go_wp2_with fail
      have D := parked_some B _ 0 _ ⟨7, 0, v, 0⟩ wr HLr.out rfl rfl HX.out
      rw [HPk.out] at D
      refine D.mono ?_
      clear D
      rintro e w9 ⟨rfl, -, k9⟩
      have HB9 := Lib.hid (HBr.out.trans (k9.below (by omega) (fun k hk => by simp at hk; have : B ≤ b := hgb.out.2.2; omega)))
      clear k9
      go_wp2
      go_ret
      exact ⟨rfl, HB9.out⟩

set_option maxRecDepth 100000 in
theorem lifted (os : Os) (started : os.Started) (H : Type) (enc : TypeId × Value → H) :
    ReturnsInHanded {} Try.checked os 4 .any (Rows.loomWaitsSpec.pre6 enc Try.prog Try.f4 Rows.loomWaitsRow.domain false) (Rows.loomWaitsSpec.post enc Try.prog Try.f4 false true false false) := by
  refine returnsInHanded_of_change (C := Try.checked) own started (by kernel_rfl) Try.func4
    (ChangeSpec.witness6 (enc := enc) (C := Try.checked) false ⟨#[], #[.int .u64 0, .slice none 0 0], []⟩ 8 (by kernel_rfl) (by kernel_rfl) (by kernel_rfl) (by kernel_rfl)) ?_
  intro W base args ds gs before hval0 hW hcnd _
  have hval : ∀ (j : Nat) t v, Try.f4.params[j]? = some t → args[j]? = some v → Value.okWide Try.prog W .any base t v := hval0
  have hW' := hW
  obtain ⟨p, q, hA0, hV, rfl, hfz, hnd⟩ := hW
  have hA : DataW.TrodAll enc Try.prog W 0 (fun _ => true) true Try.f4.params.toList args.toList ds p := hA0
  rw [Try.params4] at hA hval
  obtain ⟨v0, vs0, d0, ds0, q0, qs0, hargs, rfl, rfl, h0, r0⟩ := trodAll_cons hA
  obtain ⟨v1, vs1, d1, ds1, q1, qs1, rfl, rfl, rfl, h1, r1⟩ := trodAll_cons r0
  obtain ⟨rfl, rfl, rfl⟩ := trodAll_nil r1
  obtain rfl : args = #[v0, v1] := by cases args; simp_all
  obtain ⟨rfl, rfl⟩ := trodVars_none hV
  obtain ⟨a0, rfl, rfl, rfl, w0⟩ := open_int Try.underlying33 (hval 0 33 v0 rfl rfl) h0
  obtain ⟨p1, n1, c1, rfl⟩ := okWide_slice Try.underlying22 (hval 1 22 v1 rfl rfl)
  have k1 := h1
  have lt1 : ∀ x ∈ q1, x.block < W.heap.size := by obtain ⟨m, hm⟩ := k1; exact DataW.trod_lt m _ _ _ hm
  obtain ⟨z1, s1, m1, b1⟩ := (by obtain ⟨fu, hf⟩ := h1; exact sl_ints Try.underlying22 Try.underlying33 (by kernel_rfl) hf : ∃ zs : List Int, Sl W 1 (.slice p1 n1 c1) n1 (ints .u64 zs) ∧ n1 ≤ maxLen ∧ ∀ z ∈ zs, (Lit.int .u64 z).wf = true)
  clear hA0 hval0
  simp only [List.append_nil] at hW'
  refine (walk a0 p1 n1 c1 z1 W w0 s1 m1 b1).mono fun e W' ⟨he, bel⟩ => ?_
  subst he
  exact ⟨_, rfl, _, _, _, [], _, [], hW', trodAll_mk1 (shut_bool Try.underlying4 _), (trodAll_cons_mk (shut_int Try.underlying33 w0) (trodAll_cons_mk (Below.trod laidOut (by kernel_rfl) (of_decide_eq_true (by kernel_rfl)) k1 bel lt1) trodAll_mk0)), rfl, bel.frame _, fun h => by cases h⟩

theorem proved : Rows.LoomWaitsSaid :=
  OpenClaim.holds_of_wide 4 Try.f4 rfl rfl rfl rfl rfl rfl rfl ⟨rfl, rfl, rfl, rfl, rfl⟩ rfl rfl rfl rfl rfl (by kernel_rfl) Try.func4 (by kernel_rfl)
    (of_decide_eq_true (by kernel_rfl)) (by unfold Func.isWrapper; first | (rw [if_pos (by decide +kernel)]; kernel_rfl) | (rw [if_neg (by decide +kernel)]; exact ⟨rfl, rfl⟩))
    (fun os started H enc _ => lifted os started H enc)
#print axioms proved
end Go.Proofs.Ytplmmflpodpbmaa.loomWaits
