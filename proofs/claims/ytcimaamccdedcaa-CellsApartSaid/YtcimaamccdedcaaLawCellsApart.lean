/-
  The law CellsApart of the statements holds for every input: the call returns true, and the arguments read as before.
-/
import Derived.Test.YtcimaamccdedcaaAwake3
import Derived.Test.YtcimaamccdedcaaMem3
import Derived.Test.YtcimaamccdedcaaAcc
import Derived.Test.YtcimaamccdedcaaApart
import Derived.Test.YtcimaamccdedcaaRows
import Derived.WalkKit
import Derived.ProofKit
import Derived.OpenShut
import Derived.ShutString
import Derived.ChangeOld
import Derived.Below
import Derived.Test.YtcimaamccdedcaaOpen
namespace Go.Proofs.Ytcimaamccdedcaa.cellsApart
open Go.ChangeShapes Go.WideShapes Go.ChangeAt Go.RowKit
open Go.ChangeMaps (open_string shut_string)
set_option linter.unusedVariables false

theorem own : ownKnob Try.prog.godebug = none := by kernel_rfl
theorem laidOut : laidOutB Try.prog = true := by kernel_rfl

set_option maxHeartbeats 1600000 in
set_option maxRecDepth 100000 in
theorem walk (p : Option Addr) (n c : Nat) (zs : List Int) (xa xb : C.Acc) (w : World) (hsl : Sl w 1 (.slice p n c) n (ints .u64 zs)) (hn : n ≤ maxLen) (hz : ∀ z ∈ zs, (Lit.int .u64 z).wf = true) (ha : xa.ok) (hb : xb.ok) :
    Calls Try.prog 6 #[.slice p n c, .agg #[.int .i64 xa.k, .int .i64 xa.c, .int .u64 xa.a, .int .u64 xa.b], .agg #[.int .i64 xb.k, .int .i64 xb.c, .int .u64 xb.a, .int .u64 xb.b]] w fun e w' => e = .returned (.bool true) ∧ Below w.heap.size w w' := by
  have HS := Lib.hid hsl
  have HZ : Hid (∀ z ∈ zs, M.U z) := Lib.hid fun z h => M.U.wf (hz z h)
  have HA := Lib.hid ha
  have HB := Lib.hid hb
  unfold maxLen at hn
  clear hsl hz ha hb
  obtain ⟨W0, hW0⟩ : ∃ W0, (w.alloc (.cells #[.int .i64 xa.k, .int .i64 xa.c, .int .u64 xa.a, .int .u64 xa.b] 34)).alloc (.cells #[.int .i64 xb.k, .int .i64 xb.c, .int .u64 xb.a, .int .u64 xb.b] 34) = W0 := ⟨_, rfl⟩
  have X0 : Box W0 w.heap.size #[.int .i64 xa.k, .int .i64 xa.c, .int .u64 xa.a, .int .u64 xa.b] := by rw [← hW0]; exact (Box.new _ _ _).alloc _
  have Y0 : Box W0 (w.heap.size + 1) #[.int .i64 xb.k, .int .i64 xb.c, .int .u64 xb.a, .int .u64 xb.b] := by
    rw [← hW0]; have := Box.new (w.alloc (.cells #[.int .i64 xa.k, .int .i64 xa.c, .int .u64 xa.a, .int .u64 xa.b] 34)) #[.int .i64 xb.k, .int .i64 xb.c, .int .u64 xb.a, .int .u64 xb.b] 34; simpa using this
  have K0 : Keeps [] w W0 := by rw [← hW0]; exact ((Keeps.refl _ _).alloc _).alloc _
  have s0 : w.heap.size + 2 = W0.heap.size := by rw [← hW0]; simp
  have HX0 := Lib.hid X0
  have HY0 := Lib.hid Y0
  have HK0 := Lib.hid K0
  have HS0 := Lib.hid s0
  clear X0 Y0 K0 s0
  go_enter Try.func6, Try.ntmps6
  go_wp2_with fail
  clear hW0
  refine (awake3 W0).mono ?_
  rintro e w1 ⟨rfl, hk1⟩
  have X1 := HX0.out.keeps hk1 (by simp)
  have Y1 := HY0.out.keeps hk1 (by simp)
  have K1 := HK0.out.trans hk1
  have s1 : W0.heap.size ≤ w1.heap.size := hk1.size
  have cx := X1.cells
  have cy := Y1.cells
  by_cases h1 : n < 1
  · go_wp2
    go_ret
    exact ⟨rfl, K1.end⟩
  by_cases h2 : 200 < n
  · go_wp2
    go_ret
    exact ⟨rfl, K1.end⟩
  have d1 : decide ((n : Int) < 1) = false := decide_eq_false (by omega)
  have d2 : decide ((200 : Int) < n) = false := decide_eq_false (by omega)
  by_cases h3 : xa.c = xb.c
  · have hb : (xa.c == xb.c) = true := by simpa using h3
    have H3 := Lib.hid h3
    clear h3
    go_wp2
    go_ret
    exact ⟨rfl, K1.end⟩
  have hb : (xa.c == xb.c) = false := by simpa using h3
  have H3 := Lib.hid h3
  have HX1 := Lib.hid X1
  have HY1 := Lib.hid Y1
  have HK1 := Lib.hid K1
  have NA := fun W => new_any n W (by omega) (by omega)
  have HNA := Lib.hid NA
  clear h3 X1 Y1 K1 hk1 NA HX0 HY0 HK0
  go_wp2_with fail
  clear cx cy hb
  have S0 := HS0.out
  refine (HNA.out w1).mono ?_
  rintro e w2 ⟨m, bm, rfl, M2, k2, lm, lbm⟩
  have X2 := Lib.hid (HX1.out.keeps k2 (by simp))
  have Y2 := Lib.hid (HY1.out.keeps k2 (by simp))
  have K2 := Lib.hid (HK1.out.trans k2)
  have s2 := k2.size
  have HM2 := Lib.hid M2
  clear HX1 HY1 HK1 M2 k2
  go_wp2_with fail
  refine (HNA.out w2).mono ?_
  rintro e w3 ⟨o, bo, rfl, O3, k3, lo, lbo⟩
  have X3 := Lib.hid (X2.out.keeps k3 (by simp))
  have Y3 := Lib.hid (Y2.out.keeps k3 (by simp))
  have K3 := Lib.hid (K2.out.trans k3)
  have s3 := k3.size
  have ltm := HM2.out.lt
  have HM3 := Lib.hid (HM2.out.keeps k3 (by simp) (by simp))
  have HO3 := Lib.hid O3
  clear X2 Y2 K2 HM2 O3 k3
  go_wp2_with fail
  have hs3 : Sl w3 1 (.slice p n c) n (ints .u64 zs) := HS.out.below K3.out.end (Nat.le_refl _)
  refine (fill_any m bm _ zs _ n w3 HM3.out hs3 HZ.out (by unfold maxLen; omega)).mono ?_
  rintro e w4 ⟨rfl, M4, k4⟩
  have X4 := Lib.hid (X3.out.keeps k4 (by simp; omega))
  have Y4 := Lib.hid (Y3.out.keeps k4 (by simp; omega))
  have K4 := Lib.hid (K3.out.step k4 (by simp; omega))
  have s4 := k4.size
  have HM4 := Lib.hid M4
  have HO4 := Lib.hid (HO3.out.keeps k4 (by simp; omega) (by simp; omega))
  clear X3 Y3 K3 HM3 HO3 M4 k4 hs3
  go_wp2_with fail
  have hs4 : Sl w4 1 (.slice p n c) n (ints .u64 zs) := HS.out.below K4.out.end (Nat.le_refl _)
  refine (fill_any o bo _ zs _ n w4 HO4.out hs4 HZ.out (by unfold maxLen; omega)).mono ?_
  rintro e w5 ⟨rfl, O5, k5⟩
  obtain ⟨us, hus⟩ : ∃ us, C.fill (List.replicate n 0) zs = us := ⟨_, rfl⟩
  rw [hus] at O5 HM4
  have X5 := Lib.hid (X4.out.keeps k5 (by simp; omega))
  have Y5 := Lib.hid (Y4.out.keeps k5 (by simp; omega))
  have K5 := Lib.hid (K4.out.step k5 (by simp; omega))
  have s5 := k5.size
  have HM5 := Lib.hid (HM4.out.keeps k5 (by simp; omega) (by simp; omega))
  have HO5 := Lib.hid O5
  clear X4 Y4 K4 HM4 HO4 O5 k5 hs4 hus
  have cx := X5.out.cells
  go_wp2_with fail
  refine (do_any m bm us xa w5 HM5.out HA.out).mono ?_
  rintro e w6 ⟨rfl, M6, k6⟩
  have X6 := Lib.hid (X5.out.keeps k6 (by simp; omega))
  have Y6 := Lib.hid (Y5.out.keeps k6 (by simp; omega))
  have K6 := Lib.hid (K5.out.step k6 (by simp; omega))
  have s6 := k6.size
  have HM6 := Lib.hid M6
  have HO6 := Lib.hid (HO5.out.keeps k6 (by simp; omega) (by simp; omega))
  clear cx X5 Y5 K5 HM5 HO5 M6 k6
  have cy := Y6.out.cells
  go_wp2_with fail
  have D := do_any m bm _ xb w6 HM6.out HB.out
  rw [C.told_next us (Ne.symm H3.out), C.won_next us (Ne.symm H3.out), C.code_next] at D
  refine D.mono ?_
  clear D
  rintro e w7 ⟨rfl, M7, k7⟩
  have X7 := Lib.hid (X6.out.keeps k7 (by simp; omega))
  have Y7 := Lib.hid (Y6.out.keeps k7 (by simp; omega))
  have K7 := Lib.hid (K6.out.step k7 (by simp; omega))
  have s7 := k7.size
  have HM7 := Lib.hid M7
  have HO7 := Lib.hid (HO6.out.keeps k7 (by simp; omega) (by simp; omega))
  clear cy X6 Y6 K6 HM6 HO6 M7 k7
  have cy := Y7.out.cells
  go_wp2_with fail
  refine (do_any o bo us xb w7 HO7.out HB.out).mono ?_
  rintro e w8 ⟨rfl, O8, k8⟩
  have X8 := Lib.hid (X7.out.keeps k8 (by simp; omega))
  have K8 := Lib.hid (K7.out.step k8 (by simp; omega))
  have s8 := k8.size
  have HM8 := Lib.hid (HM7.out.keeps k8 (by simp; omega) (by simp; omega))
  have HO8 := Lib.hid O8
  clear cy X7 Y7 K7 HM7 HO7 O8 k8
  have cx := X8.out.cells
  go_wp2_with fail
  have D := do_any o bo _ xa w8 HO8.out HA.out
  rw [C.told_next us H3.out, C.won_next us H3.out, C.code_next, C.next_comm us H3.out] at D
  refine D.mono ?_
  clear D
  rintro e w9 ⟨rfl, O9, k9⟩
  have K9 := Lib.hid (K8.out.step k9 (by simp; omega))
  have HM9 := Lib.hid (HM8.out.keeps k9 (by simp; omega) (by simp; omega))
  have HO9 := Lib.hid O9
  clear cx X8 K8 HM8 HO8 O9 k9
  go_wp2_with fail
  have D := memSame_any m bm o bo _ _ w9 HM9.out HO9.out
  rw [decide_eq_true rfl] at D
  refine D.mono ?_
  clear D
  rintro e w10 ⟨rfl, k, rfl⟩
  go_wp2
  go_ret
  exact ⟨rfl, K9.out.drewN.end⟩

set_option maxRecDepth 100000 in
theorem lifted (os : Os) (started : os.Started) (H : Type) (enc : TypeId × Value → H) :
    ReturnsInHanded {} Try.checked os 6 .any (Rows.cellsApartSpec.pre6 enc Try.prog Try.f6 Rows.cellsApartRow.domain false) (Rows.cellsApartSpec.post enc Try.prog Try.f6 false true false false) := by
  refine returnsInHanded_of_change (C := Try.checked) own started (by kernel_rfl) Try.func6
    (ChangeSpec.witness6 (enc := enc) (C := Try.checked) false ⟨#[], #[.slice none 0 0, .agg #[.int .i64 0, .int .i64 0, .int .u64 0, .int .u64 0], .agg #[.int .i64 0, .int .i64 0, .int .u64 0, .int .u64 0]], []⟩ 8 (by kernel_rfl) (by kernel_rfl) (by kernel_rfl) (by kernel_rfl)) ?_
  intro W base args ds gs before hval0 hW hcnd _
  have hval : ∀ (j : Nat) t v, Try.f6.params[j]? = some t → args[j]? = some v → Value.okWide Try.prog W .any base t v := hval0
  have hW' := hW
  obtain ⟨p, q, hA0, hV, rfl, hfz, hnd⟩ := hW
  have hA : DataW.TrodAll enc Try.prog W 0 (fun _ => true) true Try.f6.params.toList args.toList ds p := hA0
  rw [Try.params6] at hA hval
  obtain ⟨v0, vs0, d0, ds0, q0, qs0, hargs, rfl, rfl, h0, r0⟩ := trodAll_cons hA
  obtain ⟨v1, vs1, d1, ds1, q1, qs1, rfl, rfl, rfl, h1, r1⟩ := trodAll_cons r0
  obtain ⟨v2, vs2, d2, ds2, q2, qs2, rfl, rfl, rfl, h2, r2⟩ := trodAll_cons r1
  obtain ⟨rfl, rfl, rfl⟩ := trodAll_nil r2
  obtain rfl : args = #[v0, v1, v2] := by cases args; simp_all
  obtain ⟨rfl, rfl⟩ := trodVars_none hV
  obtain ⟨p0, n0, c0, rfl⟩ := okWide_slice Try.underlying29 (hval 0 29 v0 rfl rfl)
  have k0 := h0
  have lt0 : ∀ x ∈ q0, x.block < W.heap.size := by obtain ⟨m, hm⟩ := k0; exact DataW.trod_lt m _ _ _ hm
  obtain ⟨z0, s0, m0, b0⟩ := (by obtain ⟨fu, hf⟩ := h0; exact sl_ints Try.underlying29 Try.underlying30 (by kernel_rfl) hf : ∃ zs : List Int, Sl W 1 (.slice p0 n0 c0) n0 (ints .u64 zs) ∧ n0 ≤ maxLen ∧ ∀ z ∈ zs, (Lit.int .u64 z).wf = true)
  have k1 := h1
  have lt1 : ∀ x ∈ q1, x.block < W.heap.size := by obtain ⟨m, hm⟩ := k1; exact DataW.trod_lt m _ _ _ hm
  obtain ⟨x1, rfl, b1⟩ := open_acc (hval 1 34 v1 rfl rfl) h1
  have k2 := h2
  have lt2 : ∀ x ∈ q2, x.block < W.heap.size := by obtain ⟨m, hm⟩ := k2; exact DataW.trod_lt m _ _ _ hm
  obtain ⟨x2, rfl, b2⟩ := open_acc (hval 2 34 v2 rfl rfl) h2
  clear hA0 hval0
  simp only [List.append_nil] at hW'
  refine (walk p0 n0 c0 z0 x1 x2 W s0 m0 b0 b1 b2).mono fun e W' ⟨he, bel⟩ => ?_
  subst he
  exact ⟨_, rfl, _, _, _, [], _, [], hW', trodAll_mk1 (shut_bool Try.underlying4 _), (trodAll_cons_mk (Below.trod laidOut (by kernel_rfl) (of_decide_eq_true (by kernel_rfl)) k0 bel lt0) (trodAll_cons_mk (Below.trod laidOut (by kernel_rfl) (of_decide_eq_true (by kernel_rfl)) k1 bel lt1) (trodAll_cons_mk (Below.trod laidOut (by kernel_rfl) (of_decide_eq_true (by kernel_rfl)) k2 bel lt2) trodAll_mk0))), rfl, bel.frame _, fun h => by cases h⟩

theorem proved : Rows.CellsApartSaid :=
  OpenClaim.holds_of_wide 6 Try.f6 rfl rfl rfl rfl rfl rfl rfl ⟨rfl, rfl, rfl, rfl, rfl⟩ rfl rfl rfl rfl rfl (by kernel_rfl) Try.func6 (by kernel_rfl)
    (of_decide_eq_true (by kernel_rfl)) (by unfold Func.isWrapper; first | (rw [if_pos (by decide +kernel)]; kernel_rfl) | (rw [if_neg (by decide +kernel)]; exact ⟨rfl, rfl⟩))
    (fun os started H enc _ => lifted os started H enc)
#print axioms proved
end Go.Proofs.Ytcimaamccdedcaa.cellsApart
