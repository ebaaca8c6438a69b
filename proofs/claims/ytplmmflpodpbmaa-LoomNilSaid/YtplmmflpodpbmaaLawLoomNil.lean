/-
  The law LoomNil of the statements holds for every input: the call returns true, and the arguments read as before.
-/
import Derived.Test.YtplmmflpodpbmaaAwake5
import Derived.Test.YtplmmflpodpbmaaLoom6
import Derived.Test.YtplmmflpodpbmaaLook
import Derived.Test.YtplmmflpodpbmaaOpen
import Derived.Test.YtplmmflpodpbmaaAcc
import Derived.Test.YtplmmflpodpbmaaRows
import Derived.WalkKit
import Derived.ProofKit
import Derived.OpenShut
import Derived.ShutString
import Derived.ChangeOld
import Derived.Below
import Derived.Test.YtplmmflpodpbmaaOpen
namespace Go.Proofs.Ytplmmflpodpbmaa.loomNil
open Go.ChangeShapes Go.WideShapes Go.ChangeAt Go.RowKit
open Go.ChangeMaps (open_string shut_string)
set_option linter.unusedVariables false

theorem own : ownKnob Try.prog.godebug = none := by kernel_rfl
theorem laidOut : laidOutB Try.prog = true := by kernel_rfl

set_option maxHeartbeats 1600000 in
set_option maxRecDepth 100000 in
theorem walk (who most : Int) (x : C.Acc) (w : World) (hwho : (Lit.int .i64 who).wf = true) (hmost : (Lit.int .i64 most).wf = true) (hx : x.ok) :
    Calls Try.prog 5 #[.int .i64 who, .int .i64 most, .agg #[.int .i64 x.k, .int .i64 x.c, .int .u64 x.a, .int .u64 x.b]] w fun e w' => e = .returned (.bool true) ∧ Below w.heap.size w w' := by
  clear hwho hmost hx
  obtain ⟨W0, hW0⟩ : ∃ W0, w.alloc (.cells #[.int .i64 x.k, .int .i64 x.c, .int .u64 x.a, .int .u64 x.b] 35) = W0 := ⟨_, rfl⟩
  have HB0 : Hid (Box W0 w.heap.size #[.int .i64 x.k, .int .i64 x.c, .int .u64 x.a, .int .u64 x.b]) := Lib.hid (by rw [← hW0]; exact Box.new _ _ _)
  have HK0 : Hid (Keeps [] w W0) := Lib.hid (by rw [← hW0]; exact (Keeps.refl _ _).alloc _)
  have hz0 : w.heap.size < W0.heap.size := HB0.out.lt
  have CN := Lib.hid (fun W => new_any 1 W (by omega) (by omega))
  go_enter Try.func5, Try.ntmps5
  go_wp2_with fail
  clear hW0
  refine (awake5 W0).mono ?_
  rintro e w1 ⟨rfl, b1⟩
  have k1 : Keeps [] W0 w1 := Keeps.of_below b1 (Nat.le_refl _)
  have HB1 := Lib.hid (HB0.out.keeps k1 (by simp))
  have HK1 := Lib.hid (HK0.out.trans k1)
  clear b1 k1 HB0 HK0
  go_wp2_with fail
  refine (loomNew_nil 2 w1).mono ?_
  rintro e w2 ⟨rfl, rfl⟩
  go_wp2_with fail
  refine (alone_nil who most w1).mono ?_
  rintro e w3 ⟨rfl, k3⟩
  have HB3 := Lib.hid (HB1.out.keeps k3 (by simp))
  have HK3 := Lib.hid (HK1.out.trans k3)
  clear k3 HB1 HK1
  go_wp2_with fail
  refine (loomResult_nil who w3).mono ?_
  rintro e w4 ⟨rfl, k4⟩
  have HB4 := Lib.hid (HB3.out.keeps k4 (by simp))
  have HK4 := Lib.hid (HK3.out.trans k4)
  clear k4 HB3 HK3
  go_wp2_with fail
  generalize hW : World.alloc _ _ = W5
  have k5 : Keeps [] w4 W5 := by rw [← hW]; exact (Keeps.refl _ _).alloc _
  have r5 : Row W5 w4.heap.size 49 [.int .i64 0, .int .u64 0, .slice none 0 0] := by rw [← hW]; exact Row.new _ _ _
  have HR5 := Lib.hid r5
  have HB5 := Lib.hid (HB4.out.keeps k5 (by simp))
  have HK5 := Lib.hid (HK4.out.trans k5)
  clear hW k5 r5 HB4 HK4
  refine (CN.out W5).mono ?_
  rintro e w6 ⟨m, b, rfl, hM, k6, -, -⟩
  have LN := loomNew_any 0 1 m b _ w6 hM (by omega) (by omega) (by omega) (by omega)
  have HR6 := Lib.hid (HR5.out.keeps k6 (by simp))
  have HB6 := Lib.hid (HB5.out.keeps k6 (by simp))
  have HK6 := Lib.hid (HK5.out.trans k6)
  clear hM k6 HB5 HK5 HR5
  go_wp2_with fail
  refine LN.mono ?_
  clear LN
  rintro e w7 ⟨l, g, rfl, -, k7⟩
  have HR7 := Lib.hid (HR6.out.keeps k7 (by simp))
  have HB7 := Lib.hid (HB6.out.keeps k7 (by simp))
  have HK7 := Lib.hid (HK6.out.trans k7)
  clear k7 HB6 HK6 HR6
  go_wp2_with fail
  refine (loomMem_nil w7).mono ?_
  rintro e w8 ⟨rfl, rfl⟩
  go_wp2_with fail
  refine (workers_nil w7).mono ?_
  rintro e w8 ⟨rfl, rfl⟩
  have c0 := HB7.out.cells 0
  have c1 := HB7.out.cells 1
  have c2 := HB7.out.cells 2
  have c3 := HB7.out.cells 3
  simp at c0 c1 c2 c3
  go_wp2_with fail
  refine (wUntil x w7).mono ?_
  rintro e w8 ⟨m8, S8, rfl, -, k8, -⟩
  have HR8 := Lib.hid (HR7.out.keeps k8 (by simp))
  have HK8 := Lib.hid (HK7.out.trans k8)
  clear k8 HB7 HK7 HR7 c0 c1 c2 c3
  go_wp2_with fail
  refine (start_nil who _ w8).mono ?_
  rintro e w9 ⟨rfl, rfl⟩
  go_wp2_with fail
  refine (start_nilWalk l who w8).mono ?_
  rintro e w9 ⟨rfl, rfl⟩
  go_wp2_with fail
  refine (pick_nil who w8).mono ?_
  rintro e w10 ⟨rfl, k10⟩
  have HR10 := Lib.hid (HR8.out.keeps k10 (by simp))
  have HK10 := Lib.hid (HK8.out.trans k10)
  clear k10 HK8 HR8
  go_wp2_with fail
  refine (busy_nil who w10).mono ?_
  rintro e w11 ⟨rfl, k11⟩
  have HR11 := Lib.hid (HR10.out.keeps k11 (by simp))
  have HK11 := Lib.hid (HK10.out.trans k11)
  clear k11 HK10 HR10
  go_wp2_with fail
  refine (parked_nil who w11).mono ?_
  rintro e w12 ⟨rfl, k12⟩
  have HR12 := Lib.hid (HR11.out.keeps k12 (by simp))
  have HK12 := Lib.hid (HK11.out.trans k12)
  clear k12 HK11 HR11
  have d0 := HR12.out.cell (j := 0) rfl
  have d1 := HR12.out.cell (j := 1) rfl
  have d2 := HR12.out.cell (j := 2) rfl
  go_wp2_with fail
  refine (sameResult_any 0 0 (.slice none 0 0) (.slice none 0 0) 0 0 [] w12 (Nat.zero_le _) (Nat.zero_le _) ⟨rfl, .inl ⟨_, _, rfl, rfl⟩⟩ ⟨rfl, .inl ⟨_, _, rfl, rfl⟩⟩).mono ?_
  rintro e w13 ⟨rfl, k13⟩
  have HK13 := Lib.hid (HK12.out.trans k13)
  clear k13 HK12 HR12 d0 d1 d2
  go_wp2_with fail
  refine (loomHeld_nil w13).mono ?_
  rintro e w14 ⟨rfl, rfl⟩
  go_wp2_with fail
  refine (steps_nil w13).mono ?_
  rintro e w15 ⟨rfl, rfl⟩
  go_wp2
  go_ret
  exact ⟨rfl, HK13.out.end⟩

set_option maxRecDepth 100000 in
theorem lifted (os : Os) (started : os.Started) (H : Type) (enc : TypeId × Value → H) :
    ReturnsInHanded {} Try.checked os 5 .any (Rows.loomNilSpec.pre6 enc Try.prog Try.f5 Rows.loomNilRow.domain false) (Rows.loomNilSpec.post enc Try.prog Try.f5 false true false false) := by
  refine returnsInHanded_of_change (C := Try.checked) own started (by kernel_rfl) Try.func5
    (ChangeSpec.witness6 (enc := enc) (C := Try.checked) false ⟨#[], #[.int .i64 0, .int .i64 0, .agg #[.int .i64 0, .int .i64 0, .int .u64 0, .int .u64 0]], []⟩ 8 (by kernel_rfl) (by kernel_rfl) (by kernel_rfl) (by kernel_rfl)) ?_
  intro W base args ds gs before hval0 hW hcnd _
  have hval : ∀ (j : Nat) t v, Try.f5.params[j]? = some t → args[j]? = some v → Value.okWide Try.prog W .any base t v := hval0
  have hW' := hW
  obtain ⟨p, q, hA0, hV, rfl, hfz, hnd⟩ := hW
  have hA : DataW.TrodAll enc Try.prog W 0 (fun _ => true) true Try.f5.params.toList args.toList ds p := hA0
  rw [Try.params5] at hA hval
  obtain ⟨v0, vs0, d0, ds0, q0, qs0, hargs, rfl, rfl, h0, r0⟩ := trodAll_cons hA
  obtain ⟨v1, vs1, d1, ds1, q1, qs1, rfl, rfl, rfl, h1, r1⟩ := trodAll_cons r0
  obtain ⟨v2, vs2, d2, ds2, q2, qs2, rfl, rfl, rfl, h2, r2⟩ := trodAll_cons r1
  obtain ⟨rfl, rfl, rfl⟩ := trodAll_nil r2
  obtain rfl : args = #[v0, v1, v2] := by cases args; simp_all
  obtain ⟨rfl, rfl⟩ := trodVars_none hV
  obtain ⟨a0, rfl, rfl, rfl, w0⟩ := open_int Try.underlying3 (hval 0 3 v0 rfl rfl) h0
  obtain ⟨a1, rfl, rfl, rfl, w1⟩ := open_int Try.underlying3 (hval 1 3 v1 rfl rfl) h1
  have k2 := h2
  have lt2 : ∀ x ∈ q2, x.block < W.heap.size := by obtain ⟨m, hm⟩ := k2; exact DataW.trod_lt m _ _ _ hm
  obtain ⟨x2, rfl, b2⟩ := open_acc (hval 2 35 v2 rfl rfl) h2
  clear hA0 hval0
  simp only [List.append_nil] at hW'
  refine (walk a0 a1 x2 W w0 w1 b2).mono fun e W' ⟨he, bel⟩ => ?_
  subst he
  exact ⟨_, rfl, _, _, _, [], _, [], hW', trodAll_mk1 (shut_bool Try.underlying4 _), (trodAll_cons_mk (shut_int Try.underlying3 w0) (trodAll_cons_mk (shut_int Try.underlying3 w1) (trodAll_cons_mk (Below.trod laidOut (by kernel_rfl) (of_decide_eq_true (by kernel_rfl)) k2 bel lt2) trodAll_mk0))), rfl, bel.frame _, fun h => by cases h⟩

theorem proved : Rows.LoomNilSaid :=
  OpenClaim.holds_of_wide 5 Try.f5 rfl rfl rfl rfl rfl rfl rfl ⟨rfl, rfl, rfl, rfl, rfl⟩ rfl rfl rfl rfl rfl (by kernel_rfl) Try.func5 (by kernel_rfl)
    (of_decide_eq_true (by kernel_rfl)) (by unfold Func.isWrapper; first | (rw [if_pos (by decide +kernel)]; kernel_rfl) | (rw [if_neg (by decide +kernel)]; exact ⟨rfl, rfl⟩))
    (fun os started H enc _ => lifted os started H enc)
#print axioms proved
end Go.Proofs.Ytplmmflpodpbmaa.loomNil
