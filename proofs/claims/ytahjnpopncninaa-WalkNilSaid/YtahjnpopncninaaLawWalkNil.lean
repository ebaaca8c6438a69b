/-
  The law WalkNil of the statements holds for every input: the call returns true, and the arguments read as before.
-/
import Derived.Test.YtahjnpopncninaaAwake4
import Derived.Test.YtahjnpopncninaaLook
import Derived.Test.YtahjnpopncninaaOpen
import Derived.Test.YtahjnpopncninaaAcc
import Derived.Test.YtahjnpopncninaaRows
import Derived.WalkKit
import Derived.ProofKit
import Derived.OpenShut
import Derived.ShutString
import Derived.ChangeOld
import Derived.Below
import Derived.Test.YtahjnpopncninaaOpen
namespace Go.Proofs.Ytahjnpopncninaa.walkNil
open Go.ChangeShapes Go.WideShapes Go.ChangeAt Go.RowKit
open Go.ChangeMaps (open_string shut_string)
set_option linter.unusedVariables false

theorem own : ownKnob Try.prog.godebug = none := by kernel_rfl
theorem laidOut : laidOutB Try.prog = true := by kernel_rfl

set_option maxHeartbeats 1600000 in
set_option maxRecDepth 100000 in
theorem walk (v : Int) (won : Bool) (code : Int) (w : World) (hv : (Lit.int .u64 v).wf = true) (hc : (Lit.int .i64 code).wf = true) :
    Calls Try.prog 6 #[.int .u64 v, .bool won, .int .i64 code] w fun e w' => e = .returned (.bool true) ∧ Below w.heap.size w w' := by
  clear hv hc
  go_enter Try.func6, Try.ntmps6
  go_wp2_with fail
  refine (awake4 w).mono ?_
  rintro e w1 ⟨rfl, k1⟩
  have HK1 := Lib.hid k1
  clear k1
  go_wp2_with fail
  refine (wGiveNil v won w1).mono ?_
  rintro e w2 ⟨rfl, k2⟩
  have HK2 := Lib.hid (HK1.out.trans k2)
  clear k2 HK1
  go_wp2_with fail
  refine (wBreakNil code w2).mono ?_
  rintro e w3 ⟨rfl, k3⟩
  have HK3 := Lib.hid (HK2.out.trans k3)
  clear k3 HK2
  go_wp2_with fail
  generalize hW4 : World.alloc _ _ = W4
  have HK4 := Lib.hid (show Keeps [] w W4 by rw [← hW4]; exact HK3.out.alloc _)
  clear hW4 HK3
  refine (wHoldNil _ W4).mono ?_
  rintro e w5 ⟨rfl, rfl⟩
  go_wp2_with fail
  refine (wEndNil 0 v (.slice none 0 0) W4).mono ?_
  rintro e w6 ⟨rfl, k6⟩
  have HK6 := Lib.hid (HK4.out.trans k6)
  clear k6 HK4
  go_wp2_with fail
  refine (wWantNil w6).mono ?_
  rintro e w7 ⟨rfl, k7⟩
  have HK7 := Lib.hid (HK6.out.trans k7)
  clear k7 HK6
  go_wp2_with fail
  generalize hW8 : World.alloc _ _ = W8
  have hb : Box W8 w7.heap.size #[.int .i64 0, .int .i64 0, .int .u64 0, .int .u64 0] := by rw [← hW8]; exact Box.new _ _ _
  have HK8 := Lib.hid (show Keeps [] w W8 by rw [← hW8]; exact HK7.out.alloc _)
  have HB8 := Lib.hid hb
  clear hW8 HK7 hb
  refine (wResultNil W8).mono ?_
  rintro e w9 ⟨rfl, k9⟩
  have HK9 := Lib.hid (HK8.out.trans k9)
  have HB9 := Lib.hid (HB8.out.keeps k9 (by simp))
  clear k9 HK8 HB8
  have c0 := HB9.out.cells 0
  have c1 := HB9.out.cells 1
  have c2 := HB9.out.cells 2
  have c3 := HB9.out.cells 3
  simp at c0 c1 c2 c3
  have hlt := HB9.out.lt
  go_wp2_with fail
  refine (sameResult_any 0 0 (.slice none 0 0) (.slice none 0 0) 0 0 [] _ (Nat.zero_le _) (Nat.zero_le _) ⟨rfl, .inl ⟨_, _, rfl, rfl⟩⟩ ⟨rfl, .inl ⟨_, _, rfl, rfl⟩⟩).mono ?_
  rintro e w10 ⟨rfl, k10⟩
  have HK10 := Lib.hid ((HK9.out.alloc _).trans k10)
  clear k10 HK9 c0 c1 c2 c3
  go_wp2_with fail
  refine (wHeldNil w10).mono ?_
  rintro e w11 ⟨rfl, rfl⟩
  go_wp2
  go_ret
  exact ⟨rfl, HK10.out.end⟩

set_option maxRecDepth 100000 in
theorem lifted (os : Os) (started : os.Started) (H : Type) (enc : TypeId × Value → H) :
    ReturnsInHanded {} Try.checked os 6 .any (Rows.walkNilSpec.pre6 enc Try.prog Try.f6 Rows.walkNilRow.domain false) (Rows.walkNilSpec.post enc Try.prog Try.f6 false true false false) := by
  refine returnsInHanded_of_change (C := Try.checked) own started (by kernel_rfl) Try.func6
    (ChangeSpec.witness6 (enc := enc) (C := Try.checked) false ⟨#[], #[.int .u64 0, .bool false, .int .i64 0], []⟩ 8 (by kernel_rfl) (by kernel_rfl) (by kernel_rfl) (by kernel_rfl)) ?_
  intro W base args ds gs before hval0 hW hcnd _
  have hval : ∀ (j : Nat) t v, Try.f6.params[j]? = some t → args[j]? = some v → Value.okWide Try.prog W .any base t v := hval0
  have hW' := hW
  obtain ⟨p, q, hA0, hV, rfl, hfz, hnd⟩ := hW
  have hA : DataW.TrodAll enc Try.prog W 0 (fun _ => true) true Try.f6.params.toList args.toList ds p := hA0
  rw [Try.params6] at hA hval
  obtain ⟨v0, vs0, d0, ds0, q0, qs0, hargs, rfl, rfl, h0, r0⟩ := trodAll_cons hA
  obtain ⟨v1, vs1, d1, ds1, q1, qs1, rfl, rfl, rfl, h1, r1⟩ := trodAll_cons r0
  obtain ⟨v2, vs2, d2, ds2, q2, qs2, rfl, rfl, rfl, h2, r2⟩ := trodAll_cons r1
  obtain ⟨rfl, rfl, rfl⟩ := trodAll_nil r2
  obtain rfl : args = #[v0, v1, v2] := by cases args; simp_all
  obtain ⟨rfl, rfl⟩ := trodVars_none hV
  obtain ⟨a0, rfl, rfl, rfl, w0⟩ := open_int Try.underlying35 (hval 0 35 v0 rfl rfl) h0
  obtain ⟨a1, rfl, rfl, rfl⟩ := open_bool Try.underlying4 (hval 1 4 v1 rfl rfl) h1
  obtain ⟨a2, rfl, rfl, rfl, w2⟩ := open_int Try.underlying43 (hval 2 43 v2 rfl rfl) h2
  clear hA0 hval0
  simp only [List.append_nil] at hW'
  refine (walk a0 a1 a2 W w0 w2).mono fun e W' ⟨he, bel⟩ => ?_
  subst he
  exact ⟨_, rfl, _, _, _, [], _, [], hW', trodAll_mk1 (shut_bool Try.underlying4 _), (trodAll_cons_mk (shut_int Try.underlying35 w0) (trodAll_cons_mk (shut_bool Try.underlying4 _) (trodAll_cons_mk (shut_int Try.underlying43 w2) trodAll_mk0))), rfl, bel.frame _, fun h => by cases h⟩

theorem proved : Rows.WalkNilSaid :=
  OpenClaim.holds_of_wide 6 Try.f6 rfl rfl rfl rfl rfl rfl rfl ⟨rfl, rfl, rfl, rfl, rfl⟩ rfl rfl rfl rfl rfl (by kernel_rfl) Try.func6 (by kernel_rfl)
    (of_decide_eq_true (by kernel_rfl)) (by unfold Func.isWrapper; first | (rw [if_pos (by decide +kernel)]; kernel_rfl) | (rw [if_neg (by decide +kernel)]; exact ⟨rfl, rfl⟩))
    (fun os started H enc _ => lifted os started H enc)
#print axioms proved
end Go.Proofs.Ytahjnpopncninaa.walkNil
