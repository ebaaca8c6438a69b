/-
  The law WordFields of the statements holds for every input: the call returns true, and the arguments read as before.
-/
import Derived.Test.YtiohhajljfindaaRows
import Derived.Test.YtiohhajljfindaaAwake1
import Derived.WalkKit
import Derived.ProofKit
import Derived.OpenShut
import Derived.ShutString
namespace Go.Proofs.Ytiohhajljfindaa.wordFields
open Go.ChangeShapes Go.WideShapes Go.ChangeAt Go.RowKit
open Go.ChangeMaps (open_string shut_string)
set_option linter.unusedVariables false      -- a walk need not use every 'w<i>' (that an integer argument fits its kind)

theorem own : ownKnob Try.prog.godebug = none := by kernel_rfl

theorem walk (a0 : Int) (a1 : Int) (a2 : Int) (a3 : Int) (w0 : (Lit.int .u64 a0).wf = true) (w1 : (Lit.int .i64 a1).wf = true) (w2 : (Lit.int .i64 a2).wf = true) (w3 : (Lit.int .u64 a3).wf = true) (w : World) :
    Calls Try.prog 5 #[.int .u64 a0, .int .i64 a1, .int .i64 a2, .int .u64 a3] w fun e w' => e = .returned (.bool true) ∧ Grown w w' := by
  have hu := M.U.wf w0
  have hv := M.U.wf w3
  have u0 := hu.nn
  have v0 := hv.nn
  by_cases hf : M.isF a1 a2 = true
  · by_cases hl : a3.toNat < 2 ^ a2.toNat
    · obtain ⟨x, p, hx, hp, ux, up, lx, hb, hw⟩ := M.with_back a0 a1 a2 a3 hu hv hf hl
      have HX := Lib.hid hx
      have HP := Lib.hid hp
      have HB := Lib.hid hb
      have HW := Lib.hid hw
      clear hx hp hb hw
      have HF := Lib.hid hf
      clear hf
      go_enter Try.func5, Try.ntmps5
      go_wp2_with (go_at_call 6; refine (awake1 _).mono ?_; rintro e w' ⟨rfl, m, rfl⟩)
      refine (field_ok _ _ _ _ hu HF.out).mono ?_
      rw [HX.out]
      rintro e w' ⟨rfl, m1, rfl⟩
      go_wp2_with fail
      refine (refField_ok _ _ _ _ hu HF.out).mono ?_
      rw [HX.out]
      rintro e w' ⟨rfl, rfl⟩
      go_wp2_with fail
      refine (with_ok _ _ _ _ _ hu hv HF.out hl).mono ?_
      rw [HP.out]
      rintro e w' ⟨rfl, m2, rfl⟩
      go_wp2_with fail
      refine (refWith_ok _ _ _ _ _ hu hv HF.out hl).mono ?_
      rw [HP.out]
      rintro e w' ⟨rfl, rfl⟩
      go_wp2_with fail
      refine (field_ok _ _ _ _ up HF.out).mono ?_
      rw [HB.out]
      rintro e w' ⟨rfl, m3, rfl⟩
      go_wp2_with fail
      refine (with_ok _ _ _ _ _ up ux HF.out lx).mono ?_
      rw [HW.out]
      rintro e w' ⟨rfl, m4, rfl⟩
      go_wp2
      go_ret
      exact ⟨rfl, Grown_drewN _ _⟩
    · obtain ⟨x, hx⟩ : ∃ x : Int, ((M.fieldN a0.toNat a1.toNat a2.toNat : Nat) : Int) = x := ⟨_, rfl⟩
      have HX := Lib.hid hx
      have HF := Lib.hid hf
      clear hf hx
      go_enter Try.func5, Try.ntmps5
      go_wp2_with (go_at_call 6; refine (awake1 _).mono ?_; rintro e w' ⟨rfl, m, rfl⟩)
      refine (field_ok _ _ _ _ hu HF.out).mono ?_
      rw [HX.out]
      rintro e w' ⟨rfl, m1, rfl⟩
      go_wp2_with fail
      refine (refField_ok _ _ _ _ hu HF.out).mono ?_
      rw [HX.out]
      rintro e w' ⟨rfl, rfl⟩
      go_wp2_with fail
      refine (with_long _ _ _ _ _ hv HF.out hl).mono ?_
      rintro e w' ⟨rfl, rfl⟩
      go_wp2_with fail
      refine (refWith_long _ _ _ _ _ hv HF.out hl).mono ?_
      rintro e w' ⟨rfl, rfl⟩
      go_wp2
      go_ret
      exact ⟨rfl, Grown_drewN _ _⟩
  · have HF := Lib.hid (Bool.eq_false_iff.2 hf)
    clear hf
    go_enter Try.func5, Try.ntmps5
    go_wp2_with (go_at_call 6; refine (awake1 _).mono ?_; rintro e w' ⟨rfl, m, rfl⟩)
    refine (field_no _ _ _ _ HF.out).mono ?_
    rintro e w' ⟨rfl, rfl⟩
    go_wp2_with fail
    refine (refField_no _ _ _ _ HF.out).mono ?_
    rintro e w' ⟨rfl, rfl⟩
    go_wp2_with fail
    refine (with_no _ _ _ _ _ HF.out).mono ?_
    rintro e w' ⟨rfl, rfl⟩
    go_wp2_with fail
    refine (refWith_no _ _ _ _ _ HF.out).mono ?_
    rintro e w' ⟨rfl, rfl⟩
    go_wp2
    go_ret
    exact ⟨rfl, Grown_drewN _ _⟩

/-! ### THE ROW's STEP: WRITTEN OUT: LEAVE IT -/
set_option maxRecDepth 100000 in
theorem lifted (os : Os) (started : os.Started) (H : Type) (enc : TypeId × Value → H) :
    ReturnsInHanded {} Try.checked os 5 .any (Rows.wordFieldsSpec.pre6 enc Try.prog Try.f5 Rows.wordFieldsRow.domain false) (Rows.wordFieldsSpec.post enc Try.prog Try.f5 false true false false) := by
  refine returnsInHanded_of_change (C := Try.checked) own started (by kernel_rfl) Try.func5
    (ChangeSpec.witness6 (enc := enc) (C := Try.checked) false ⟨#[], #[.int .u64 0, .int .i64 0, .int .i64 0, .int .u64 0], []⟩ 8 (by kernel_rfl) (by kernel_rfl) (by kernel_rfl) (by kernel_rfl)) ?_
  intro W base args ds gs before hval0 hW hcnd _
  have hval : ∀ (j : Nat) t v, Try.f5.params[j]? = some t → args[j]? = some v → Value.okWide Try.prog W .any base t v := hval0
  have hW' := hW
  obtain ⟨p, q, hA0, hV, rfl, hfz, hnd⟩ := hW
  have hA : DataW.TrodAll enc Try.prog W 0 (fun _ => true) true Try.f5.params.toList args.toList ds p := hA0
  rw [Try.params5] at hA hval
  obtain ⟨v0, vs0, d0, ds0, p0, q0, hargs, rfl, rfl, h0, r0⟩ := trodAll_cons hA
  obtain ⟨v1, vs1, d1, ds1, p1, q1, rfl, rfl, rfl, h1, r1⟩ := trodAll_cons r0
  obtain ⟨v2, vs2, d2, ds2, p2, q2, rfl, rfl, rfl, h2, r2⟩ := trodAll_cons r1
  obtain ⟨v3, vs3, d3, ds3, p3, q3, rfl, rfl, rfl, h3, r3⟩ := trodAll_cons r2
  obtain ⟨rfl, rfl, rfl⟩ := trodAll_nil r3
  obtain rfl : args = #[v0, v1, v2, v3] := by cases args; simp_all
  obtain ⟨rfl, rfl⟩ := trodVars_none hV
  obtain ⟨a0, rfl, rfl, rfl, w0⟩ := open_int Try.underlying23 (hval 0 23 v0 rfl rfl) h0
  obtain ⟨a1, rfl, rfl, rfl, w1⟩ := open_int Try.underlying3 (hval 1 3 v1 rfl rfl) h1
  obtain ⟨a2, rfl, rfl, rfl, w2⟩ := open_int Try.underlying3 (hval 2 3 v2 rfl rfl) h2
  obtain ⟨a3, rfl, rfl, rfl, w3⟩ := open_int Try.underlying23 (hval 3 23 v3 rfl rfl) h3
  clear hA0 hval0
  simp only [List.append_nil] at hW'
  refine (walk a0 a1 a2 a3 w0 w1 w2 w3 W).mono fun e W' ⟨he, hg⟩ => ?_
  subst he
  exact ⟨_, rfl, post_of_same (pa := []) (pv := []) hW' (fun _ _ _ => (trodAll_cons_mk (shut_bool Try.underlying4 _) trodAll_mk0)) (fun sp _ => (trodAll_cons_mk (shut_int Try.underlying23 w0) (trodAll_cons_mk (shut_int Try.underlying3 w1) (trodAll_cons_mk (shut_int Try.underlying3 w2) (trodAll_cons_mk (shut_int Try.underlying23 w3) trodAll_mk0))))) (fun _ _ => rfl) rfl
    (hg.frame _) hg.2.1 (ok_one (by kernel_rfl) rfl (okWide_bool_mk Try.underlying4 _))⟩

theorem over : Rows.wordFieldsRow.holds Try.pinned (OpenSpec.ofChange Rows.wordFieldsSpec) :=
  OpenClaim.holds_of_wide 5 Try.f5 rfl rfl rfl rfl rfl rfl rfl ⟨rfl, rfl, rfl, rfl, rfl⟩ rfl rfl rfl rfl rfl (by kernel_rfl) Try.func5 (by kernel_rfl)
    (of_decide_eq_true (by kernel_rfl)) (by unfold Func.isWrapper; first | (rw [if_pos (by decide +kernel)]; kernel_rfl) | (rw [if_neg (by decide +kernel)]; exact ⟨rfl, rfl⟩))
    (fun os started H enc _ => lifted os started H enc)

/-- ████ THE STATEMENT ████ -/
theorem proved : Rows.WordFieldsSaid :=
  over
#print axioms proved
end Go.Proofs.Ytiohhajljfindaa.wordFields
