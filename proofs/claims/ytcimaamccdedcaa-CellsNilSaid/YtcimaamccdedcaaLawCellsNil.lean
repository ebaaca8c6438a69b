/-
  The law CellsNil of the statements holds for every input: the call returns true, and the arguments read as before.
-/
import Derived.Test.YtcimaamccdedcaaAwake3
import Derived.Test.YtcimaamccdedcaaMem3
import Derived.Test.YtcimaamccdedcaaAcc
import Derived.Test.YtcimaamccdedcaaRows
import Derived.WalkKit
import Derived.ProofKit
import Derived.OpenShut
import Derived.ShutString
import Derived.ChangeOld
import Derived.Below
import Derived.Test.YtcimaamccdedcaaOpen
namespace Go.Proofs.Ytcimaamccdedcaa.cellsNil
open Go.ChangeShapes Go.WideShapes Go.ChangeAt Go.RowKit
open Go.ChangeMaps (open_string shut_string)
set_option linter.unusedVariables false

theorem own : ownKnob Try.prog.godebug = none := by kernel_rfl
theorem laidOut : laidOutB Try.prog = true := by kernel_rfl

set_option maxHeartbeats 1600000 in
set_option maxRecDepth 100000 in
theorem walk (x : C.Acc) (p : Option Addr) (n c : Nat) (zs : List Int) (w : World) (hx : x.ok) (hsl : Sl w 1 (.slice p n c) n (ints .u64 zs)) (hn : n ≤ maxLen) (hz : ∀ z ∈ zs, (Lit.int .u64 z).wf = true) :
    Calls Try.prog 5 #[.agg #[.int .i64 x.k, .int .i64 x.c, .int .u64 x.a, .int .u64 x.b], .slice p n c] w fun e w' => e = .returned (.bool true) ∧ Below w.heap.size w w' := by
  clear hsl hz hn hx
  have N2 := fun W => new_any 2 W (by omega) (by omega)
  have N3 := fun W => new_any 3 W (by omega) (by omega)
  have HN2 := Lib.hid N2
  have HN3 := Lib.hid N3
  clear N2 N3
  go_enter Try.func5, Try.ntmps5
  go_wp2_with fail
  refine (awake3 _).mono ?_
  rintro e w1 ⟨rfl, hk1⟩
  have c0 := boxed hk1 0 _ rfl
  have c1 := boxed hk1 1 _ rfl
  have c2 := boxed hk1 2 _ rfl
  have c3 := boxed hk1 3 _ rfl
  go_wp2_with fail
  refine (do_nil x _).mono ?_
  rintro e w2 ⟨rfl, hk2⟩
  clear c0 c1 c2 c3
  go_wp2_with fail
  refine (HN2.out w2).mono ?_
  rintro e w3 ⟨m2, b2, rfl, hM2, hk3, -, -⟩
  have HM2 := Lib.hid hM2
  clear hM2
  go_wp2_with fail
  refine (HN3.out w3).mono ?_
  rintro e w4 ⟨m3, b3, rfl, hM3, hk4, -, -⟩
  have HM3 := Lib.hid hM3
  clear hM3
  have HK := Lib.hid hk1
  have hkk : Keeps [] (w.alloc (.cells #[.int .i64 x.k, .int .i64 x.c, .int .u64 x.a, .int .u64 x.b] 34)) w4 := hk1.trans (hk2.trans (hk3.trans hk4))
  have hb : Below w.heap.size w w4 := (((Keeps.refl [] w).alloc _).trans hkk).below (Nat.le_refl _) (by simp)
  have h23 : decide ((List.replicate 2 (0 : Int)) = List.replicate 3 0) = false := by decide
  clear hk1 hk2 hkk hk3 HK
  have HM2' := Lib.hid (HM2.out.keeps hk4 (by simp) (by simp))
  clear hk4
  go_wp2_with (first
    | (go_at_call 9; refine (len_nil _).mono ?_; rintro e w2 ⟨rfl, rfl⟩)
    | (go_at_call 13; refine (all_nil _).mono ?_; rintro e w2 ⟨rfl, rfl⟩)
    | (go_at_call 14; refine (fill_nil _ _).mono ?_; rintro e w2 ⟨rfl, rfl⟩)
    | (go_at_call 15; refine (copy_nil _).mono ?_; rintro e w2 ⟨rfl, rfl⟩)
    | (go_at_call 16; ((with_reducible refine (memSame_nils _).mono ?_); rintro e w2 ⟨rfl, rfl⟩))
    | (go_at_call 16; ((with_reducible refine (memSame_nil _ _).mono ?_); rintro e w2 ⟨rfl, rfl⟩))
    | (go_at_call 16; ((with_reducible refine (memSame_nil2 _ _).mono ?_); rintro e w2 ⟨rfl, rfl⟩))
    | fail)
  refine (memSame_any m2 b2 m3 b3 _ _ w4 HM2'.out HM3.out).mono ?_
  rw [h23]
  rintro e w5 ⟨rfl, k, rfl⟩
  go_wp2
  go_ret
  exact ⟨rfl, belowD hb⟩

set_option maxRecDepth 100000 in
theorem lifted (os : Os) (started : os.Started) (H : Type) (enc : TypeId × Value → H) :
    ReturnsInHanded {} Try.checked os 5 .any (Rows.cellsNilSpec.pre6 enc Try.prog Try.f5 Rows.cellsNilRow.domain false) (Rows.cellsNilSpec.post enc Try.prog Try.f5 false true false false) := by
  refine returnsInHanded_of_change (C := Try.checked) own started (by kernel_rfl) Try.func5
    (ChangeSpec.witness6 (enc := enc) (C := Try.checked) false ⟨#[], #[.agg #[.int .i64 0, .int .i64 0, .int .u64 0, .int .u64 0], .slice none 0 0], []⟩ 8 (by kernel_rfl) (by kernel_rfl) (by kernel_rfl) (by kernel_rfl)) ?_
  intro W base args ds gs before hval0 hW hcnd _
  have hval : ∀ (j : Nat) t v, Try.f5.params[j]? = some t → args[j]? = some v → Value.okWide Try.prog W .any base t v := hval0
  have hW' := hW
  obtain ⟨p, q, hA0, hV, rfl, hfz, hnd⟩ := hW
  have hA : DataW.TrodAll enc Try.prog W 0 (fun _ => true) true Try.f5.params.toList args.toList ds p := hA0
  rw [Try.params5] at hA hval
  obtain ⟨v0, vs0, d0, ds0, q0, qs0, hargs, rfl, rfl, h0, r0⟩ := trodAll_cons hA
  obtain ⟨v1, vs1, d1, ds1, q1, qs1, rfl, rfl, rfl, h1, r1⟩ := trodAll_cons r0
  obtain ⟨rfl, rfl, rfl⟩ := trodAll_nil r1
  obtain rfl : args = #[v0, v1] := by cases args; simp_all
  obtain ⟨rfl, rfl⟩ := trodVars_none hV
  have k0 := h0
  have lt0 : ∀ x ∈ q0, x.block < W.heap.size := by obtain ⟨m, hm⟩ := k0; exact DataW.trod_lt m _ _ _ hm
  obtain ⟨x0, rfl, b0⟩ := open_acc (hval 0 34 v0 rfl rfl) h0
  obtain ⟨p1, n1, c1, rfl⟩ := okWide_slice Try.underlying29 (hval 1 29 v1 rfl rfl)
  have k1 := h1
  have lt1 : ∀ x ∈ q1, x.block < W.heap.size := by obtain ⟨m, hm⟩ := k1; exact DataW.trod_lt m _ _ _ hm
  obtain ⟨z1, s1, m1, b1⟩ := (by obtain ⟨fu, hf⟩ := h1; exact sl_ints Try.underlying29 Try.underlying30 (by kernel_rfl) hf : ∃ zs : List Int, Sl W 1 (.slice p1 n1 c1) n1 (ints .u64 zs) ∧ n1 ≤ maxLen ∧ ∀ z ∈ zs, (Lit.int .u64 z).wf = true)
  clear hA0 hval0
  simp only [List.append_nil] at hW'
  refine (walk x0 p1 n1 c1 z1 W b0 s1 m1 b1).mono fun e W' ⟨he, bel⟩ => ?_
  subst he
  exact ⟨_, rfl, _, _, _, [], _, [], hW', trodAll_mk1 (shut_bool Try.underlying4 _), (trodAll_cons_mk (Below.trod laidOut (by kernel_rfl) (of_decide_eq_true (by kernel_rfl)) k0 bel lt0) (trodAll_cons_mk (Below.trod laidOut (by kernel_rfl) (of_decide_eq_true (by kernel_rfl)) k1 bel lt1) trodAll_mk0)), rfl, bel.frame _, fun h => by cases h⟩

theorem proved : Rows.CellsNilSaid :=
  OpenClaim.holds_of_wide 5 Try.f5 rfl rfl rfl rfl rfl rfl rfl ⟨rfl, rfl, rfl, rfl, rfl⟩ rfl rfl rfl rfl rfl (by kernel_rfl) Try.func5 (by kernel_rfl)
    (of_decide_eq_true (by kernel_rfl)) (by unfold Func.isWrapper; first | (rw [if_pos (by decide +kernel)]; kernel_rfl) | (rw [if_neg (by decide +kernel)]; exact ⟨rfl, rfl⟩))
    (fun os started H enc _ => lifted os started H enc)
#print axioms proved
end Go.Proofs.Ytcimaamccdedcaa.cellsNil
