/-
  The law WalkUntil of the statements holds for every input: the call returns true, and the arguments read as before.
-/
import Derived.Test.YtahjnpopncninaaAwake4
import Derived.Test.YtahjnpopncninaaSeen
import Derived.Test.YtahjnpopncninaaRef4
import Derived.Test.YtahjnpopncninaaKinds3
import Derived.Test.YtahjnpopncninaaLike
import Derived.Test.YtahjnpopncninaaOpen
import Derived.Test.YtahjnpopncninaaAcc
import Derived.Test.YtahjnpopncninaaRows
import Derived.WalkKit
import Derived.ProofKit
import Derived.OpenShut
import Derived.ShutString
import Derived.ChangeOld
import Derived.Below
import Derived.Test.YtahjnpopncninaaOpen
namespace Go.Proofs.Ytahjnpopncninaa.walkUntil
open Go.ChangeShapes Go.WideShapes Go.ChangeAt Go.RowKit
open Go.ChangeMaps (open_string shut_string)
set_option linter.unusedVariables false

theorem own : ownKnob Try.prog.godebug = none := by kernel_rfl
theorem laidOut : laidOutB Try.prog = true := by kernel_rfl

set_option maxHeartbeats 1600000 in
set_option maxRecDepth 100000 in
theorem walk (x : C.Acc) (p : Option Addr) (n c : Nat) (ts : List (Int × Bool)) (w : World) (hx : x.ok) (hsl : Sl w 2 (.slice p n c) n (tolds ts)) (hl : ts.length = n) (hn : n ≤ maxLen) (hu : ∀ t ∈ ts, M.U t.1) :
    Calls Try.prog 4 #[.agg #[.int .i64 x.k, .int .i64 x.c, .int .u64 x.a, .int .u64 x.b], .slice p n c] w fun e w' => e = .returned (.bool true) ∧ Below w.heap.size w w' := by
  subst hl
  unfold maxLen at hn
  have HT := Lib.hid hsl
  have HU := Lib.hid hu
  have HTS : Hid (ts.length ≠ 0 → ∀ g, (Value.slice p ts.length c).ownBlock = some g → g < w.heap.size) := Lib.hid fun h0 g hg => by
    obtain ⟨b, off, cc, he, hb, -⟩ := hsl.some (by omega)
    rw [he] at hg; simp [Value.ownBlock] at hg; omega
  clear hsl hu hx
  obtain ⟨W0, hW0⟩ : ∃ W0, w.alloc (.cells #[.int .i64 x.k, .int .i64 x.c, .int .u64 x.a, .int .u64 x.b] 37) = W0 := ⟨_, rfl⟩
  have HB0 : Hid (Box W0 w.heap.size #[.int .i64 x.k, .int .i64 x.c, .int .u64 x.a, .int .u64 x.b]) := Lib.hid (by rw [← hW0]; exact Box.new _ _ _)
  have HK0 : Hid (Keeps [] w W0) := Lib.hid (by rw [← hW0]; exact (Keeps.refl _ _).alloc _)
  go_enter Try.func4, Try.ntmps4
  go_wp2_with fail
  clear hW0
  refine (awake4 W0).mono ?_
  rintro e w1 ⟨rfl, k1⟩
  have hb1 := HB0.out.keeps k1 (by simp)
  have HK1 := Lib.hid (HK0.out.trans k1)
  have c0 := hb1.cells 0
  have c1 := hb1.cells 1
  have c2 := hb1.cells 2
  have c3 := hb1.cells 3
  simp at c0 c1 c2 c3
  have hb1lt := hb1.lt
  have HB1 := Lib.hid hb1
  clear HB0 HK0 k1 hb1
  by_cases h1 : 150 < ts.length
  · have d1 : decide ((150 : Int) < ts.length) = true := decide_eq_true (by omega)
    go_wp2
    go_ret
    exact ⟨rfl, HK1.out.end⟩
  have d1 : decide ((150 : Int) < ts.length) = false := decide_eq_false (by omega)
  go_wp2_with fail
  generalize hW2 : World.alloc _ _ = W2
  have k2 : Keeps [] w1 W2 := by rw [← hW2]; exact (Keeps.refl _ _).alloc _
  have hr : Row W2 w1.heap.size 40 [.int .i64 x.k, .int .i64 x.c, .int .u64 x.a, .int .u64 x.b, .bool false, .int .u64 0] := by rw [← hW2]; exact Row.new _ _ _
  have s2 : W2.heap.size = w1.heap.size + 1 := by rw [← hW2]; simp
  have HR2 := Lib.hid hr
  have HK2 := Lib.hid (HK1.out.trans k2)
  have hs1 := HK1.out.size
  clear hW2 hr k2 HB1 HK1 c0 c1 c2 c3
  refine (wUntil x W2).mono ?_
  rintro e w3 ⟨m, S, rfl, hI, k3, hS⟩
  have HR3 := Lib.hid (HR2.out.keeps k3 (by simp))
  have HK3 := Lib.hid (HK2.out.trans k3)
  have HI3 := Lib.hid hI
  have HS3 := Lib.hid hS
  have s3 := k3.size
  clear hI k3 hS HR2 HK2
  go_wp2_with fail
  have hj : refUntilJ w1.heap.size w3 [w1.heap.size] ⟨x, none, []⟩ := ⟨rfl, rfl, HR3.out⟩
  refine (seen_until untilM (refUntilJ w1.heap.size) (fun _ => False) w1.heap.size (refUntilRuns _) (.slice p ts.length c) ⟨x, none, []⟩ ts [w1.heap.size] w3 hj (HT.out.below HK3.out.end (Nat.le_refl _)) (fun h0 g hg => by have := HTS.out h0 g hg; simp; omega) HU.out (by omega) (fun k h => h.elim)).mono ?_
  clear hj
  rintro e w4 ⟨vs, rfl, hseen, k4⟩
  have hlt3 : ∀ k ∈ S, k < w3.heap.size := (untilRuns m).lt HI3.out
  have hI4 : LoneI untilM (untilE m) m w4 S ⟨x, none, []⟩ := (untilRuns m).frame HI3.out k4 (fun k hk h => by have := HS3.out k hk; simp at h; omega)
  have k04 : Keeps [] w w4 := HK3.out.step k4 (by simp; omega)
  have hseen' : SeenAt w4 (fun k => k ∉ S ∧ k < w4.heap.size) vs (untilM.trace ⟨x, none, []⟩ ts) := by
    refine hseen.imp fun g hg hlt => ⟨fun hm => ?_, hlt⟩
    have h1 := HS3.out g hm
    have h2 := hlt3 g hm
    rcases hg with h | h
    · simp at h; omega
    · omega
  have HS4 := Lib.hid hseen'
  have HI4 := Lib.hid hI4
  have HK4 := Lib.hid k04
  obtain ⟨b, cs, rfl, -⟩ := hseen.shape
  clear hseen k4 hI4 k04 hseen' hlt3 HR3
  go_wp2_with fail
  refine (like_any untilM (LoneI untilM (untilE m) m) m (untilRuns m) _ (.slice p ts.length c) ⟨x, none, []⟩ ts S w4 HI4.out HS4.out (HT.out.below HK4.out.end (Nat.le_refl _)) (fun h0 g hg hm => by have := HTS.out h0 g hg; have := HS3.out g hm; omega) HU.out (by omega)).mono ?_
  rintro e w5 ⟨rfl, S', -, k5, -⟩
  have HK5 := Lib.hid (HK4.out.step k5 (fun k hk => by have := HS3.out k hk; omega))
  clear k5
  go_wp2
  go_ret
  exact ⟨rfl, HK5.out.end⟩

set_option maxRecDepth 100000 in
theorem lifted (os : Os) (started : os.Started) (H : Type) (enc : TypeId × Value → H) :
    ReturnsInHanded {} Try.checked os 4 .any (Rows.walkUntilSpec.pre6 enc Try.prog Try.f4 Rows.walkUntilRow.domain false) (Rows.walkUntilSpec.post enc Try.prog Try.f4 false true false false) := by
  refine returnsInHanded_of_change (C := Try.checked) own started (by kernel_rfl) Try.func4
    (ChangeSpec.witness6 (enc := enc) (C := Try.checked) false ⟨#[], #[.agg #[.int .i64 0, .int .i64 0, .int .u64 0, .int .u64 0], .slice none 0 0], []⟩ 8 (by kernel_rfl) (by kernel_rfl) (by kernel_rfl) (by kernel_rfl)) ?_
  intro W base args ds gs before hval0 hW hcnd _
  have hval : ∀ (j : Nat) t v, Try.f4.params[j]? = some t → args[j]? = some v → Value.okWide Try.prog W .any base t v := hval0
  have hW' := hW
  obtain ⟨p, q, hA0, hV, rfl, hfz, hnd⟩ := hW
  have hA : DataW.TrodAll enc Try.prog W 0 (fun _ => true) true Try.f4.params.toList args.toList ds p := hA0
  rw [Try.params4] at hA hval
  obtain ⟨v0, vs0, d0, ds0, q0, qs0, hargs, rfl, rfl, h0, r0⟩ := trodAll_cons hA
  obtain ⟨v1, vs1, d1, ds1, q1, qs1, rfl, rfl, rfl, h1, r1⟩ := trodAll_cons r0
  obtain ⟨rfl, rfl, rfl⟩ := trodAll_nil r1
  obtain rfl : args = #[v0, v1] := by cases args; simp_all
  obtain ⟨rfl, rfl⟩ := trodVars_none hV
  have k0 := h0
  have lt0 : ∀ x ∈ q0, x.block < W.heap.size := by obtain ⟨m, hm⟩ := k0; exact DataW.trod_lt m _ _ _ hm
  obtain ⟨x0, rfl, b0⟩ := open_acc (hval 0 37 v0 rfl rfl) h0
  obtain ⟨p1, n1, c1, rfl⟩ := okWide_slice Try.underlying23 (hval 1 23 v1 rfl rfl)
  have k1 := h1
  have lt1 : ∀ x ∈ q1, x.block < W.heap.size := by obtain ⟨m, hm⟩ := k1; exact DataW.trod_lt m _ _ _ hm
  obtain ⟨z1, s1, l1, m1, b1⟩ := (by obtain ⟨fu, hf⟩ := h1; exact sl_tolds Try.underlying23 hf : ∃ ts : List (Int × Bool), Sl W 2 (.slice p1 n1 c1) n1 (tolds ts) ∧ ts.length = n1 ∧ n1 ≤ maxLen ∧ ∀ t ∈ ts, M.U t.1)
  clear hA0 hval0
  simp only [List.append_nil] at hW'
  refine (walk x0 p1 n1 c1 z1 W b0 s1 l1 m1 b1).mono fun e W' ⟨he, bel⟩ => ?_
  subst he
  exact ⟨_, rfl, _, _, _, [], _, [], hW', trodAll_mk1 (shut_bool Try.underlying4 _), (trodAll_cons_mk (Below.trod laidOut (by kernel_rfl) (of_decide_eq_true (by kernel_rfl)) k0 bel lt0) (trodAll_cons_mk (Below.trod laidOut (by kernel_rfl) (of_decide_eq_true (by kernel_rfl)) k1 bel lt1) trodAll_mk0)), rfl, bel.frame _, fun h => by cases h⟩

theorem proved : Rows.WalkUntilSaid :=
  OpenClaim.holds_of_wide 4 Try.f4 rfl rfl rfl rfl rfl rfl rfl ⟨rfl, rfl, rfl, rfl, rfl⟩ rfl rfl rfl rfl rfl (by kernel_rfl) Try.func4 (by kernel_rfl)
    (of_decide_eq_true (by kernel_rfl)) (by unfold Func.isWrapper; first | (rw [if_pos (by decide +kernel)]; kernel_rfl) | (rw [if_neg (by decide +kernel)]; exact ⟨rfl, rfl⟩))
    (fun os started H enc _ => lifted os started H enc)
#print axioms proved
end Go.Proofs.Ytahjnpopncninaa.walkUntil
