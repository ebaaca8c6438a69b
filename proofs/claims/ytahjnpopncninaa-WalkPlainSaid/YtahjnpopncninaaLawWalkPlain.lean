/-
  The law WalkPlain of the statements holds for every input: the call returns true, and the arguments read as before.
-/
import Derived.Test.YtahjnpopncninaaAwake4
import Derived.Test.YtahjnpopncninaaSeen
import Derived.Test.YtahjnpopncninaaRef4
import Derived.Test.YtahjnpopncninaaKinds3
import Derived.Test.YtahjnpopncninaaLike
import Derived.Test.YtahjnpopncninaaOpen
import Derived.Test.YtahjnpopncninaaAcc
import Derived.Test.YtahjnpopncninaaRows
import Derived.WalkKit
import Derived.ProofKit
import Derived.OpenShut
import Derived.ShutString
import Derived.ChangeOld
import Derived.Below
import Derived.Test.YtahjnpopncninaaOpen
namespace Go.Proofs.Ytahjnpopncninaa.walkPlain
open Go.ChangeShapes Go.WideShapes Go.ChangeAt Go.RowKit
open Go.ChangeMaps (open_string shut_string)
set_option linter.unusedVariables false

theorem own : ownKnob Try.prog.godebug = none := by kernel_rfl
theorem laidOut : laidOutB Try.prog = true := by kernel_rfl

set_option maxHeartbeats 1600000 in
set_option maxRecDepth 100000 in
theorem walk (q : Option Addr) (nq cq : Nat) (xs : List C.Acc) (p : Option Addr) (n c : Nat) (ts : List (Int × Bool)) (w : World) (hxs : Sl w 4 (.slice q nq cq) nq (accs xs)) (hxl : xs.length = nq) (hxn : nq ≤ maxLen) (hxo : ∀ x ∈ xs, x.ok) (hsl : Sl w 2 (.slice p n c) n (tolds ts)) (hl : ts.length = n) (hn : n ≤ maxLen) (hu : ∀ t ∈ ts, M.U t.1) :
    Calls Try.prog 3 #[.slice q nq cq, .slice p n c] w fun e w' => e = .returned (.bool true) ∧ Below w.heap.size w w' := by
  subst hl
  subst hxl
  unfold maxLen at hn hxn
  have HT := Lib.hid hsl
  have HU := Lib.hid hu
  have HTS : Hid (ts.length ≠ 0 → ∀ g, (Value.slice p ts.length c).ownBlock = some g → g < w.heap.size) := Lib.hid fun h0 g hg => by
    obtain ⟨b, off, cc, he, hb, -⟩ := hsl.some (by omega)
    rw [he] at hg; simp [Value.ownBlock] at hg; omega
  have HX := Lib.hid hxs
  have HXS : Hid (xs.length ≠ 0 → ∀ g, (Value.slice q xs.length cq).ownBlock = some g → g < w.heap.size) := Lib.hid fun h0 g hg => by
    obtain ⟨b, off, cc, he, hb, -⟩ := hxs.some (by omega)
    rw [he] at hg; simp [Value.ownBlock] at hg; omega
  clear hsl hu hxs hxo
  go_enter Try.func3, Try.ntmps3
  go_wp2_with fail
  refine (awake4 w).mono ?_
  rintro e w1 ⟨rfl, k1⟩
  have HK1 := Lib.hid k1
  clear k1
  by_cases h0 : 100 < xs.length
  · have d0 : decide ((100 : Int) < xs.length) = true := decide_eq_true (by omega)
    go_wp2
    go_ret
    exact ⟨rfl, HK1.out.end⟩
  have d0 : decide ((100 : Int) < xs.length) = false := decide_eq_false (by omega)
  by_cases h1 : 150 < ts.length
  · have d1 : decide ((150 : Int) < ts.length) = true := decide_eq_true (by omega)
    go_wp2
    go_ret
    exact ⟨rfl, HK1.out.end⟩
  have d1 : decide ((150 : Int) < ts.length) = false := decide_eq_false (by omega)
  go_wp2_with fail
  generalize hW2 : World.alloc _ _ = W2
  have k2 : Keeps [] w1 W2 := by rw [← hW2]; exact (Keeps.refl _ _).alloc _
  have hr : Row W2 w1.heap.size 28 [.slice q xs.length cq, .slice none 0 0] := by rw [← hW2]; exact Row.new _ _ _
  have s2 : W2.heap.size = w1.heap.size + 1 := by rw [← hW2]; simp
  have HR2 := Lib.hid hr
  have HK2 := Lib.hid (HK1.out.trans k2)
  have hs1 := HK1.out.size
  clear hW2 hr k2 HK1
  refine (wPlain (.slice q xs.length cq) xs W2 (HX.out.below HK2.out.end (Nat.le_refl _)) (by omega)).mono ?_
  rintro e w3 ⟨m, S, rfl, hI, k3, hS⟩
  have HR3 := Lib.hid (HR2.out.keeps k3 (by simp))
  have HK3 := Lib.hid (HK2.out.trans k3)
  have HI3 := Lib.hid hI
  have HS3 := Lib.hid hS
  have s3 := k3.size
  clear hI k3 hS HR2 HK2
  go_wp2_with fail
  have hj : refPlainJ (.slice q xs.length cq) w.heap.size w1.heap.size w3 [w1.heap.size] ⟨xs, [], []⟩ := ⟨.slice none 0 0, rfl, rfl, HR3.out, HX.out.below HK3.out.end (Nat.le_refl _), (fun h0 g hg => by have := HXS.out h0 g hg; exact ⟨this, by simp; omega⟩), World.ownsRow_nil _ _ _ _, (fun g hg => by cases hg), Nat.zero_le _, (show xs.length ≤ 1000000 by omega)⟩
  refine (seen_plain plainM (refPlainJ (.slice q xs.length cq) w.heap.size w1.heap.size) (fun g => (Value.slice q xs.length cq).ownBlock = some g ∧ g < w.heap.size) w1.heap.size (refPlainRuns _ _ _) (.slice p ts.length c) ⟨xs, [], []⟩ ts [w1.heap.size] w3 hj (HT.out.below HK3.out.end (Nat.le_refl _)) (fun h0 g hg => by have := HTS.out h0 g hg; simp; omega) HU.out (by omega) (fun k h => by have := HK3.out.size; have := h.2; omega)).mono ?_
  clear hj
  rintro e w4 ⟨vs, rfl, hseen, k4⟩
  have hlt3 : ∀ k ∈ S, k < w3.heap.size := (plainRuns m).lt HI3.out
  have hI4 : LoneI plainM (plainE m) m w4 S ⟨xs, [], []⟩ := (plainRuns m).frame HI3.out k4 (fun k hk h => by have := HS3.out k hk; simp at h; omega)
  have k04 : Keeps [] w w4 := HK3.out.step k4 (by simp; omega)
  have hseen' : SeenAt w4 (fun k => k ∉ S ∧ k < w4.heap.size) vs (plainM.trace ⟨xs, [], []⟩ ts) := by
    refine hseen.imp fun g hg hlt => ⟨fun hm => ?_, hlt⟩
    have h1 := HS3.out g hm
    have h2 := hlt3 g hm
    rcases hg with h | h
    · simp at h; omega
    · omega
  have HS4 := Lib.hid hseen'
  have HI4 := Lib.hid hI4
  have HK4 := Lib.hid k04
  obtain ⟨b, cs, rfl, -⟩ := hseen.shape
  clear hseen k4 hI4 k04 hseen' hlt3 HR3
  go_wp2_with fail
  refine (like_any plainM (LoneI plainM (plainE m) m) m (plainRuns m) _ (.slice p ts.length c) ⟨xs, [], []⟩ ts S w4 HI4.out HS4.out (HT.out.below HK4.out.end (Nat.le_refl _)) (fun h0 g hg hm => by have := HTS.out h0 g hg; have := HS3.out g hm; omega) HU.out (by omega)).mono ?_
  rintro e w5 ⟨rfl, S', -, k5, -⟩
  have HK5 := Lib.hid (HK4.out.step k5 (fun k hk => by have := HS3.out k hk; omega))
  clear k5
  go_wp2
  go_ret
  exact ⟨rfl, HK5.out.end⟩

set_option maxRecDepth 100000 in
theorem lifted (os : Os) (started : os.Started) (H : Type) (enc : TypeId × Value → H) :
    ReturnsInHanded {} Try.checked os 3 .any (Rows.walkPlainSpec.pre6 enc Try.prog Try.f3 Rows.walkPlainRow.domain false) (Rows.walkPlainSpec.post enc Try.prog Try.f3 false true false false) := by
  refine returnsInHanded_of_change (C := Try.checked) own started (by kernel_rfl) Try.func3
    (ChangeSpec.witness6 (enc := enc) (C := Try.checked) false ⟨#[], #[.slice none 0 0, .slice none 0 0], []⟩ 8 (by kernel_rfl) (by kernel_rfl) (by kernel_rfl) (by kernel_rfl)) ?_
  intro W base args ds gs before hval0 hW hcnd _
  have hval : ∀ (j : Nat) t v, Try.f3.params[j]? = some t → args[j]? = some v → Value.okWide Try.prog W .any base t v := hval0
  have hW' := hW
  obtain ⟨p, q, hA0, hV, rfl, hfz, hnd⟩ := hW
  have hA : DataW.TrodAll enc Try.prog W 0 (fun _ => true) true Try.f3.params.toList args.toList ds p := hA0
  rw [Try.params3] at hA hval
  obtain ⟨v0, vs0, d0, ds0, q0, qs0, hargs, rfl, rfl, h0, r0⟩ := trodAll_cons hA
  obtain ⟨v1, vs1, d1, ds1, q1, qs1, rfl, rfl, rfl, h1, r1⟩ := trodAll_cons r0
  obtain ⟨rfl, rfl, rfl⟩ := trodAll_nil r1
  obtain rfl : args = #[v0, v1] := by cases args; simp_all
  obtain ⟨rfl, rfl⟩ := trodVars_none hV
  obtain ⟨p0, n0, c0, rfl⟩ := okWide_slice Try.underlying22 (hval 0 22 v0 rfl rfl)
  have k0 := h0
  have lt0 : ∀ x ∈ q0, x.block < W.heap.size := by obtain ⟨m, hm⟩ := k0; exact DataW.trod_lt m _ _ _ hm
  obtain ⟨z0, s0, l0, m0, b0⟩ := (by obtain ⟨fu, hf⟩ := h0; exact sl_accs Try.underlying22 hf : ∃ xs : List C.Acc, Sl W 4 (.slice p0 n0 c0) n0 (accs xs) ∧ xs.length = n0 ∧ n0 ≤ maxLen ∧ ∀ x ∈ xs, x.ok)
  obtain ⟨p1, n1, c1, rfl⟩ := okWide_slice Try.underlying23 (hval 1 23 v1 rfl rfl)
  have k1 := h1
  have lt1 : ∀ x ∈ q1, x.block < W.heap.size := by obtain ⟨m, hm⟩ := k1; exact DataW.trod_lt m _ _ _ hm
  obtain ⟨z1, s1, l1, m1, b1⟩ := (by obtain ⟨fu, hf⟩ := h1; exact sl_tolds Try.underlying23 hf : ∃ ts : List (Int × Bool), Sl W 2 (.slice p1 n1 c1) n1 (tolds ts) ∧ ts.length = n1 ∧ n1 ≤ maxLen ∧ ∀ t ∈ ts, M.U t.1)
  clear hA0 hval0
  simp only [List.append_nil] at hW'
  refine (walk p0 n0 c0 z0 p1 n1 c1 z1 W s0 l0 m0 b0 s1 l1 m1 b1).mono fun e W' ⟨he, bel⟩ => ?_
  subst he
  exact ⟨_, rfl, _, _, _, [], _, [], hW', trodAll_mk1 (shut_bool Try.underlying4 _), (trodAll_cons_mk (Below.trod laidOut (by kernel_rfl) (of_decide_eq_true (by kernel_rfl)) k0 bel lt0) (trodAll_cons_mk (Below.trod laidOut (by kernel_rfl) (of_decide_eq_true (by kernel_rfl)) k1 bel lt1) trodAll_mk0)), rfl, bel.frame _, fun h => by cases h⟩

theorem proved : Rows.WalkPlainSaid :=
  OpenClaim.holds_of_wide 3 Try.f3 rfl rfl rfl rfl rfl rfl rfl ⟨rfl, rfl, rfl, rfl, rfl⟩ rfl rfl rfl rfl rfl (by kernel_rfl) Try.func3 (by kernel_rfl)
    (of_decide_eq_true (by kernel_rfl)) (by unfold Func.isWrapper; first | (rw [if_pos (by decide +kernel)]; kernel_rfl) | (rw [if_neg (by decide +kernel)]; exact ⟨rfl, rfl⟩))
    (fun os started H enc _ => lifted os started H enc)
#print axioms proved
end Go.Proofs.Ytahjnpopncninaa.walkPlain
