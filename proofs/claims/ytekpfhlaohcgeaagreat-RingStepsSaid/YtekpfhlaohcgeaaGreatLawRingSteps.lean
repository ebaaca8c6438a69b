/-
  The law RingSteps of the statements holds for every input: the call returns true, and the arguments read as before.
-/
import Derived.Test.YtekpfhlaohcgeaaGreatRgA
import Derived.Test.YtekpfhlaohcgeaaGreatRef8l
import Derived.Test.YtekpfhlaohcgeaaGreatRgX
import Derived.Test.YtekpfhlaohcgeaaGreatRgS
import Derived.Test.YtekpfhlaohcgeaaGreatLike
import Derived.Test.YtekpfhlaohcgeaaGreatTold
import Derived.Test.YtekpfhlaohcgeaaGreatOpenD
import Derived.Test.YtekpfhlaohcgeaaGreatLook
import Derived.Test.YtekpfhlaohcgeaaGreatOpen
import Derived.Test.YtekpfhlaohcgeaaGreatAcc
import Derived.IntWalk
import Derived.Test.YtekpfhlaohcgeaaGreatRows
import Derived.WalkKit
import Derived.ProofKit
import Derived.OpenShut
import Derived.ShutString
import Derived.ChangeOld
import Derived.Below
import Derived.Test.YtekpfhlaohcgeaaGreatOpen
namespace Go.Proofs.YtekpfhlaohcgeaaGreat.ringSteps
open Go.ChangeShapes Go.WideShapes Go.ChangeAt Go.RowKit
open Go.ChangeMaps (open_string shut_string)
set_option linter.unusedVariables false
set_option linter.unusedSimpArgs false

theorem own : ownKnob Tryz.prog.godebug = none := by kernel_rfl
theorem laidOut : laidOutB Tryz.prog = true := by kernel_rfl

/-- A Pop's task is nothing. -/
theorem rgTask_new {m : Nat} {w : World} {S : List Nat} {at_ size v : Int} {f : Bool} (h : LoneIO ringM (rgE m) m w S (rgBegin at_ size 2 0 0 f)) (hv : M.U v) : LoneIO ringM (rgE m) m w S (rgBegin at_ size 2 v 0 f) := by
  obtain ⟨S1, T, st, hU, h1, h2, h3, h4, h5⟩ := h
  have hf : ringM.face (rgBegin at_ size 2 v 0 f) = ringM.face (rgBegin at_ size 2 0 0 f) := by
    cases f <;> rfl
  refine ⟨S1, T, st, hU, by rw [hf]; exact h1, h2, h3, h4, fun ho => ?_⟩
  obtain ⟨⟨a, b, c⟩, p, hd, sl, fi, tl, u, n, tk, e1, e2, e3⟩ := h5 (by simpa [rgBegin] using ho)
  exact ⟨⟨a, hv, c⟩, p, hd, sl, fi, tl, u, n, tk, e1, e2, ⟨e3.row, e3.took, e3.own, e3.head, e3.first, e3.tail, e3.end_, e3.count, e3.seen, e3.unseen⟩⟩

set_option maxHeartbeats 6400000 in
set_option maxRecDepth 200000 in
theorem walk (at_ size tat tsize v : Int) (p : Option Addr) (nt c : Nat) (ts : List (Int × Bool)) (w : World) (hwa : (Lit.int .i64 at_).wf = true) (hws : (Lit.int .i64 size).wf = true) (hwd : (Lit.int .i64 tat).wf = true) (hwc : (Lit.int .i64 tsize).wf = true) (hwv : (Lit.int .u64 v).wf = true) (hsl : Sl w 2 (.slice p nt c) nt (tolds ts)) (hl : ts.length = nt) (hn : nt ≤ maxLen) (hu : ∀ t ∈ ts, M.U t.1) :
    Calls Tryz.prog 3 #[.agg #[.int .i64 at_, .int .i64 size], .agg #[.int .i64 tat, .int .i64 tsize], .int .u64 v, .slice p nt c] w fun e w' => e = .returned (.bool true) ∧ Below w.heap.size w w' := by
  subst hl
  unfold maxLen at hn
  have HT := Lib.hid hsl
  have HU := Lib.hid hu
  have HTS : Hid (ts.length ≠ 0 → ∀ g, (Value.slice p ts.length c).ownBlock = some g → g < w.heap.size) := Lib.hid fun h0 g hg => by
    obtain ⟨b, off, cc, he, hb, -⟩ := hsl.some (by omega)
    rw [he] at hg; simp [Value.ownBlock] at hg; omega
  have bs := bounds_i64 hws
  have bt := bounds_i64 hwc
  have HV : Hid (M.U v) := Lib.hid (M.U.wf hwv)
  clear hsl hu hwa hws hwv hwd hwc
  obtain ⟨W0, hW0⟩ : ∃ W0, (w.alloc (.cells #[.int .i64 at_, .int .i64 size] 23)).alloc (.cells #[.int .i64 tat, .int .i64 tsize] 23) = W0 := ⟨_, rfl⟩
  have HB0 : Hid (Box W0 w.heap.size #[.int .i64 at_, .int .i64 size]) := Lib.hid (by rw [← hW0]; exact (Box.new w _ _).keeps ((Keeps.refl [] _).alloc _) (by simp))
  have HB1 : Hid (Box W0 (w.heap.size + 1) #[.int .i64 tat, .int .i64 tsize]) := Lib.hid (by rw [← hW0]; have := Box.new (w.alloc (.cells #[.int .i64 at_, .int .i64 size] 23)) #[.int .i64 tat, .int .i64 tsize] 23; simpa using this)
  have HK0 : Hid (Keeps [] w W0) := Lib.hid (by rw [← hW0]; exact ((Keeps.refl _ _).alloc _).alloc _)
  go_enter Tryz.func3, Tryz.ntmps3
  go_wp2_with fail
  clear hW0
  refine (awake8 W0).mono ?_
  rintro e w1 ⟨rfl, k1⟩
  have kk1 : Keeps [] W0 w1 := ⟨k1.os, k1.tape, k1.output, k1.size, fun k hk _ => k1.block k hk⟩
  have hb1 := HB0.out.keeps kk1 (by simp)
  have c0 := hb1.cells 0
  have c1 := hb1.cells 1
  have hab := hb1.lt
  have hb2 := HB1.out.keeps kk1 (by simp)
  have x0 := hb2.cells 0
  have x1 := hb2.cells 1
  have hxb := hb2.lt
  have HKw := Lib.hid (HK0.out.trans kk1)
  simp at c0 c1 x0 x1
  clear k1 kk1 HK0 HB0 hb1 HB1 hb2
  obtain ⟨ab, hab'⟩ : ∃ ab, w.heap.size = ab := ⟨_, rfl⟩
  rw [hab'] at c0 c1 hab x0 x1 hxb ⊢
  by_cases h1 : 400 < ts.length
  · have d1 : decide ((400 : Int) < ts.length) = true := decide_eq_true (by omega)
    go_wp2
    go_ret
    exact ⟨rfl, HKw.out.end⟩
  have d1 : decide ((400 : Int) < ts.length) = false := decide_eq_false (by omega)
  obtain ⟨d, hd⟩ : ∃ d, decide (dqRight at_ size) = d := ⟨_, rfl⟩
  have HR := Lib.hid (fun W => rgRight_any at_ size W bs.1)
  have HRR := Lib.hid (fun W => rRight8_any at_ size W)
  rw [hd] at HR HRR
  have hdd : (d == d) = true := by simp
  have HTw : Hid (∀ W, Keeps [] w1 W → Sl W 2 (.slice p ts.length c) ts.length (tolds ts)) := Lib.hid fun W hk => HT.out.below (HKw.out.trans hk).end (Nat.le_refl _)
  have HTo : Hid (ts.length ≠ 0 → ∀ g, (Value.slice p ts.length c).ownBlock = some g → g < w1.heap.size) := Lib.hid fun h0 g hg => by
    have := HTS.out h0 g hg; omega
  have HS : Hid (∀ W, Keeps [] w1 W → W.cell? ⟨ab, 0, none⟩ = some (.int .i64 at_) ∧ W.cell? ⟨ab, 1, none⟩ = some (.int .i64 size) ∧ W.cell? ⟨ab + 1, 0, none⟩ = some (.int .i64 tat) ∧ W.cell? ⟨ab + 1, 1, none⟩ = some (.int .i64 tsize)) := Lib.hid fun W hk =>
    ⟨(hk.cell (p := ⟨ab, 0, none⟩) hab (by simp)).trans c0, (hk.cell (p := ⟨ab, 1, none⟩) hab (by simp)).trans c1, (hk.cell (p := ⟨ab + 1, 0, none⟩) hxb (by simp)).trans x0, (hk.cell (p := ⟨ab + 1, 1, none⟩) hxb (by simp)).trans x1⟩
  have hk0 : Keeps [] w1 w1 := Keeps.refl _ _
  clear hd HT HTS
  go_wp2_with fail
  have HSn : Hid (∀ (W W' : World) (q : Nat), Keeps [] w1 W → Keeps [q] W W' → w1.heap.size ≤ q → Keeps [] w1 W') := Lib.hid fun W W' q a b hq => a.step b (by intro k hk; simp at hk; omega)
  have HSeen : Hid (∀ (q : Nat) (s : RgS) (W : World), rfJ q W [q] s → Keeps [] w1 W → w1.heap.size ≤ q → Calls Tryz.prog 13 #[.pointer (some ⟨q, 0, none⟩), .slice p ts.length c] W fun e w' => ∃ b nn cs, e = .returned (.slice (some ⟨b, 0, none⟩) nn cs) ∧
      SeenAt w' (fun g => g ∈ [q] ∨ W.heap.size ≤ g) (.slice (some ⟨b, 0, none⟩) nn cs) (ringM.trace s ts) ∧ Keeps [q] W w') := Lib.hid fun q s W hj hk hq => by
    refine (seen_ring ringM (rfJ q) (fun _ => False) q (rfRuns q) (.slice p ts.length c) s ts [q] W hj (HTw.out _ hk) (fun h0 g hg => by have := HTo.out h0 g hg; simp; omega) HU.out (by omega) (fun k h => h.elim)).mono ?_
    rintro e w' ⟨vs, rfl, hseen, k4⟩
    obtain ⟨b, cs, rfl, -⟩ := hseen.shape
    exact ⟨_, _, _, rfl, hseen, k4⟩
  have HLike : Hid (∀ (m : Nat) (s : RgS) (S : List Nat) (W : World) (vs : Value) (q lo : Nat), LoneIO ringM (rgE m) m W S s → SeenAt W (fun g => g ∈ [q] ∨ lo ≤ g) vs (ringM.trace s ts) → q ≤ lo → Keeps [] w1 W → (∀ k ∈ S, w1.heap.size ≤ k ∧ k < q) →
      Calls Tryz.prog 10 #[.pointer (some ⟨m, 0, none⟩), vs, .slice p ts.length c] W fun e w' => e = .returned (.bool true) ∧ Keeps [] w1 w') := Lib.hid fun m s S W vs q lo hI hseen hq hk hS => by
    refine (like_any ringM (LoneIO ringM (rgE m) m) m (rgRuns m) vs (.slice p ts.length c) s ts S W hI (hseen.imp fun g hg hlt => ⟨fun hm => ?_, hlt⟩) (HTw.out _ hk) (fun h0 g hg hm => ?_) HU.out (by omega)).mono ?_
    · have h1 := hS g hm
      rcases hg with h | h
      · simp at h; omega
      · omega
    · have := HTo.out h0 g hg
      have := (hS g hm).1
      omega
    · rintro e w' ⟨rfl, S', -, k5, -⟩
      exact ⟨rfl, hk.step k5 (fun k hk => (hS k hk).1)⟩
  go_wp2_with fail
  go_region_held3 (fun w' => w'.cell? ⟨ab, 0, none⟩ = some (.int .i64 at_) ∧ w'.cell? ⟨ab, 1, none⟩ = some (.int .i64 size) ∧ w'.cell? ⟨ab + 1, 0, none⟩ = some (.int .i64 tat) ∧ w'.cell? ⟨ab + 1, 1, none⟩ = some (.int .i64 tsize))
    (first
      | exact HS.out _ hk0.drew
      | exact HS.out _ hk2
      | fail)
    (first
      | (go_at_call 8; refine (HR.out _).mono ?_; rintro e w2 ⟨rfl, k2⟩; have hk2 : Keeps [] w1 w2 := k2.undrew; clear k2)
      | (go_at_call 9; refine (HRR.out _).mono ?_; rintro e w' ⟨rfl, rfl⟩)
      | fail)
  go_wp2
  go_region_held3 (fun w' => w'.cell? ⟨ab, 0, none⟩ = some (.int .i64 at_) ∧ w'.cell? ⟨ab, 1, none⟩ = some (.int .i64 size) ∧ w'.cell? ⟨ab + 1, 0, none⟩ = some (.int .i64 tat) ∧ w'.cell? ⟨ab + 1, 1, none⟩ = some (.int .i64 tsize))
    (first
      | exact HS.out _ hk14
      | exact HS.out _ hk13
      | exact HS.out _ hk12
      | exact HS.out _ hk11
      | exact HS.out _ hk10
      | exact HS.out _ hk9
      | exact HS.out _ hk8
      | exact HS.out _ hk7
      | exact HS.out _ hk6
      | exact HS.out _ hk5
      | exact HS.out _ hk4
      | exact HS.out _ hk3
      | exact HS.out _ hk2.drew
      | fail)
    (first
      | (have _ := HJ12; go_at_call 13; refine (HSeen.out q12 _ _ HJ12.out hk12 (Nat.le_trans hk11.size HQ12.out.1)).mono ?_; rintro e w13 ⟨b13, n13, c13, rfl, t13, k13⟩; have hk13 : Keeps [] w1 w13 := HSn.out _ _ q12 hk12 k13 (Nat.le_trans hk11.size HQ12.out.1); have HI13 := Lib.hid ((rgRuns m11).frame HI12.out k13 (fun k hk h => by simp at h; have := (HQ12.out.2.2 k hk).2; omega)); have HT13 := Lib.hid t13; clear t13 k13)
      | (have _ := HI13; go_at_call 10; refine (HLike.out m11 _ S11 _ _ q12 _ HI13.out HT13.out (Nat.le_of_lt HQ12.out.2.1) hk13 HQ12.out.2.2).mono ?_; rintro e w14 ⟨rfl, hk14⟩)
      | (have _ := HJ8; go_at_call 13; refine (HSeen.out q8 _ _ HJ8.out hk8 (Nat.le_trans hk7.size HQ8.out.1)).mono ?_; rintro e w9 ⟨b9, n9, c9, rfl, t9, k9⟩; have hk9 : Keeps [] w1 w9 := HSn.out _ _ q8 hk8 k9 (Nat.le_trans hk7.size HQ8.out.1); have HI9 := Lib.hid ((rgRuns m7).frame HI8.out k9 (fun k hk h => by simp at h; have := (HQ8.out.2.2 k hk).2; omega)); have HT9 := Lib.hid t9; clear t9 k9)
      | (have _ := HI9; go_at_call 10; refine (HLike.out m7 _ S7 _ _ q8 _ HI9.out HT9.out (Nat.le_of_lt HQ8.out.2.1) hk9 HQ8.out.2.2).mono ?_; rintro e w10 ⟨rfl, hk10⟩)
      | (have _ := HJ4; go_at_call 13; refine (HSeen.out q4 _ _ HJ4.out hk4 (Nat.le_trans hk3.size HQ4.out.1)).mono ?_; rintro e w5 ⟨b5, n5, c5, rfl, t5, k5⟩; have hk5 : Keeps [] w1 w5 := HSn.out _ _ q4 hk4 k5 (Nat.le_trans hk3.size HQ4.out.1); have HI5 := Lib.hid ((rgRuns m3).frame HI4.out k5 (fun k hk h => by simp at h; have := (HQ4.out.2.2 k hk).2; omega)); have HT5 := Lib.hid t5; clear t5 k5)
      | (have _ := HI5; go_at_call 10; refine (HLike.out m3 _ S3 _ _ q4 _ HI5.out HT5.out (Nat.le_of_lt HQ4.out.2.1) hk5 HQ4.out.2.2).mono ?_; rintro e w6 ⟨rfl, hk6⟩)
      | (have _ := HI11; go_at_call 16; refine (rfStealNew_any at_ size tat tsize _ bs.1 bt.1).mono ?_; rintro e w12 ⟨q12, rfl, j12, k12, s12⟩; have hk12 : Keeps [] w1 w12 := hk11.trans k12; have HI12 := Lib.hid ((rgRuns m11).frame HI11.out k12 (by simp)); have HQ12 := Lib.hid (show w11.heap.size ≤ q12 ∧ q12 < w12.heap.size ∧ (∀ k ∈ S11, w1.heap.size ≤ k ∧ k < q12) from ⟨s12, (rfRuns q12).lt j12 q12 (by simp), fun k hk => ⟨Nat.le_trans hk10.size (HS11.out k hk), Nat.lt_of_lt_of_le ((rgRuns m11).lt HI11.out k hk) s12⟩⟩); have HJ12 := Lib.hid j12; clear j12 k12 s12)
      | (have _ := HI7; go_at_call 12; refine (rfNew_any at_ size 2 v _ (by decide) HV.out).mono ?_; rintro e w8 ⟨q8, rfl, j8, k8, s8⟩; have hk8 : Keeps [] w1 w8 := hk7.trans k8; have HI8 := Lib.hid ((rgRuns m7).frame HI7.out k8 (by simp)); have HQ8 := Lib.hid (show w7.heap.size ≤ q8 ∧ q8 < w8.heap.size ∧ (∀ k ∈ S7, w1.heap.size ≤ k ∧ k < q8) from ⟨s8, (rfRuns q8).lt j8 q8 (by simp), fun k hk => ⟨Nat.le_trans hk6.size (HS7.out k hk), Nat.lt_of_lt_of_le ((rgRuns m7).lt HI7.out k hk) s8⟩⟩); have HJ8 := Lib.hid j8; clear j8 k8 s8)
      | (have _ := HI3; go_at_call 12; refine (rfNew_any at_ size 1 v _ (by decide) HV.out).mono ?_; rintro e w4 ⟨q4, rfl, j4, k4, s4⟩; have hk4 : Keeps [] w1 w4 := hk3.trans k4; have HI4 := Lib.hid ((rgRuns m3).frame HI3.out k4 (by simp)); have HQ4 := Lib.hid (show w3.heap.size ≤ q4 ∧ q4 < w4.heap.size ∧ (∀ k ∈ S3, w1.heap.size ≤ k ∧ k < q4) from ⟨s4, (rfRuns q4).lt j4 q4 (by simp), fun k hk => ⟨Nat.le_trans hk2.size (HS3.out k hk), Nat.lt_of_lt_of_le ((rgRuns m3).lt HI3.out k hk) s4⟩⟩); have HJ4 := Lib.hid j4; clear j4 k4 s4)
      | (go_at_call 11; refine (rgPush_made at_ size v _ bs.1 HV.out).mono ?_; rintro e w3 ⟨m3, S3, rfl, i3, k3, s3⟩; have HI3 := Lib.hid i3; have HS3 := Lib.hid s3; have hk3 : Keeps [] w1 w3 := hk2.trans k3.undrew; clear i3 s3 k3)
      | (go_at_call 14; refine (rgPop_made at_ size _ bs.1).mono ?_; rintro e w7 ⟨m7, S7, rfl, i7, k7, s7⟩; have HI7 := Lib.hid (rgTask_new i7 HV.out); have HS7 := Lib.hid s7; have hk7 : Keeps [] w1 w7 := hk6.trans k7; clear i7 s7 k7)
      | (go_at_call 15; refine (rgSteal_made at_ size tat tsize _ bs.1 bt.1).mono ?_; rintro e w11 ⟨m11, S11, rfl, i11, k11, s11⟩; have HI11 := Lib.hid i11; have HS11 := Lib.hid s11; have hk11 : Keeps [] w1 w11 := hk10.trans k11; clear i11 s11 k11)
      | fail)
  go_wp2
  go_ret
  exact ⟨rfl, (HKw.out.trans hk14).end⟩

set_option maxRecDepth 100000 in
theorem lifted (os : Os) (started : os.Started) (H : Type) (enc : TypeId × Value → H) :
    ReturnsInHanded {} Tryz.checked os 3 .any (Rows.ringStepsSpec.pre6 enc Tryz.prog Tryz.f3 Rows.ringStepsRow.domain false) (Rows.ringStepsSpec.post enc Tryz.prog Tryz.f3 false true false false) := by
  refine returnsInHanded_of_change (C := Tryz.checked) own started (by kernel_rfl) Tryz.func3
    (ChangeSpec.witness6 (enc := enc) (C := Tryz.checked) false ⟨#[], #[.agg #[.int .i64 0, .int .i64 0], .agg #[.int .i64 0, .int .i64 0], .int .u64 0, .slice none 0 0], []⟩ 8 (by kernel_rfl) (by kernel_rfl) (by kernel_rfl) (by kernel_rfl)) ?_
  intro W base args ds gs before hval0 hW hcnd _
  have hval : ∀ (j : Nat) t v, Tryz.f3.params[j]? = some t → args[j]? = some v → Value.okWide Tryz.prog W .any base t v := hval0
  have hW' := hW
  obtain ⟨p, q, hA0, hV, rfl, hfz, hnd⟩ := hW
  have hA : DataW.TrodAll enc Tryz.prog W 0 (fun _ => true) true Tryz.f3.params.toList args.toList ds p := hA0
  rw [Tryz.params3] at hA hval
  obtain ⟨v0, vs0, d0, ds0, q0, qs0, hargs, rfl, rfl, h0, r0⟩ := trodAll_cons hA
  obtain ⟨v1, vs1, d1, ds1, q1, qs1, rfl, rfl, rfl, h1, r1⟩ := trodAll_cons r0
  obtain ⟨v2, vs2, d2, ds2, q2, qs2, rfl, rfl, rfl, h2, r2⟩ := trodAll_cons r1
  obtain ⟨v3, vs3, d3, ds3, q3, qs3, rfl, rfl, rfl, h3, r3⟩ := trodAll_cons r2
  obtain ⟨rfl, rfl, rfl⟩ := trodAll_nil r3
  obtain rfl : args = #[v0, v1, v2, v3] := by cases args; simp_all
  obtain ⟨rfl, rfl⟩ := trodVars_none hV
  have k0 := h0
  have lt0 : ∀ x ∈ q0, x.block < W.heap.size := by obtain ⟨m, hm⟩ := k0; exact DataW.trod_lt m _ _ _ hm
  obtain ⟨a0, n0, rfl, b0, c0⟩ := open_row_ring (hval 0 23 v0 rfl rfl) h0
  have k1 := h1
  have lt1 : ∀ x ∈ q1, x.block < W.heap.size := by obtain ⟨m, hm⟩ := k1; exact DataW.trod_lt m _ _ _ hm
  obtain ⟨a1, n1, rfl, b1, c1⟩ := open_row_ring (hval 1 23 v1 rfl rfl) h1
  obtain ⟨a2, rfl, rfl, rfl, w2⟩ := open_int Tryz.underlying24 (hval 2 24 v2 rfl rfl) h2
  obtain ⟨p3, n3, c3, rfl⟩ := okWide_slice Tryz.underlying25 (hval 3 25 v3 rfl rfl)
  have k3 := h3
  have lt3 : ∀ x ∈ q3, x.block < W.heap.size := by obtain ⟨m, hm⟩ := k3; exact DataW.trod_lt m _ _ _ hm
  obtain ⟨z3, s3, l3, m3, b3⟩ := (by obtain ⟨fu, hf⟩ := h3; exact sl_tolds Tryz.underlying25 hf : ∃ ts : List (Int × Bool), Sl W 2 (.slice p3 n3 c3) n3 (tolds ts) ∧ ts.length = n3 ∧ n3 ≤ maxLen ∧ ∀ t ∈ ts, M.U t.1)
  clear hA0 hval0
  simp only [List.append_nil] at hW'
  refine (walk a0 n0 a1 n1 a2 p3 n3 c3 z3 W b0 c0 b1 c1 w2 s3 l3 m3 b3).mono fun e W' ⟨he, bel⟩ => ?_
  subst he
  exact ⟨_, rfl, _, _, _, [], _, [], hW', trodAll_mk1 (shut_bool Tryz.underlying4 _), (trodAll_cons_mk (Below.trod laidOut (by kernel_rfl) (of_decide_eq_true (by kernel_rfl)) k0 bel lt0) (trodAll_cons_mk (Below.trod laidOut (by kernel_rfl) (of_decide_eq_true (by kernel_rfl)) k1 bel lt1) (trodAll_cons_mk (shut_int Tryz.underlying24 w2) (trodAll_cons_mk (Below.trod laidOut (by kernel_rfl) (of_decide_eq_true (by kernel_rfl)) k3 bel lt3) trodAll_mk0)))), rfl, bel.frame _, fun h => by cases h⟩

theorem proved : Rows.RingStepsSaid :=
  OpenClaim.holds_of_wide 3 Tryz.f3 rfl rfl rfl rfl rfl rfl rfl ⟨rfl, rfl, rfl, rfl, rfl⟩ rfl rfl rfl rfl rfl (by kernel_rfl) Tryz.func3 (by kernel_rfl)
    (of_decide_eq_true (by kernel_rfl)) (by unfold Func.isWrapper; first | (rw [if_pos (by decide +kernel)]; kernel_rfl) | (rw [if_neg (by decide +kernel)]; exact ⟨rfl, rfl⟩))
    (fun os started H enc _ => lifted os started H enc)
#print axioms proved
end Go.Proofs.YtekpfhlaohcgeaaGreat.ringSteps
