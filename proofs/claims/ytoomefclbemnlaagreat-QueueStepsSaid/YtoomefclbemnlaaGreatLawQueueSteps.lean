/-
  The law QueueSteps of the statements holds for every input: the call returns true, and the arguments read as before.
-/
import Derived.Test.YtoomefclbemnlaaGreatQuC
import Derived.Test.YtoomefclbemnlaaGreatRef9z
import Derived.Test.YtoomefclbemnlaaGreatQuA
import Derived.Test.YtoomefclbemnlaaGreatLike
import Derived.Test.YtoomefclbemnlaaGreatTold
import Derived.Test.YtoomefclbemnlaaGreatOpenA
import Derived.Test.YtoomefclbemnlaaGreatLook
import Derived.Test.YtoomefclbemnlaaGreatOpen
import Derived.Test.YtoomefclbemnlaaGreatAcc
import Derived.Test.YtoomefclbemnlaaGreatMem3
import Derived.Test.YtoomefclbemnlaaGreatRows
import Derived.WalkKit
import Derived.ProofKit
import Derived.OpenShut
import Derived.ShutString
import Derived.ChangeOld
import Derived.Below
import Derived.Test.YtoomefclbemnlaaGreatOpen
namespace Go.Proofs.YtoomefclbemnlaaGreat.queueSteps
open Go.ChangeShapes Go.WideShapes Go.ChangeAt Go.RowKit
open Go.ChangeMaps (open_string shut_string)
set_option linter.unusedVariables false
set_option linter.unusedSimpArgs false

theorem own : ownKnob Tryz.prog.godebug = none := by kernel_rfl
theorem laidOut : laidOutB Tryz.prog = true := by kernel_rfl

theorem quPut_lis (at_ n : Int) (l : List Int) : (quPut at_ n l).l = l := by
  unfold quPut
  repeat' split
  all_goals rfl
theorem quTake_lis (at_ n : Int) : (quTake at_ n).l = [] := by
  unfold quTake
  repeat' split
  all_goals rfl

set_option maxHeartbeats 6400000 in
set_option maxRecDepth 200000 in
theorem walk (at_ n : Int) (lp : Option Addr) (lq lc : Nat) (zs : List Int) (p : Option Addr) (nt c : Nat) (ts : List (Int × Bool)) (w : World) (hwa : (Lit.int .i64 at_).wf = true) (hwn : (Lit.int .i64 n).wf = true)
    (hzl : Sl w 1 (.slice lp lq lc) lq (ints .u64 zs)) (hq : lq ≤ maxLen) (hz : ∀ z ∈ zs, (Lit.int .u64 z).wf = true) (hsl : Sl w 2 (.slice p nt c) nt (tolds ts)) (hl : ts.length = nt) (hn : nt ≤ maxLen) (hu : ∀ t ∈ ts, M.U t.1) :
    Calls Tryz.prog 3 #[.agg #[.int .i64 at_, .int .i64 n], .slice lp lq lc, .slice p nt c] w fun e w' => e = .returned (.bool true) ∧ Below w.heap.size w w' := by
  subst hl
  obtain rfl : zs.length = lq := hzl.ints_len
  unfold maxLen at hn hq
  have HT := Lib.hid hsl
  have HU := Lib.hid hu
  have HZL := Lib.hid hzl
  have HZ : Hid (∀ z ∈ zs, M.U z) := Lib.hid fun z h => M.U.wf (hz z h)
  have HTS : Hid (ts.length ≠ 0 → ∀ g, (Value.slice p ts.length c).ownBlock = some g → g < w.heap.size) := Lib.hid fun h0 g hg => by
    obtain ⟨b, off, cc, he, hb, -⟩ := hsl.some (by omega)
    rw [he] at hg; simp [Value.ownBlock] at hg; omega
  clear hsl hu hwa hwn hzl hz
  obtain ⟨W0, hW0⟩ : ∃ W0, w.alloc (.cells #[.int .i64 at_, .int .i64 n] 23) = W0 := ⟨_, rfl⟩
  have HB0 : Hid (Box W0 w.heap.size #[.int .i64 at_, .int .i64 n]) := Lib.hid (by rw [← hW0]; exact Box.new _ _ _)
  have HK0 : Hid (Keeps [] w W0) := Lib.hid (by rw [← hW0]; exact (Keeps.refl _ _).alloc _)
  have hz0 : W0.heap.size = w.heap.size + 1 := by rw [← hW0]; simp
  go_enter Tryz.func3, Tryz.ntmps3
  go_wp2_with fail
  clear hW0
  refine (awake9 W0).mono ?_
  rintro e w1 ⟨rfl, k1⟩
  have kk1 : Keeps [] W0 w1 := ⟨k1.os, k1.tape, k1.output, k1.size, fun k hk _ => k1.block k hk⟩
  have hb1 := HB0.out.keeps kk1 (by simp)
  have c0 := hb1.cells 0
  have c1 := hb1.cells 1
  have hab := hb1.lt
  have HKw := Lib.hid (HK0.out.trans kk1)
  simp at c0 c1
  clear k1 kk1 HK0 HB0 hz0 hb1
  obtain ⟨ab, hab'⟩ : ∃ ab, w.heap.size = ab := ⟨_, rfl⟩
  rw [hab'] at c0 c1 hab ⊢
  by_cases h0 : 320 < zs.length
  · have d0 : decide ((320 : Int) < zs.length) = true := decide_eq_true (by omega)
    go_wp2
    go_ret
    exact ⟨rfl, HKw.out.end⟩
  have d0 : decide ((320 : Int) < zs.length) = false := decide_eq_false (by omega)
  by_cases h1 : 200 < ts.length
  · have d1 : decide ((200 : Int) < ts.length) = true := decide_eq_true (by omega)
    go_wp2
    go_ret
    exact ⟨rfl, HKw.out.end⟩
  have d1 : decide ((200 : Int) < ts.length) = false := decide_eq_false (by omega)
  have HTw : Hid (∀ W, Keeps [] w1 W → Sl W 2 (.slice p ts.length c) ts.length (tolds ts)) := Lib.hid fun W hk => HT.out.below (HKw.out.trans hk).end (Nat.le_refl _)
  have HZw : Hid (∀ W, Keeps [] w1 W → Sl W 1 (.slice lp zs.length lc) zs.length (ints .u64 zs)) := Lib.hid fun W hk => HZL.out.below (HKw.out.trans hk).end (Nat.le_refl _)
  have HTo : Hid (ts.length ≠ 0 → ∀ g, (Value.slice p ts.length c).ownBlock = some g → g < w1.heap.size) := Lib.hid fun h0 g hg => by
    have := HTS.out h0 g hg; omega
  have HS : Hid (∀ W, Keeps [] w1 W → W.cell? ⟨ab, 0, none⟩ = some (.int .i64 at_) ∧ W.cell? ⟨ab, 1, none⟩ = some (.int .i64 n)) := Lib.hid fun W hk =>
    ⟨(hk.cell (p := ⟨ab, 0, none⟩) hab (by simp)).trans c0, (hk.cell (p := ⟨ab, 1, none⟩) hab (by simp)).trans c1⟩
  have hk0 : Keeps [] w1 w1 := Keeps.refl _ _
  have HRR := Lib.hid (fun W => refRight9_any at_ n W)
  have HR := Lib.hid (fun W => quRight_any at_ n W)
  have HCe := Lib.hid (fun W => quCellsOf_any at_ n W)
  clear HT HTS HZL
  have HSeen : Hid (∀ (q : Nat) (lv : Value) (nl : Nat) (s : QuS) (S : List Nat) (lo : Nat) (W : World), refQuJ q lv W S s → s.l.length = nl → Keeps [] w1 W → (∀ k ∈ S, lo ≤ k) → lo ≤ W.heap.size → w1.heap.size ≤ lo → (0 < nl → ∀ k, lv.ownBlock = some k → k < W.heap.size) →
      Calls Tryz.prog 12 #[.pointer (some ⟨q, 0, none⟩), .slice p ts.length c] W fun e w' => ∃ b nn cs, e = .returned (.slice (some ⟨b, 0, none⟩) nn cs) ∧
      SeenAt w' (fun g => lo ≤ g) (.slice (some ⟨b, 0, none⟩) nn cs) (queueM.trace s ts) ∧ Keeps S W w') := Lib.hid fun q lv nl s S lo W hj hnl hk hS hlo hlo1 hRo => by
    refine (seen_line queueM _ (refQuR lv nl) q (refQuRuns q lv nl) (.slice p ts.length c) s ts S W ⟨hj, hnl⟩ (HTw.out _ hk) (fun h0 g hg hm => ?_) HU.out (by omega) (fun k h => hRo h.1 k h.2)).mono ?_
    · have := HTo.out h0 g hg
      have := hS g hm
      omega
    · rintro e w' ⟨vs, rfl, hseen, k4⟩
      obtain ⟨b, cs, rfl, -⟩ := hseen.shape
      exact ⟨_, _, _, rfl, hseen.imp (fun g hg hlt => hg.elim (fun h => hS g h) (fun h => Nat.le_trans hlo h)), k4⟩
  have HLike : Hid (∀ (m : Nat) (s : QuS) (S : List Nat) (W : World) (vs : Value) (lo : Nat), quI m W S s → SeenAt W (fun g => lo ≤ g) vs (queueM.trace s ts) → Keeps [] w1 W → (∀ k ∈ S, w1.heap.size ≤ k ∧ k < lo) →
      Calls Tryz.prog 9 #[.pointer (some ⟨m, 0, none⟩), vs, .slice p ts.length c] W fun e w' => e = .returned (.bool true) ∧ Keeps [] w1 w') := Lib.hid fun m s S W vs lo hI hseen hk hS => by
    refine (like_any queueM (quI m) m (quRuns m) vs (.slice p ts.length c) s ts S W hI (hseen.imp fun g hg hlt => ⟨fun hm => ?_, hlt⟩) (HTw.out _ hk) (fun h0 g hg hm => ?_) HU.out (by omega)).mono ?_
    · have h1 := hS g hm
      omega
    · have := HTo.out h0 g hg
      have := (hS g hm).1
      omega
    · rintro e w' ⟨rfl, S', -, k5, -⟩
      exact ⟨rfl, hk.step k5 (fun k hk => (hS k hk).1)⟩
  have HPut : Hid (∀ W, Keeps [] w1 W → Calls Tryz.prog 10 #[.agg #[.int .i64 at_, .int .i64 n], .slice lp zs.length lc] W fun e w' => ∃ m S, e = .returned (.pointer (some ⟨m, 0, none⟩)) ∧ quI m w' S (quPut at_ n zs) ∧ Keeps [] w1 w' ∧ ∀ k ∈ S, w1.heap.size ≤ k ∧ k < w'.heap.size) := Lib.hid fun W hk => by
    refine (quPut_made at_ n _ zs.length zs W (HZw.out W hk) (by unfold maxLen; omega) HZ.out).mono ?_
    rintro e w' ⟨m, S, rfl, a, b, d⟩
    exact ⟨m, S, rfl, a, hk.trans b, fun k h => ⟨Nat.le_trans hk.size (d k h), (quRuns m).lt a k h⟩⟩
  have HTake : Hid (∀ W, Keeps [] w1 W → Calls Tryz.prog 13 #[.agg #[.int .i64 at_, .int .i64 n]] W fun e w' => ∃ m S, e = .returned (.pointer (some ⟨m, 0, none⟩)) ∧ quI m w' S (quTake at_ n) ∧ Keeps [] w1 w' ∧ ∀ k ∈ S, w1.heap.size ≤ k ∧ k < w'.heap.size) := Lib.hid fun W hk => by
    refine (quTake_made at_ n W).mono ?_
    rintro e w' ⟨m, S, rfl, a, b, d⟩
    exact ⟨m, S, rfl, a, hk.trans b, fun k h => ⟨Nat.le_trans hk.size (d k h), (quRuns m).lt a k h⟩⟩
  have HRPut : Hid (∀ (m : Nat) (S : List Nat) (s : QuS) W, Keeps [] w1 W → quI m W S s → Calls Tryz.prog 11 #[.int .i64 at_, .int .i64 n, .slice lp zs.length lc] W fun e w' => ∃ q S', e = .returned (.pointer (some ⟨q, 0, none⟩)) ∧ (refQuJ q (.slice lp zs.length lc) w' S' (quPut at_ n zs) ∧ (∀ k ∈ S', W.heap.size ≤ k) ∧ W.heap.size ≤ w'.heap.size) ∧ Keeps [] w1 w' ∧ quI m w' S s) := Lib.hid fun m S s W hk hI => by
    refine (refQuPut_any at_ n lp lc zs W (HZw.out W hk) (by omega) HZ.out).mono ?_
    rintro e w' ⟨q, S', rfl, a, b, d⟩
    exact ⟨q, S', rfl, ⟨a, d, b.size⟩, hk.trans b, (quRuns m).frame hI b (by simp)⟩
  have HRTake : Hid (∀ (m : Nat) (S : List Nat) (s : QuS) W, Keeps [] w1 W → quI m W S s → Calls Tryz.prog 14 #[.int .i64 at_, .int .i64 n] W fun e w' => ∃ q, e = .returned (.pointer (some ⟨q, 0, none⟩)) ∧ (refQuJ q (.slice none 0 0) w' [q] (quTake at_ n) ∧ (∀ k ∈ [q], W.heap.size ≤ k) ∧ W.heap.size ≤ w'.heap.size) ∧ Keeps [] w1 w' ∧ quI m w' S s) := Lib.hid fun m S s W hk hI => by
    refine (refQuTake_any at_ n W).mono ?_
    rintro e w' ⟨q, rfl, a, b, d⟩
    exact ⟨q, rfl, ⟨a, by simpa using d, b.size⟩, hk.trans b, (quRuns m).frame hI b (by simp)⟩
  have HSP : Hid (∀ (q m : Nat) (S' S : List Nat) (s : QuS) (lo : Nat) W, Keeps [] w1 W → refQuJ q (.slice lp zs.length lc) W S' (quPut at_ n zs) ∧ (∀ k ∈ S', lo ≤ k) ∧ lo ≤ W.heap.size → quI m W S s → (∀ k ∈ S, w1.heap.size ≤ k ∧ k < lo) → w1.heap.size ≤ lo →
      Calls Tryz.prog 12 #[.pointer (some ⟨q, 0, none⟩), .slice p ts.length c] W fun e w' => ∃ b nn cs, e = .returned (.slice (some ⟨b, 0, none⟩) nn cs) ∧
      SeenAt w' (fun g => lo ≤ g) (.slice (some ⟨b, 0, none⟩) nn cs) (queueM.trace (quPut at_ n zs) ts) ∧ Keeps [] w1 w' ∧ quI m w' S s) := Lib.hid fun q m S' S s lo W hk hj hI hS h1 => by
    refine (HSeen.out q _ zs.length _ S' lo W hj.1 (by rw [quPut_lis]) hk hj.2.1 hj.2.2 h1 (fun h0 k hg => ?_)).mono ?_
    · obtain ⟨b, off, cc, he, hb, -⟩ := (HZw.out W hk).some (by omega)
      rw [he] at hg; simp [Value.ownBlock] at hg; omega
    · rintro e w' ⟨b, nn, cs, rfl, hs, k4⟩
      exact ⟨b, nn, cs, rfl, hs, hk.step k4 (fun k h => Nat.le_trans h1 (hj.2.1 k h)), (quRuns m).frame hI k4 (fun k h h' => by have := hj.2.1 k h'; have := (hS k h).2; omega)⟩
  have HST : Hid (∀ (q m : Nat) (S : List Nat) (s : QuS) (lo : Nat) W, Keeps [] w1 W → refQuJ q (.slice none 0 0) W [q] (quTake at_ n) ∧ (∀ k ∈ [q], lo ≤ k) ∧ lo ≤ W.heap.size → quI m W S s → (∀ k ∈ S, w1.heap.size ≤ k ∧ k < lo) → w1.heap.size ≤ lo →
      Calls Tryz.prog 12 #[.pointer (some ⟨q, 0, none⟩), .slice p ts.length c] W fun e w' => ∃ b nn cs, e = .returned (.slice (some ⟨b, 0, none⟩) nn cs) ∧
      SeenAt w' (fun g => lo ≤ g) (.slice (some ⟨b, 0, none⟩) nn cs) (queueM.trace (quTake at_ n) ts) ∧ Keeps [] w1 w' ∧ quI m w' S s) := Lib.hid fun q m S s lo W hk hj hI hS h1 => by
    refine (HSeen.out q _ 0 _ [q] lo W hj.1 (by rw [quTake_lis]; rfl) hk hj.2.1 hj.2.2 h1 (fun h0 k hg => (by cases hg))).mono ?_
    rintro e w' ⟨b, nn, cs, rfl, hs, k4⟩
    exact ⟨b, nn, cs, rfl, hs, hk.step k4 (fun k h => Nat.le_trans h1 (hj.2.1 k h)), (quRuns m).frame hI k4 (fun k h h' => by have := hj.2.1 k h'; have := (hS k h).2; omega)⟩
  clear HTw HTo HZw HU HZ HSeen
  by_cases hr : quRight at_ n
  · have HA := Lib.hid (fun W => quArena_any at_ n W hr)
    rw [decide_eq_true hr] at HR HRR
    rw [if_pos hr] at HCe
    obtain ⟨r1, r2, r3, r4⟩ := hr
    have y1 : IntKind.i64.wrap (3 * n) = 3 * n := IntWalk.i64_in _ (by omega)
    have y2 : IntKind.i64.wrap (3 * n + 3) = 3 * n + 3 := IntWalk.i64_in _ (by omega)
    have y3 : IntKind.i64.wrap (at_ + 2) = at_ + 2 := IntWalk.i64_in _ (by omega)
    have y4 : decide ((0 : Int) < 3 * n + 3) = true := decide_eq_true (by omega)
    go_wp2_with fail
    refine (HRR.out _).mono ?_
    rintro e w2 ⟨rfl, rfl⟩
    go_wp2_with fail
    refine (HA.out _).mono ?_
    rintro e w2 ⟨rfl, k2⟩
    have hk2 : Keeps [] w1 w2 := k2
    obtain ⟨W3, hW3⟩ : ∃ W3, w2.alloc (.cells #[.int .i64 (at_ + 2), .int .i64 n] 28) = W3 := ⟨_, rfl⟩
    have hk3 : Keeps [] w1 W3 := by rw [← hW3]; exact hk2.alloc _
    have hb3 : Box W3 w2.heap.size #[.int .i64 (at_ + 2), .int .i64 n] := by rw [← hW3]; exact Box.new _ _ _
    have HS3 : Hid (∀ W, Keeps [] W3 W → Keeps [] w1 W ∧ W.cell? ⟨ab, 0, none⟩ = some (.int .i64 at_) ∧ W.cell? ⟨ab, 1, none⟩ = some (.int .i64 n) ∧ W.cell? ⟨w2.heap.size, 0, none⟩ = some (.int .i64 (at_ + 2)) ∧ W.cell? ⟨w2.heap.size, 1, none⟩ = some (.int .i64 n)) := Lib.hid fun W hk =>
      ⟨hk3.trans hk, (HS.out _ (hk3.trans hk)).1, (HS.out _ (hk3.trans hk)).2, by have := (hb3.keeps hk (by simp)).cells 0; simpa using this, by have := (hb3.keeps hk (by simp)).cells 1; simpa using this⟩
    have hz3 : w2.heap.size < W3.heap.size := hb3.lt
    clear k2 hk3 hb3
    obtain ⟨-, c0, c1, x0, x1⟩ := HS3.out _ (Keeps.refl _ _)
    go_wp2_with fail
    clear hW3
    refine (HR.out _).mono ?_
    rintro e w4 ⟨rfl, k4⟩
    have k4' := k4
    obtain ⟨hk4, c0, c1, x0, x1⟩ := HS3.out _ k4
    clear k4'
    go_wp2_with fail
    refine (HCe.out _).mono ?_
    rintro e w5 ⟨rfl, k5⟩
    have k5' := k4.trans k5
    obtain ⟨hk5, c0, c1, x0, x1⟩ := HS3.out _ k5'
    clear k4 k5 k5' hk4
    go_wp2_with fail
    clear x0 x1 HCe HR HRR
    go_region_held3 (fun w' => w'.cell? ⟨ab, 0, none⟩ = some (.int .i64 at_) ∧ w'.cell? ⟨ab, 1, none⟩ = some (.int .i64 n))
      (first
        | exact HS.out _ hk13
        | exact HS.out _ hk12
        | exact HS.out _ hk11
        | exact HS.out _ hk10
        | exact HS.out _ hk9
        | exact HS.out _ hk8
        | exact HS.out _ hk7
        | exact HS.out _ hk6
        | exact HS.out _ hk5.drew
        | fail)
      (first
        | (have _ := HJ11; go_at_call 12; refine (HST.out q11 m10 S10 _ _ _ hk11 HJ11.out HI11.out HS10.out hk10.size).mono ?_; rintro e w12 ⟨b12, n12, c12, rfl, t12, hk12, i12⟩; have HT12 := Lib.hid t12; have HI12 := Lib.hid i12; clear t12 i12)
        | (have _ := HI12; go_at_call 9; refine (HLike.out m10 _ S10 _ _ _ HI12.out HT12.out hk12 HS10.out).mono ?_; rintro e w13 ⟨rfl, hk13⟩)
        | (have _ := HJ7; go_at_call 12; refine (HSP.out q7 m6 S7 S6 _ _ _ hk7 HJ7.out HI7.out HS6.out hk6.size).mono ?_; rintro e w8 ⟨b8, n8, c8, rfl, t8, hk8, i8⟩; have HT8 := Lib.hid t8; have HI8 := Lib.hid i8; clear t8 i8)
        | (have _ := HI8; go_at_call 9; refine (HLike.out m6 _ S6 _ _ _ HI8.out HT8.out hk8 HS6.out).mono ?_; rintro e w9 ⟨rfl, hk9⟩)
        | (go_at_call 14; refine (HRTake.out m10 S10 _ _ hk10 HI10.out).mono ?_; rintro e w11 ⟨q11, rfl, j11, hk11, i11⟩; have HJ11 := Lib.hid j11; have HI11 := Lib.hid i11; clear j11 i11)
        | (go_at_call 11; refine (HRPut.out m6 S6 _ _ hk6 HI6.out).mono ?_; rintro e w7 ⟨q7, S7, rfl, j7, hk7, i7⟩; have HJ7 := Lib.hid j7; have HI7 := Lib.hid i7; clear j7 i7)
        | (go_at_call 13; refine (HTake.out _ hk9).mono ?_; rintro e w10 ⟨m10, S10, rfl, i10, hk10, s10⟩; have HI10 := Lib.hid i10; have HS10 := Lib.hid s10; clear i10 s10)
        | (go_at_call 10; refine (HPut.out _ hk5.drew).mono ?_; rintro e w6 ⟨m6, S6, rfl, i6, hk6, s6⟩; have HI6 := Lib.hid i6; have HS6 := Lib.hid s6; clear i6 s6)
        | fail)
    go_wp2
    go_ret
    exact ⟨rfl, (HKw.out.trans hk13).end⟩
  · have HA := Lib.hid (fun W => quArena_none at_ n W hr)
    rw [decide_eq_false hr] at HR HRR
    rw [if_neg hr] at HCe
    clear hr
    go_wp2_with fail
    refine (HRR.out _).mono ?_
    rintro e w2 ⟨rfl, rfl⟩
    go_wp2_with fail
    refine (HA.out _).mono ?_
    rintro e w2 ⟨rfl, k2⟩
    have hk2 : Keeps [] w1 w2 := k2
    have hk3 : Keeps [] w1 (w2.alloc (.cells #[.int .i64 0, .int .i64 0] 28)) := hk2.alloc _
    have hb3 : Box (w2.alloc (.cells #[.int .i64 0, .int .i64 0] 28)) w2.heap.size #[.int .i64 0, .int .i64 0] := Box.new _ _ _
    have HS3 : Hid (∀ W, Keeps [] (w2.alloc (.cells #[.int .i64 0, .int .i64 0] 28)) W → Keeps [] w1 W ∧ W.cell? ⟨ab, 0, none⟩ = some (.int .i64 at_) ∧ W.cell? ⟨ab, 1, none⟩ = some (.int .i64 n) ∧ W.cell? ⟨w2.heap.size, 0, none⟩ = some (.int .i64 0) ∧ W.cell? ⟨w2.heap.size, 1, none⟩ = some (.int .i64 0)) := Lib.hid fun W hk =>
      ⟨hk3.trans hk, (HS.out _ (hk3.trans hk)).1, (HS.out _ (hk3.trans hk)).2, by have := (hb3.keeps hk (by simp)).cells 0; simpa using this, by have := (hb3.keeps hk (by simp)).cells 1; simpa using this⟩
    clear k2 hk3 hb3
    obtain ⟨-, c0, c1, x0, x1⟩ := HS3.out _ (Keeps.refl _ _)
    go_wp2_with fail
    refine (HR.out _).mono ?_
    rintro e w4 ⟨rfl, k4⟩
    have k4' := k4
    obtain ⟨hk4, c0, c1, x0, x1⟩ := HS3.out _ k4
    clear k4'
    go_wp2_with fail
    refine (HCe.out _).mono ?_
    rintro e w5 ⟨rfl, k5⟩
    have k5' := k4.trans k5
    obtain ⟨hk5, c0, c1, x0, x1⟩ := HS3.out _ k5'
    clear k4 k5 k5' hk4
    go_wp2_with fail
    clear x0 x1 HCe HR HRR
    go_region_held3 (fun w' => w'.cell? ⟨ab, 0, none⟩ = some (.int .i64 at_) ∧ w'.cell? ⟨ab, 1, none⟩ = some (.int .i64 n))
      (first
        | exact HS.out _ hk13
        | exact HS.out _ hk12
        | exact HS.out _ hk11
        | exact HS.out _ hk10
        | exact HS.out _ hk9
        | exact HS.out _ hk8
        | exact HS.out _ hk7
        | exact HS.out _ hk6
        | exact HS.out _ hk5.drew
        | fail)
      (first
        | (have _ := HJ11; go_at_call 12; refine (HST.out q11 m10 S10 _ _ _ hk11 HJ11.out HI11.out HS10.out hk10.size).mono ?_; rintro e w12 ⟨b12, n12, c12, rfl, t12, hk12, i12⟩; have HT12 := Lib.hid t12; have HI12 := Lib.hid i12; clear t12 i12)
        | (have _ := HI12; go_at_call 9; refine (HLike.out m10 _ S10 _ _ _ HI12.out HT12.out hk12 HS10.out).mono ?_; rintro e w13 ⟨rfl, hk13⟩)
        | (have _ := HJ7; go_at_call 12; refine (HSP.out q7 m6 S7 S6 _ _ _ hk7 HJ7.out HI7.out HS6.out hk6.size).mono ?_; rintro e w8 ⟨b8, n8, c8, rfl, t8, hk8, i8⟩; have HT8 := Lib.hid t8; have HI8 := Lib.hid i8; clear t8 i8)
        | (have _ := HI8; go_at_call 9; refine (HLike.out m6 _ S6 _ _ _ HI8.out HT8.out hk8 HS6.out).mono ?_; rintro e w9 ⟨rfl, hk9⟩)
        | (go_at_call 14; refine (HRTake.out m10 S10 _ _ hk10 HI10.out).mono ?_; rintro e w11 ⟨q11, rfl, j11, hk11, i11⟩; have HJ11 := Lib.hid j11; have HI11 := Lib.hid i11; clear j11 i11)
        | (go_at_call 11; refine (HRPut.out m6 S6 _ _ hk6 HI6.out).mono ?_; rintro e w7 ⟨q7, S7, rfl, j7, hk7, i7⟩; have HJ7 := Lib.hid j7; have HI7 := Lib.hid i7; clear j7 i7)
        | (go_at_call 13; refine (HTake.out _ hk9).mono ?_; rintro e w10 ⟨m10, S10, rfl, i10, hk10, s10⟩; have HI10 := Lib.hid i10; have HS10 := Lib.hid s10; clear i10 s10)
        | (go_at_call 10; refine (HPut.out _ hk5.drew).mono ?_; rintro e w6 ⟨m6, S6, rfl, i6, hk6, s6⟩; have HI6 := Lib.hid i6; have HS6 := Lib.hid s6; clear i6 s6)
        | fail)
    go_wp2
    go_ret
    exact ⟨rfl, (HKw.out.trans hk13).end⟩

set_option maxRecDepth 100000 in
theorem lifted (os : Os) (started : os.Started) (H : Type) (enc : TypeId × Value → H) :
    ReturnsInHanded {} Tryz.checked os 3 .any (Rows.queueStepsSpec.pre6 enc Tryz.prog Tryz.f3 Rows.queueStepsRow.domain false) (Rows.queueStepsSpec.post enc Tryz.prog Tryz.f3 false true false false) := by
  refine returnsInHanded_of_change (C := Tryz.checked) own started (by kernel_rfl) Tryz.func3
    (ChangeSpec.witness6 (enc := enc) (C := Tryz.checked) false ⟨#[], #[.agg #[.int .i64 0, .int .i64 0], .slice none 0 0, .slice none 0 0], []⟩ 8 (by kernel_rfl) (by kernel_rfl) (by kernel_rfl) (by kernel_rfl)) ?_
  intro W base args ds gs before hval0 hW hcnd _
  have hval : ∀ (j : Nat) t v, Tryz.f3.params[j]? = some t → args[j]? = some v → Value.okWide Tryz.prog W .any base t v := hval0
  have hW' := hW
  obtain ⟨p, q, hA0, hV, rfl, hfz, hnd⟩ := hW
  have hA : DataW.TrodAll enc Tryz.prog W 0 (fun _ => true) true Tryz.f3.params.toList args.toList ds p := hA0
  rw [Tryz.params3] at hA hval
  obtain ⟨v0, vs0, d0, ds0, q0, qs0, hargs, rfl, rfl, h0, r0⟩ := trodAll_cons hA
  obtain ⟨v1, vs1, d1, ds1, q1, qs1, rfl, rfl, rfl, h1, r1⟩ := trodAll_cons r0
  obtain ⟨v2, vs2, d2, ds2, q2, qs2, rfl, rfl, rfl, h2, r2⟩ := trodAll_cons r1
  obtain ⟨rfl, rfl, rfl⟩ := trodAll_nil r2
  obtain rfl : args = #[v0, v1, v2] := by cases args; simp_all
  obtain ⟨rfl, rfl⟩ := trodVars_none hV
  have k0 := h0
  have lt0 : ∀ x ∈ q0, x.block < W.heap.size := by obtain ⟨m, hm⟩ := k0; exact DataW.trod_lt m _ _ _ hm
  obtain ⟨a0, n0, rfl, b0, c0⟩ := open_line (hval 0 23 v0 rfl rfl) h0
  obtain ⟨p1, n1, c1, rfl⟩ := okWide_slice Tryz.underlying24 (hval 1 24 v1 rfl rfl)
  have k1 := h1
  have lt1 : ∀ x ∈ q1, x.block < W.heap.size := by obtain ⟨m, hm⟩ := k1; exact DataW.trod_lt m _ _ _ hm
  obtain ⟨z1, s1, m1, b1⟩ := (by obtain ⟨fu, hf⟩ := h1; exact sl_ints Tryz.underlying24 Tryz.underlying49 (by kernel_rfl) hf : ∃ zs : List Int, Sl W 1 (.slice p1 n1 c1) n1 (ints .u64 zs) ∧ n1 ≤ maxLen ∧ ∀ z ∈ zs, (Lit.int .u64 z).wf = true)
  obtain ⟨p2, n2, c2, rfl⟩ := okWide_slice Tryz.underlying25 (hval 2 25 v2 rfl rfl)
  have k2 := h2
  have lt2 : ∀ x ∈ q2, x.block < W.heap.size := by obtain ⟨m, hm⟩ := k2; exact DataW.trod_lt m _ _ _ hm
  obtain ⟨z2, s2, l2, m2, b2⟩ := (by obtain ⟨fu, hf⟩ := h2; exact sl_tolds Tryz.underlying25 hf : ∃ ts : List (Int × Bool), Sl W 2 (.slice p2 n2 c2) n2 (tolds ts) ∧ ts.length = n2 ∧ n2 ≤ maxLen ∧ ∀ t ∈ ts, M.U t.1)
  clear hA0 hval0
  simp only [List.append_nil] at hW'
  refine (walk a0 n0 p1 n1 c1 z1 p2 n2 c2 z2 W b0 c0 s1 m1 b1 s2 l2 m2 b2).mono fun e W' ⟨he, bel⟩ => ?_
  subst he
  exact ⟨_, rfl, _, _, _, [], _, [], hW', trodAll_mk1 (shut_bool Tryz.underlying4 _), (trodAll_cons_mk (Below.trod laidOut (by kernel_rfl) (of_decide_eq_true (by kernel_rfl)) k0 bel lt0) (trodAll_cons_mk (Below.trod laidOut (by kernel_rfl) (of_decide_eq_true (by kernel_rfl)) k1 bel lt1) (trodAll_cons_mk (Below.trod laidOut (by kernel_rfl) (of_decide_eq_true (by kernel_rfl)) k2 bel lt2) trodAll_mk0))), rfl, bel.frame _, fun h => by cases h⟩

theorem proved : Rows.QueueStepsSaid :=
  OpenClaim.holds_of_wide 3 Tryz.f3 rfl rfl rfl rfl rfl rfl rfl ⟨rfl, rfl, rfl, rfl, rfl⟩ rfl rfl rfl rfl rfl (by kernel_rfl) Tryz.func3 (by kernel_rfl)
    (of_decide_eq_true (by kernel_rfl)) (by unfold Func.isWrapper; first | (rw [if_pos (by decide +kernel)]; kernel_rfl) | (rw [if_neg (by decide +kernel)]; exact ⟨rfl, rfl⟩))
    (fun os started H enc _ => lifted os started H enc)
#print axioms proved
end Go.Proofs.YtoomefclbemnlaaGreat.queueSteps
