/-
  The law ArenaInits of the statements holds for every input: the call returns true, and the arguments read as before.
-/
import Derived.Test.YtgpfknoddljopaaArS
import Derived.Test.YtgpfknoddljopaaArG
import Derived.Test.YtgpfknoddljopaaOpenA
import Derived.Test.YtgpfknoddljopaaLook
import Derived.Test.YtgpfknoddljopaaOpen
import Derived.Test.YtgpfknoddljopaaAcc
import Derived.Test.YtgpfknoddljopaaRows
import Derived.WalkKit
import Derived.ProofKit
import Derived.OpenShut
import Derived.ShutString
import Derived.ChangeOld
import Derived.Below
import Derived.Test.YtgpfknoddljopaaOpen
namespace Go.Proofs.Ytgpfknoddljopaa.arenaInits
open Go.ChangeShapes Go.WideShapes Go.ChangeAt Go.RowKit
open Go.ChangeMaps (open_string shut_string)
set_option linter.unusedVariables false

theorem own : ownKnob Try.prog.godebug = none := by kernel_rfl
theorem laidOut : laidOutB Try.prog = true := by kernel_rfl

set_option maxHeartbeats 12800000 in
set_option maxRecDepth 200000 in
theorem walk (n : Int) (pp : Option Addr) (q cp : Nat) (zs : List Int) (at_ N first : Int) (w : World) (hnw : (Lit.int .i64 n).wf = true) (hsl : Sl w 1 (.slice pp q cp) q (ints .u64 zs)) (hq : q ≤ maxLen) (hz : ∀ z ∈ zs, (Lit.int .u64 z).wf = true)
    (haw : (Lit.int .i64 at_).wf = true) (hNw : (Lit.int .i64 N).wf = true) (hfw : (Lit.int .i64 first).wf = true) :
    Calls Try.prog 4 #[.int .i64 n, .slice pp q cp, .agg #[.int .i64 at_, .int .i64 N], .int .i64 first] w fun e w' => e = .returned (.bool true) ∧ Below w.heap.size w w' := by
  have HSl := Lib.hid hsl
  have hzl := hsl.ints_len
  have HZ : Hid (∀ z ∈ zs, M.U z) := Lib.hid fun z h => M.U.wf (hz z h)
  have bf := bounds_i64 hfw
  have bN := bounds_i64 hNw
  have ba := bounds_i64 haw
  unfold maxLen at hq
  clear hsl hz hnw haw hNw hfw
  obtain ⟨W0, hW0⟩ : ∃ W0, w.alloc (.cells #[.int .i64 at_, .int .i64 N] 23) = W0 := ⟨_, rfl⟩
  have HB0 : Hid (Box W0 w.heap.size #[.int .i64 at_, .int .i64 N]) := Lib.hid (by rw [← hW0]; exact Box.new _ _ _)
  have HK0 : Hid (Keeps [] w W0) := Lib.hid (by rw [← hW0]; exact (Keeps.refl _ _).alloc _)
  go_enter Try.func4, Try.ntmps4
  go_wp2_with fail
  clear hW0
  refine (awake6 W0).mono ?_
  rintro e w1 ⟨rfl, k1⟩
  have kk1 : Keeps [] W0 w1 := ⟨k1.os, k1.tape, k1.output, k1.size, fun k hk _ => k1.block k hk⟩
  have HB1 := Lib.hid (HB0.out.keeps kk1 (by simp))
  have HK1 := Lib.hid (HK0.out.trans kk1)
  clear k1 kk1 HK0 HB0
  obtain ⟨ab, hab⟩ : ∃ ab, w.heap.size = ab := ⟨_, rfl⟩
  have HAB := Lib.hid hab
  rw [hab] at HB1 ⊢
  have c0 := HB1.out.cells 0
  have c1 := HB1.out.cells 1
  have hablt := HB1.out.lt
  simp at c0 c1
  clear hab
  by_cases h1 : n < 1
  · have d1 : decide (n < 1) = true := decide_eq_true h1
    go_wp2
    go_ret
    exact ⟨rfl, HK1.out.end⟩
  have d1 : decide (n < 1) = false := decide_eq_false h1
  by_cases h2 : 100 < n
  · have d2 : decide (100 < n) = true := decide_eq_true h2
    go_wp2
    go_ret
    exact ⟨rfl, HK1.out.end⟩
  have d2 : decide (100 < n) = false := decide_eq_false h2
  obtain ⟨nn, rfl⟩ : ∃ nn : Nat, n = (nn : Int) := ⟨n.toNat, by omega⟩
  by_cases h3 : (nn : Int) < (q : Int)
  · have d3 : decide ((nn : Int) < (q : Int)) = true := decide_eq_true h3
    go_wp2
    go_ret
    exact ⟨rfl, HK1.out.end⟩
  have d3 : decide ((nn : Int) < (q : Int)) = false := decide_eq_false h3
  by_cases h4 : 60 < N ∧ N ≤ 4096
  · have d4 : decide (60 < N) = true := decide_eq_true h4.1
    have d5 : decide (N ≤ 4096) = true := decide_eq_true h4.2
    go_wp2
    go_ret
    exact ⟨rfl, HK1.out.end⟩
  have NA := Lib.hid (new_any nn w1 (by omega) (by omega))
  have d45 : Hid (decide (60 < N) = false ∨ decide (60 < N) = true ∧ decide (N ≤ 4096) = false) := Lib.hid (by
    by_cases h : 60 < N
    · exact .inr ⟨decide_eq_true h, decide_eq_false (by omega)⟩
    · exact .inl (decide_eq_false h))
  have hu0 : ∀ u ∈ List.replicate nn (0 : Int), M.U u := fun u hu => by obtain rfl := List.eq_of_mem_replicate hu; exact ⟨by decide, by decide⟩
  have HU0 := Lib.hid hu0
  clear hu0
  rcases d45.out with d4 | ⟨d4, d5⟩
  all_goals
    go_wp2_with fail
    refine NA.out.mono ?_
    rintro e w2 ⟨m, b, rfl, hM, k2, hm, hb⟩
    have HM2 := Lib.hid hM
    have HK2 := Lib.hid k2
    have hbl2 := hM.lt
    clear hM k2 NA
    go_wp2_with fail
    refine (fill_any m b _ zs _ q w2 HM2.out (HSl.out.below (HK1.out.trans HK2.out).end (Nat.le_refl _)) HZ.out (by unfold maxLen; omega)).mono ?_
    rintro e w3 ⟨rfl, hM3, k3⟩
    have hul : (C.fill (List.replicate nn 0) zs).length = nn := by rw [C.fill_len]; simp
    obtain ⟨us, hus⟩ : ∃ us, C.fill (List.replicate nn 0) zs = us := ⟨_, rfl⟩
    rw [hus] at hM3 hul
    have HM3 := Lib.hid hM3
    have HK3 : Hid (Keeps [] w1 w3) := Lib.hid (HK2.out.step k3 (by intro k hk; simp at hk; omega))
    have HUL := Lib.hid hul
    clear hM3 k3 hus HM2 HK2
    go_wp2_with fail
    refine (all_own m b us w3 HM3.out).mono ?_
    rintro e w4 ⟨g1, cap1, rfl, ho1, k4, hg1⟩
    rw [HUL.out] at ho1 ⊢
    have hcap1 : nn ≤ cap1 ∧ cap1 ≤ maxLen := by
      rcases ho1.2 with ⟨he, -⟩ | ⟨g', cap', cur, he, -, -, h1, h2, -⟩
      · cases he
      · cases he; exact ⟨h1, h2⟩
    unfold maxLen at hcap1
    obtain ⟨hcap2, hcap3⟩ := hcap1
    have HR1 := Lib.hid (Row.of_owns ho1)
    have HM4 := Lib.hid (HM3.out.keeps k4 (by simp) (by simp))
    have HK4 : Hid (Keeps [] w1 w4) := Lib.hid (HK3.out.trans k4)
    have s13 := HK3.out.size
    have s34 := k4.size
    have hg14 := HR1.out.lt
    have hml2 := HM3.out.lt
    have hml3 := HM4.out.lt
    have HRR := Lib.hid (fun W => refRight_any at_ N W)
    have HNil := Lib.hid (fun W => init_err none at_ N first 1 W bf.2 (by decide) (fun W' _ => refused_nil at_ N (arFits N first) W'))
    have HBx : Hid (∀ W, Keeps [] w1 W → W.cell? ⟨ab, 0, none⟩ = some (.int .i64 at_) ∧ W.cell? ⟨ab, 1, none⟩ = some (.int .i64 N) ∧ ab < W.heap.size) := Lib.hid fun W hk =>
      ⟨(hk.cell (p := ⟨ab, 0, none⟩) hablt (by simp)).trans c0, (hk.cell (p := ⟨ab, 1, none⟩) hablt (by simp)).trans c1, Nat.lt_of_lt_of_le hablt hk.size⟩
    obtain ⟨b40, b41, b42⟩ := HBx.out w4 HK4.out
    clear ho1 k4 HM3 HK3
    by_cases hgood : arRight at_ N ∧ 1 ≤ first ∧ first ≤ N + 1 ∧ at_ + N < nn
    · obtain ⟨⟨r1, r2, r3, r4⟩, f1, f2, hpl⟩ := hgood
      obtain ⟨a, rfl⟩ : ∃ a : Nat, at_ = (a : Int) := ⟨at_.toNat, by omega⟩
      obtain ⟨NN, rfl⟩ : ∃ NN : Nat, N = (NN : Int) := ⟨N.toNat, by omega⟩
      obtain ⟨f, rfl⟩ : ∃ f : Nat, first = (f : Int) := ⟨first.toNat, by omega⟩
      have hul := HUL.out
      have NI := init_any m b a NN f us w4 HM4.out ⟨r1, r2, r3, r4⟩ (by omega) (by omega) (by omega)
      have hR : arRight (a : Int) (NN : Int) := ⟨r1, r2, r3, r4⟩
      have HRt := Lib.hid hR
      rw [decide_eq_true hR] at HRR
      clear hR
      have d6 : decide ((f : Int) < 1) = false := decide_eq_false (by omega)
      have d7 : decide ((NN : Int) + 1 < (f : Int)) = false := decide_eq_false (by omega)
      have d8 : decide ((nn : Int) ≤ (a : Int) + (NN : Int)) = false := decide_eq_false (by omega)
      have hNN : NN ≤ 4096 := by omega
      have ha6 : a < 65536 := by omega
      have hpl2 : a + NN < nn := by omega
      have f3 : 1 ≤ f := by omega
      have f4 : f ≤ NN + 1 := by omega
      clear r4 hul
      go_wp2_with fail
      refine NI.mono ?_
      clear NI
      rintro e w5 ⟨rfl, hM5, k5⟩
      obtain ⟨vs, hvs⟩ : ∃ vs, laidAt us (arRow NN f NN) a (NN + 1) = vs := ⟨_, rfl⟩
      have HVS := Lib.hid hvs
      have hvl : vs.length = nn := by rw [← hvs, laidAt_len]; exact HUL.out
      have HVL := Lib.hid hvl
      rw [hvs] at hM5
      have HM5 := Lib.hid hM5
      have HK5 : Hid (Keeps [] w1 w5) := Lib.hid (HK4.out.step k5 (by intro k hk; simp at hk; omega))
      have HR15 := Lib.hid (HR1.out.keeps k5 (by simp; omega))
      have s45 := k5.size
      obtain ⟨b50, b51, b52⟩ := HBx.out w5 HK5.out
      clear hvs hvl hM5 k5 HM4 HR1 b40 b41 b42
      go_wp2_with fail
      refine (HRR.out w5).mono ?_
      rintro e w' ⟨rfl, rfl⟩
      go_wp2_with fail
      refine (HNil.out w5).mono ?_
      rintro e w6 ⟨rfl, k6⟩
      have HM6 := Lib.hid (HM5.out.keeps k6 (by simp) (by simp))
      have HK6 := Lib.hid (HK5.out.trans k6)
      have HR16 := Lib.hid (HR15.out.keeps k6 (by simp))
      have s56 := k6.size
      clear k6 HM5 HR15 b50 b51 b52
      go_wp2_with fail
      refine (all_own m b vs w6 HM6.out).mono ?_
      rintro e w7 ⟨g2, cap2, rfl, ho2, k7, hg2⟩
      rw [HVL.out] at ho2 ⊢
      have HR27 := Lib.hid (Row.of_owns ho2)
      have HM7 := Lib.hid (HM6.out.keeps k7 (by simp) (by simp))
      have HK7 := Lib.hid (HK6.out.trans k7)
      have HR17 := Lib.hid (HR16.out.keeps k7 (by simp))
      have s67 := k7.size
      obtain ⟨b70, b71, b72⟩ := HBx.out w7 HK7.out
      clear ho2 k7 HM6 HR16 HK6
      go_wp2_with fail
      refine (refInit_any NN f w7 hNN f3 f4).mono ?_
      rintro e w8 ⟨g3, rfl, hr3, k8, hg3⟩
      have HR38 := Lib.hid hr3
      have HR28 := Lib.hid (HR27.out.keeps k8 (by simp))
      have HR18 := Lib.hid (HR17.out.keeps k8 (by simp))
      have HM8 := Lib.hid (HM7.out.keeps k8 (by simp) (by simp))
      have HK8 := Lib.hid (HK7.out.trans k8)
      have s78 := k8.size
      have hg1l := HR17.out.lt
      have hg2l := HR27.out.lt
      obtain ⟨b80, b81, b82⟩ := HBx.out w8 HK8.out
      clear hr3 k8 HM7 HR17 HR27 HK7 b70 b71 b72
      have i1 : (a : Int) ≤ (nn : Int) := by omega
      have i2 : (0 : Int) ≤ (a : Int) := by omega
      have i3 : a ≤ nn := by omega
      have i4 : (nn : Int) ≤ (cap1 : Int) := by omega
      have hlu : (ints .u64 us).length = nn := by rw [ints_length]; exact HUL.out
      have hlr : (ints .u64 (arRow NN f NN)).length = NN + 1 := by rw [ints_length, arRow_len]
      have hl1 : a + (nn - a) ≤ (ints .u64 us).length := by omega
      have hl2 : NN + 1 ≤ nn - a := by omega
      have hone := ints_oneCell .u64 (arRow NN f NN)
      have HLu := Lib.hid (⟨hlu, hlr, hl1, hl2⟩ : _ ∧ _ ∧ _ ∧ _)
      have HOne := Lib.hid hone
      clear hlu hlr hl1 hl2 hone
      go_wp2_with (refine wpList_copy_at rfl (.tmp 111) (.tmp 112) 37 rfl 64 Try.underlying37 (by kernel_rfl) g1 a (nn - a) (cap1 - a) (ints .u64 us) rfl HR18.out HLu.out.2.2.1 g3 (NN + 1) (NN + 1) (ints .u64 (arRow NN f NN)) rfl HR38.out HLu.out.2.1 HOne.out HLu.out.2.2.2 ?_)
      intro w9 hr9 k9 hs9
      have hvs9 : Row w9 g1 64 (ints .u64 vs) := by
        have h1 := laidAt_all us (arRow NN f NN) a (by rw [arRow_len, HUL.out]; omega)
        rw [arRow_len, HVS.out] at h1
        rw [← h1, ← ints_app, ← ints_app, ← ints_take, ← ints_drop]
        exact hr9
      have hg13 : g3 ≠ g1 ∧ g2 ≠ g1 ∧ m ≠ g1 ∧ b ≠ g1 := by omega
      have HR19 := Lib.hid hvs9
      have HR39 := Lib.hid (HR38.out.keeps k9 (by simpa using hg13.1))
      have HR29 := Lib.hid (HR28.out.keeps k9 (by simpa using hg13.2.1))
      have HM9 := Lib.hid (HM8.out.keeps k9 (by simpa using hg13.2.2.1) (by simpa using hg13.2.2.2))
      have HK9 : Hid (Keeps [] w1 w9) := Lib.hid (HK8.out.step k9 (by intro k hk; simp at hk; omega))
      obtain ⟨b90, b91, b92⟩ := HBx.out w9 HK9.out
      have hF : ∀ x, x ≤ NN → vs.getD (a + x) 0 % 4294967296 = arLink NN f NN x := fun x hx => by
        rw [← HVS.out, laidAt_at _ _ _ _ _ (by rw [HUL.out]; omega), if_pos (by omega), Nat.add_sub_cancel_left, arRow_at _ _ _ _ hx]
        exact arLink_num hNN f4
      have hF0 : vs.getD a 0 % 4294967296 = ((arFree NN f).headD 0 : Nat) := by
        have := hF 0 (by omega)
        rw [Nat.add_zero] at this
        rw [this, arFree_head]
        unfold arLink
        rw [if_pos rfl]
        by_cases h : f ≤ NN
        · rw [if_pos h, if_pos h]
        · rw [if_neg h, if_neg h]; rfl
      have hFc : ∀ k x, (arFree NN f)[k]? = some x → vs.getD (a + x) 0 % 4294967296 = (((arFree NN f)[k + 1]?).getD 0 : Nat) := fun k x hk => by
        rw [hF x (arFree_mem f3 (List.mem_of_getElem? hk)).2]
        exact arChain f3 k x hk
      have NF := free_any m b a NN vs (arFree NN f) w9 HM9.out HRt.out (by rw [HVL.out]; omega) hF0 hFc (fun x hx => arFree_mem f3 hx) (by rw [arFree_len]; omega)
      have hG : ∀ x, x ≤ NN → (arRow NN f NN).getD x 0 % 4294967296 = arLink NN f NN x := fun x hx => by
        rw [arRow_at _ _ _ _ hx]; exact arLink_num hNN f4
      have hG0 : (arRow NN f NN).getD 0 0 % 4294967296 = ((arFree NN f).headD 0 : Nat) := by
        have h1 := hF 0 (by omega)
        rw [Nat.add_zero, hF0] at h1
        rw [hG 0 (by omega), ← h1]
      have NR := fun W h => refFree_any g3 (NN + 1) (NN + 1) (arRow NN f NN) (arFree NN f) W h (arRow_len _ _ _) (by omega) (by omega) (arRow_top hNN f4) hG0 (fun k x hk => by
        rw [hG x (arFree_mem f3 (List.mem_of_getElem? hk)).2]
        exact arChain f3 k x hk) (fun x hx => by have := arFree_mem f3 hx; omega) (arFree_nodup _ _) (by rw [arFree_len]; omega)
      have HNR := Lib.hid NR
      obtain ⟨F, hFF⟩ : ∃ F, arFree NN f = F := ⟨_, rfl⟩
      have hlenF : ((F.length : Nat) : Int) = (NN : Int) + 1 - (f : Int) := by rw [← hFF, arFree_len]; omega
      have hmaxF : F.length ≤ 5000 := by rw [← hFF, arFree_len]; omega
      rw [hFF] at NF HNR
      have hs89 : w8.heap.size ≤ w9.heap.size := k9.size
      clear hr9 k9 hvs9 hF hF0 hFc hG hG0 NR hFF HR18 HR38 HR28 HM8 HK8 b80 b81 b82
      go_wp2_with fail
      refine NF.mono ?_
      clear NF
      rintro e w10 ⟨fv, rfl, hof, k10⟩
      obtain ⟨pf, cf, rfl⟩ := (Sl.of_owns hof).len
      have HF10 := Lib.hid (Sl.of_owns hof)
      have HR110 := Lib.hid (HR19.out.keeps k10 (by simp))
      have HR210 := Lib.hid (HR29.out.keeps k10 (by simp))
      have HR310 := Lib.hid (HR39.out.keeps k10 (by simp))
      have HK10 := Lib.hid (HK9.out.trans k10)
      clear hof k10 HR19 HR29 HR39 HK9 b90 b91 b92
      go_wp2_with fail
      refine (HNR.out w10 HR310.out).mono ?_
      rintro e w11 ⟨fv2, rfl, hof2, k11⟩
      obtain ⟨pf2, cf2, rfl⟩ := (Sl.of_owns hof2).len
      have HF11 := Lib.hid (HF10.out.keeps k11 (by simp))
      have HG11 := Lib.hid (Sl.of_owns hof2)
      have HR111 := Lib.hid (HR110.out.keeps k11 (by simp))
      have HR211 := Lib.hid (HR210.out.keeps k11 (by simp))
      have HK11 := Lib.hid (HK10.out.trans k11)
      obtain ⟨b110, b111, b112⟩ := HBx.out w11 HK11.out
      clear hof2 k11 HR110 HR210 HR310 HK10 HF10 HNR
      have hb1 : ((F.length : Int) == (NN : Int) + 1 - (f : Int)) = true := beq_iff_eq.2 hlenF
      have HLF := Lib.hid hlenF
      clear hlenF
      go_wp2_with fail
      refine (sameWords_any _ _ nn nn vs vs w11 (by unfold maxLen; omega) (by unfold maxLen; omega) (HR211.out.sl (by rw [ints_length, HVL.out]; omega)) (HR111.out.sl (by rw [ints_length, HVL.out]; omega))).mono ?_
      rintro e w12 ⟨rfl, m12, hw12⟩
      have k12 : Keeps [] w11 w12 := by rw [← hw12]; exact (Keeps.refl _ _).drewN
      rw [decide_eq_true (rfl : vs = vs)]
      have HF12 := Lib.hid (HF11.out.keeps k12 (by simp))
      have HG12 := Lib.hid (HG11.out.keeps k12 (by simp))
      have HK12 := Lib.hid (HK11.out.trans k12)
      obtain ⟨b120, b121, b122⟩ := HBx.out w12 HK12.out
      clear k12 hw12 HF11 HG11 HK11 HR111 HR211 b110 b111 b112
      go_wp2_with fail
      refine (sameInts_any _ _ F.length F.length (F.map fun x : Nat => (x : Int)) (F.map fun x : Nat => (x : Int)) w12 (by unfold maxLen; omega) (by unfold maxLen; omega) HF12.out HG12.out).mono ?_
      rintro e w13 ⟨rfl, m13, hw13⟩
      have k13 : Keeps [] w12 w13 := by rw [← hw13]; exact (Keeps.refl _ _).drewN
      rw [decide_eq_true (rfl : (F.map fun x : Nat => (x : Int)) = F.map fun x : Nat => (x : Int))]
      have HK13 := Lib.hid (HK12.out.trans k13)
      obtain ⟨b130, b131, b132⟩ := HBx.out w13 HK13.out
      clear k13 hw13 HF12 HG12 HK12 b120 b121 b122
      go_wp2
      go_ret
      exact ⟨rfl, (HK1.out.trans HK13.out).end⟩
    · have HBad : Hid ((decide (arRight at_ N) = false ∧ arRefused at_ N us.length (arFits N first) = 2) ∨
          ((decide (arRight at_ N) = true ∧ 1 ≤ N ∧ N ≤ 4096 ∧ 0 ≤ at_ ∧ at_ < 65536) ∧ decide (first < 1) = true ∧ arRefused at_ N us.length (arFits N first) = 2) ∨
          ((decide (arRight at_ N) = true ∧ 1 ≤ N ∧ N ≤ 4096 ∧ 0 ≤ at_ ∧ at_ < 65536) ∧ decide (first < 1) = false ∧ decide (N + 1 < first) = true ∧ arRefused at_ N us.length (arFits N first) = 2) ∨
          ((decide (arRight at_ N) = true ∧ 1 ≤ N ∧ N ≤ 4096 ∧ 0 ≤ at_ ∧ at_ < 65536) ∧ decide (first < 1) = false ∧ decide (N + 1 < first) = false ∧ decide ((nn : Int) ≤ at_ + N) = true ∧ arRefused at_ N us.length (arFits N first) = 3)) := Lib.hid (by
        by_cases hr : arRight at_ N
        · obtain ⟨r1, r2, r3, r4⟩ := hr
          have hd : decide (arRight at_ N) = true := decide_eq_true ⟨r1, r2, r3, r4⟩
          right
          by_cases hf : first < 1
          · left
            refine ⟨⟨hd, r1, r2, r3, by omega⟩, decide_eq_true hf, ?_⟩
            unfold arRefused
            rw [if_neg]
            rintro ⟨h, -⟩
            simp [arFits] at h
            omega
          · right
            by_cases hf2 : N + 1 < first
            · left
              refine ⟨⟨hd, r1, r2, r3, by omega⟩, decide_eq_false hf, decide_eq_true hf2, ?_⟩
              unfold arRefused
              rw [if_neg]
              rintro ⟨h, -⟩
              simp [arFits] at h
              omega
            · right
              have hpl : (nn : Int) ≤ at_ + N := by
                rcases Int.lt_or_le (at_ + N) nn with h | h
                · exact absurd ⟨⟨r1, r2, r3, r4⟩, by omega, by omega, h⟩ hgood
                · exact h
              refine ⟨⟨hd, r1, r2, r3, by omega⟩, decide_eq_false hf, decide_eq_false hf2, decide_eq_true hpl, ?_⟩
              unfold arRefused
              rw [if_pos ⟨by simp [arFits]; omega, r1, r2, r3, r4⟩, HUL.out, if_pos hpl]
        · left
          refine ⟨decide_eq_false hr, ?_⟩
          unfold arRefused
          rw [if_neg (fun h => hr h.2)])
      have HE : Hid (∀ c, c ≠ 0 → arRefused at_ N us.length (arFits N first) = c → Calls Try.prog 19 #[.agg #[.int .i64 at_, .int .i64 N], .pointer (some ⟨m, 0, none⟩), .int .i64 first] w4 fun e w' => e = .returned (.int .i64 c) ∧ Keeps [] w4 w') := Lib.hid fun c hc0 hc =>
        init_err (some m) at_ N first c w4 bf.2 hc0 (fun W hk => by
          have := refused_any m b us at_ N (arFits N first) W (HM4.out.keeps hk (by simp) (by simp))
          rw [hc] at this
          exact this)
      clear hgood
      rcases HBad.out with ⟨dR, hc⟩ | ⟨⟨dR, r1, r2, r3, r4⟩, d6, hc⟩ | ⟨⟨dR, r1, r2, r3, r4⟩, d6, d7, hc⟩ | ⟨⟨dR, r1, r2, r3, r4⟩, d6, d7, d8, hc⟩
      all_goals
        have NI := HE.out _ (by decide) hc
        rw [dR] at HRR
        clear hc dR HBad
        go_wp2_with fail
        refine NI.mono ?_
        clear NI
        rintro e w5 ⟨rfl, k5⟩
        have HM5 := Lib.hid (HM4.out.keeps k5 (by simp) (by simp))
        have HK5 := Lib.hid (HK4.out.trans k5)
        have HR15 := Lib.hid (HR1.out.keeps k5 (by simp))
        obtain ⟨b50, b51, b52⟩ := HBx.out w5 HK5.out
        clear k5 HM4 HR1 b40 b41 b42
        go_wp2_with fail
        refine (HRR.out w5).mono ?_
        rintro e w' ⟨rfl, rfl⟩
        go_wp2_with fail
        refine (HNil.out w5).mono ?_
        rintro e w6 ⟨rfl, k6⟩
        have HM6 := Lib.hid (HM5.out.keeps k6 (by simp) (by simp))
        have HK6 := Lib.hid (HK5.out.trans k6)
        have HR16 := Lib.hid (HR15.out.keeps k6 (by simp))
        clear k6 HM5 HR15 b50 b51 b52
        go_wp2_with fail
        refine (all_own m b us w6 HM6.out).mono ?_
        rintro e w7 ⟨g2, cap2, rfl, ho2, k7, hg2⟩
        rw [HUL.out] at ho2 ⊢
        have HR27 := Lib.hid (Row.of_owns ho2)
        have HK7 := Lib.hid (HK6.out.trans k7)
        have HR17 := Lib.hid (HR16.out.keeps k7 (by simp))
        clear ho2 k7 HM6 HR16 HK6
        go_wp2_with fail
        refine (sameWords_any _ _ nn nn us us w7 (by unfold maxLen; omega) (by unfold maxLen; omega) (HR27.out.sl (by rw [ints_length, HUL.out]; omega)) (HR17.out.sl (by rw [ints_length, HUL.out]; omega))).mono ?_
        rintro e w8 ⟨rfl, m8, rfl⟩
        rw [decide_eq_true (rfl : us = us)]
        go_wp2
        go_ret
        exact ⟨rfl, (HK1.out.trans (HK7.out.drewN)).end⟩

set_option maxRecDepth 100000 in
theorem lifted (os : Os) (started : os.Started) (H : Type) (enc : TypeId × Value → H) :
    ReturnsInHanded {} Try.checked os 4 .any (Rows.arenaInitsSpec.pre6 enc Try.prog Try.f4 Rows.arenaInitsRow.domain false) (Rows.arenaInitsSpec.post enc Try.prog Try.f4 false true false false) := by
  refine returnsInHanded_of_change (C := Try.checked) own started (by kernel_rfl) Try.func4
    (ChangeSpec.witness6 (enc := enc) (C := Try.checked) false ⟨#[], #[.int .i64 0, .slice none 0 0, .agg #[.int .i64 0, .int .i64 0], .int .i64 0], []⟩ 8 (by kernel_rfl) (by kernel_rfl) (by kernel_rfl) (by kernel_rfl)) ?_
  intro W base args ds gs before hval0 hW hcnd _
  have hval : ∀ (j : Nat) t v, Try.f4.params[j]? = some t → args[j]? = some v → Value.okWide Try.prog W .any base t v := hval0
  have hW' := hW
  obtain ⟨p, q, hA0, hV, rfl, hfz, hnd⟩ := hW
  have hA : DataW.TrodAll enc Try.prog W 0 (fun _ => true) true Try.f4.params.toList args.toList ds p := hA0
  rw [Try.params4] at hA hval
  obtain ⟨v0, vs0, d0, ds0, q0, qs0, hargs, rfl, rfl, h0, r0⟩ := trodAll_cons hA
  obtain ⟨v1, vs1, d1, ds1, q1, qs1, rfl, rfl, rfl, h1, r1⟩ := trodAll_cons r0
  obtain ⟨v2, vs2, d2, ds2, q2, qs2, rfl, rfl, rfl, h2, r2⟩ := trodAll_cons r1
  obtain ⟨v3, vs3, d3, ds3, q3, qs3, rfl, rfl, rfl, h3, r3⟩ := trodAll_cons r2
  obtain ⟨rfl, rfl, rfl⟩ := trodAll_nil r3
  obtain rfl : args = #[v0, v1, v2, v3] := by cases args; simp_all
  obtain ⟨rfl, rfl⟩ := trodVars_none hV
  obtain ⟨a0, rfl, rfl, rfl, w0⟩ := open_int Try.underlying3 (hval 0 3 v0 rfl rfl) h0
  obtain ⟨p1, n1, c1, rfl⟩ := okWide_slice Try.underlying37 (hval 1 37 v1 rfl rfl)
  have k1 := h1
  have lt1 : ∀ x ∈ q1, x.block < W.heap.size := by obtain ⟨m, hm⟩ := k1; exact DataW.trod_lt m _ _ _ hm
  obtain ⟨z1, s1, m1, b1⟩ := (by obtain ⟨fu, hf⟩ := h1; exact sl_ints Try.underlying37 Try.underlying64 (by kernel_rfl) hf : ∃ zs : List Int, Sl W 1 (.slice p1 n1 c1) n1 (ints .u64 zs) ∧ n1 ≤ maxLen ∧ ∀ z ∈ zs, (Lit.int .u64 z).wf = true)
  have k2 := h2
  have lt2 : ∀ x ∈ q2, x.block < W.heap.size := by obtain ⟨m, hm⟩ := k2; exact DataW.trod_lt m _ _ _ hm
  obtain ⟨a2, n2, rfl, b2, c2⟩ := open_arena (hval 2 23 v2 rfl rfl) h2
  obtain ⟨a3, rfl, rfl, rfl, w3⟩ := open_int Try.underlying3 (hval 3 3 v3 rfl rfl) h3
  clear hA0 hval0
  simp only [List.append_nil] at hW'
  refine (walk a0 p1 n1 c1 z1 a2 n2 a3 W w0 s1 m1 b1 b2 c2 w3).mono fun e W' ⟨he, bel⟩ => ?_
  subst he
  exact ⟨_, rfl, _, _, _, [], _, [], hW', trodAll_mk1 (shut_bool Try.underlying4 _), (trodAll_cons_mk (shut_int Try.underlying3 w0) (trodAll_cons_mk (Below.trod laidOut (by kernel_rfl) (of_decide_eq_true (by kernel_rfl)) k1 bel lt1) (trodAll_cons_mk (Below.trod laidOut (by kernel_rfl) (of_decide_eq_true (by kernel_rfl)) k2 bel lt2) (trodAll_cons_mk (shut_int Try.underlying3 w3) trodAll_mk0)))), rfl, bel.frame _, fun h => by cases h⟩

theorem proved : Rows.ArenaInitsSaid :=
  OpenClaim.holds_of_wide 4 Try.f4 rfl rfl rfl rfl rfl rfl rfl ⟨rfl, rfl, rfl, rfl, rfl⟩ rfl rfl rfl rfl rfl (by kernel_rfl) Try.func4 (by kernel_rfl)
    (of_decide_eq_true (by kernel_rfl)) (by unfold Func.isWrapper; first | (rw [if_pos (by decide +kernel)]; kernel_rfl) | (rw [if_neg (by decide +kernel)]; exact ⟨rfl, rfl⟩))
    (fun os started H enc _ => lifted os started H enc)
#print axioms proved
end Go.Proofs.Ytgpfknoddljopaa.arenaInits
