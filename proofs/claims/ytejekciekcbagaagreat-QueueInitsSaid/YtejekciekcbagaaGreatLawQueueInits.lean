/-
  The law QueueInits of the statements holds for every input: the call returns true, and the arguments read as before.
-/
import Derived.Test.YtejekciekcbagaaGreatQuC
import Derived.Test.YtejekciekcbagaaGreatQuF
import Derived.Test.YtejekciekcbagaaGreatRef9a
import Derived.Test.YtejekciekcbagaaGreatRef9i
import Derived.Test.YtejekciekcbagaaGreatArG
import Derived.Test.YtejekciekcbagaaGreatOpenA
import Derived.Test.YtejekciekcbagaaGreatLook
import Derived.Test.YtejekciekcbagaaGreatOpen
import Derived.Test.YtejekciekcbagaaGreatAcc
import Derived.Test.YtejekciekcbagaaGreatMem3
import Derived.IntWalk
import Derived.Test.YtejekciekcbagaaGreatRows
import Derived.WalkKit
import Derived.ProofKit
import Derived.OpenShut
import Derived.ShutString
import Derived.ChangeOld
import Derived.Below
import Derived.Test.YtejekciekcbagaaGreatOpen
namespace Go.Proofs.YtejekciekcbagaaGreat.queueInits
open Go.ChangeShapes Go.WideShapes Go.ChangeAt Go.RowKit
open Go.ChangeMaps (open_string shut_string)
set_option linter.unusedVariables false
set_option linter.unusedSimpArgs false

theorem own : ownKnob Tryz.prog.godebug = none := by kernel_rfl
theorem laidOut : laidOutB Tryz.prog = true := by kernel_rfl

-- caps
theorem allOf_new (us : List Int) (a n : Nat) (h2 : 2 ≤ n) (hl : a + 3 * n + 2 < us.length) : quAllOf (laidAt us (quRow n) a (3 * n + 3)) a n = some [] := by
  have hg : ∀ j, j < 3 * n + 3 → (laidAt us (quRow n) a (3 * n + 3)).getD (a + j) 0 = (quRow n).getD j 0 := fun j hj => by
    rw [laidAt_at _ _ _ _ _ (by omega), if_pos (by omega), Nat.add_sub_cancel_left]
  have h0 := hg 0 (by omega)
  rw [quRow_at _ _ (by omega), if_pos (by omega)] at h0
  simp only [Nat.add_zero] at h0
  have h1 := hg (2 + 2 * n + 1) (by omega)
  rw [quRow_at _ _ (by omega), if_neg (by omega), if_neg (by omega), show a + (2 + 2 * n + 1) = a + 2 + 2 * n + 1 by omega] at h1
  have e : quNx (laidAt us (quRow n) a (3 * n + 3)) a n 1 = 0 := by
    unfold quNx
    rw [show (1 : Int).toNat = 1 from rfl, h1]
    rfl
  unfold quAllOf
  rw [h0, show quNode 1 = 1 from rfl, if_pos (by omega), e]
  cases n - 1 <;> simp [quFollow]

set_option maxHeartbeats 12800000 in
set_option maxRecDepth 200000 in
theorem walk (n : Int) (pp : Option Addr) (q cp : Nat) (zs : List Int) (at_ N : Int) (w : World) (hnw : (Lit.int .i64 n).wf = true) (hsl : Sl w 1 (.slice pp q cp) q (ints .u64 zs)) (hq : q ≤ maxLen) (hz : ∀ z ∈ zs, (Lit.int .u64 z).wf = true) (hcap : q ≤ cp ∧ cp ≤ maxLen)
    (haw : (Lit.int .i64 at_).wf = true) (hNw : (Lit.int .i64 N).wf = true) :
    Calls Tryz.prog 4 #[.int .i64 n, .slice pp q cp, .agg #[.int .i64 at_, .int .i64 N]] w fun e w' => e = .returned (.bool true) ∧ Below w.heap.size w w' := by
  have HSl := Lib.hid hsl
  have hzl := hsl.ints_len
  have HZ : Hid (∀ z ∈ zs, M.U z) := Lib.hid fun z h => M.U.wf (hz z h)
  have bN := Lib.hid (bounds_i64 hNw)
  have ba := Lib.hid (bounds_i64 haw)
  unfold maxLen at hq
  clear hsl hz hnw haw hNw hcap
  obtain ⟨W0, hW0⟩ : ∃ W0, w.alloc (.cells #[.int .i64 at_, .int .i64 N] 23) = W0 := ⟨_, rfl⟩
  have HB0 : Hid (Box W0 w.heap.size #[.int .i64 at_, .int .i64 N]) := Lib.hid (by rw [← hW0]; exact Box.new _ _ _)
  have HK0 : Hid (Keeps [] w W0) := Lib.hid (by rw [← hW0]; exact (Keeps.refl _ _).alloc _)
  go_enter Tryz.func4, Tryz.ntmps4
  go_wp2_with fail
  clear hW0
  refine (awake9 W0).mono ?_
  rintro e w1 ⟨rfl, k1⟩
  have kk1 : Keeps [] W0 w1 := ⟨k1.os, k1.tape, k1.output, k1.size, fun k hk _ => k1.block k hk⟩
  have HB1 := Lib.hid (HB0.out.keeps kk1 (by simp))
  have HK1 := Lib.hid (HK0.out.trans kk1)
  clear k1 kk1 HK0 HB0
  obtain ⟨ab, hab⟩ : ∃ ab, w.heap.size = ab := ⟨_, rfl⟩
  have HAB := Lib.hid hab
  rw [hab] at HB1 ⊢
  have c0 := HB1.out.cells 0
  have c1 := HB1.out.cells 1
  have hablt := HB1.out.lt
  simp at c0 c1
  clear hab
  by_cases h1 : n < 1
  · have d1 : decide (n < 1) = true := decide_eq_true h1
    go_wp2
    go_ret
    exact ⟨rfl, HK1.out.end⟩
  have d1 : decide (n < 1) = false := decide_eq_false h1
  by_cases h2 : 120 < n
  · have d2 : decide (120 < n) = true := decide_eq_true h2
    go_wp2
    go_ret
    exact ⟨rfl, HK1.out.end⟩
  have d2 : decide (120 < n) = false := decide_eq_false h2
  obtain ⟨nn, rfl⟩ : ∃ nn : Nat, n = (nn : Int) := ⟨n.toNat, by omega⟩
  by_cases h3 : (nn : Int) < (q : Int)
  · have d3 : decide ((nn : Int) < (q : Int)) = true := decide_eq_true h3
    go_wp2
    go_ret
    exact ⟨rfl, HK1.out.end⟩
  have d3 : decide ((nn : Int) < (q : Int)) = false := decide_eq_false h3
  by_cases h4 : 30 < N ∧ N ≤ 4096
  · have d4 : decide (30 < N) = true := decide_eq_true h4.1
    have d5 : decide (N ≤ 4096) = true := decide_eq_true h4.2
    go_wp2
    go_ret
    exact ⟨rfl, HK1.out.end⟩
  have NA := Lib.hid (new_any nn w1 (by omega) (by omega))
  have d45 : Hid (decide (30 < N) = false ∨ decide (30 < N) = true ∧ decide (N ≤ 4096) = false) := Lib.hid (by
    by_cases h : 30 < N
    · exact .inr ⟨decide_eq_true h, decide_eq_false (by omega)⟩
    · exact .inl (decide_eq_false h))
  rcases d45.out with d4 | ⟨d4, d5⟩
  all_goals
    go_wp2_with fail
    refine NA.out.mono ?_
    rintro e w2 ⟨m, b, rfl, hM, k2, hm, hb⟩
    have HM2 := Lib.hid hM
    have HK2 := Lib.hid k2
    have hbl2 := hM.lt
    clear hM k2 NA
    go_wp2_with fail
    refine (fill_any m b _ zs _ q w2 HM2.out (HSl.out.below (HK1.out.trans HK2.out).end (Nat.le_refl _)) HZ.out (by unfold maxLen; omega)).mono ?_
    rintro e w3 ⟨rfl, hM3, k3⟩
    have hul : (C.fill (List.replicate nn 0) zs).length = nn := by rw [C.fill_len]; simp
    obtain ⟨us, hus⟩ : ∃ us, C.fill (List.replicate nn 0) zs = us := ⟨_, rfl⟩
    rw [hus] at hM3 hul
    have HM3 := Lib.hid hM3
    have HK3 : Hid (Keeps [] w1 w3) := Lib.hid (HK2.out.step k3 (by intro k hk; simp at hk; omega))
    have HUL := Lib.hid hul
    clear hM3 k3 hus HM2 HK2
    go_wp2_with fail
    refine (all_own m b us w3 HM3.out).mono ?_
    rintro e w4 ⟨g1, cap1, rfl, ho1, k4, hg1⟩
    rw [HUL.out] at ho1 ⊢
    have hcap1 : nn ≤ cap1 ∧ cap1 ≤ maxLen := by
      rcases ho1.2 with ⟨he, -⟩ | ⟨g', cap', cur, he, -, -, h1, h2, -⟩
      · cases he
      · cases he; exact ⟨h1, h2⟩
    unfold maxLen at hcap1
    obtain ⟨hcap2, hcap3⟩ := hcap1
    have HR1 := Lib.hid (Row.of_owns ho1)
    have HM4 := Lib.hid (HM3.out.keeps k4 (by simp) (by simp))
    have HK4 : Hid (Keeps [] w1 w4) := Lib.hid (HK3.out.trans k4)
    have s13 := HK3.out.size
    have s34 := k4.size
    have hg14 := HR1.out.lt
    have hml2 := HM3.out.lt
    have hml3 := HM4.out.lt
    have HRR := Lib.hid (fun W => refRight9_any at_ N W)
    have HNil := Lib.hid (fun W => quInit_nil at_ N W)
    have HBx : Hid (∀ W, Keeps [] w1 W → W.cell? ⟨ab, 0, none⟩ = some (.int .i64 at_) ∧ W.cell? ⟨ab, 1, none⟩ = some (.int .i64 N) ∧ ab < W.heap.size) := Lib.hid fun W hk =>
      ⟨(hk.cell (p := ⟨ab, 0, none⟩) hablt (by simp)).trans c0, (hk.cell (p := ⟨ab, 1, none⟩) hablt (by simp)).trans c1, Nat.lt_of_lt_of_le hablt hk.size⟩
    obtain ⟨b40, b41, b42⟩ := HBx.out w4 HK4.out
    clear ho1 k4 HM3 HK3 c0 c1
    by_cases hgood : quRight at_ N ∧ at_ + 3 * N + 2 < nn
    ·
      -- << good
      obtain ⟨⟨r1, r2, r3, r4⟩, hpl⟩ := hgood
      obtain ⟨a, rfl⟩ : ∃ a : Nat, at_ = (a : Int) := ⟨at_.toNat, by omega⟩
      obtain ⟨NN, rfl⟩ : ∃ NN : Nat, N = (NN : Int) := ⟨N.toNat, by omega⟩
      have hul := HUL.out
      have hrr : quRight (a : Int) (NN : Int) := ⟨r1, r2, r3, r4⟩
      have NI := quInit_ok m b a NN us w4 HM4.out hrr (by omega)
      rw [decide_eq_true hrr] at HRR
      have HRt := Lib.hid hrr
      clear hrr
      have w62 : IntKind.i64.wrap (3 * (NN : Int)) = 3 * (NN : Int) := IntWalk.i64_in _ (by omega)
      have w63 : IntKind.i64.wrap ((a : Int) + 3 * (NN : Int)) = (a : Int) + 3 * (NN : Int) := IntWalk.i64_in _ (by omega)
      have w64 : IntKind.i64.wrap ((a : Int) + 3 * (NN : Int) + 2) = (a : Int) + 3 * (NN : Int) + 2 := IntWalk.i64_in _ (by omega)
      have d8 : decide ((nn : Int) ≤ (a : Int) + 3 * (NN : Int) + 2) = false := decide_eq_false (by omega)
      have hNN : NN ≤ 4096 := by omega
      have hN2 : 2 ≤ NN := by omega
      have ha6 : a < 65536 := by omega
      have hpl2 : a + 3 * NN + 2 < nn := by omega
      have hall : quAllOf (laidAt us (quRow NN) a (3 * NN + 3)) a NN = some [] := allOf_new us a NN hN2 (by omega)
      clear r4 hul
      go_wp2_with fail
      refine NI.mono ?_
      clear NI
      rintro e w5 ⟨rfl, hM5, k5⟩
      obtain ⟨vs, hvs⟩ : ∃ vs, laidAt us (quRow NN) a (3 * NN + 3) = vs := ⟨_, rfl⟩
      have HVS := Lib.hid hvs
      have hvl : vs.length = nn := by rw [← hvs, laidAt_len]; exact HUL.out
      have HVL := Lib.hid hvl
      rw [hvs] at hM5 hall
      have HAll := Lib.hid hall
      have HM5 := Lib.hid hM5
      have HK5 : Hid (Keeps [] w1 w5) := Lib.hid (HK4.out.step k5 (by intro k hk; simp at hk; omega))
      have HR15 := Lib.hid (HR1.out.keeps k5 (by simp; omega))
      have s45 := k5.size
      obtain ⟨b50, b51, b52⟩ := HBx.out w5 HK5.out
      clear hvs hvl hM5 k5 HM4 HR1 b40 b41 b42 hall
      go_wp2_with fail
      refine (all_own m b vs w5 HM5.out).mono ?_
      rintro e w7 ⟨g2, cap2, rfl, ho2, k7, hg2⟩
      rw [HVL.out] at ho2 ⊢
      have HR27 := Lib.hid (Row.of_owns ho2)
      have HM7 := Lib.hid (HM5.out.keeps k7 (by simp) (by simp))
      have HK7 := Lib.hid (HK5.out.trans k7)
      have HR17 := Lib.hid (HR15.out.keeps k7 (by simp))
      have s67 := k7.size
      obtain ⟨b70, b71, b72⟩ := HBx.out w7 HK7.out
      clear ho2 k7 HM5 HR15 HK5 b50 b51 b52
      have QA := quAll_any m b a NN vs w7 HM7.out HRt.out (by rw [HVL.out]; omega)
      go_wp2_with fail
      refine QA.mono ?_
      clear QA
      rintro e w8 ⟨k8, ht8⟩
      obtain ⟨l8, rfl, ho8⟩ := ht8.2 [] HAll.out
      obtain ⟨p8, c8, rfl⟩ := (Sl.of_owns ho8).len
      have HR28 := Lib.hid (HR27.out.keeps k8 (by simp))
      have HR18 := Lib.hid (HR17.out.keeps k8 (by simp))
      have HK8 := Lib.hid (HK7.out.trans k8)
      have s78 := k8.size
      obtain ⟨b80, b81, b82⟩ := HBx.out w8 HK8.out
      clear ho8 ht8 k8 HM7 HR27 HR17 HK7 b70 b71 b72
      go_wp2_with fail
      refine (HNil.out w8).mono ?_
      rintro e w9 ⟨rfl, k9⟩
      have HR29 := Lib.hid (HR28.out.keeps k9 (by simp))
      have HR19 := Lib.hid (HR18.out.keeps k9 (by simp))
      have HK9 := Lib.hid (HK8.out.trans k9)
      have s89 := k9.size
      obtain ⟨b90, b91, b92⟩ := HBx.out w9 HK9.out
      clear k9 HR28 HR18 HK8 b80 b81 b82
      go_wp2_with fail
      refine (HRR.out w9).mono ?_
      rintro e w' ⟨rfl, rfl⟩
      have hg1l := HR19.out.lt
      have hg2l := HR29.out.lt
      have i1 : (a : Int) ≤ (nn : Int) := by omega
      have i2 : (0 : Int) ≤ (a : Int) := by omega
      have i3 : a ≤ nn := by omega
      have i4 : (nn : Int) ≤ (cap1 : Int) := by omega
      have hlu : (ints .u64 us).length = nn := by rw [ints_length]; exact HUL.out
      have hlr : (ints .u64 (quRow NN)).length = 3 * NN + 3 := by rw [ints_length, quRow_len]
      have hl1 : a + (nn - a) ≤ (ints .u64 us).length := by omega
      have hl2 : 3 * NN + 3 ≤ nn - a := by omega
      have hone := ints_oneCell .u64 (quRow NN)
      have HLu := Lib.hid (⟨hlu, hlr, hl1, hl2⟩ : _ ∧ _ ∧ _ ∧ _)
      have HOne := Lib.hid hone
      have hg12 : g2 ≠ g1 := by omega
      clear hlu hlr hl1 hl2 hone
      go_wp2
      have hkd := HK9.out.drew
      go_region_held3 (fun w' => w'.cell? ⟨ab, 0, none⟩ = some (.int .i64 (a : Int)) ∧ w'.cell? ⟨ab, 1, none⟩ = some (.int .i64 (NN : Int)))
        (first
          | exact ⟨b110, b111⟩
          | exact ⟨b100, b101⟩
          | exact ⟨b90, b91⟩
          | fail)
        (first
          | (go_at_call 26; refine (refInit9_any NN _ hN2 hNN).mono ?_; rintro e w10 ⟨g3, cap3, rfl, hr3, k10', hg3⟩; have k10 := k10'.undrew; have HR310 := Lib.hid hr3; have HR210 := Lib.hid (HR29.out.keeps k10 (by simp)); have HR110 := Lib.hid (HR19.out.keeps k10 (by simp)); have HK10 := Lib.hid (HK9.out.trans k10); have s910 := k10.size; obtain ⟨b100, b101, b102⟩ := HBx.out w10 HK10.out; clear hr3 k10 k10')
          | (rw [if_pos (by rfl)]; refine wp_copy_at (.tmp 118) (.tmp 121) 24 rfl 64 Tryz.underlying24 (by kernel_rfl) g1 a (nn - a) (cap1 - a) (ints .u64 us) rfl HR110.out HLu.out.2.2.1 g3 (3 * NN + 3) cap3 (ints .u64 (quRow NN)) rfl HR310.out HLu.out.2.1 HOne.out HLu.out.2.2.2 ?_; intro w11 hr11 k11 hs11; have HR11a := Lib.hid hr11; have HR211 := Lib.hid (HR210.out.keeps k11 (by simpa using hg12)); have HK11 : Hid (Keeps [] w1 w11) := Lib.hid (HK10.out.step k11 (by intro k hk; simp at hk; omega)); obtain ⟨b110, b111, b112⟩ := HBx.out w11 HK11.out; clear hr11 k11)
          | fail)
      have HR111 : Hid (Row w11 g1 64 (ints .u64 vs)) := Lib.hid (by
        have h1 := laidAt_all us (quRow NN) a (by rw [quRow_len, HUL.out]; omega)
        rw [quRow_len, HVS.out] at h1
        rw [← h1, ← ints_app, ← ints_app, ← ints_take, ← ints_drop]
        exact HR11a.out)
      clear HR11a
      go_wp2_with fail
      refine (sameWords_any _ _ nn nn vs vs w11 (by unfold maxLen; omega) (by unfold maxLen; omega) (HR211.out.sl (by rw [ints_length, HVL.out]; omega)) (HR111.out.sl (by rw [ints_length, HVL.out]; omega))).mono ?_
      rintro e w12 ⟨rfl, m12, hw12⟩
      have k12 : Keeps [] w11 w12 := by rw [← hw12]; exact (Keeps.refl _ _).drewN
      rw [decide_eq_true (rfl : vs = vs)]
      have HK12 := Lib.hid (HK11.out.trans k12)
      clear k12 hw12 HK11 HR111 HR211
      go_wp2
      go_ret
      exact ⟨rfl, (HK1.out.trans HK12.out).end⟩
      -- >> good
    ·
      -- << bad
      have HBad : Hid (∃ c : Int, (c = 2 ∧ decide (quRight at_ N) = false ∨ c = 3 ∧ decide (quRight at_ N) = true ∧ decide ((nn : Int) ≤ at_ + 3 * N + 2) = true ∧ IntKind.i64.wrap (3 * N) = 3 * N ∧ IntKind.i64.wrap (at_ + 3 * N) = at_ + 3 * N ∧ IntKind.i64.wrap (at_ + 3 * N + 2) = at_ + 3 * N + 2) ∧
          c = (if quRight at_ N then (if (us.length : Int) ≤ at_ + 3 * N + 2 then 3 else 0) else 2)) := Lib.hid (by
        by_cases hr : quRight at_ N
        · obtain ⟨r1, r2, r3, r4⟩ := hr
          have hrr : quRight at_ N := ⟨r1, r2, r3, r4⟩
          have hl : (nn : Int) ≤ at_ + 3 * N + 2 := by
            by_cases h : (nn : Int) ≤ at_ + 3 * N + 2
            · exact h
            · exact absurd ⟨hrr, by omega⟩ hgood
          exact ⟨3, .inr ⟨rfl, decide_eq_true hrr, decide_eq_true hl, IntWalk.i64_in _ (by omega), IntWalk.i64_in _ (by omega), IntWalk.i64_in _ (by omega)⟩, by rw [if_pos hrr, if_pos (by rw [HUL.out]; exact hl)]⟩
        · exact ⟨2, .inl ⟨rfl, decide_eq_false hr⟩, by rw [if_neg hr]⟩)
      clear hgood
      obtain ⟨c, hcs, hcc⟩ := HBad.out
      have hc0 : c ≠ 0 := by rcases hcs with ⟨h, -⟩ | ⟨h, -⟩ <;> omega
      have NI := Lib.hid (quInit_refused m b us at_ N c w4 HM4.out hcc hc0)
      have HQA := Lib.hid (fun W (h : Mem W m b us) => quAll_refused m b us at_ N c W h hcc hc0)
      have HCS := Lib.hid hcs
      clear hcs hcc HBad hc0
      go_wp2_with fail
      refine NI.out.mono ?_
      clear NI
      rintro e w5 ⟨rfl, k5⟩
      have HM5 := Lib.hid (HM4.out.keeps k5 (by simp) (by simp))
      have HK5 := Lib.hid (HK4.out.trans k5)
      have HR15 := Lib.hid (HR1.out.keeps k5 (by simp))
      obtain ⟨b50, b51, b52⟩ := HBx.out w5 HK5.out
      clear k5 HM4 HR1 b40 b41 b42 HK4
      go_wp2_with fail
      refine (all_own m b us w5 HM5.out).mono ?_
      rintro e w7 ⟨g2, cap2, rfl, ho2, k7, hg2⟩
      rw [HUL.out] at ho2 ⊢
      have HR27 := Lib.hid (Row.of_owns ho2)
      have HM7 := Lib.hid (HM5.out.keeps k7 (by simp) (by simp))
      have HK7 := Lib.hid (HK5.out.trans k7)
      have HR17 := Lib.hid (HR15.out.keeps k7 (by simp))
      obtain ⟨b70, b71, b72⟩ := HBx.out w7 HK7.out
      clear ho2 k7 HM5 HR15 HK5 b50 b51 b52
      go_wp2_with fail
      refine (HQA.out w7 HM7.out).mono ?_
      rintro e w8 ⟨rfl, k8⟩
      have HR28 := Lib.hid (HR27.out.keeps k8 (by simp))
      have HR18 := Lib.hid (HR17.out.keeps k8 (by simp))
      have HK8 := Lib.hid (HK7.out.trans k8)
      obtain ⟨b80, b81, b82⟩ := HBx.out w8 HK8.out
      clear k8 HM7 HR27 HR17 HK7 b70 b71 b72
      go_wp2_with fail
      refine (HNil.out w8).mono ?_
      rintro e w9 ⟨rfl, k9⟩
      have HR29 := Lib.hid (HR28.out.keeps k9 (by simp))
      have HR19 := Lib.hid (HR18.out.keeps k9 (by simp))
      have HK9 := Lib.hid (HK8.out.trans k9)
      obtain ⟨b90, b91, b92⟩ := HBx.out w9 HK9.out
      have HSm := Lib.hid (sameWords_any (.slice (some ⟨g2, 0, none⟩) nn cap2) (.slice (some ⟨g1, 0, none⟩) nn cap1) nn nn us us w9 (by unfold maxLen; omega) (by unfold maxLen; omega) (HR29.out.sl (by rw [ints_length, HUL.out]; omega)) (HR19.out.sl (by rw [ints_length, HUL.out]; omega)))
      clear k9 HR28 HR18 HK8 b80 b81 b82 HR29 HR19
      rcases HCS.out with ⟨rfl, hdr⟩ | ⟨rfl, hdr, d8, w62, w63, w64⟩
      all_goals
        rw [hdr] at HRR
        clear hdr
        go_wp2_with fail
        refine (HRR.out w9).mono ?_
        rintro e w' ⟨rfl, rfl⟩
        go_wp2_with fail
        refine HSm.out.mono ?_
        rintro e w12 ⟨rfl, m12, hw12⟩
        have k12 : Keeps [] w9 w12 := by rw [← hw12]; exact (Keeps.refl _ _).drewN
        rw [show decide True = true from rfl]
        have HK12 := Lib.hid (HK9.out.trans k12)
        clear k12 hw12
        go_wp2
        go_ret
        exact ⟨rfl, (HK1.out.trans HK12.out).end⟩
      -- >> bad

set_option maxRecDepth 100000 in
theorem lifted (os : Os) (started : os.Started) (H : Type) (enc : TypeId × Value → H) :
    ReturnsInHanded {} Tryz.checked os 4 .any (Rows.queueInitsSpec.pre6 enc Tryz.prog Tryz.f4 Rows.queueInitsRow.domain false) (Rows.queueInitsSpec.post enc Tryz.prog Tryz.f4 false true false false) := by
  refine returnsInHanded_of_change (C := Tryz.checked) own started (by kernel_rfl) Tryz.func4
    (ChangeSpec.witness6 (enc := enc) (C := Tryz.checked) false ⟨#[], #[.int .i64 0, .slice none 0 0, .agg #[.int .i64 0, .int .i64 0]], []⟩ 8 (by kernel_rfl) (by kernel_rfl) (by kernel_rfl) (by kernel_rfl)) ?_
  intro W base args ds gs before hval0 hW hcnd _
  have hval : ∀ (j : Nat) t v, Tryz.f4.params[j]? = some t → args[j]? = some v → Value.okWide Tryz.prog W .any base t v := hval0
  have hW' := hW
  obtain ⟨p, q, hA0, hV, rfl, hfz, hnd⟩ := hW
  have hA : DataW.TrodAll enc Tryz.prog W 0 (fun _ => true) true Tryz.f4.params.toList args.toList ds p := hA0
  rw [Tryz.params4] at hA hval
  obtain ⟨v0, vs0, d0, ds0, q0, qs0, hargs, rfl, rfl, h0, r0⟩ := trodAll_cons hA
  obtain ⟨v1, vs1, d1, ds1, q1, qs1, rfl, rfl, rfl, h1, r1⟩ := trodAll_cons r0
  obtain ⟨v2, vs2, d2, ds2, q2, qs2, rfl, rfl, rfl, h2, r2⟩ := trodAll_cons r1
  obtain ⟨rfl, rfl, rfl⟩ := trodAll_nil r2
  obtain rfl : args = #[v0, v1, v2] := by cases args; simp_all
  obtain ⟨rfl, rfl⟩ := trodVars_none hV
  obtain ⟨a0, rfl, rfl, rfl, w0⟩ := open_int Tryz.underlying3 (hval 0 3 v0 rfl rfl) h0
  obtain ⟨p1, n1, c1, rfl⟩ := okWide_slice Tryz.underlying24 (hval 1 24 v1 rfl rfl)
  have k1 := h1
  have lt1 : ∀ x ∈ q1, x.block < W.heap.size := by obtain ⟨m, hm⟩ := k1; exact DataW.trod_lt m _ _ _ hm
  obtain ⟨z1, s1, m1, b1⟩ := (by obtain ⟨fu, hf⟩ := h1; exact sl_ints Tryz.underlying24 Tryz.underlying64 (by kernel_rfl) hf : ∃ zs : List Int, Sl W 1 (.slice p1 n1 c1) n1 (ints .u64 zs) ∧ n1 ≤ maxLen ∧ ∀ z ∈ zs, (Lit.int .u64 z).wf = true)
  have cc1 : n1 ≤ c1 ∧ c1 ≤ maxLen := by obtain ⟨fu, hf⟩ := h1; exact sl_caps Tryz.underlying24 Tryz.underlying64 (by kernel_rfl) hf
  have k2 := h2
  have lt2 : ∀ x ∈ q2, x.block < W.heap.size := by obtain ⟨m, hm⟩ := k2; exact DataW.trod_lt m _ _ _ hm
  obtain ⟨a2, n2, rfl, b2, c2⟩ := open_line (hval 2 23 v2 rfl rfl) h2
  clear hA0 hval0
  simp only [List.append_nil] at hW'
  refine (walk a0 p1 n1 c1 z1 a2 n2 W w0 s1 m1 b1 cc1 b2 c2).mono fun e W' ⟨he, bel⟩ => ?_
  subst he
  exact ⟨_, rfl, _, _, _, [], _, [], hW', trodAll_mk1 (shut_bool Tryz.underlying4 _), (trodAll_cons_mk (shut_int Tryz.underlying3 w0) (trodAll_cons_mk (Below.trod laidOut (by kernel_rfl) (of_decide_eq_true (by kernel_rfl)) k1 bel lt1) (trodAll_cons_mk (Below.trod laidOut (by kernel_rfl) (of_decide_eq_true (by kernel_rfl)) k2 bel lt2) trodAll_mk0))), rfl, bel.frame _, fun h => by cases h⟩

theorem proved : Rows.QueueInitsSaid :=
  OpenClaim.holds_of_wide 4 Tryz.f4 rfl rfl rfl rfl rfl rfl rfl ⟨rfl, rfl, rfl, rfl, rfl⟩ rfl rfl rfl rfl rfl (by kernel_rfl) Tryz.func4 (by kernel_rfl)
    (of_decide_eq_true (by kernel_rfl)) (by unfold Func.isWrapper; first | (rw [if_pos (by decide +kernel)]; kernel_rfl) | (rw [if_neg (by decide +kernel)]; exact ⟨rfl, rfl⟩))
    (fun os started H enc _ => lifted os started H enc)
#print axioms proved
end Go.Proofs.YtejekciekcbagaaGreat.queueInits
