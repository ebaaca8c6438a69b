/-
  The law DequeAlone of the statements holds for every input: the call returns true, and the arguments read as before.
-/
import Derived.Test.YtdejgkjckhkihaaDqC
import Derived.Test.YtdejgkjckhkihaaDqD
import Derived.Test.YtdejgkjckhkihaaDqB
import Derived.Test.YtdejgkjckhkihaaRef7a
import Derived.Test.YtdejgkjckhkihaaOpenD
import Derived.Test.YtdejgkjckhkihaaAt
import Derived.Test.YtdejgkjckhkihaaLook
import Derived.Test.YtdejgkjckhkihaaOpen
import Derived.Test.YtdejgkjckhkihaaAcc
import Derived.Test.YtdejgkjckhkihaaSolo
import Derived.Test.YtdejgkjckhkihaaDqS
import Derived.Test.YtdejgkjckhkihaaDqA
import Derived.Test.YtdejgkjckhkihaaMem3
import Derived.IntWalk
import Derived.Deep.CutRange
import Derived.Test.YtdejgkjckhkihaaRows
import Derived.WalkKit
import Derived.ProofKit
import Derived.OpenShut
import Derived.ShutString
import Derived.ChangeOld
import Derived.Below
import Derived.Test.YtdejgkjckhkihaaOpen
namespace Go.Proofs.Ytdejgkjckhkihaa.dequeAlone
open Go.ChangeShapes Go.WideShapes Go.ChangeAt Go.RowKit
open Go.ChangeMaps (open_string shut_string)
set_option linter.unusedVariables false
set_option linter.unusedSimpArgs false

theorem own : ownKnob Try.prog.godebug = none := by kernel_rfl
theorem laidOut : laidOutB Try.prog = true := by kernel_rfl

/-- A list of words, as an own list of the law's. -/
theorem wds_tail (x : Int) (xs : List Int) : ints .u64 (x :: xs) = .int .u64 x :: ints .u64 xs := rfl
theorem wds_snoc (xs : List Int) (x : Int) : ints .u64 (xs ++ [x]) = ints .u64 xs ++ [.int .u64 x] := by simp [ints]
theorem wds_len (xs : List Int) : (ints .u64 xs).length = xs.length := by simp [ints]

set_option maxHeartbeats 25600000 in
set_option maxRecDepth 200000 in
theorem walk (size from_ : Int) (pp : Option Addr) (q cp : Nat) (ys : List Int) (w : World) (hws : (Lit.int .i64 size).wf = true) (hwf : (Lit.int .u64 from_).wf = true) (hp : Sl w 1 (.slice pp q cp) q (ints .u8 ys)) (hq : q ≤ maxLen) (hy : ∀ y ∈ ys, (Lit.int .u8 y).wf = true) :
    Calls Try.prog 6 #[.int .i64 size, .int .u64 from_, .slice pp q cp] w fun e w' => e = .returned (.bool true) ∧ Below w.heap.size w w' := by
  obtain ⟨B, hB⟩ : ∃ B, w.heap.size = B := ⟨_, rfl⟩
  rw [hB]
  have HY : Hid (∀ y ∈ ys, 0 ≤ y ∧ y < 256) := Lib.hid fun y h => by
    have := bounds_u8 (hy y h)
    omega
  have HF : Hid (M.U from_) := Lib.hid (M.U.wf hwf)
  have HSP := Lib.hid hp
  have HLP := Lib.hid hp.ints_len
  unfold maxLen at hq
  clear hp hy hws hwf
  go_enter Try.func6, Try.ntmps6
  go_wp2_with fail
  refine (awake7 w).mono ?_
  rintro e w1 ⟨rfl, b1⟩
  rw [hB] at b1
  have HB1 := Lib.hid b1
  clear b1
  by_cases hr : dqRight 0 size
  · obtain ⟨N, rfl⟩ : ∃ N : Nat, size = (N : Int) := ⟨size.toNat, by have := hr.1; omega⟩
    have HR := Lib.hid (fun W => rRight_any 0 N W)
    rw [decide_eq_true hr] at HR
    have hpow : dqPow N := hr.1
    by_cases h2 : 32 < N
    · have d2 : decide ((32 : Int) < N) = true := decide_eq_true (by omega)
      go_wp2_with fail
      refine (HR.out w1).mono ?_
      rintro e w2 ⟨rfl, rfl⟩
      go_wp2
      go_ret
      exact ⟨rfl, HB1.out⟩
    have d2 : decide ((32 : Int) < N) = false := decide_eq_false (by omega)
    by_cases h5 : 100 < q
    · have d5 : decide ((100 : Int) < q) = true := decide_eq_true (by omega)
      go_wp2_with fail
      refine (HR.out w1).mono ?_
      rintro e w2 ⟨rfl, rfl⟩
      go_wp2
      go_ret
      exact ⟨rfl, HB1.out⟩
    have d5 : decide ((100 : Int) < q) = false := decide_eq_false (by omega)
    have HPow := Lib.hid hpow
    have HRr := Lib.hid hr
    have hN2 : 2 ≤ N := by unfold dqPow at hpow; omega
    clear hpow hr
    go_wp2_with fail
    refine (HR.out w1).mono ?_
    rintro e w2 ⟨rfl, rfl⟩
    have s1 := HB1.out.size
    go_wp2_with fail
    generalize hW : World.alloc _ _ = W2
    have k2 : Keeps [] w1 W2 := by rw [← hW]; exact (Keeps.refl _ _).alloc _
    have bx : Box W2 w1.heap.size #[.int .i64 0, .int .i64 (N : Int)] := by rw [← hW]; exact Box.new _ _ _
    obtain ⟨ab, hab⟩ : ∃ ab, w1.heap.size = ab := ⟨_, rfl⟩
    rw [hab] at bx ⊢
    have HBx2 := Lib.hid bx
    have HB2 := Lib.hid (HB1.out.trans (k2.below (by omega) (by simp)))
    have hablt := HBx2.out.lt
    have s2 := HB2.out.size
    clear hW bx k2 HB1
    have NA := new_any (N + 2) W2 (by omega) (by omega)
    rw [show ((N + 2 : Nat) : Int) = (N : Int) + 2 by omega] at NA
    refine NA.mono ?_
    clear NA
    rintro e w3 ⟨m, b, rfl, hM, k3, hm, hb⟩
    have HM3 := Lib.hid hM
    have HB3 := Lib.hid (HB2.out.trans (k3.below (by omega) (by simp)))
    have HBx3 := Lib.hid (HBx2.out.keeps k3 (by simp))
    have s3 := HB3.out.size
    have hmlt := hM.lt
    clear hM k3 HB2 HBx2
    go_wp2_with fail
    obtain ⟨W4, hW4⟩ : ∃ W4, w3.alloc (.cells #[.int .u64 from_, .int .u64 from_] 38) = W4 := ⟨_, rfl⟩
    have k4 : Keeps [] w3 W4 := by rw [← hW4]; exact (Keeps.refl _ _).alloc _
    have r4 : Sl W4 1 (.slice (some ⟨w3.heap.size, 0, none⟩) 2 2) 2 (ints .u64 [from_, from_]) := by rw [← hW4]; exact (Row.new w3 #[.int .u64 from_, .int .u64 from_] 38).sl (n := 2) (cap := 2) rfl
    have HFl := Lib.hid (fill_any m b (List.replicate (N + 2) 0) [from_, from_] _ 2 W4 (HM3.out.keeps k4 (by simp) (by simp)) r4 (fun u hu => by simp at hu; subst hu; exact HF.out) (by unfold maxLen; omega))
    have HB4 := Lib.hid (HB3.out.trans (k4.below (by omega) (by simp)))
    have HBx4 := Lib.hid (HBx3.out.keeps k4 (by simp))
    have s4 := HB4.out.size
    have hab4 := HBx4.out.lt
    rw [hW4]
    clear k4 r4 hW4 HB3 HBx3
    refine HFl.out.mono ?_
    rintro e w5 ⟨rfl, hM5, k5⟩
    obtain ⟨us, hus⟩ : ∃ us, C.fill (List.replicate (N + 2) 0) [from_, from_] = us := ⟨_, rfl⟩
    have hus2 : us = from_ :: from_ :: List.replicate N 0 := by rw [← hus]; unfold C.fill; simp [List.replicate_succ] <;> omega
    rw [hus] at hM5
    have HQ5 : Hid (DqL N from_ 0 us []) := Lib.hid (by
      have h0 : dqU from_ 0 = from_ := by have := HF.out.nn; have := HF.out.lt; unfold dqU; omega
      exact DqL.new HPow.out (by rw [hus2]; simp) (by rw [hus2, h0]; rfl) (by rw [hus2, h0]; rfl))
    have HM5 := Lib.hid hM5
    have hbab : b ≠ ab := by omega
    have HBx5 := Lib.hid (HBx4.out.keeps k5 (by simp; exact Ne.symm hbab))
    have HB5 := Lib.hid (HB4.out.trans (k5.below (by omega) (by simp; omega)))
    have s5 := HB5.out.size
    have hab5 := HBx5.out.lt
    have hml5 := hM5.lt
    clear hM5 k5 hus hus2 HB4 HBx4 HM3
    -- the blocks that nobody writes
    obtain ⟨E, hE⟩ : ∃ E : Nat → Prop, (fun x => x < B ∨ x = ab) = E := ⟨_, rfl⟩
    have HE : Hid ((∀ k, k < B → E k) ∧ E ab ∧ ∀ k, E k → k < B ∨ k = ab) := Lib.hid (by rw [← hE]; exact ⟨fun k hk => .inl hk, .inr rfl, fun k hk => hk⟩)
    clear hE
    have LN := loomNew_any E 1 m b us w5 HM5.out (by omega) (by omega) (fun k hk => by rcases HE.out.2.2 k hk with h | h <;> omega) (fun hk => by rcases HE.out.2.2 b hk with h | h <;> omega)
    have HLN := Lib.hid LN
    clear LN
    go_wp2_with fail
    refine HLN.out.mono ?_
    rintro e w6 ⟨l, gl, rfl, hL6, k6⟩
    have HL6 := Lib.hid hL6
    have HBx6 := Lib.hid (HBx5.out.keeps k6 (by simp))
    have HB6 := Lib.hid (HB5.out.trans (k6.below (by omega) (by simp)))
    have s6 := HB6.out.size
    have s56 := k6.size
    clear hL6 k6 HBx5 HB5 HM5
    obtain ⟨W7, hW7⟩ : ∃ W7, w6.alloc (.cells #[] 38) = W7 := ⟨_, rfl⟩
    have k7 : Keeps [] w6 W7 := by rw [← hW7]; exact (Keeps.refl _ _).alloc _
    obtain ⟨P, hP⟩ : ∃ P, w6.heap.size = P := ⟨_, rfl⟩
    have i7 : InAt W7 P 0 0 38 (ints .u64 []) := by rw [← hW7, ← hP]; exact InAt.empty w6 38
    have hPP : ¬ E P ∧ P ≠ m ∧ P < W7.heap.size := ⟨fun h => by rcases HE.out.2.2 P h with h | h <;> omega, by omega, i7.lt⟩
    have HL7 : Hid (Loom (fun x => E x ∨ x = P) W7 ⟨l, gl, m, b, us, List.replicate 1 none, 0⟩) := Lib.hid (HL6.out.widen k7 (fun k hk => by
      rcases hk with hk | hk
      · exact .inl hk
      · subst hk; exact .inr ⟨by omega, hPP.2.2⟩))
    have HI7 := Lib.hid i7
    have HP7 := Lib.hid hPP
    have HBx7 := Lib.hid (HBx6.out.keeps k7 (by simp))
    have HB7 := Lib.hid (HB6.out.trans (k7.below (by omega) (by simp)))
    clear k7 i7 hPP HL6 HBx6 HB6
    go_wp2
    go_loopw [12, 13] (fun v i wr => ∃ k : Nat, k ≤ q ∧ i = .int .i64 (k : Int) ∧ ∃ (L : LSt) (T : Int) (o : Option Strand) (xs : List Int) (g off cap : Nat), v = .slice (some ⟨g, off, none⟩) xs.length cap ∧ (¬ E g ∧ g ≠ m) ∧ InAt wr g off cap 38 (ints .u64 xs) ∧ Held E W7 wr ∧
      Loom (fun x => E x ∨ x = g) wr L ∧ L.l = l ∧ L.mm = m ∧ L.ts[0]? = some o ∧ busy o = false ∧ L.steps ≤ 6 * k ∧ T ≤ k ∧ DqL N from_ T L.us xs) (fun _ i _ => q - (intOf i).toNat)
    case atStart => exact ⟨0, Nat.zero_le _, rfl, _, 0, none, [], P, 0, 0, rfl, ⟨HP7.out.1, HP7.out.2.1⟩, HI7.out, Held.refl _ _, HL7.out, rfl, rfl, rfl, rfl, Nat.le_refl _, by omega, HQ5.out⟩
    case round =>
      obtain ⟨k, hk, rfl, L, T, o, xs, g, off, cap, rfl, hgE, hin, hh, hL, hLl, hLm, ho, hbo, hst, hT, hQ⟩ := hrel
      have hfew := hQ.few
      have hcap := hin.few
      have hfit := hin.fits
      rw [wds_len] at hfit
      have HQ := Lib.hid hQ
      have HIn := Lib.hid hin
      have HHr := Lib.hid hh
      have HL := Lib.hid hL
      have hbx := HBx7.out.block hh.size (hh.block ab HE.out.2.1)
      have b0 := hbx.cells 0
      have b1 := hbx.cells 1
      have HBxr := Lib.hid hbx
      have HSlr : Hid (∀ W, Held E wr W → Sl W 1 (.slice pp q cp) q (ints .u8 ys)) := Lib.hid fun W hW => HSP.out.below (HB7.out.trans (Held.below ((HHr.out.trans hW).narrow (E := (· < B)) (fun k hk => HE.out.1 k hk)))) (by omega)
      clear hQ hin hh hL hbx
      unfold maxLen at hcap
      by_cases hlt : k < q
      · have hsl := HSlr.out wr (Held.refl _ _)
        obtain ⟨pb2, po, pc, he, hpb2, hpc⟩ := hsl.some (by omega)
        cases he
        have hkz : k < ys.length := by rw [HLP.out]; exact hlt
        have ay := hpc k _ (ints_at (k := .u8) hkz)
        have hyb := HY.out (ys.getD k 0) (by rw [List.getD, List.getElem?_eq_getElem hkz]; exact List.getElem_mem hkz)
        obtain ⟨y, hyk⟩ : ∃ y, ys.getD k 0 = y := ⟨_, rfl⟩
        rw [hyk] at ay hyb
        have hwv : IntKind.u64.wrap (y * 7) = y * 7 := by show (y * 7) % 18446744073709551616 = _; omega
        have hwy : IntKind.u64.wrap y = y := by show y % 18446744073709551616 = _; omega
        obtain ⟨hyb0, hyb1⟩ := hyb
        have hvU : M.U (y * 7) := ⟨by omega, by omega⟩
        clear hpc hsl
        go_wp2_with fail
        refine (dqPush_made 0 N (y * 7) wr (by omega) hvU).mono ?_
        rintro e w1 ⟨mm0, S0, rfl, hI0, k10, hS0⟩
        have hbx1 := HBxr.out.keeps k10 (by simp)
        have b10 := hbx1.cells 0
        have b11 := hbx1.cells 1
        have hsl1 := HSlr.out w1 (k10.held (fun k hk => HL.out.dom k (.inl hk)) (by simp))
        obtain ⟨yb1, yo1, yc1, hye1, -, hyc1⟩ := hsl1.some (by omega)
        cases hye1
        have ay1 := hyc1 k _ (ints_at (k := .u8) hkz)
        rw [hyk] at ay1
        have HI0 := Lib.hid (show _ ∧ _ ∧ _ from ⟨hI0, k10, hS0⟩)
        clear hI0 k10 hS0 hbx1 hsl1 hyc1 b0 b1
        have HEd : Hid (∀ x, E x → x < wr.heap.size) := Lib.hid fun x hx => HL.out.dom x (.inl hx)
        have HAy : Hid (∀ W, Held E wr W → W.cell? ⟨pb2, po + k, none⟩ = some (.int .u8 y) ∧ W.cell? ⟨ab, 0, none⟩ = some (.int .i64 0) ∧ W.cell? ⟨ab, 1, none⟩ = some (.int .i64 (N : Int))) := Lib.hid fun W hW => by
          obtain ⟨yb, yo, yc, hye, -, hyc⟩ := (HSlr.out W hW).some (by omega)
          cases hye
          have h1 := hyc k _ (ints_at (k := .u8) hkz)
          rw [hyk] at h1
          have h2 := HBxr.out.block hW.size (hW.block ab HE.out.2.1)
          exact ⟨h1, h2.cells 0, h2.cells 1⟩
        have hgz : Hid (¬ E g ∧ g ≠ m) := Lib.hid hgE
        have hr4 : y % 4 = 0 ∨ y % 4 = 1 ∨ y % 4 = 2 ∨ y % 4 = 3 := by omega
        clear ay
        go_upto_if 75 with (fail)
        go_cut [15] from 55 to 194 (fun wv w' => ∃ (mm : Nat) (S : List Nat), wv = .pointer (some ⟨mm, 0, none⟩) ∧ LoneIO dequeM (dqE mm) mm w' S (dqNew 0 N (dqK1 (y % 4)) (dqT1 (y % 4) (y * 7))) ∧ Keeps [] wr w' ∧ ∀ x ∈ S, wr.heap.size ≤ x)
        case first =>
          by_cases h1 : y % 4 = 1
          · go_wp2_with fail
            refine (dqPop_made 0 N w1 (by omega)).mono ?_
            rintro e w5 ⟨mm, S, rfl, hI, k5, hS⟩
            have HP : Hid (_ ∧ _ ∧ _) := Lib.hid ⟨hI, HI0.out.2.1.trans k5, fun x hx => Nat.le_trans HI0.out.2.1.size (hS x hx)⟩
            clear hI k5 hS
            go_wp2
            go_meet
            rw [h1]
            exact ⟨mm, S, rfl, HP.out⟩
          · have h1f : (y % 4 == 1) = false := beq_eq_false_iff_ne.2 h1
            go_wp2
            go_meet
            refine ⟨mm0, S0, rfl, ?_⟩
            rw [show dqK1 (y % 4) = 1 from if_neg h1, show dqT1 (y % 4) (y * 7) = y * 7 from if_neg h1]
            exact HI0.out
        obtain ⟨mm1, S1, rfl, i1, k11, s1'⟩ := hcut
        have HI1 : Hid (_ ∧ _ ∧ _) := Lib.hid ⟨i1, k11, s1'⟩
        have hA1 := HAy.out wc (k11.held HEd.out (by simp))
        have ay1 := hA1.1
        have b10 := hA1.2.1
        have b11 := hA1.2.2
        clear i1 k11 s1' hA1 HI0
        go_upto_if 83 with (fail)
        go_cut [15] from 55 to 194 (fun wv w' => ∃ (mm : Nat) (S : List Nat), wv = .pointer (some ⟨mm, 0, none⟩) ∧ LoneIO dequeM (dqE mm) mm w' S (dqNew 0 N (dqK2 (y % 4)) (dqT2 (y % 4) (y * 7))) ∧ Keeps [] wr w' ∧ ∀ x ∈ S, wr.heap.size ≤ x)
        case first =>
          by_cases h1 : y % 4 = 2
          · go_wp2_with fail
            refine (dqSteal_made 0 N wc (by omega)).mono ?_
            rintro e w5 ⟨mm, S, rfl, hI, k5, hS⟩
            have HP : Hid (_ ∧ _ ∧ _) := Lib.hid ⟨hI, HI1.out.2.1.trans k5, fun x hx => Nat.le_trans HI1.out.2.1.size (hS x hx)⟩
            clear hI k5 hS
            go_wp2
            go_meet
            rw [h1]
            exact ⟨mm, S, rfl, HP.out⟩
          · have h1f : (y % 4 == 2) = false := beq_eq_false_iff_ne.2 h1
            go_wp2
            go_meet
            refine ⟨mm1, S1, rfl, ?_⟩
            rw [show dqK2 (y % 4) = dqK1 (y % 4) from if_neg h1, show dqT2 (y % 4) (y * 7) = dqT1 (y % 4) (y * 7) from if_neg h1]
            exact HI1.out
        obtain ⟨mm2, S2, rfl, i2, k12, s2'⟩ := hcut
        clear ay1 b10 b11 HI1
        obtain ⟨n, us', s', c, u, ys', T', n0, n6, hsolo, hover, hQ', hT', hdeed⟩ := HQ.out.deed (y % 4) (y * 7) hr4 hvU
        obtain ⟨L1, M, o', hM, hSt, hDo⟩ := hsolo.begun (I := LoneIO dequeM (dqE mm2) mm2) (m := mm2) (R := dqRuns mm2) (fun x => E x ∨ x = g) 0 9 c u o S2 wr wc HL.out k12 ho hbo i2 s2' n0 (by omega) (by omega) (by omega) hover
        rw [hLl] at hSt hDo
        have HSt := Lib.hid hSt
        have HAl := Lib.hid hDo.1
        have HRe := Lib.hid hDo.2
        have HNew : Hid (M.l = l ∧ M.mm = m ∧ M.ts[0]? = some o' ∧ busy o' = false ∧ M.steps ≤ 6 * (k + 1) ∧ T' ≤ (k : Int) + 1 ∧ DqL N from_ T' M.us ys') := Lib.hid
          ⟨hM.1.trans hLl, hM.2.2.1.trans hLm, hM.2.2.2.2.2.2.1, hM.2.2.2.2.2.2.2.1, by have := hM.2.2.2.2.2.1; omega, by omega, by rw [hM.2.2.2.2.1]; exact hQ'⟩
        have HDeed := Lib.hid hdeed
        clear n0 n6 hsolo hover hQ' hM hSt hDo i2 k12 s2' hdeed hT'
        go_wp2_with fail
        refine HSt.out.mono ?_
        rintro e w12 ⟨rfl, hL2, hh2⟩
        have HL2 := Lib.hid hL2
        have HH2 := Lib.hid hh2
        clear hL2 hh2
        go_wp2_with fail
        refine (HAl.out _ w12 HL2.out).mono ?_
        rintro e w13 ⟨rfl, hL3, hh3⟩
        have HL3 := Lib.hid hL3
        have HH3 := Lib.hid (HH2.out.trans hh3)
        clear hL3 hh3
        go_wp2_with fail
        refine (HRe.out _ w13 HL3.out).mono ?_
        rintro e w14 ⟨rq, rc, rfl, k14⟩
        obtain ⟨W15, hW15⟩ : ∃ W15, w14.alloc (.cells #[.int .i64 c, .int .u64 u, .slice rq 0 rc] 50) = W15 := ⟨_, rfl⟩
        have k15 : Keeps [] w14 W15 := by rw [← hW15]; exact (Keeps.refl _ _).alloc _
        have r15 : Row W15 w14.heap.size 50 [.int .i64 c, .int .u64 u, .slice rq 0 rc] := by rw [← hW15]; exact Row.new _ _ _
        have hL15 := (HL3.out.keeps k14).keeps k15
        have hh15 := HH3.out.trans ((k14.trans k15).held (fun k hk => HL3.out.dom k hk) (by simp))
        have in15 := HIn.out.block (hh15.block g (.inr rfl))
        have HHE := Lib.hid (hh15.narrow (E := E) (fun k hk => .inl hk))
        have hA15 := HAy.out W15 HHE.out
        have ay2 := hA15.1
        have z0 := hA15.2.1
        have z1 := hA15.2.2
        have q0 := r15.cell (j := 0) rfl
        have q1 := r15.cell (j := 1) rfl
        have HL15 := Lib.hid hL15
        have HH15 := Lib.hid hh15
        have HIn15 := Lib.hid in15
        clear k14 k15 hL15 hh15 r15 in15 hA15 HL2 HH2 HL3 HH3 HSt HAl HRe
        go_upto_region 26 with (fail)
        obtain ⟨b26, hb26⟩ : ∃ b, decide (y % 4 = 0 ∨ y % 4 = 3) = b := ⟨_, rfl⟩
        go_cut [111] from 55 to 194 (fun v w' => v = .bool b26 ∧ W15 = w')
        case first =>
          rcases hr4 with h1 | h1 | h1 | h1
          all_goals
            simp [h1] at hb26
            subst hb26
            go_wp2
            go_meet
            exact ⟨rfl, rfl⟩
        obtain ⟨rfl, rfl⟩ := hcut
        go_upto_if 111 with (fail)
        go_cut [12] from 55 to 194 (fun v w' => ∃ (g' off' cap' : Nat), v = .slice (some ⟨g', off', none⟩) ys'.length cap' ∧ (¬ E g' ∧ g' ≠ m) ∧ InAt w' g' off' cap' 38 (ints .u64 ys') ∧ Held E wr w' ∧ Loom (fun x => E x ∨ x = g') w' M)
        case first =>
          cases HDeed.out with
          | full hr hlen hc hu hys =>
            subst hc hu hys
            obtain rfl : b26 = true := by rw [← hb26]; exact decide_eq_true (by omega)
            have d6 : decide ((ys'.length : Int) < (N : Int)) = false := decide_eq_false (by omega)
            have d7 : ¬ ys'.length < N := by omega
            go_wp2
            go_meet
            exact ⟨g, off, cap, rfl, hgz.out, HIn15.out, HHE.out, HL15.out⟩
          | push hr hlen hc hu hys =>
            subst hc hu hys
            obtain rfl : b26 = true := by rw [← hb26]; exact decide_eq_true (by omega)
            have d6 : decide ((xs.length : Int) < (N : Int)) = true := decide_eq_true (by omega)
            go_wp2_with (at_builtin; refine append_at rfl _ _ 22 rfl 38 _ 8 Try.underlying22 elemWdA g off cap xs.length (ints .u64 xs) rfl (wds_len xs) HIn15.out (.int .u64 (y * 7)) rfl rfl ?c2 ?_)
            case c2 => omega
            intro g2 off2 cap2 w20 in20 k20 hg20
            rw [← wds_snoc] at in20
            have hmM : M.mm = m := HNew.out.2.1
            have hgw : g < W15.heap.size := HIn15.out.lt
            have hml15 : m < W15.heap.size := by have := HL15.out.mem.lt.1; rwa [hmM] at this
            have hE15 : ∀ x, E x → x < W15.heap.size := fun x hx => HL15.out.dom x (.inl hx)
            have HLz : Hid (Loom (fun x => E x ∨ x = g2) w20 M) := Lib.hid (HL15.out.widenX k20 (fun x hx => by simp at hx; exact .inr hx) (by rw [hmM]; simp; exact Ne.symm hgz.out.2) (fun x hx => by
              rcases hx with hx | rfl
              · exact .inl (.inl hx)
              · rcases hg20 with rfl | h
                · exact .inl (.inr rfl)
                · exact .inr ⟨h, in20.lt⟩))
            have HInz := Lib.hid in20
            have HGz : Hid (¬ E g2 ∧ g2 ≠ m) := Lib.hid (by
              rcases hg20 with rfl | h
              · exact hgz.out
              · exact ⟨fun he => by have := hE15 _ he; omega, by omega⟩)
            have HHz := Lib.hid (HHE.out.trans (k20.held hE15 (fun x hx => by simp at hx; subst hx; exact hgz.out.1)))
            clear in20 k20 hg20
            go_wp2
            go_meet
            exact ⟨g2, off2, cap2, by rw [List.length_append]; rfl, HGz.out, HInz.out, HHz.out, HLz.out⟩
          | none_ hr hxs hc hu hys =>
            subst hc hu hys hxs
            obtain rfl : b26 = false := by rw [← hb26]; exact decide_eq_false (by omega)
            go_wp2
            go_meet
            exact ⟨g, off, cap, rfl, hgz.out, HIn15.out, HHE.out, HL15.out⟩
          | pop hr hxs hc =>
            subst hc hxs
            obtain rfl : b26 = false := by rw [← hb26]; exact decide_eq_false (by omega)
            have hin2 := HIn15.out
            rw [wds_snoc] at hin2
            have cL := hin2.cell (i := ys'.length) (u := .int .u64 u) (by simp [ints])
            have HIn2 := Lib.hid hin2.init
            clear hin2
            have hlen2 : (ys' ++ [u]).length = ys'.length + 1 := by simp
            go_wp2_with fail
            go_quiet (fail)
            go_wp2
            go_meet
            have kd : ∀ nq, Keeps [] W15 (W15.drewN nq) := fun nq => (Keeps.refl [] W15).drewN
            exact ⟨g, off, cap, rfl, hgz.out, HIn2.out.keeps (kd _) (by simp), HHE.out.trans ((kd _).held (fun k hk => HL15.out.dom k (.inl hk)) (by simp)), HL15.out.keeps (kd _)⟩
          | steal hr hxs hc =>
            subst hc hxs
            obtain rfl : b26 = false := by rw [← hb26]; exact decide_eq_false (by omega)
            have hin2 := HIn15.out
            rw [wds_tail] at hin2
            have cL := hin2.cell (i := 0) (u := .int .u64 u) rfl
            have cL' := cL
            rw [Nat.add_zero] at cL'
            have HIn2 := Lib.hid hin2.tail
            clear hin2
            have kd : ∀ nq, Keeps [] W15 (W15.drewN nq) := fun nq => (Keeps.refl [] W15).drewN
            have hi2 := HIn2.out
            clear HIn2
            by_cases hc1 : cap = 1
            · rw [if_pos hc1] at hi2
              have HIn3 := Lib.hid hi2
              clear hi2
              subst hc1
              go_wp2_with fail
              go_quiet (fail)
              go_wp2
              go_meet
              exact ⟨g, off, 0, rfl, hgz.out, HIn3.out.keeps (kd _) (by simp), HHE.out.trans ((kd _).held (fun k hk => HL15.out.dom k (.inl hk)) (by simp)), HL15.out.keeps (kd _)⟩
            · rw [if_neg hc1] at hi2
              have HIn3 := Lib.hid hi2
              clear hi2
              go_wp2_with fail
              go_quiet (fail)
              go_wp2
              go_meet
              exact ⟨g, off + 1, cap - 1, rfl, hgz.out, HIn3.out.keeps (kd _) (by simp), HHE.out.trans ((kd _).held (fun k hk => HL15.out.dom k (.inl hk)) (by simp)), HL15.out.keeps (kd _)⟩
        obtain ⟨g', off', cap', rfl, hg', hinz, hhz, hlz⟩ := hcut
        have HLz := Lib.hid hlz
        have HInz := Lib.hid hinz
        have HGz := Lib.hid hg'
        have HHz := Lib.hid (HHr.out.trans hhz)
        have hA16 := HAy.out wc hhz
        have y0 := hA16.2.1
        have y1 := hA16.2.2
        clear hlz hinz hhz hg' hA16 z0 z1 q0 q1 ay2
        have HAll : Hid (∀ W, Keeps [] wc W → Calls Try.prog 10 #[.agg #[.int .i64 0, .int .i64 (N : Int)], .pointer (some ⟨m, 0, none⟩)] W fun e w' => Keeps [] W w' ∧ dqTold W w' e (some ys')) := Lib.hid fun W hW => by
          have hm := (HLz.out.keeps hW).mem
          rw [HNew.out.2.1] at hm
          have hq := HNew.out.2.2.2.2.2.2
          have := dqAll_any 0 N m M.b M.us W hm (by simpa using HRr.out) (by rw [hq.len]; simp)
          rw [show dqAllOf ((0 : Nat) : Int) N M.us = some ys' from hq.all] at this
          simpa using this
        have hfz : ys'.length ≤ N := HNew.out.2.2.2.2.2.2.few
        go_wp2_with fail
        refine (HAll.out _ (Keeps.refl [] wc)).mono ?_
        rintro e w16 ⟨k16, t16⟩
        obtain ⟨l16, rfl, o16⟩ := t16.2 _ rfl
        obtain ⟨lp16, lc16, rfl⟩ := (Sl.of_owns o16).len
        have hz16 := (HInz.out.keeps k16 (by simp)).sl
        rw [wds_len] at hz16
        have hsame := sameWords_any _ _ ys'.length ys'.length ys' ys' w16 (by unfold maxLen; omega) (by unfold maxLen; omega) (Sl.of_owns o16) hz16
        rw [decide_eq_true rfl] at hsame
        have HSame := Lib.hid hsame
        have HKz := Lib.hid k16
        clear k16 t16 o16 hz16 hsame
        go_wp2_with fail
        refine HSame.out.mono ?_
        rintro e w17 ⟨rfl, nd, rfl⟩
        go_wp2
        go_roundw
        case rel =>
          have kz : Keeps [] wc (w16.drewN nd) := HKz.out.drewN
          exact ⟨k + 1, by omega, by go_num, M, T', o', ys', g', off', cap', rfl, HGz.out, HInz.out.keeps kz (by simp), HHz.out.trans (kz.held (fun x hx => HLz.out.dom x (.inl hx)) (by simp)), HLz.out.keeps kz, HNew.out.1, HNew.out.2.1, HNew.out.2.2.1, HNew.out.2.2.2.1, HNew.out.2.2.2.2.1, by have := HNew.out.2.2.2.2.2.1; omega, HNew.out.2.2.2.2.2.2⟩
        case measure => simp [intOf]; omega
      · obtain rfl : k = q := by omega
        go_wp2
        go_ret
        exact ⟨rfl, HB7.out.trans (Held.below (HHr.out.narrow (E := (· < B)) (fun k hk => HE.out.1 k hk)))⟩
  · have HR := Lib.hid (fun W => rRight_any 0 size W)
    rw [decide_eq_false hr] at HR
    clear hr
    go_wp2_with fail
    refine (HR.out w1).mono ?_
    rintro e w2 ⟨rfl, rfl⟩
    go_wp2
    go_ret
    exact ⟨rfl, HB1.out⟩

set_option maxRecDepth 100000 in
theorem lifted (os : Os) (started : os.Started) (H : Type) (enc : TypeId × Value → H) :
    ReturnsInHanded {} Try.checked os 6 .any (Rows.dequeAloneSpec.pre6 enc Try.prog Try.f6 Rows.dequeAloneRow.domain false) (Rows.dequeAloneSpec.post enc Try.prog Try.f6 false true false false) := by
  refine returnsInHanded_of_change (C := Try.checked) own started (by kernel_rfl) Try.func6
    (ChangeSpec.witness6 (enc := enc) (C := Try.checked) false ⟨#[], #[.int .i64 0, .int .u64 0, .slice none 0 0], []⟩ 8 (by kernel_rfl) (by kernel_rfl) (by kernel_rfl) (by kernel_rfl)) ?_
  intro W base args ds gs before hval0 hW hcnd _
  have hval : ∀ (j : Nat) t v, Try.f6.params[j]? = some t → args[j]? = some v → Value.okWide Try.prog W .any base t v := hval0
  have hW' := hW
  obtain ⟨p, q, hA0, hV, rfl, hfz, hnd⟩ := hW
  have hA : DataW.TrodAll enc Try.prog W 0 (fun _ => true) true Try.f6.params.toList args.toList ds p := hA0
  rw [Try.params6] at hA hval
  obtain ⟨v0, vs0, d0, ds0, q0, qs0, hargs, rfl, rfl, h0, r0⟩ := trodAll_cons hA
  obtain ⟨v1, vs1, d1, ds1, q1, qs1, rfl, rfl, rfl, h1, r1⟩ := trodAll_cons r0
  obtain ⟨v2, vs2, d2, ds2, q2, qs2, rfl, rfl, rfl, h2, r2⟩ := trodAll_cons r1
  obtain ⟨rfl, rfl, rfl⟩ := trodAll_nil r2
  obtain rfl : args = #[v0, v1, v2] := by cases args; simp_all
  obtain ⟨rfl, rfl⟩ := trodVars_none hV
  obtain ⟨a0, rfl, rfl, rfl, w0⟩ := open_int Try.underlying3 (hval 0 3 v0 rfl rfl) h0
  obtain ⟨a1, rfl, rfl, rfl, w1⟩ := open_int Try.underlying38 (hval 1 38 v1 rfl rfl) h1
  obtain ⟨p2, n2, c2, rfl⟩ := okWide_slice Try.underlying39 (hval 2 39 v2 rfl rfl)
  have k2 := h2
  have lt2 : ∀ x ∈ q2, x.block < W.heap.size := by obtain ⟨m, hm⟩ := k2; exact DataW.trod_lt m _ _ _ hm
  obtain ⟨z2, s2, m2, b2⟩ := (by obtain ⟨fu, hf⟩ := h2; exact sl_ints Try.underlying39 Try.underlying5 (by kernel_rfl) hf : ∃ zs : List Int, Sl W 1 (.slice p2 n2 c2) n2 (ints .u8 zs) ∧ n2 ≤ maxLen ∧ ∀ z ∈ zs, (Lit.int .u8 z).wf = true)
  clear hA0 hval0
  simp only [List.append_nil] at hW'
  refine (walk a0 a1 p2 n2 c2 z2 W w0 w1 s2 m2 b2).mono fun e W' ⟨he, bel⟩ => ?_
  subst he
  exact ⟨_, rfl, _, _, _, [], _, [], hW', trodAll_mk1 (shut_bool Try.underlying4 _), (trodAll_cons_mk (shut_int Try.underlying3 w0) (trodAll_cons_mk (shut_int Try.underlying38 w1) (trodAll_cons_mk (Below.trod laidOut (by kernel_rfl) (of_decide_eq_true (by kernel_rfl)) k2 bel lt2) trodAll_mk0))), rfl, bel.frame _, fun h => by cases h⟩

theorem proved : Rows.DequeAloneSaid :=
  OpenClaim.holds_of_wide 6 Try.f6 rfl rfl rfl rfl rfl rfl rfl ⟨rfl, rfl, rfl, rfl, rfl⟩ rfl rfl rfl rfl rfl (by kernel_rfl) Try.func6 (by kernel_rfl)
    (of_decide_eq_true (by kernel_rfl)) (by unfold Func.isWrapper; first | (rw [if_pos (by decide +kernel)]; kernel_rfl) | (rw [if_neg (by decide +kernel)]; exact ⟨rfl, rfl⟩))
    (fun os started H enc _ => lifted os started H enc)
#print axioms proved
end Go.Proofs.Ytdejgkjckhkihaa.dequeAlone
