/-
  The law DequePlays of the statements holds for every input: the call returns true, and the arguments read as before.
-/
import Derived.Test.YtdejgkjckhkihaaDqH
import Derived.Test.YtdejgkjckhkihaaDqB
import Derived.Test.YtdejgkjckhkihaaRef7a
import Derived.Test.YtdejgkjckhkihaaOpenD
import Derived.Test.YtdejgkjckhkihaaAt
import Derived.Test.YtdejgkjckhkihaaLook
import Derived.Test.YtdejgkjckhkihaaOpen
import Derived.Test.YtdejgkjckhkihaaAcc
import Derived.Test.YtdejgkjckhkihaaRows
import Derived.WalkKit
import Derived.ProofKit
import Derived.OpenShut
import Derived.ShutString
import Derived.ChangeOld
import Derived.Below
import Derived.Test.YtdejgkjckhkihaaOpen
namespace Go.Proofs.Ytdejgkjckhkihaa.dequePlays
open Go.ChangeShapes Go.WideShapes Go.ChangeAt Go.RowKit
open Go.ChangeMaps (open_string shut_string)
set_option linter.unusedVariables false
set_option linter.unusedSimpArgs false

theorem own : ownKnob Try.prog.godebug = none := by kernel_rfl
theorem laidOut : laidOutB Try.prog = true := by kernel_rfl

set_option maxHeartbeats 25600000 in
set_option maxRecDepth 200000 in
theorem walk (th size from_ : Int) (pp : Option Addr) (q cp : Nat) (ys : List Int) (w : World) (hwt : (Lit.int .i64 th).wf = true) (hws : (Lit.int .i64 size).wf = true) (hwf : (Lit.int .u64 from_).wf = true) (hp : Sl w 1 (.slice pp q cp) q (ints .u8 ys)) (hq : q ≤ maxLen) (hy : ∀ y ∈ ys, (Lit.int .u8 y).wf = true) :
    Calls Try.prog 4 #[.int .i64 th, .int .i64 size, .int .u64 from_, .slice pp q cp] w fun e w' => e = .returned (.bool true) ∧ Below w.heap.size w w' := by
  obtain ⟨B, hB⟩ : ∃ B, w.heap.size = B := ⟨_, rfl⟩
  rw [hB]
  have HY : Hid (∀ y ∈ ys, 0 ≤ y ∧ y < 256) := Lib.hid fun y h => by
    have := bounds_u8 (hy y h)
    omega
  have HF : Hid (M.U from_) := Lib.hid (M.U.wf hwf)
  have HSP := Lib.hid hp
  have HLP := Lib.hid hp.ints_len
  unfold maxLen at hq
  have hmm := @run_makeMap Try.prog
  clear hp hy hws hwf hwt
  go_enter Try.func4, Try.ntmps4
  go_wp2_with fail
  refine (awake7 w).mono ?_
  rintro e w1 ⟨rfl, b1⟩
  rw [hB] at b1
  have HB1 := Lib.hid b1
  clear b1
  have s1 := HB1.out.size
  obtain ⟨W2, hW⟩ : ∃ W2, w1.alloc (.cells #[.int .i64 0, .int .i64 size] 24) = W2 := ⟨_, rfl⟩
  have k2 : Keeps [] w1 W2 := by rw [← hW]; exact (Keeps.refl _ _).alloc _
  have bx : Box W2 w1.heap.size #[.int .i64 0, .int .i64 size] := by rw [← hW]; exact Box.new _ _ _
  obtain ⟨ab, hab⟩ : ∃ ab, w1.heap.size = ab := ⟨_, rfl⟩
  rw [hab] at bx
  have HBx2 := Lib.hid bx
  have HB2 := Lib.hid (HB1.out.trans (k2.below (by omega) (by simp)))
  have hablt := HBx2.out.lt
  have s2 := HB2.out.size
  clear bx k2 HB1
  by_cases h1 : th < 0
  · have d1 : decide (th < 0) = true := decide_eq_true (by omega)
    go_wp2
    go_ret
    exact ⟨rfl, HB2.out⟩
  have d1 : decide (th < 0) = false := decide_eq_false (by omega)
  by_cases h2 : 4 < th
  · have d2 : decide (4 < th) = true := decide_eq_true (by omega)
    go_wp2
    go_ret
    exact ⟨rfl, HB2.out⟩
  have d2 : decide (4 < th) = false := decide_eq_false (by omega)
  obtain ⟨tn, rfl⟩ : ∃ tn : Nat, th = (tn : Int) := ⟨th.toNat, by omega⟩
  obtain ⟨W, hWn⟩ : ∃ W : Nat, tn + 1 = W := ⟨_, rfl⟩
  by_cases hr : dqRight 0 size
  case neg =>
    have HR := Lib.hid (fun W => rRight_any 0 size W)
    rw [decide_eq_false hr] at HR
    clear hr
    go_wp2_with fail
    refine (HR.out W2).mono ?_
    rintro e w2 ⟨rfl, rfl⟩
    go_wp2
    go_ret
    exact ⟨rfl, HB2.out⟩
  obtain ⟨N, rfl⟩ : ∃ N : Nat, size = (N : Int) := ⟨size.toNat, by have := hr.1; omega⟩
  have HR := Lib.hid (fun W => rRight_any 0 N W)
  rw [decide_eq_true hr] at HR
  have hpow : dqPow N := hr.1
  by_cases h5 : 300 < q
  · have d5 : decide ((300 : Int) < q) = true := decide_eq_true (by omega)
    go_wp2_with fail
    refine (HR.out W2).mono ?_
    rintro e w2 ⟨rfl, rfl⟩
    go_wp2
    go_ret
    exact ⟨rfl, HB2.out⟩
  have d5 : decide ((300 : Int) < q) = false := decide_eq_false (by omega)
  have HPow := Lib.hid hpow
  have HRr := Lib.hid hr
  have hN2 : 2 ≤ N ∧ N ≤ 256 := by unfold dqPow at hpow; omega
  clear hpow hr
  go_wp2_with fail
  clear hW
  refine (HR.out W2).mono ?_
  rintro e w2 ⟨rfl, rfl⟩
  go_wp2_with fail
  have NA := new_any (N + 2) W2 (by omega) (by omega)
  rw [show ((N + 2 : Nat) : Int) = (N : Int) + 2 by omega] at NA
  refine NA.mono ?_
  clear NA
  rintro e w3 ⟨m, b, rfl, hM, k3, hm, hb⟩
  have HM3 := Lib.hid hM
  have HB3 := Lib.hid (HB2.out.trans (k3.below (by omega) (by simp)))
  have HBx3 := Lib.hid (HBx2.out.keeps k3 (by simp))
  have s3 := HB3.out.size
  have hmlt := hM.lt
  clear hM k3 HB2 HBx2
  go_wp2_with fail
  obtain ⟨W4, hW4⟩ : ∃ W4, w3.alloc (.cells #[.int .u64 from_, .int .u64 from_] 38) = W4 := ⟨_, rfl⟩
  have k4 : Keeps [] w3 W4 := by rw [← hW4]; exact (Keeps.refl _ _).alloc _
  have r4 : Sl W4 1 (.slice (some ⟨w3.heap.size, 0, none⟩) 2 2) 2 (ints .u64 [from_, from_]) := by rw [← hW4]; exact (Row.new w3 #[.int .u64 from_, .int .u64 from_] 38).sl (n := 2) (cap := 2) rfl
  have HFl := Lib.hid (fill_any m b (List.replicate (N + 2) 0) [from_, from_] _ 2 W4 (HM3.out.keeps k4 (by simp) (by simp)) r4 (fun u hu => by simp at hu; subst hu; exact HF.out) (by unfold maxLen; omega))
  have HB4 := Lib.hid (HB3.out.trans (k4.below (by omega) (by simp)))
  have HBx4 := Lib.hid (HBx3.out.keeps k4 (by simp))
  have s4 := HB4.out.size
  have hab4 := HBx4.out.lt
  rw [hW4]
  clear k4 r4 hW4 HB3 HBx3
  refine HFl.out.mono ?_
  rintro e w5 ⟨rfl, hM5, k5⟩
  obtain ⟨us, hus⟩ : ∃ us, C.fill (List.replicate (N + 2) 0) [from_, from_] = us := ⟨_, rfl⟩
  have hus2 : us = from_ :: from_ :: List.replicate N 0 := by rw [← hus]; unfold C.fill; simp [List.replicate_succ] <;> omega
  rw [hus] at hM5
  have HQ5 : Hid (DqInv N W from_ us (fun _ => none) 0 0 (fun _ => 0)) := Lib.hid (by
    have h0 : dqU from_ 0 = from_ := by have := HF.out.nn; have := HF.out.lt; unfold dqU; omega
    exact { size_ := HPow.out, len := by rw [hus2]; simp, top := by rw [hus2, h0]; rfl, range := ⟨by omega, by omega, by omega, by omega⟩, slots := fun x x1 x2 => by omega, tasks := fun _ => ⟨by decide, by decide⟩,
            low := (fun ⟨s, h, _⟩ => by cases h), high := fun _ => by rw [hus2, h0]; rfl, wk := fun _ _ _ h => by cases h })
  have HM5 := Lib.hid hM5
  have hbab : b ≠ ab := by omega
  have HBx5 := Lib.hid (HBx4.out.keeps k5 (by simp; exact Ne.symm hbab))
  have HB5 := Lib.hid (HB4.out.trans (k5.below (by omega) (by simp; omega)))
  have s5 := HB5.out.size
  have hab5 := HBx5.out.lt
  have hml5 := hM5.lt
  clear hM5 k5 hus hus2 HB4 HBx4 HM3
  -- the blocks that nobody writes
  obtain ⟨E, hE⟩ : ∃ E : Nat → Prop, (fun x => x < B ∨ x = ab) = E := ⟨_, rfl⟩
  have HE : Hid ((∀ k, k < B → E k) ∧ E ab ∧ ∀ k, E k → k < B ∨ k = ab) := Lib.hid (by rw [← hE]; exact ⟨fun k hk => .inl hk, .inr rfl, fun k hk => hk⟩)
  clear hE
  have LN := loomNew_any E W m b us w5 HM5.out (by omega) (by omega) (fun k hk => by rcases HE.out.2.2 k hk with h | h <;> omega) (fun hk => by rcases HE.out.2.2 b hk with h | h <;> omega)
  rw [show ((W : Nat) : Int) = (tn : Int) + 1 by omega] at LN
  have HLN := Lib.hid LN
  clear LN
  go_wp2_with fail
  refine HLN.out.mono ?_
  rintro e w6 ⟨l, gl, rfl, hL6, k6⟩
  have HL6 := Lib.hid hL6
  have HBx6 := Lib.hid (HBx5.out.keeps k6 (by simp))
  have HB6 := Lib.hid (HB5.out.trans (k6.below (by omega) (by simp)))
  have s6 := HB6.out.size
  have s56 := k6.size
  clear hL6 k6 HBx5 HB5 HM5
  obtain ⟨W7, hW7⟩ : ∃ W7, w6.alloc (.map #[] 0) = W7 := ⟨_, rfl⟩
  have k7 : Keeps [] w6 W7 := by rw [← hW7]; exact (Keeps.refl _ _).alloc _
  have c7 : Cnt W7 w6.heap.size 0 fun _ => 0 := by rw [← hW7]; exact Cnt.made w6
  obtain ⟨mb, hmb⟩ : ∃ mb, w6.heap.size = mb := ⟨_, rfl⟩
  rw [hmb] at c7
  have hPP : ¬ E mb ∧ mb ≠ m ∧ mb < W7.heap.size := ⟨fun h => by rcases HE.out.2.2 mb h with h | h <;> omega, by omega, c7.lt⟩
  have HL7 : Hid (Loom (fun x => E x ∨ x = mb) W7 ⟨l, gl, m, b, us, List.replicate W none, 0⟩) := Lib.hid (HL6.out.widen k7 (fun k hk => by
    rcases hk with hk | hk
    · exact .inl hk
    · subst hk; exact .inr ⟨by omega, hPP.2.2⟩))
  have HC7 := Lib.hid c7
  have HP7 := Lib.hid hPP
  have HBx7 := Lib.hid (HBx6.out.keeps k7 (by simp))
  have HB7 := Lib.hid (HB6.out.trans (k7.below (by omega) (by simp)))
  have HD7 : Hid (DqPlay N W q from_ 0 0 ⟨l, gl, m, b, us, List.replicate W none, 0⟩ (fun _ => none) 0 0 (fun _ => 0) (fun _ => 0) 0 0 false 0 none) := Lib.hid
    { crew := ⟨Crew.new _ _ _ _ _ _ _, HQ5.out⟩, play := Play.begin_, own := ⟨fun _ => ⟨rfl, rfl⟩, fun s h => by cases h⟩, thief := (fun _ _ _ _ h => by cases h), steps := (fun _ _ _ h => by cases h), low := (by omega), nx := (by omega), st := Nat.le_refl _ }
  clear k7 c7 hPP HL6 HBx6 HB6
  have HSPr : Hid (∀ W, Held E W7 W → Sl W 1 (.slice pp q cp) q (ints .u8 ys)) := Lib.hid fun W hW => HSP.out.below (HB7.out.trans (Held.below (hW.narrow (E := (· < B)) (fun k hk => HE.out.1 k hk)))) (by omega)
  have HBxr : Hid (∀ W, Held E W7 W → W.cell? ⟨ab, 0, none⟩ = some (.int .i64 0) ∧ W.cell? ⟨ab, 1, none⟩ = some (.int .i64 (N : Int))) := Lib.hid fun W hW => by
    have hbx := HBx7.out.block hW.size (hW.block ab HE.out.2.1)
    exact ⟨hbx.cells 0, hbx.cells 1⟩
  go_wp2
  clear hW7 hmb hmm
  go_loopw [14, 15, 18, 19] (fun nx pu sl i wr => ∃ k : Nat, k ≤ q + 20 * W ∧ i = .int .i64 (k : Int) ∧ ∃ (L : LSt) (ss : Nat → Option DqS) (T Bd : Int) (A cnt : Int → Int) (next stolen : Int) (p : Bool) (lim : Int) (hand : Option Int) (nm : Nat), nx = .int .u64 next ∧ pu = .bool p ∧ sl = .int .u64 stolen ∧
    Held E W7 wr ∧ Loom (fun x => E x ∨ x = mb) wr L ∧ L.l = l ∧ L.mm = m ∧ Cnt wr mb nm cnt ∧ nm ≤ k ∧ DqPlay N W q from_ k k L ss T Bd A cnt next stolen p lim hand) (fun _ _ _ i _ => q + 20 * W - (intOf i).toNat)
  case atStart => exact ⟨0, Nat.zero_le _, rfl, _, _, 0, 0, _, _, 0, 0, false, 0, none, 0, rfl, rfl, rfl, Held.refl _ _, HL7.out, rfl, rfl, HC7.out, Nat.le_refl _, HD7.out⟩
  case round =>
    obtain ⟨k, hk, rfl, L, ss, T, Bd, A, cnt, next, stolen, p, lim, hand, nm, rfl, rfl, rfl, hh, hL, hLl, hLm, hc, hnm, hD⟩ := hrel
    have HHr := Lib.hid hh
    have HL := Lib.hid hL
    have HC := Lib.hid hc
    have HD := Lib.hid hD
    clear hh hL hc hD
    by_cases hlt : k < q + 20 * W
    · have dk : decide ((k : Int) < (q : Int) + 20 * ((tn : Int) + 1)) = true := decide_eq_true (by omega)
      go_upto_region 18 with (fail)
      obtain ⟨late, hlate⟩ : ∃ late, decide (q ≤ k) = late := ⟨_, rfl⟩
      go_cut [20] from 72 to 220 (fun v w' => v = .bool late ∧ wr = w')
      case first =>
        -- << late
        as_aux_lemma =>
          by_cases hl : q ≤ k
          · have d1 : decide ((q : Int) ≤ (k : Int)) = true := decide_eq_true (by omega)
            rw [decide_eq_true hl] at hlate
            subst hlate
            go_wp2
            go_meet
            exact ⟨rfl, rfl⟩
          · have d1 : decide ((q : Int) ≤ (k : Int)) = false := decide_eq_false (by omega)
            rw [decide_eq_false hl] at hlate
            subst hlate
            go_wp2
            go_meet
            exact ⟨rfl, rfl⟩
        -- >> late
      obtain ⟨rfl, rfl⟩ := hcut
      go_upto_if 86 with (fail)
      go_cut [21] from 72 to 220 (fun v w' => ∃ who : Nat, v = .int .i64 (who : Int) ∧ who < W ∧ (k < q ∨ who = (k - q) / 20) ∧ wr = w')
      case first =>
        -- << who
        as_aux_lemma =>
          cases late with
          | true =>
            have hl : q ≤ k := of_decide_eq_true hlate
            have e1 : ((k : Int) - (q : Int)) = ((k - q : Nat) : Int) := by omega
            go_wp2
            go_meet
            refine ⟨(k - q) / 20, ?_, by omega, .inr rfl, rfl⟩
            congr 1
          | false =>
            have hl : ¬ q ≤ k := of_decide_eq_false hlate
            have hsl := HSPr.out wr HHr.out
            obtain ⟨pb, po, pc, he, hpb, hpc⟩ := hsl.some (by omega)
            cases he
            have hkz : k < ys.length := by rw [HLP.out]; omega
            have ay := hpc k _ (ints_at (k := .u8) hkz)
            have hyb := HY.out (ys.getD k 0) (by rw [List.getD, List.getElem?_eq_getElem hkz]; exact List.getElem_mem hkz)
            obtain ⟨y, hy⟩ : ∃ y, ys.getD k 0 = y := ⟨_, rfl⟩
            rw [hy] at ay hyb
            obtain ⟨yn, rfl⟩ : ∃ yn : Nat, y = (yn : Int) := ⟨y.toNat, by omega⟩
            have iq : (k : Int) < (q : Int) := by omega
            clear hpc hsl hy
            go_wp2
            go_meet
            refine ⟨yn % W, ?_, Nat.mod_lt _ (by omega), .inl (by omega), rfl⟩
            rw [Int.natCast_emod, show ((W : Nat) : Int) = (tn : Int) + 1 by omega]
        -- >> who
      obtain ⟨who, rfl, hwn, hwf, rfl⟩ := hcut
      obtain ⟨o, ho, hb⟩ := HD.out.crew.crew.at hwn
      have D := busy_at _ L who o wr HL.out ho
      rw [hLl, hb] at D
      obtain ⟨bb, hbb⟩ : ∃ bb, atWork dequeM (ss who) = bb := ⟨_, rfl⟩
      rw [hbb] at D hb
      have HBB := Lib.hid hbb
      have HO := Lib.hid (⟨ho, hb⟩ : _ ∧ _)
      clear ho hb hbb
      go_wp2_with fail
      refine D.mono ?_
      clear D
      rintro e w2 ⟨rfl, k2⟩
      have HL2 := Lib.hid (HL.out.keeps k2)
      have HC2 := Lib.hid (HC.out.keeps k2 (by simp))
      have HH2 := Lib.hid (HHr.out.trans (k2.held (fun k hk => HL.out.dom k (.inl hk)) (by simp)))
      clear k2 HHr HL HC
      go_upto_if 103 with (fail)
      go_cut [14, 15] from 72 to 220 (fun nx' pu' w' => Held E W7 w' ∧ ∃ (L2 : LSt) (ss2 : Nat → Option DqS) (next2 : Int) (p2 : Bool) (lim2 : Int) (hand2 : Option Int) (s : DqS), nx' = .int .u64 next2 ∧ pu' = .bool p2 ∧ Loom (fun x => E x ∨ x = mb) w' L2 ∧ L2.l = l ∧ L2.mm = m ∧ Cnt w' mb nm cnt ∧
        DqPlay N W q from_ k (k + 1) L2 ss2 T Bd A cnt next2 stolen p2 lim2 hand2 ∧ ss2 who = some s ∧ s.over = none)
      case first =>
        -- << begin
        as_aux_lemma =>
          cases bb with
          | true =>
            obtain ⟨s, hs1, hs2⟩ := HD.out.crew.work HBB.out
            have HM := Lib.hid (⟨hs1, hs2⟩ : _ ∧ _)
            clear hs1 hs2
            go_wp2
            go_meet
            exact ⟨HH2.out, L, ss, next, p, lim, hand, s, rfl, rfl, HL2.out, hLl, hLm, HC2.out, HD.out.more, HM.out.1, HM.out.2⟩
          | false =>
            cases late with
            | true =>
              have hl : q ≤ k := of_decide_eq_true hlate
              go_wp2
              go_roundw
              case rel => exact ⟨k + 1, by omega, by go_num, L, ss, T, Bd, A, cnt, next, stolen, p, lim, hand, nm, rfl, rfl, rfl, HH2.out, HL2.out, hLl, hLm, HC2.out, by omega, HD.out.skip hl (by omega) HBB.out⟩
              case measure => simp [intOf]; omega
            | false =>
              have hl : ¬ q ≤ k := of_decide_eq_false hlate
              have HBg : Hid (∀ (P : Bool) (V : Int), M.U V → Calls Try.prog 17 #[.agg #[.int .i64 0, .int .i64 (N : Int)], .int .i64 (who : Int), .bool P, .int .u64 V] w2 _) := Lib.hid fun P V hV => begun_any N who P V w2 (by omega) hV
              have hsl := HSPr.out w2 HH2.out
              obtain ⟨pb, po, pc, he, hpb, hpc⟩ := hsl.some (by omega)
              cases he
              have hkz : k < ys.length := by rw [HLP.out]; omega
              have ay := hpc k _ (ints_at (k := .u8) hkz)
              have hyb := HY.out (ys.getD k 0) (by rw [List.getD, List.getElem?_eq_getElem hkz]; exact List.getElem_mem hkz)
              obtain ⟨y, hy⟩ : ∃ y, ys.getD k 0 = y := ⟨_, rfl⟩
              rw [hy] at ay hyb
              obtain ⟨yn, rfl⟩ : ∃ yn : Nat, y = (yn : Int) := ⟨y.toNat, by omega⟩
              have iq : (k : Int) < (q : Int) := by omega
              have hbx := HBxr.out w2 HH2.out
              have b0 := hbx.1
              have b1 := hbx.2
              have hnxt := HD.out.nx
              clear hpc hsl hy hbx
              by_cases h0 : who = 0
              · have hwz : ((who : Int) == 0) = true := by simp [h0]
                have HZ := Lib.hid h0
                clear h0
                by_cases hpp : 100 ≤ yn
                · have dy : decide ((100 : Int) ≤ (yn : Int)) = true := decide_eq_true (by omega)
                  have hwr : IntKind.u64.wrap (next + 1) = next + 1 := by show (next + 1) % 18446744073709551616 = _; omega
                  go_wp2_with fail
                  refine (HBg.out true (next + 1) (by have := HD.out.nx; exact ⟨by omega, by omega⟩)).mono ?_
                  rintro e w3 ⟨m3, S3, rfl, i3, k3, s3⟩
                  have hst := HD.out.start hwn (by omega) HBB.out m3 true (by omega)
                  rw [show pxt who true p = true from if_pos HZ.out, show nxt who true next = next + 1 from if_pos ⟨HZ.out, rfl⟩] at hst
                  obtain ⟨lim2, hand2, hD2⟩ := hst
                  have HD2 := Lib.hid hD2
                  have D := start_at _ L who o ⟨DqS, dequeM, LoneIO dequeM (dqE m3) m3, m3, dqRuns m3, dqNew 0 N (bgK who true) (bgT who true (next + 1))⟩ S3 w2 w3 HL2.out k3 HO.out.1 HO.out.2 i3 s3
                  rw [hLl] at D
                  have HH3 := Lib.hid (HH2.out.trans (k3.held (fun k hk => HL2.out.dom k (.inl hk)) (by simp)))
                  have HC3 := Lib.hid (HC2.out.keeps k3 (by simp))
                  have HG : Hid ((¬ (E L.g ∨ L.g = mb)) ∧ ∀ k, E k → k < w3.heap.size) := Lib.hid ⟨HL2.out.base.2.1, fun k hk => Nat.lt_of_lt_of_le (HL2.out.dom k (.inl hk)) k3.size⟩
                  clear i3 k3 s3 b0 b1 hD2
                  go_wp2_with fail
                  refine D.mono ?_
                  clear D
                  rintro e w4 ⟨rfl, hL4, k4⟩
                  have HL4 := Lib.hid hL4
                  have HH4 := Lib.hid (HH3.out.trans (k4.held HG.out.2 (fun k hk => by simp at hk; subst hk; exact fun h => HG.out.1 (.inl h))))
                  have HC4 := Lib.hid (HC3.out.keeps k4 (by simp; exact fun h => HG.out.1 (.inr h.symm)))
                  clear hL4 k4
                  go_wp2
                  go_meet
                  exact ⟨HH4.out, _, _, next + 1, true, lim2, hand2, _, rfl, rfl, HL4.out, rfl, hLm, HC4.out, HD2.out.same rfl rfl rfl, updG_same _ _ _, dqNew_over HPow.out _ _⟩
                · have dy : decide ((100 : Int) ≤ (yn : Int)) = false := decide_eq_false (by omega)
                  go_wp2_with fail
                  refine (HBg.out false (next) (by have := HD.out.nx; exact ⟨by omega, by omega⟩)).mono ?_
                  rintro e w3 ⟨m3, S3, rfl, i3, k3, s3⟩
                  have hst := HD.out.start hwn (by omega) HBB.out m3 false (by omega)
                  rw [show pxt who false p = false from if_pos HZ.out, show nxt who false next = next from if_neg (fun h => absurd h.2 (by decide))] at hst
                  obtain ⟨lim2, hand2, hD2⟩ := hst
                  have HD2 := Lib.hid hD2
                  have D := start_at _ L who o ⟨DqS, dequeM, LoneIO dequeM (dqE m3) m3, m3, dqRuns m3, dqNew 0 N (bgK who false) (bgT who false (next))⟩ S3 w2 w3 HL2.out k3 HO.out.1 HO.out.2 i3 s3
                  rw [hLl] at D
                  have HH3 := Lib.hid (HH2.out.trans (k3.held (fun k hk => HL2.out.dom k (.inl hk)) (by simp)))
                  have HC3 := Lib.hid (HC2.out.keeps k3 (by simp))
                  have HG : Hid ((¬ (E L.g ∨ L.g = mb)) ∧ ∀ k, E k → k < w3.heap.size) := Lib.hid ⟨HL2.out.base.2.1, fun k hk => Nat.lt_of_lt_of_le (HL2.out.dom k (.inl hk)) k3.size⟩
                  clear i3 k3 s3 b0 b1 hD2
                  go_wp2_with fail
                  refine D.mono ?_
                  clear D
                  rintro e w4 ⟨rfl, hL4, k4⟩
                  have HL4 := Lib.hid hL4
                  have HH4 := Lib.hid (HH3.out.trans (k4.held HG.out.2 (fun k hk => by simp at hk; subst hk; exact fun h => HG.out.1 (.inl h))))
                  have HC4 := Lib.hid (HC3.out.keeps k4 (by simp; exact fun h => HG.out.1 (.inr h.symm)))
                  clear hL4 k4
                  go_wp2
                  go_meet
                  exact ⟨HH4.out, _, _, next, false, lim2, hand2, _, rfl, rfl, HL4.out, rfl, hLm, HC4.out, HD2.out.same rfl rfl rfl, updG_same _ _ _, dqNew_over HPow.out _ _⟩
              · have hwz : ((who : Int) == 0) = false := by simp; omega
                have HZ := Lib.hid h0
                clear h0
                go_wp2_with fail
                refine (HBg.out p (next) (by have := HD.out.nx; exact ⟨by omega, by omega⟩)).mono ?_
                rintro e w3 ⟨m3, S3, rfl, i3, k3, s3⟩
                have hst := HD.out.start hwn (by omega) HBB.out m3 false (by omega)
                rw [show pxt who false p = p from if_neg HZ.out, show nxt who false next = next from if_neg (fun h => absurd h.2 (by decide))] at hst
                obtain ⟨lim2, hand2, hD2⟩ := hst
                have HD2 := Lib.hid hD2
                have D := start_at _ L who o ⟨DqS, dequeM, LoneIO dequeM (dqE m3) m3, m3, dqRuns m3, dqNew 0 N (bgK who p) (bgT who p (next))⟩ S3 w2 w3 HL2.out k3 HO.out.1 HO.out.2 i3 s3
                rw [hLl] at D
                have HH3 := Lib.hid (HH2.out.trans (k3.held (fun k hk => HL2.out.dom k (.inl hk)) (by simp)))
                have HC3 := Lib.hid (HC2.out.keeps k3 (by simp))
                have HG : Hid ((¬ (E L.g ∨ L.g = mb)) ∧ ∀ k, E k → k < w3.heap.size) := Lib.hid ⟨HL2.out.base.2.1, fun k hk => Nat.lt_of_lt_of_le (HL2.out.dom k (.inl hk)) k3.size⟩
                clear i3 k3 s3 b0 b1 hD2
                go_wp2_with fail
                refine D.mono ?_
                clear D
                rintro e w4 ⟨rfl, hL4, k4⟩
                have HL4 := Lib.hid hL4
                have HH4 := Lib.hid (HH3.out.trans (k4.held HG.out.2 (fun k hk => by simp at hk; subst hk; exact fun h => HG.out.1 (.inl h))))
                have HC4 := Lib.hid (HC3.out.keeps k4 (by simp; exact fun h => HG.out.1 (.inr h.symm)))
                clear hL4 k4
                go_wp2
                go_meet
                exact ⟨HH4.out, _, _, next, p, lim2, hand2, _, rfl, rfl, HL4.out, rfl, hLm, HC4.out, HD2.out.same rfl rfl rfl, updG_same _ _ _, dqNew_over HPow.out _ _⟩
        -- >> begin
      obtain ⟨hhc, L2, ss2, next2, p2, lim2, hand2, s, rfl, rfl, hLc, hl2, hm2, hcc, hDc, hs2, ho2⟩ := hcut
      obtain ⟨LM, s', T', B', A', hone, hmm, hout⟩ := hDc.step hwn hs2 ho2 hwf (by omega)
      have D := pick_step _ who L2 LM wc hLc hone (by have := hDc.st; omega)
      rw [hl2] at D
      have hMl : LM.l = l := hone.l.trans hl2
      have hMm : LM.mm = m := hmm.trans hm2
      have hnx2 := hDc.nx
      have hmbm : mb ≠ m := HP7.out.2.1
      have HHc := Lib.hid hhc
      have HCc := Lib.hid hcc
      have HOut := Lib.hid hout
      clear hhc hLc hcc hDc hs2 ho2 hone hmm hout HL2 HC2 HH2 HD HBB HO
      go_wp2_with fail
      refine D.mono ?_
      clear D
      rintro e w7 ⟨rfl, hl7, hh7⟩
      have HL7 := Lib.hid hl7
      have HH7 := Lib.hid (HHc.out.trans (hh7.narrow (fun k hk => .inl hk)))
      have HC7 := Lib.hid (HCc.out.block (hh7.block mb (.inr rfl)))
      clear hl7 hh7 HHc HCc
      cases HOut.out with
      | go hr hP =>
        -- << go
        as_aux_lemma =>
          obtain ⟨lim', hand', hD'⟩ := hP
          have HD' := Lib.hid hD'
          clear hD'
          have hrs := HD'.out.crew.crew.result _ w7 HL7.out hwn (updG_same _ _ _) (show dequeM.res s' = none from hr)
          rw [hMl] at hrs
          go_wp2_with fail
          refine hrs.mono ?_
          clear hrs
          rintro e w8 ⟨q8, c8, rfl, -, k8⟩
          obtain ⟨W9, hW9⟩ : ∃ W9, w8.alloc (.cells #[.int .i64 0, .int .u64 0, .slice q8 0 c8] 50) = W9 := ⟨_, rfl⟩
          have ka : Keeps [] w8 W9 := by rw [← hW9]; exact (Keeps.refl _ _).alloc _
          have rb : Row W9 w8.heap.size 50 [.int .i64 0, .int .u64 0, .slice q8 0 c8] := by rw [← hW9]; exact Row.new _ _ _
          have HL9 := Lib.hid (HL7.out.keeps (k8.trans ka))
          have HC9 := Lib.hid (HC7.out.keeps (k8.trans ka) (by simp))
          have HH9 := Lib.hid (HH7.out.trans ((k8.trans ka).held (fun k hk => HL7.out.dom k (.inl hk)) (by simp)))
          have r0 := rb.cell (j := 0) rfl
          have r1 := rb.cell (j := 1) rfl
          have rlt := rb.lt
          have hmb8 : mb < w8.heap.size := Nat.lt_of_lt_of_le HC7.out.lt k8.size
          clear k8 ka rb HL7 HC7 HH7 HOut
          go_wp2
          go_roundw
          case rel => exact ⟨k + 1, by omega, by go_num, LM, _, T', B', A', cnt, next2, stolen, p2, lim', hand', nm, rfl, rfl, rfl, HH9.out, HL9.out, hMl, hMm, HC9.out, by omega, HD'.out⟩
          case measure => simp [intOf]; omega
        -- >> go
      | push h0 hp hr hP =>
        -- << push
        as_aux_lemma =>
          have hwz : ((who : Int) == 0) = true := by simp [h0]
          have hw0 : decide ((0 : Int) < (who : Int)) = false := decide_eq_false (by omega)
          have hw2 : decide (0 < who) = false := decide_eq_false (by omega)
          clear h0
          subst hp
          obtain ⟨lim', hand', hD'⟩ := hP
          have HD' := Lib.hid hD'
          clear hD'
          have hrs := HD'.out.crew.crew.result _ w7 HL7.out hwn (updG_same _ _ _) (show dequeM.res s' = some ⟨0, 0, []⟩ from hr)
          rw [hMl] at hrs
          go_wp2_with fail
          refine hrs.mono ?_
          clear hrs
          rintro e w8 ⟨q8, c8, rfl, -, k8⟩
          obtain ⟨W9, hW9⟩ : ∃ W9, w8.alloc (.cells #[.int .i64 0, .int .u64 0, .slice q8 0 c8] 50) = W9 := ⟨_, rfl⟩
          have ka : Keeps [] w8 W9 := by rw [← hW9]; exact (Keeps.refl _ _).alloc _
          have rb : Row W9 w8.heap.size 50 [.int .i64 0, .int .u64 0, .slice q8 0 c8] := by rw [← hW9]; exact Row.new _ _ _
          have HL9 := Lib.hid (HL7.out.keeps (k8.trans ka))
          have HC9 := Lib.hid (HC7.out.keeps (k8.trans ka) (by simp))
          have HH9 := Lib.hid (HH7.out.trans ((k8.trans ka).held (fun k hk => HL7.out.dom k (.inl hk)) (by simp)))
          have r0 := rb.cell (j := 0) rfl
          have r1 := rb.cell (j := 1) rfl
          have rlt := rb.lt
          have hmb8 : mb < w8.heap.size := Nat.lt_of_lt_of_le HC7.out.lt k8.size
          clear k8 ka rb HL7 HC7 HH7 HOut
          go_wp2
          go_roundw
          case rel => exact ⟨k + 1, by omega, by go_num, LM, _, T', B', A', cnt, next2, stolen, true, lim', hand', nm, rfl, rfl, rfl, HH9.out, HL9.out, hMl, hMm, HC9.out, by omega, HD'.out⟩
          case measure => simp [intOf]; omega
        -- >> push
      | full h0 hp hr hn1 hc0 hP =>
        -- << full
        as_aux_lemma =>
          have hwz : ((who : Int) == 0) = true := by simp [h0]
          have hw0 : decide ((0 : Int) < (who : Int)) = false := decide_eq_false (by omega)
          have hw2 : decide (0 < who) = false := decide_eq_false (by omega)
          clear h0
          subst hp
          obtain ⟨lim', hand', hD'⟩ := hP
          have HD' := Lib.hid hD'
          clear hD'
          have hrs := HD'.out.crew.crew.result _ w7 HL7.out hwn (updG_same _ _ _) (show dequeM.res s' = some ⟨4, 0, []⟩ from hr)
          rw [hMl] at hrs
          go_wp2_with fail
          refine hrs.mono ?_
          clear hrs
          rintro e w8 ⟨q8, c8, rfl, -, k8⟩
          obtain ⟨W9, hW9⟩ : ∃ W9, w8.alloc (.cells #[.int .i64 4, .int .u64 0, .slice q8 0 c8] 50) = W9 := ⟨_, rfl⟩
          have ka : Keeps [] w8 W9 := by rw [← hW9]; exact (Keeps.refl _ _).alloc _
          have rb : Row W9 w8.heap.size 50 [.int .i64 4, .int .u64 0, .slice q8 0 c8] := by rw [← hW9]; exact Row.new _ _ _
          have HL9 := Lib.hid (HL7.out.keeps (k8.trans ka))
          have HC9 := Lib.hid (HC7.out.keeps (k8.trans ka) (by simp))
          have HH9 := Lib.hid (HH7.out.trans ((k8.trans ka).held (fun k hk => HL7.out.dom k (.inl hk)) (by simp)))
          have r0 := rb.cell (j := 0) rfl
          have r1 := rb.cell (j := 1) rfl
          have rlt := rb.lt
          have hmb8 : mb < w8.heap.size := Nat.lt_of_lt_of_le HC7.out.lt k8.size
          clear k8 ka rb HL7 HC7 HH7 HOut
          have hvU : M.U next2 := ⟨by omega, by omega⟩
          go_wp2_with (first
            | (at_lookup; refine wpList_look_cnt _ rfl _ _ rfl mb nm cnt rfl HC9.out next2 0 rfl hvU hc0 ?_)
            | (at_mapUpdate; refine wpList_put_cnt _ rfl _ _ _ rfl mb nm cnt rfl HC9.out (by unfold maxLen; omega) next2 1 rfl rfl hvU (by decide) ?_)
            | fail)
          intro W10 hc10 k10
          have HC10 := Lib.hid hc10
          have HL10 := Lib.hid (HL9.out.apart k10 (fun k hk => by simp at hk; exact .inr hk) (by rw [hMm]; simp; exact fun h => hmbm h.symm))
          have HH10 := Lib.hid (HH9.out.trans (k10.held (fun k hk => HL9.out.dom k (.inl hk)) (fun k hk => by simp at hk; subst hk; exact HP7.out.1)))
          clear hc10 k10
          go_wp2
          go_roundw
          case rel => exact ⟨k + 1, by omega, by go_num, LM, _, T', B', A', _, next2, stolen, true, lim', hand', (nm + 1), rfl, rfl, rfl, HH10.out, HL10.out, hMl, hMm, HC10.out, by omega, HD'.out⟩
          case measure => simp [intOf]; omega
        -- >> full
      | empty h0 hp hr hP =>
        -- << empty
        as_aux_lemma =>
          have hwz : ((who : Int) == 0) = true := by simp [h0]
          have hw0 : decide ((0 : Int) < (who : Int)) = false := decide_eq_false (by omega)
          have hw2 : decide (0 < who) = false := decide_eq_false (by omega)
          clear h0
          subst hp
          obtain ⟨lim', hand', hD'⟩ := hP
          have HD' := Lib.hid hD'
          clear hD'
          have hrs := HD'.out.crew.crew.result _ w7 HL7.out hwn (updG_same _ _ _) (show dequeM.res s' = some ⟨5, 0, []⟩ from hr)
          rw [hMl] at hrs
          go_wp2_with fail
          refine hrs.mono ?_
          clear hrs
          rintro e w8 ⟨q8, c8, rfl, -, k8⟩
          obtain ⟨W9, hW9⟩ : ∃ W9, w8.alloc (.cells #[.int .i64 5, .int .u64 0, .slice q8 0 c8] 50) = W9 := ⟨_, rfl⟩
          have ka : Keeps [] w8 W9 := by rw [← hW9]; exact (Keeps.refl _ _).alloc _
          have rb : Row W9 w8.heap.size 50 [.int .i64 5, .int .u64 0, .slice q8 0 c8] := by rw [← hW9]; exact Row.new _ _ _
          have HL9 := Lib.hid (HL7.out.keeps (k8.trans ka))
          have HC9 := Lib.hid (HC7.out.keeps (k8.trans ka) (by simp))
          have HH9 := Lib.hid (HH7.out.trans ((k8.trans ka).held (fun k hk => HL7.out.dom k (.inl hk)) (by simp)))
          have r0 := rb.cell (j := 0) rfl
          have r1 := rb.cell (j := 1) rfl
          have rlt := rb.lt
          have hmb8 : mb < w8.heap.size := Nat.lt_of_lt_of_le HC7.out.lt k8.size
          clear k8 ka rb HL7 HC7 HH7 HOut
          go_wp2
          go_roundw
          case rel => exact ⟨k + 1, by omega, by go_num, LM, _, T', B', A', cnt, next2, stolen, false, lim', hand', nm, rfl, rfl, rfl, HH9.out, HL9.out, hMl, hMm, HC9.out, by omega, HD'.out⟩
          case measure => simp [intOf]; omega
        -- >> empty
      | nothing c h0 hc hr hP =>
        -- << nothing
        as_aux_lemma =>
          have hwz : ((who : Int) == 0) = false := by simp; omega
          have hw0 : decide ((0 : Int) < (who : Int)) = true := decide_eq_true (by omega)
          have hw2 : decide (0 < who) = true := decide_eq_true (by omega)
          clear h0
          rcases hc with rfl | rfl
          · obtain ⟨lim', hand', hD'⟩ := hP
            have HD' := Lib.hid hD'
            clear hD'
            have hrs := HD'.out.crew.crew.result _ w7 HL7.out hwn (updG_same _ _ _) (show dequeM.res s' = some ⟨5, 0, []⟩ from hr)
            rw [hMl] at hrs
            go_wp2_with fail
            refine hrs.mono ?_
            clear hrs
            rintro e w8 ⟨q8, c8, rfl, -, k8⟩
            obtain ⟨W9, hW9⟩ : ∃ W9, w8.alloc (.cells #[.int .i64 5, .int .u64 0, .slice q8 0 c8] 50) = W9 := ⟨_, rfl⟩
            have ka : Keeps [] w8 W9 := by rw [← hW9]; exact (Keeps.refl _ _).alloc _
            have rb : Row W9 w8.heap.size 50 [.int .i64 5, .int .u64 0, .slice q8 0 c8] := by rw [← hW9]; exact Row.new _ _ _
            have HL9 := Lib.hid (HL7.out.keeps (k8.trans ka))
            have HC9 := Lib.hid (HC7.out.keeps (k8.trans ka) (by simp))
            have HH9 := Lib.hid (HH7.out.trans ((k8.trans ka).held (fun k hk => HL7.out.dom k (.inl hk)) (by simp)))
            have r0 := rb.cell (j := 0) rfl
            have r1 := rb.cell (j := 1) rfl
            have rlt := rb.lt
            have hmb8 : mb < w8.heap.size := Nat.lt_of_lt_of_le HC7.out.lt k8.size
            clear k8 ka rb HL7 HC7 HH7 HOut
            go_wp2
            go_roundw
            case rel => exact ⟨k + 1, by omega, by go_num, LM, _, T', B', A', cnt, next2, stolen, p2, lim', hand', nm, rfl, rfl, rfl, HH9.out, HL9.out, hMl, hMm, HC9.out, by omega, HD'.out⟩
            case measure => simp [intOf]; omega
          · obtain ⟨lim', hand', hD'⟩ := hP
            have HD' := Lib.hid hD'
            clear hD'
            have hrs := HD'.out.crew.crew.result _ w7 HL7.out hwn (updG_same _ _ _) (show dequeM.res s' = some ⟨6, 0, []⟩ from hr)
            rw [hMl] at hrs
            go_wp2_with fail
            refine hrs.mono ?_
            clear hrs
            rintro e w8 ⟨q8, c8, rfl, -, k8⟩
            obtain ⟨W9, hW9⟩ : ∃ W9, w8.alloc (.cells #[.int .i64 6, .int .u64 0, .slice q8 0 c8] 50) = W9 := ⟨_, rfl⟩
            have ka : Keeps [] w8 W9 := by rw [← hW9]; exact (Keeps.refl _ _).alloc _
            have rb : Row W9 w8.heap.size 50 [.int .i64 6, .int .u64 0, .slice q8 0 c8] := by rw [← hW9]; exact Row.new _ _ _
            have HL9 := Lib.hid (HL7.out.keeps (k8.trans ka))
            have HC9 := Lib.hid (HC7.out.keeps (k8.trans ka) (by simp))
            have HH9 := Lib.hid (HH7.out.trans ((k8.trans ka).held (fun k hk => HL7.out.dom k (.inl hk)) (by simp)))
            have r0 := rb.cell (j := 0) rfl
            have r1 := rb.cell (j := 1) rfl
            have rlt := rb.lt
            have hmb8 : mb < w8.heap.size := Nat.lt_of_lt_of_le HC7.out.lt k8.size
            clear k8 ka rb HL7 HC7 HH7 HOut
            go_wp2
            go_roundw
            case rel => exact ⟨k + 1, by omega, by go_num, LM, _, T', B', A', cnt, next2, stolen, p2, lim', hand', nm, rfl, rfl, rfl, HH9.out, HL9.out, hMl, hMm, HC9.out, by omega, HD'.out⟩
            case measure => simp [intOf]; omega
        -- >> nothing
      | steal v h0 hr hv1 hvn hc0 hsv hP =>
        -- << steal
        as_aux_lemma =>
          have hwz : ((who : Int) == 0) = false := by simp; omega
          have hw0 : decide ((0 : Int) < (who : Int)) = true := decide_eq_true (by omega)
          have hw2 : decide (0 < who) = true := decide_eq_true (by omega)
          clear h0
          obtain ⟨lim', hand', hD'⟩ := hP
          have HD' := Lib.hid hD'
          clear hD'
          have hrs := HD'.out.crew.crew.result _ w7 HL7.out hwn (updG_same _ _ _) (show dequeM.res s' = some ⟨0, v, []⟩ from hr)
          rw [hMl] at hrs
          go_wp2_with fail
          refine hrs.mono ?_
          clear hrs
          rintro e w8 ⟨q8, c8, rfl, -, k8⟩
          obtain ⟨W9, hW9⟩ : ∃ W9, w8.alloc (.cells #[.int .i64 0, .int .u64 v, .slice q8 0 c8] 50) = W9 := ⟨_, rfl⟩
          have ka : Keeps [] w8 W9 := by rw [← hW9]; exact (Keeps.refl _ _).alloc _
          have rb : Row W9 w8.heap.size 50 [.int .i64 0, .int .u64 v, .slice q8 0 c8] := by rw [← hW9]; exact Row.new _ _ _
          have HL9 := Lib.hid (HL7.out.keeps (k8.trans ka))
          have HC9 := Lib.hid (HC7.out.keeps (k8.trans ka) (by simp))
          have HH9 := Lib.hid (HH7.out.trans ((k8.trans ka).held (fun k hk => HL7.out.dom k (.inl hk)) (by simp)))
          have r0 := rb.cell (j := 0) rfl
          have r1 := rb.cell (j := 1) rfl
          have rlt := rb.lt
          have hmb8 : mb < w8.heap.size := Nat.lt_of_lt_of_le HC7.out.lt k8.size
          clear k8 ka rb HL7 HC7 HH7 HOut
          have hvU : M.U v := ⟨by omega, by omega⟩
          go_wp2_with (first
            | (at_lookup; refine wpList_look_cnt _ rfl _ _ rfl mb nm cnt rfl HC9.out v 0 rfl hvU hc0 ?_)
            | (at_mapUpdate; refine wpList_put_cnt _ rfl _ _ _ rfl mb nm cnt rfl HC9.out (by unfold maxLen; omega) v 1 rfl rfl hvU (by decide) ?_)
            | fail)
          intro W10 hc10 k10
          have HC10 := Lib.hid hc10
          have HL10 := Lib.hid (HL9.out.apart k10 (fun k hk => by simp at hk; exact .inr hk) (by rw [hMm]; simp; exact fun h => hmbm h.symm))
          have HH10 := Lib.hid (HH9.out.trans (k10.held (fun k hk => HL9.out.dom k (.inl hk)) (fun k hk => by simp at hk; subst hk; exact HP7.out.1)))
          have hlk2 := hc10.look hvU (updZ_same cnt v 1)
          have rq0 := (k10.cell (p := ⟨w8.heap.size, 0, none⟩) rlt (by simp; omega)).trans r0
          have rq1 := (k10.cell (p := ⟨w8.heap.size, 1, none⟩) rlt (by simp; omega)).trans r1
          have dv1 : decide (v < 1) = false := decide_eq_false (by omega)
          have dvn : decide (next2 < v) = false := decide_eq_false (by omega)
          have dvs : decide (v ≤ stolen) = false := decide_eq_false (by omega)
          clear hc10 k10 r0 r1
          go_wp2
          go_roundw
          case rel => exact ⟨k + 1, by omega, by go_num, LM, _, T', B', A', _, next2, v, p2, lim', hand', (nm + 1), rfl, rfl, rfl, HH10.out, HL10.out, hMl, hMm, HC10.out, by omega, HD'.out⟩
          case measure => simp [intOf]; omega
        -- >> steal
      | pop v h0 hp hr hv1 hvn hc0 hbig hP =>
        -- << pop
        as_aux_lemma =>
          have HZ := Lib.hid h0
          have hwz : ((who : Int) == 0) = true := by simp [h0]
          have hw0 : decide ((0 : Int) < (who : Int)) = false := decide_eq_false (by omega)
          have hw2 : decide (0 < who) = false := decide_eq_false (by omega)
          clear h0
          subst hp
          obtain ⟨lim', hand', hD'⟩ := hP
          have HD' := Lib.hid hD'
          clear hD'
          have hrs := HD'.out.crew.crew.result _ w7 HL7.out hwn (updG_same _ _ _) (show dequeM.res s' = some ⟨0, v, []⟩ from hr)
          rw [hMl] at hrs
          go_wp2_with fail
          refine hrs.mono ?_
          clear hrs
          rintro e w8 ⟨q8, c8, rfl, -, k8⟩
          obtain ⟨W9, hW9⟩ : ∃ W9, w8.alloc (.cells #[.int .i64 0, .int .u64 v, .slice q8 0 c8] 50) = W9 := ⟨_, rfl⟩
          have ka : Keeps [] w8 W9 := by rw [← hW9]; exact (Keeps.refl _ _).alloc _
          have rb : Row W9 w8.heap.size 50 [.int .i64 0, .int .u64 v, .slice q8 0 c8] := by rw [← hW9]; exact Row.new _ _ _
          have HL9 := Lib.hid (HL7.out.keeps (k8.trans ka))
          have HC9 := Lib.hid (HC7.out.keeps (k8.trans ka) (by simp))
          have HH9 := Lib.hid (HH7.out.trans ((k8.trans ka).held (fun k hk => HL7.out.dom k (.inl hk)) (by simp)))
          have r0 := rb.cell (j := 0) rfl
          have r1 := rb.cell (j := 1) rfl
          have rlt := rb.lt
          have hmb8 : mb < w8.heap.size := Nat.lt_of_lt_of_le HC7.out.lt k8.size
          clear k8 ka rb HL7 HC7 HH7 HOut
          have hvU : M.U v := ⟨by omega, by omega⟩
          go_wp2_with (first
            | (at_lookup; refine wpList_look_cnt _ rfl _ _ rfl mb nm cnt rfl HC9.out v 0 rfl hvU hc0 ?_)
            | (at_mapUpdate; refine wpList_put_cnt _ rfl _ _ _ rfl mb nm cnt rfl HC9.out (by unfold maxLen; omega) v 1 rfl rfl hvU (by decide) ?_)
            | fail)
          intro W10 hc10 k10
          have HC10 := Lib.hid hc10
          have HL10 := Lib.hid (HL9.out.apart k10 (fun k hk => by simp at hk; exact .inr hk) (by rw [hMm]; simp; exact fun h => hmbm h.symm))
          have HH10 := Lib.hid (HH9.out.trans (k10.held (fun k hk => HL9.out.dom k (.inl hk)) (fun k hk => by simp at hk; subst hk; exact HP7.out.1)))
          have hlk2 := hc10.look hvU (updZ_same cnt v 1)
          have rq0 := (k10.cell (p := ⟨w8.heap.size, 0, none⟩) rlt (by simp; omega)).trans r0
          have rq1 := (k10.cell (p := ⟨w8.heap.size, 1, none⟩) rlt (by simp; omega)).trans r1
          have dv1 : decide (v < 1) = false := decide_eq_false (by omega)
          have dvn : decide (next2 < v) = false := decide_eq_false (by omega)
          have hlow : ¬ dqLow (updG ss2 who (some s') 0) := by
            rintro ⟨u, hu, h1, -⟩
            rw [HZ.out, updG_same] at hu
            cases hu
            rw [hr] at h1
            cases h1
          have hli := HD'.out.crew.inv.list hlow
          have hbx := HBxr.out W10 HH10.out
          have b0 := hbx.1
          have b1 := hbx.2
          have hm10 := HL10.out.mem
          rw [hMm] at hm10
          have hAll := dqAll_any 0 N m LM.b LM.us W10 hm10 (by simpa using HRr.out) (by rw [hli.len]; simp)
          rw [show dqAllOf ((0 : Nat) : Int) N LM.us = some (dqList T' B' A') from hli.all] at hAll
          have HAll := Lib.hid hAll
          have HBig := Lib.hid hbig
          clear hlow hli hbx hm10 hAll hc10 k10 r0 r1 hbig
          go_wp2_with fail
          refine HAll.out.mono ?_
          rintro e w16 ⟨k16, t16⟩
          obtain ⟨l16, rfl, o16⟩ := t16.2 _ rfl
          obtain ⟨lp16, lc16, rfl⟩ := (Sl.of_owns o16).len
          have hlu := HL10.out.dom mb (.inr rfl)
          have rr1 := (k16.cell (p := ⟨w8.heap.size, 1, none⟩) (by show w8.heap.size < W10.heap.size; exact World.block_lt_of_cell? W10 ⟨w8.heap.size, 1, none⟩ rq1) (by simp)).trans rq1
          obtain ⟨n16, hn16⟩ : ∃ n16, (dqList T' B' A').length = n16 := ⟨_, rfl⟩
          rw [hn16] at o16 ⊢
          have HS16 : Hid (∀ W, Keeps [] w16 W → Sl W 1 (.slice lp16 n16 lc16) n16 (ints .u64 (dqList T' B' A')) ∧ W.cell? ⟨w8.heap.size, 1, none⟩ = some (.int .u64 v)) := Lib.hid fun W hk =>
            ⟨(Sl.of_owns o16).below (hk.below (Nat.le_refl _) (by simp)) (Nat.le_refl _), (hk.cell (p := ⟨w8.heap.size, 1, none⟩) (World.block_lt_of_cell? w16 ⟨w8.heap.size, 1, none⟩ rr1) (by simp)).trans rr1⟩
          have hdp : n16 ≤ 1000000 := by
            have h1 := HD'.out.crew.inv.range
            have h2 : n16 = (B' - T').toNat := by rw [← hn16]; simp [dqList]
            omega
          have HK16 := Lib.hid k16
          clear k16 t16 o16 rr1 rq0 rq1 b0 b1 hlk2
          go_wp2
          go_loopw [26] (fun i2 wr2 => ∃ j : Nat, j ≤ n16 ∧ i2 = .int .i64 (j : Int) ∧ Keeps [] w16 wr2) (fun i2 _ => n16 - (intOf i2).toNat)
          case atStart => exact ⟨0, Nat.zero_le _, rfl, Keeps.refl _ _⟩
          case round =>
            obtain ⟨j, hj, rfl, kj⟩ := hrel
            by_cases hjl : j < n16
            · have hs := HS16.out wr kj
              obtain ⟨lb, lo, lcc, he, hlb, hlc⟩ := hs.1.some (by omega)
              cases he
              have hjz : j < (dqList T' B' A').length := by omega
              have aj := hlc j _ (ints_at (k := .u64) hjz)
              obtain ⟨x, hx⟩ : ∃ x, (dqList T' B' A').getD j 0 = x := ⟨_, rfl⟩
              rw [hx] at aj
              have hxv : x < v := HBig.out x (by rw [← hx, List.getD, List.getElem?_eq_getElem hjz]; exact List.getElem_mem hjz)
              have dx : decide (v ≤ x) = false := decide_eq_false (by omega)
              have rj := hs.2
              have ij : (j : Int) < (n16 : Int) := by omega
              have kd : ∀ nq, Keeps [] w16 (wr.drewN nq) := fun nq => kj.drewN
              clear hlc hs hx hxv
              go_wp2_with fail
              go_quiet (fail)
              go_wp2
              go_roundw
              case rel => exact ⟨j + 1, by omega, by go_num, kd _⟩
              case measure => simp [intOf]; omega
            · obtain rfl : n16 = j := by omega
              have kk := HK16.out.trans kj
              have HL17 := Lib.hid (HL10.out.keeps kk)
              have HC17 := Lib.hid (HC10.out.keeps kk (by simp))
              have HH17 := Lib.hid (HH10.out.trans (kk.held (fun k hk => HL10.out.dom k (.inl hk)) (by simp)))
              clear kk
              go_wp2
              go_roundw
              case rel => exact ⟨k + 1, by omega, by go_num, LM, _, T', B', A', _, next2, stolen, false, lim', hand', (nm + 1), rfl, rfl, rfl, HH17.out, HL17.out, hMl, hMm, HC17.out, by omega, HD'.out⟩
              case measure => simp [intOf]; omega
        -- >> pop
    · -- the end
      -- << end
      as_aux_lemma =>
        have hkq : k = q + 20 * W := by omega
        have dk : decide ((k : Int) < (q : Int) + 20 * ((tn : Int) + 1)) = false := decide_eq_false (by omega)
        obtain ⟨hlow, hend⟩ := HD.out.done (by omega) hkq
        have hnx := HD.out.nx
        have hli := HD.out.crew.inv.list hlow
        obtain ⟨xs, hxs⟩ : ∃ xs, dqList T Bd A = xs := ⟨_, rfl⟩
        rw [hxs] at hli hend
        have HEnd := Lib.hid hend
        have hbx := HBxr.out wr HHr.out
        have b0 := hbx.1
        have b1 := hbx.2
        have hm10 := HL.out.mem
        rw [hLm] at hm10
        have hAll := dqAll_any 0 N m L.b L.us wr hm10 (by simpa using HRr.out) (by rw [hli.len]; simp)
        rw [show dqAllOf ((0 : Nat) : Int) N L.us = some xs from hli.all] at hAll
        have HAll := Lib.hid hAll
        have hmbw : mb < wr.heap.size := HC.out.lt
        have hfew : xs.length ≤ N := hli.few
        have hxU : Hid (∀ x ∈ xs, M.U x) := Lib.hid hli.tasks
        clear hlow hli hbx hm10 hAll hend hxs
        go_wp2_with fail
        refine HAll.out.mono ?_
        rintro e w16 ⟨k16, t16⟩
        obtain ⟨l16, rfl, o16⟩ := t16.2 _ rfl
        have hob : xs ≠ [] → ∀ g, l16.ownBlock = some g → g ∉ [mb] := fun hne g hg => by
          rcases o16.2 with ⟨-, h0⟩ | ⟨g2, cap, cur, h2, h3, -⟩
          · exact absurd (List.eq_nil_of_length_eq_zero h0) hne
          · rw [h2] at hg
            cases hg
            simp
            omega
        have HS16 : Hid (∀ W, Keeps [mb] w16 W → Sl W 1 l16 xs.length (ints .u64 xs)) := Lib.hid fun W hk => (Sl.of_owns o16).words hk hob
        obtain ⟨lp16, lc16, rfl⟩ := (Sl.of_owns o16).len
        obtain ⟨n16, hn16⟩ : ∃ n16, xs.length = n16 := ⟨_, rfl⟩
        rw [hn16] at HS16 hfew ⊢
        have HC16 := Lib.hid (HC.out.keeps k16 (by simp))
        have HHf : Hid (∀ W, Keeps [mb] w16 W → Below B w W) := Lib.hid fun W hk => HB7.out.trans (Held.below ((HHr.out.trans ((k16.held (fun k hk => HL.out.dom k (.inl hk)) (by simp)).trans (hk.held (fun k hk => Nat.lt_of_lt_of_le (HL.out.dom k (.inl hk)) k16.size) (fun x hx => by simp at hx; subst hx; exact HP7.out.1)))).narrow (E := (· < B)) (fun k hk => HE.out.1 k hk)))
        clear k16 t16 o16 hob b0 b1
        go_wp2
        go_loopw [17, 29] (fun la i2 wr2 => ∃ j : Nat, j ≤ n16 ∧ i2 = .int .i64 (j : Int) ∧ la = .int .u64 (dqPrev xs j) ∧ Keeps [mb] w16 wr2 ∧ Cnt wr2 mb (nm + j) (dqAft xs cnt j)) (fun _ i2 _ => n16 - (intOf i2).toNat)
        case atStart => exact ⟨0, Nat.zero_le _, rfl, rfl, Keeps.refl _ _, by rw [dqAft_zero]; exact HC16.out⟩
        case round =>
          obtain ⟨j, hj, rfl, rfl, kj, hcj⟩ := hrel
          have HCj := Lib.hid hcj
          have HKj := Lib.hid kj
          clear hcj kj
          by_cases hjl : j < n16
          · have hs := HS16.out wr HKj.out
            obtain ⟨lb, lo, lcc, he, hlb, hlc⟩ := hs.some (by omega)
            cases he
            have hjz : j < xs.length := by omega
            have aj := hlc j _ (ints_at (k := .u64) hjz)
            have hlook := HEnd.out.look hjz
            have hnext := HEnd.out.next_ hjz
            have hprev := HEnd.out.prev hjz
            have hsucc := dqPrev_succ xs j
            obtain ⟨x, hx⟩ : ∃ x, xs.getD j 0 = x := ⟨_, rfl⟩
            have hxu : M.U x := hxU.out x (by rw [← hx, List.getD, List.getElem?_eq_getElem hjz]; exact List.getElem_mem hjz)
            have HX := Lib.hid hx
            rw [hx] at aj hlook hnext hprev hsucc
            have dx : decide (x ≤ dqPrev xs j) = false := decide_eq_false (by omega)
            have ij : (j : Int) < (n16 : Int) := by omega
            have HNx := Lib.hid (⟨hnext, hsucc⟩ : _ ∧ _)
            clear hlc hs hx hnext hsucc hprev
            go_wp2_with (first
              | (at_lookup; refine wpList_look_cnt _ rfl _ _ rfl mb (nm + j) _ rfl HCj.out x 0 rfl hxu hlook ?_)
              | (at_mapUpdate; refine wpList_put_cnt _ rfl _ _ _ rfl mb (nm + j) _ rfl HCj.out (by unfold maxLen; omega) x 1 rfl rfl hxu (by decide) ?_)
              | fail)
            intro W10 hc10 k10
            have hs := HS16.out W10 (HKj.out.trans k10)
            obtain ⟨lb2, lo2, lcc2, he, hlb, hlc⟩ := hs.some (by omega)
            cases he
            have aj2 := hlc j _ (ints_at (k := .u64) hjz)
            rw [HX.out] at aj2
            rw [HNx.out.1] at hc10
            have HC10 := Lib.hid hc10
            have HK10 := Lib.hid (HKj.out.trans k10)
            clear hlc hs hc10 k10 aj
            go_wp2
            go_roundw
            case rel =>
              rw [← HNx.out.2]
              exact ⟨j + 1, by omega, by go_num, rfl, HK10.out, HC10.out⟩
            case measure => simp [intOf]; omega
          · obtain rfl : n16 = j := by omega
            obtain ⟨nx, rfl⟩ : ∃ nx : Nat, next = (nx : Int) := ⟨next.toNat, by omega⟩
            have HFin : Hid (∀ v : Int, 1 ≤ v → v ≤ (nx : Int) → dqAft xs cnt n16 v = 1) := Lib.hid fun v h1 h2 => by rw [← hn16]; exact HEnd.out.fin h1 h2

            go_wp2
            go_loopw [30] (fun v2 wr3 => ∃ v : Nat, 1 ≤ v ∧ v ≤ nx + 1 ∧ v2 = .int .u64 (v : Int) ∧ Keeps [mb] w16 wr3 ∧ Cnt wr3 mb (nm + n16) (dqAft xs cnt n16)) (fun v2 _ => nx + 1 - (intOf v2).toNat)
            case atStart => exact ⟨1, Nat.le_refl _, by omega, rfl, HKj.out, HCj.out⟩
            case round =>
              obtain ⟨v, hv1, hv2, rfl, kv, hcv⟩ := hrel
              by_cases hvn : v ≤ nx
              · have hvU : M.U (v : Int) := ⟨by omega, by omega⟩
                have hfin := HFin.out v (by omega) (by omega)
                have dv : decide ((v : Int) ≤ (nx : Int)) = true := decide_eq_true (by omega)
                have hwv : IntKind.u64.wrap ((v : Int) + 1) = (v : Int) + 1 := by show ((v : Int) + 1) % 18446744073709551616 = _; omega
                have HKv := Lib.hid kv
                have HCv := Lib.hid hcv
                clear kv hcv
                go_wp2_with (first
                  | (at_lookup; refine wpList_look_cnt _ rfl _ _ rfl mb (nm + n16) _ rfl HCv.out (v : Int) 1 rfl hvU hfin ?_)
                  | fail)
                go_roundw
                case rel => exact ⟨v + 1, by omega, by omega, by go_num, HKv.out, HCv.out⟩
                case measure => simp [intOf]; omega
              · have dv : decide ((v : Int) ≤ (nx : Int)) = false := decide_eq_false (by omega)
                have HKv := Lib.hid kv
                clear kv hcv
                go_wp2
                go_ret
                exact ⟨rfl, HHf.out _ HKv.out⟩
      -- >> end

set_option maxRecDepth 100000 in
theorem lifted (os : Os) (started : os.Started) (H : Type) (enc : TypeId × Value → H) :
    ReturnsInHanded {} Try.checked os 4 .any (Rows.dequePlaysSpec.pre6 enc Try.prog Try.f4 Rows.dequePlaysRow.domain false) (Rows.dequePlaysSpec.post enc Try.prog Try.f4 false true false false) := by
  refine returnsInHanded_of_change (C := Try.checked) own started (by kernel_rfl) Try.func4
    (ChangeSpec.witness6 (enc := enc) (C := Try.checked) false ⟨#[], #[.int .i64 0, .int .i64 0, .int .u64 0, .slice none 0 0], []⟩ 8 (by kernel_rfl) (by kernel_rfl) (by kernel_rfl) (by kernel_rfl)) ?_
  intro W base args ds gs before hval0 hW hcnd _
  have hval : ∀ (j : Nat) t v, Try.f4.params[j]? = some t → args[j]? = some v → Value.okWide Try.prog W .any base t v := hval0
  have hW' := hW
  obtain ⟨p, q, hA0, hV, rfl, hfz, hnd⟩ := hW
  have hA : DataW.TrodAll enc Try.prog W 0 (fun _ => true) true Try.f4.params.toList args.toList ds p := hA0
  rw [Try.params4] at hA hval
  obtain ⟨v0, vs0, d0, ds0, q0, qs0, hargs, rfl, rfl, h0, r0⟩ := trodAll_cons hA
  obtain ⟨v1, vs1, d1, ds1, q1, qs1, rfl, rfl, rfl, h1, r1⟩ := trodAll_cons r0
  obtain ⟨v2, vs2, d2, ds2, q2, qs2, rfl, rfl, rfl, h2, r2⟩ := trodAll_cons r1
  obtain ⟨v3, vs3, d3, ds3, q3, qs3, rfl, rfl, rfl, h3, r3⟩ := trodAll_cons r2
  obtain ⟨rfl, rfl, rfl⟩ := trodAll_nil r3
  obtain rfl : args = #[v0, v1, v2, v3] := by cases args; simp_all
  obtain ⟨rfl, rfl⟩ := trodVars_none hV
  obtain ⟨a0, rfl, rfl, rfl, w0⟩ := open_int Try.underlying3 (hval 0 3 v0 rfl rfl) h0
  obtain ⟨a1, rfl, rfl, rfl, w1⟩ := open_int Try.underlying3 (hval 1 3 v1 rfl rfl) h1
  obtain ⟨a2, rfl, rfl, rfl, w2⟩ := open_int Try.underlying38 (hval 2 38 v2 rfl rfl) h2
  obtain ⟨p3, n3, c3, rfl⟩ := okWide_slice Try.underlying39 (hval 3 39 v3 rfl rfl)
  have k3 := h3
  have lt3 : ∀ x ∈ q3, x.block < W.heap.size := by obtain ⟨m, hm⟩ := k3; exact DataW.trod_lt m _ _ _ hm
  obtain ⟨z3, s3, m3, b3⟩ := (by obtain ⟨fu, hf⟩ := h3; exact sl_ints Try.underlying39 Try.underlying5 (by kernel_rfl) hf : ∃ zs : List Int, Sl W 1 (.slice p3 n3 c3) n3 (ints .u8 zs) ∧ n3 ≤ maxLen ∧ ∀ z ∈ zs, (Lit.int .u8 z).wf = true)
  clear hA0 hval0
  simp only [List.append_nil] at hW'
  refine (walk a0 a1 a2 p3 n3 c3 z3 W w0 w1 w2 s3 m3 b3).mono fun e W' ⟨he, bel⟩ => ?_
  subst he
  exact ⟨_, rfl, _, _, _, [], _, [], hW', trodAll_mk1 (shut_bool Try.underlying4 _), (trodAll_cons_mk (shut_int Try.underlying3 w0) (trodAll_cons_mk (shut_int Try.underlying3 w1) (trodAll_cons_mk (shut_int Try.underlying38 w2) (trodAll_cons_mk (Below.trod laidOut (by kernel_rfl) (of_decide_eq_true (by kernel_rfl)) k3 bel lt3) trodAll_mk0)))), rfl, bel.frame _, fun h => by cases h⟩

theorem proved : Rows.DequePlaysSaid :=
  OpenClaim.holds_of_wide 4 Try.f4 rfl rfl rfl rfl rfl rfl rfl ⟨rfl, rfl, rfl, rfl, rfl⟩ rfl rfl rfl rfl rfl (by kernel_rfl) Try.func4 (by kernel_rfl)
    (of_decide_eq_true (by kernel_rfl)) (by unfold Func.isWrapper; first | (rw [if_pos (by decide +kernel)]; kernel_rfl) | (rw [if_neg (by decide +kernel)]; exact ⟨rfl, rfl⟩))
    (fun os started H enc _ => lifted os started H enc)
#print axioms proved
end Go.Proofs.Ytdejgkjckhkihaa.dequePlays
