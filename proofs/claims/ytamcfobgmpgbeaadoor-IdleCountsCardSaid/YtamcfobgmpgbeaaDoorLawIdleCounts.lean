/-
  The law IdleCounts of the statements holds for every input: the call returns true, and the arguments read as before.
-/
import Derived.Test.YtamcfobgmpgbeaaDoorIdA
import Derived.Test.YtamcfobgmpgbeaaDoorIdL
import Derived.Test.YtamcfobgmpgbeaaDoorIdD
import Derived.Test.YtamcfobgmpgbeaaDoorWalks
import Derived.Test.YtamcfobgmpgbeaaDoorLd
import Derived.Test.YtamcfobgmpgbeaaDoorAmbLaid
import Derived.Test.YtamcfobgmpgbeaaDoorOpenA
import Derived.Test.YtamcfobgmpgbeaaDoorLook
import Derived.Test.YtamcfobgmpgbeaaDoorOpen
import Derived.Test.YtamcfobgmpgbeaaDoorAcc
import Derived.Test.YtamcfobgmpgbeaaDoorMem3
import Derived.Deep.CutRange
import Derived.Deep.CutBlock
import Derived.IntWalk
import Derived.Test.YtamcfobgmpgbeaaDoorRows
import Derived.WalkKit
import Derived.ProofKit
import Derived.OpenShut
import Derived.ShutString
import Derived.ChangeOld
import Derived.Below
import Derived.Test.YtamcfobgmpgbeaaDoorOpen
import Derived.Test.YtamcfobgmpgbeaaDoorTie
import Derived.Test.YtamcfobgmpgbeaaDoorCards
import Derived.LaidMore
import Derived.Lay
import Derived.MakeChecks
import Derived.SevenTiedAt
import Derived.Lib.LaidTab
import Derived.Stop.Joined
import Derived.Stop.LaidErr
namespace Go.Proofs.YtamcfobgmpgbeaaDoor.idleCounts
open Go.ChangeShapes Go.WideShapes Go.ChangeAt Go.RowKit
open Go.ChangeMaps (open_string shut_string)
set_option linter.unusedVariables false
set_option linter.unusedSimpArgs false

theorem own : ownKnob Tryd.prog.godebug = none := by kernel_rfl
theorem laidOut : laidOutB Tryd.prog = true := by kernel_rfl
abbrev Ld : List (String × DataW Unit) := [("math/bits.deBruijn64tab", Rows.laid_math_bits_deBruijn64tab)]
/-- A world in which the listed variables are laid as the condition says. -/
theorem start_met (os : Os) (args : Array Value) : laidMetH Tryd.prog Ld ((World.laidAll Tryd.prog os Ld).forCall (fun _ _ => 0) ⟨#[], args, []⟩).memory := by
  rw [MakeChecks.laidMetH_plain _ _ _ (by kernel_rfl)]
  exact laidMet_laidAll _ (by kernel_rfl) (by kernel_rfl)

theorem facts {W : World} (h : laidMetH Tryd.prog Ld W) : Amb W := by
  rw [MakeChecks.laidMetH_plain _ _ _ (by kernel_rfl)] at h
  exact Amb.of_tab (tab_of_laid h)
theorem elemIntR : Elem Tryd.prog 3 (.int .i64 0) 1 8 := ⟨by kernel_rfl, rfl, by decide, by decide⟩
theorem elemBoolR : Elem Tryd.prog 4 (.bool false) 1 1 := ⟨by kernel_rfl, rfl, by decide, by decide⟩
theorem places_field (x n : Nat) (hn : n ≤ 64) : M.places (M.fieldN x 0 n) = M.placesTo x n := by
  unfold M.places M.placesTo
  have e : List.range 64 = List.range n ++ (List.range' n (64 - n)) := by
    rw [List.range_eq_range', List.range_eq_range', show 64 = n + (64 - n) by omega, ← List.range'_append_1]; simp [show n + (64 - n) - n = 64 - n by omega]
  rw [e, List.filter_append]
  have h1 : (List.range n).filter (fun i => (M.fieldN x 0 n).testBit i) = (List.range n).filter (fun i => x.testBit i) := by
    apply List.filter_congr; intro i hi
    rw [M.fieldN_tb]; simp [List.mem_range.1 hi]
  have h2 : (List.range' n (64 - n)).filter (fun i => (M.fieldN x 0 n).testBit i) = [] := List.filter_eq_nil_iff.2 fun i hi => by
    have := (List.mem_range'_1.1 hi).1
    rw [M.fieldN_tb]; simp; omega
  rw [h1, h2, List.append_nil]

set_option maxHeartbeats 25600000 in
set_option maxRecDepth 200000 in
theorem walk (th : Int) (pp : Option Addr) (q cp : Nat) (ys : List Int) (w : World) (hwt : (Lit.int .i64 th).wf = true) (hp : Sl w 1 (.slice pp q cp) q (ints .u8 ys)) (hq : q ≤ maxLen) (hy : ∀ y ∈ ys, (Lit.int .u8 y).wf = true) (hA : Amb w) :
    Calls Tryd.prog 4 #[.int .i64 th, .slice pp q cp] w fun e w' => e = .returned (.bool true) ∧ Below w.heap.size w w' := by
  obtain ⟨B, hB⟩ : ∃ B, w.heap.size = B := ⟨_, rfl⟩
  rw [hB]
  have HY : Hid (∀ y ∈ ys, 0 ≤ y ∧ y < 256) := Lib.hid fun y h => by
    have := bounds_u8 (hy y h)
    omega
  have HSP := Lib.hid hp
  have HLP := Lib.hid hp.ints_len
  have hAlt : Hid (∀ k, AmbAt k → k < B) := Lib.hid (by rw [← hB]; exact hA.lt)
  have HA := Lib.hid hA
  unfold maxLen at hq
  clear hp hy hwt hA
  go_enter Tryd.func4, Tryd.ntmps4
  go_wp2_with fail
  refine (awake10 w HA.out).mono ?_
  rintro e w1 ⟨rfl, b1⟩
  rw [hB] at b1
  have HA1 := Lib.hid (HA.out.keeps (Keeps.of_below b1 (by omega)) (by simp))
  have HB1 := Lib.hid b1
  clear b1 HA
  have s1 := HB1.out.size
  by_cases h1 : th < 1
  · have d1 : decide (th < 1) = true := decide_eq_true (by omega)
    go_wp2
    go_ret
    exact ⟨rfl, HB1.out⟩
  have d1 : decide (th < 1) = false := decide_eq_false (by omega)
  by_cases h2 : 6 < th
  · have d2 : decide (6 < th) = true := decide_eq_true (by omega)
    go_wp2
    go_ret
    exact ⟨rfl, HB1.out⟩
  have d2 : decide (6 < th) = false := decide_eq_false (by omega)
  by_cases h5 : 300 < q
  · have d5 : decide ((300 : Int) < q) = true := decide_eq_true (by omega)
    go_wp2
    go_ret
    exact ⟨rfl, HB1.out⟩
  have d5 : decide ((300 : Int) < q) = false := decide_eq_false (by omega)
  clear hq
  obtain ⟨W2, hW⟩ : ∃ W2, w1.alloc (.cells #[.int .i64 0, .int .i64 th] 24) = W2 := ⟨_, rfl⟩
  have k2 : Keeps [] w1 W2 := by rw [← hW]; exact (Keeps.refl _ _).alloc _
  have bx : Box W2 w1.heap.size #[.int .i64 0, .int .i64 th] := by rw [← hW]; exact Box.new _ _ _
  obtain ⟨yb, hyb⟩ : ∃ yb, w1.heap.size = yb := ⟨_, rfl⟩
  rw [hyb] at bx
  have HBx2 := Lib.hid bx
  have HA2 := Lib.hid (HA1.out.keeps k2 (by simp))
  have HB2 := Lib.hid (HB1.out.trans (k2.below (by omega) (by simp)))
  have hyblt := HBx2.out.lt
  have s2 := HB2.out.size
  clear bx k2 HB1 HA1
  have NA := Lib.hid (new_any 1 W2 (by omega) (by omega))
  go_wp2_with fail
  clear hW
  refine NA.out.mono ?_
  clear NA
  rintro e w3 ⟨m, b, rfl, hM, k3, hm, hb⟩
  have HM3 := Lib.hid hM
  have HA3 := Lib.hid (HA2.out.keeps k3 (by simp))
  have HB3 := Lib.hid (HB2.out.trans (k3.below (by omega) (by simp)))
  have HBx3 := Lib.hid (HBx2.out.keeps k3 (by simp))
  have s3 := HB3.out.size
  have hmlt := hM.lt
  clear hM k3 HB2 HBx2 HA2
  obtain ⟨W, hWn⟩ : ∃ W : Nat, th = (W : Int) := ⟨th.toNat, by omega⟩
  have hW1 : 1 ≤ W := by omega
  have hW6 : W ≤ 6 := by omega
  have HWn := Lib.hid hWn
  obtain ⟨E, hE⟩ : ∃ E : Nat → Prop, (fun x => x < B ∨ x = yb) = E := ⟨_, rfl⟩
  have HE : Hid ((∀ k, k < B → E k) ∧ E yb ∧ ∀ k, E k → k < B ∨ k = yb) := Lib.hid (by rw [← hE]; exact ⟨fun k hk => .inl hk, .inr rfl, fun k hk => hk⟩)
  clear hE
  have LN := loomNew_any E W m b (List.replicate 1 0) w3 HM3.out (by omega) (by omega) (fun k hk => by rcases HE.out.2.2 k hk with h | h <;> omega) (fun hk => by rcases HE.out.2.2 b hk with h | h <;> omega) HA3.out (fun k hk => HE.out.1 k (hAlt.out k hk))
  rw [← hWn] at LN
  have HLN := Lib.hid LN
  clear LN HA3 hWn
  go_wp2_with fail
  refine HLN.out.mono ?_
  rintro e w6 ⟨l, gl, rfl, hL6, k6⟩
  have HL6 := Lib.hid hL6
  have HBx6 := Lib.hid (HBx3.out.keeps k6 (by simp))
  have HB6 := Lib.hid (HB3.out.trans (k6.below (by omega) (by simp)))
  have s6 := HB6.out.size
  have s36 := k6.size
  clear hL6 k6 HBx3 HB3 HM3 HLN
  obtain ⟨w7, hrun7, hrow7, k7, z7⟩ := make_row (P := Tryd.prog) w6 31 3 _ 1 8 Tryd.underlying31 elemIntR .i64 .i64 W (by omega)
  rw [made_mapR _ rfl] at hrow7
  rw [← HWn.out] at hrun7
  obtain ⟨w8, hrun8, hrow8, k8, z8⟩ := make_row (P := Tryd.prog) w7 45 4 _ 1 1 Tryd.underlying45 elemBoolR .i64 .i64 W (by omega)
  rw [made_mapR _ rfl] at hrow8
  rw [← HWn.out] at hrun8
  obtain ⟨kb, hkb⟩ : ∃ kb, w6.heap.size = kb := ⟨_, rfl⟩
  obtain ⟨sb, hsb⟩ : ∃ sb, w7.heap.size = sb := ⟨_, rfl⟩
  rw [hkb] at hrun7 hrow7
  rw [hsb] at hrun8 hrow8
  go_wp2
  clear hrun7 hrun8
  have hks : kb ≠ sb := by omega
  have k68 := k7.trans k8
  have s8 := k68.size
  have hsblt := hrow8.lt
  have HL8 : Hid (Loom (fun x => E x ∨ x = kb ∨ x = sb) w8 ⟨l, gl, m, b, List.replicate 1 0, List.replicate W none, 0⟩) := Lib.hid (HL6.out.widen k68 (fun x hx => by
    rcases hx with h | h | h
    · exact .inl h
    · right; omega
    · right; omega) (fun k hk => .inl (HE.out.1 k (hAlt.out k hk))))
  have HP8 : Hid ((¬ E kb ∧ ¬ E sb) ∧ (kb ≠ m ∧ sb ≠ m) ∧ (¬ AmbAt kb ∧ ¬ AmbAt sb)) := Lib.hid ⟨⟨fun h => by rcases HE.out.2.2 kb h with h | h <;> omega, fun h => by rcases HE.out.2.2 sb h with h | h <;> omega⟩, ⟨by omega, by omega⟩, ⟨fun h => by have := hAlt.out kb h; omega, fun h => by have := hAlt.out sb h; omega⟩⟩
  have HR8 := Lib.hid (⟨hrow7.keeps k8 (by simp), hrow8⟩ : _ ∧ _)
  have HBx8 := Lib.hid (HBx6.out.keeps k68 (by simp))
  have HB8 := Lib.hid (HB6.out.trans (k68.below (by omega) (by simp)))
  have HD8 : Hid (IdPlay W 0 ⟨l, gl, m, b, List.replicate 1 0, List.replicate W none, 0⟩ (fun _ => none) 0 (fun _ => false) (fun _ => 0)) := Lib.hid
    { crew := Crew.new _ _ _ _ _ _ _, inv := ⟨⟨hW1, by omega⟩, ⟨0, rfl, Nat.two_pow_pos W, fun j _ => by simp⟩, ⟨by omega, by omega⟩, (fun _ _ _ h => by cases h)⟩, kinds := (fun _ _ _ h => by cases h), st := Nat.le_refl _ }
  have HSPr : Hid (∀ W', Held E w8 W' → Sl W' 1 (.slice pp q cp) q (ints .u8 ys)) := Lib.hid fun W' hW' => HSP.out.below (HB8.out.trans (Held.below (hW'.narrow (E := (· < B)) (fun k hk => HE.out.1 k hk)))) (by omega)
  have HBxr : Hid (∀ W', Held E w8 W' → W'.cell? ⟨yb, 0, none⟩ = some (.int .i64 0) ∧ W'.cell? ⟨yb, 1, none⟩ = some (.int .i64 th)) := Lib.hid fun W' hW' => by
    have hbx := HBx8.out.block hW'.size (hW'.block yb HE.out.2.1)
    exact ⟨hbx.cells 0, hbx.cells 1⟩
  clear k68 k7 k8 hrow7 hrow8 HL6 HBx6 HB6 z7 z8
  go_loopw [12, 13] (fun se i wr => ∃ k : Nat, k ≤ q + 30 * W ∧ i = .int .i64 (k : Int) ∧ ∃ (L : LSt) (ss : Nat → Option IdS) (sr : Int) (al : Nat → Bool) (kd : Nat → Int), se = .int .i64 sr ∧
    Held E w8 wr ∧ Loom (fun x => E x ∨ x = kb ∨ x = sb) wr L ∧ L.l = l ∧ L.mm = m ∧ Row wr kb 3 (mapR W fun j => .int .i64 (kd j)) ∧ Row wr sb 4 (mapR W fun j => .bool (al j)) ∧ IdPlay W k L ss sr al kd) (fun _ i _ => q + 30 * W - (intOf i).toNat)
  case atStart => exact ⟨0, Nat.zero_le _, rfl, _, _, 0, _, _, rfl, Held.refl _ _, HL8.out, rfl, rfl, HR8.out.1, HR8.out.2, HD8.out⟩
  case round =>
    obtain ⟨k, hk, rfl, L, ss, sr, al, kd, rfl, hh, hL, hLl, hLm, hrk, hrs, hD⟩ := hrel
    have HHr := Lib.hid hh
    have HL := Lib.hid hL
    have HR := Lib.hid (⟨hrk, hrs⟩ : _ ∧ _)
    have HD := Lib.hid hD
    clear hh hL hrk hrs hD
    by_cases hlt : k < q + 30 * W
    · have dk : decide ((k : Int) < (q : Int) + 30 * th) = true := decide_eq_true (by rw [HWn.out]; omega)
      go_upto_region 16 with (fail)
      obtain ⟨late, hlate⟩ : ∃ late, decide (q ≤ k) = late := ⟨_, rfl⟩
      go_cut [14] from 55 to 194 (fun v w' => v = .bool late ∧ wr = w')
      case first =>
        -- << late
        as_aux_lemma =>
          by_cases hl : q ≤ k
          · have d3 : decide ((q : Int) ≤ (k : Int)) = true := decide_eq_true (by omega)
            rw [decide_eq_true hl] at hlate
            subst hlate
            go_wp2
            go_meet
            exact ⟨rfl, rfl⟩
          · have d3 : decide ((q : Int) ≤ (k : Int)) = false := decide_eq_false (by omega)
            rw [decide_eq_false hl] at hlate
            subst hlate
            go_wp2
            go_meet
            exact ⟨rfl, rfl⟩
        -- >> late
      obtain ⟨rfl, rfl⟩ := hcut
      go_upto_if 68 with (fail)
      go_cut [15] from 55 to 194 (fun v w' => ∃ who : Nat, v = .int .i64 (who : Int) ∧ who < W ∧ wr = w')
      case first =>
        -- << who
        as_aux_lemma =>
          cases late with
          | true =>
            have hl : q ≤ k := of_decide_eq_true hlate
            have e1 : ((k : Int) - (q : Int)) = ((k - q : Nat) : Int) := by omega
            go_wp2
            go_meet
            refine ⟨(k - q) / 30, ?_, by omega, rfl⟩
            congr 1
          | false =>
            have hl : ¬ q ≤ k := of_decide_eq_false hlate
            have hsl := HSPr.out wr HHr.out
            obtain ⟨pb, po, pc, he, hpb, hpc⟩ := hsl.some (by omega)
            cases he
            have hkz : k < ys.length := by rw [HLP.out]; omega
            have ay := hpc k _ (ints_at (k := .u8) hkz)
            have hyb := HY.out (ys.getD k 0) (by rw [List.getD, List.getElem?_eq_getElem hkz]; exact List.getElem_mem hkz)
            obtain ⟨y, hy⟩ : ∃ y, ys.getD k 0 = y := ⟨_, rfl⟩
            rw [hy] at ay hyb
            obtain ⟨yn, rfl⟩ : ∃ yn : Nat, y = (yn : Int) := ⟨y.toNat, by omega⟩
            have iq : (k : Int) < (q : Int) := by omega
            have et : (yn : Int).tmod th = ((yn % W : Nat) : Int) := by rw [HWn.out, Int.tmod_eq_emod_of_nonneg (by omega)]; omega
            clear hpc hsl hy
            go_wp2
            go_meet
            exact ⟨yn % W, rfl, Nat.mod_lt _ (by omega), rfl⟩
        -- >> who
      obtain ⟨who, rfl, hwn, rfl⟩ := hcut
      obtain ⟨o, ho, hb⟩ := HD.out.crew.at hwn
      have D := busy_at _ L who o wr HL.out ho
      rw [hLl, hb] at D
      obtain ⟨bb, hbb⟩ : ∃ bb, atWork idM (ss who) = bb := ⟨_, rfl⟩
      rw [hbb] at D hb
      have HBB := Lib.hid hbb
      have HO := Lib.hid (⟨ho, hb⟩ : _ ∧ _)
      clear ho hb hbb
      go_wp2_with fail
      refine D.mono ?_
      clear D
      rintro e w2 ⟨rfl, k2⟩
      have HL2 := Lib.hid (HL.out.keeps k2)
      have HR2 := Lib.hid (⟨HR.out.1.keeps k2 (by simp), HR.out.2.keeps k2 (by simp)⟩ : _ ∧ _)
      have HH2 := Lib.hid (HHr.out.trans (k2.held (fun k hk => HL.out.dom k (.inl hk)) (by simp)))
      clear k2 HHr HL HR
      go_upto_if 84 with (fail)
      go_cut [] from 55 to 194 (fun w' => Held E w8 w' ∧ ∃ (L2 : LSt) (ss2 : Nat → Option IdS) (kd2 : Nat → Int) (s : IdS), Loom (fun x => E x ∨ x = kb ∨ x = sb) w' L2 ∧ L2.l = l ∧ L2.mm = m ∧ Row w' kb 3 (mapR W fun j => .int .i64 (kd2 j)) ∧ Row w' sb 4 (mapR W fun j => .bool (al j)) ∧
        IdPlay W k L2 ss2 sr al kd2 ∧ ss2 who = some s ∧ s.over = none)
      case first =>
        cases bb with
        | true =>
          -- << busy
          as_aux_lemma =>
            obtain ⟨s, hs1, hs2⟩ := HD.out.work HBB.out
            have HM := Lib.hid (⟨hs1, hs2⟩ : _ ∧ _)
            clear hs1 hs2
            go_wp2
            go_meet
            exact ⟨HH2.out, L, ss, kd, s, HL2.out, hLl, hLm, HR2.out.1, HR2.out.2, HD.out, HM.out.1, HM.out.2⟩
          -- >> busy
        | false =>
          cases late with
          | true =>
            -- << over
            as_aux_lemma =>
              have hl : q ≤ k := of_decide_eq_true hlate
              go_wp2
              go_roundw
              case rel => exact ⟨k + 1, by omega, by go_num, L, ss, sr, al, kd, rfl, HH2.out, HL2.out, hLl, hLm, HR2.out.1, HR2.out.2, HD.out.more⟩
              case measure => simp [intOf]; omega
            -- >> over
          | false =>
            -- << start
            ·
              have hl : ¬ q ≤ k := of_decide_eq_false hlate
              have hsl := HSPr.out w2 HH2.out
              obtain ⟨pb, po, pc, he, hpb, hpc⟩ := hsl.some (by omega)
              cases he
              have hkz : k < ys.length := by rw [HLP.out]; omega
              have ay := hpc k _ (ints_at (k := .u8) hkz)
              have hyb := HY.out (ys.getD k 0) (by rw [List.getD, List.getElem?_eq_getElem hkz]; exact List.getElem_mem hkz)
              obtain ⟨y, hy⟩ : ∃ y, ys.getD k 0 = y := ⟨_, rfl⟩
              rw [hy] at ay hyb
              obtain ⟨yn, rfl⟩ : ∃ yn : Nat, y = (yn : Int) := ⟨y.toNat, by omega⟩
              have iq : (k : Int) < (q : Int) := by omega
              have hbx := HBxr.out w2 HH2.out
              have b0 := hbx.1
              have b1 := hbx.2
              have iw : (who : Int) < (W : Int) := by omega
              have ck := HR2.out.1.cell (mapR_at hwn)
              have fk := HR2.out.1.frozen who
              have hj5 : yn / 8 % 5 < 5 := Nat.mod_lt _ (by decide)
              obtain ⟨j, hj⟩ : ∃ j, yn / 8 % 5 = j := ⟨_, rfl⟩
              rw [hj] at hj5
              have ej : ((yn : Int) / 8).tmod 5 = (j : Int) := by rw [← hj, Int.tmod_eq_emod_of_nonneg (by omega)]; omega
              have HJ := Lib.hid hj
              clear hpc hsl hy hbx hj
              go_wp2
              obtain ⟨W3, hW3⟩ : ∃ W3, w2.setCell ⟨kb, who, none⟩ (.int .i64 (j : Int)) = W3 := ⟨_, rfl⟩
              have k3 : Keeps [kb] w2 W3 := by rw [← hW3]; exact (Keeps.refl _ _).setCell (fun _ => by simp) _
              have HR3 : Hid (Row W3 kb 3 (mapR W fun i => .int .i64 (updG kd who (j : Int) i)) ∧ Row W3 sb 4 (mapR W fun i => .bool (al i))) := Lib.hid ⟨by rw [← hW3]; exact HR2.out.1.setR (g := fun z => Value.int .i64 z) who (j : Int), HR2.out.2.keeps k3 (by simp; omega)⟩
              have HL3 := Lib.hid (HL2.out.apart k3 (fun x hx => by simp at hx; exact .inr (.inl hx)) (by rw [hLm]; simp; exact Ne.symm HP8.out.2.1.1) (by simpa using HP8.out.2.2.1))
              have HH3 := Lib.hid (HH2.out.trans (k3.held (fun k hk => HL2.out.dom k (.inl hk)) (fun k hk => by simp at hk; subst hk; exact HP8.out.1.1)))
              rw [hW3]
              clear k3 hW3 ck fk b0 b1
              have HSS : Hid (∀ W', Keeps [] W3 W' → W'.cell? ⟨yb, 0, none⟩ = some (.int .i64 0) ∧ W'.cell? ⟨yb, 1, none⟩ = some (.int .i64 th)) := Lib.hid (fun W' hk => HBxr.out W' (HH3.out.trans (hk.held (fun k hk => HL3.out.dom k (.inl hk)) (by simp))))
              have H0 : Hid (idMadeBy 15 #[.agg #[.int .i64 0, .int .i64 th], .int .i64 (who : Int)] (idFive W who 0)) := Lib.hid (by
                have h := idSleep_made 0 th who
                rwa [show idNew 0 th 1 (who : Int) = idFive W who 0 from by rw [HWn.out]; rfl] at h)
              have H1 : Hid (idMadeBy 16 #[.agg #[.int .i64 0, .int .i64 th], .int .i64 (who : Int)] (idFive W who 1)) := Lib.hid (by
                have h := idLeave_made 0 th who
                rwa [show idNew 0 th 2 (who : Int) = idFive W who 1 from by rw [HWn.out]; rfl] at h)
              have H2 : Hid (idMadeBy 17 #[.agg #[.int .i64 0, .int .i64 th], .int .i64 (who : Int)] (idFive W who 2)) := Lib.hid (by
                have h := idSearch_made 0 th who
                rwa [show idNew 0 th 3 (who : Int) = idFive W who 2 from by rw [HWn.out]; rfl] at h)
              have H3 : Hid (idMadeBy 18 #[.agg #[.int .i64 0, .int .i64 th], .int .i64 (who : Int)] (idFive W who 3)) := Lib.hid (by
                have h := idFound_made 0 th who
                rwa [show idNew 0 th 4 (who : Int) = idFive W who 3 from by rw [HWn.out]; rfl] at h)
              have H4 : Hid (idMadeBy 19 #[.agg #[.int .i64 0, .int .i64 th]] (idFive W who 4)) := Lib.hid (by
                have h := idChoose_made 0 th
                rwa [show idNew 0 th 5 0 = idFive W who 4 from by rw [HWn.out]; rfl] at h)
              have hstab := slPd_stable (K := idM) (I := (fun m => LoneI idM (idE m) m)) idRuns (st := (fun j => idFive W who j)) (fun d => if d = 96 then .val (.agg #[.int .i64 0, .int .i64 th]) else if d = 97 then .val (.int .i64 (who : Int)) else if d = 98 then .walk 0 else if d = 99 then .val (.agg #[.int .i64 0, .int .i64 th]) else if d = 100 then .val (.int .i64 (who : Int)) else if d = 101 then .walk 1 else if d = 102 then .val (.agg #[.int .i64 0, .int .i64 th]) else if d = 103 then .val (.int .i64 (who : Int)) else if d = 104 then .walk 2 else if d = 105 then .val (.agg #[.int .i64 0, .int .i64 th]) else if d = 106 then .val (.int .i64 (who : Int)) else if d = 107 then .walk 3 else if d = 108 then .val (.agg #[.int .i64 0, .int .i64 th]) else if d = 109 then .walk 4 else if d = 110 then .row else if d = 16 then .copy 110 else .copy 0) [98, 101, 104, 107, 109]
              refine wp_region_slots ([96, 97, 98, 99, 100, 101, 102, 103, 104, 105, 106, 107, 108, 109, 110, 16] : List Nat) (slR (fun d => if d = 96 then .val (.agg #[.int .i64 0, .int .i64 th]) else if d = 97 then .val (.int .i64 (who : Int)) else if d = 98 then .walk 0 else if d = 99 then .val (.agg #[.int .i64 0, .int .i64 th]) else if d = 100 then .val (.int .i64 (who : Int)) else if d = 101 then .walk 1 else if d = 102 then .val (.agg #[.int .i64 0, .int .i64 th]) else if d = 103 then .val (.int .i64 (who : Int)) else if d = 104 then .walk 2 else if d = 105 then .val (.agg #[.int .i64 0, .int .i64 th]) else if d = 106 then .val (.int .i64 (who : Int)) else if d = 107 then .walk 3 else if d = 108 then .val (.agg #[.int .i64 0, .int .i64 th]) else if d = 109 then .walk 4 else if d = 110 then .row else if d = 16 then .copy 110 else .copy 0) [98, 101, 104, 107, 109]) (slPd (fun d => if d = 96 then .val (.agg #[.int .i64 0, .int .i64 th]) else if d = 97 then .val (.int .i64 (who : Int)) else if d = 98 then .walk 0 else if d = 99 then .val (.agg #[.int .i64 0, .int .i64 th]) else if d = 100 then .val (.int .i64 (who : Int)) else if d = 101 then .walk 1 else if d = 102 then .val (.agg #[.int .i64 0, .int .i64 th]) else if d = 103 then .val (.int .i64 (who : Int)) else if d = 104 then .walk 2 else if d = 105 then .val (.agg #[.int .i64 0, .int .i64 th]) else if d = 106 then .val (.int .i64 (who : Int)) else if d = 107 then .walk 3 else if d = 108 then .val (.agg #[.int .i64 0, .int .i64 th]) else if d = 109 then .walk 4 else if d = 110 then .row else if d = 16 then .copy 110 else .copy 0) (fun m => LoneI idM (idE m) m) (fun j => idFive W who j) [98, 101, 104, 107, 109]) ?_ ?_ ?_ ?_ hstab ?_ ?_
              · kernel_rfl
              · kernel_rfl
              · decide
              · kernel_rfl
              · refine Each.cons ?_ ?_
                · intro v g w hk hdep a ha K hK0
                  have hK := Lib.hid hK0
                  clear hK0
                  obtain ⟨c0, c1⟩ := HSS.out w hk.undrew
                  have q0 : a.tmps.getD 5 undef = .pointer (some ⟨yb, 0, none⟩) := by rw [← ha, setAll_out _ _ _ (by decide)]; rfl
                  clear ha
                  go_simp
                  exact hK.out _ [] _ (Keeps.refl _ _) (updAt_same v 96 _) (by simp)
                refine Each.cons ?_ ?_
                · intro v g w hk hdep a ha K hK0
                  have hK := Lib.hid hK0
                  clear hK0
                  have q0 : a.tmps.getD 15 undef = .int .i64 (who : Int) := by rw [← ha, setAll_out _ _ _ (by decide)]; rfl
                  clear ha
                  go_simp
                  exact hK.out _ [] _ (Keeps.refl _ _) (updAt_same v 97 _) (by simp)
                refine Each.cons ?_ ?_
                · intro v g w hk hdep a ha K hK0
                  have hK := Lib.hid hK0
                  clear hK0
                  have h0 : v 96 = .agg #[.int .i64 0, .int .i64 th] := hdep 0 (by kernel_rfl)
                  have h1 : v 97 = .int .i64 (who : Int) := hdep 1 (by kernel_rfl)
                  have HC := Lib.hid (H0.out w)
                  have q0 : a.tmps.getD 96 undef = .agg #[.int .i64 0, .int .i64 th] := by rw [← ha, setAll_in _ _ _ (by decide) (by kernel_rfl)]; exact h0
                  have q1 : a.tmps.getD 97 undef = .int .i64 (who : Int) := by rw [← ha, setAll_in _ _ _ (by decide) (by kernel_rfl)]; exact h1
                  clear hdep ha
                  go_simp
                  go_at_call 15
                  refine HC.out.mono ?_
                  rintro e w1 ⟨m1, S1, rfl, i1, k1, s1⟩
                  go_simp
                  refine hK.out _ S1 _ k1 ?_ (fun x hx => ⟨s1 x hx, (idRuns m1).lt i1 x hx⟩)
                  show ExW (fun m => LoneI idM (idE m) m) (fun j => idFive W who j) w1 (updAt v 98 _ 98) S1 0
                  rw [updAt_same]
                  exact ⟨m1, rfl, i1⟩
                refine Each.cons ?_ ?_
                · intro v g w hk hdep a ha K hK0
                  have hK := Lib.hid hK0
                  clear hK0
                  obtain ⟨c0, c1⟩ := HSS.out w hk.undrew
                  have q0 : a.tmps.getD 5 undef = .pointer (some ⟨yb, 0, none⟩) := by rw [← ha, setAll_out _ _ _ (by decide)]; rfl
                  clear ha
                  go_simp
                  exact hK.out _ [] _ (Keeps.refl _ _) (updAt_same v 99 _) (by simp)
                refine Each.cons ?_ ?_
                · intro v g w hk hdep a ha K hK0
                  have hK := Lib.hid hK0
                  clear hK0
                  have q0 : a.tmps.getD 15 undef = .int .i64 (who : Int) := by rw [← ha, setAll_out _ _ _ (by decide)]; rfl
                  clear ha
                  go_simp
                  exact hK.out _ [] _ (Keeps.refl _ _) (updAt_same v 100 _) (by simp)
                refine Each.cons ?_ ?_
                · intro v g w hk hdep a ha K hK0
                  have hK := Lib.hid hK0
                  clear hK0
                  have h0 : v 99 = .agg #[.int .i64 0, .int .i64 th] := hdep 3 (by kernel_rfl)
                  have h1 : v 100 = .int .i64 (who : Int) := hdep 4 (by kernel_rfl)
                  have HC := Lib.hid (H1.out w)
                  have q0 : a.tmps.getD 99 undef = .agg #[.int .i64 0, .int .i64 th] := by rw [← ha, setAll_in _ _ _ (by decide) (by kernel_rfl)]; exact h0
                  have q1 : a.tmps.getD 100 undef = .int .i64 (who : Int) := by rw [← ha, setAll_in _ _ _ (by decide) (by kernel_rfl)]; exact h1
                  clear hdep ha
                  go_simp
                  go_at_call 16
                  refine HC.out.mono ?_
                  rintro e w1 ⟨m1, S1, rfl, i1, k1, s1⟩
                  go_simp
                  refine hK.out _ S1 _ k1 ?_ (fun x hx => ⟨s1 x hx, (idRuns m1).lt i1 x hx⟩)
                  show ExW (fun m => LoneI idM (idE m) m) (fun j => idFive W who j) w1 (updAt v 101 _ 101) S1 1
                  rw [updAt_same]
                  exact ⟨m1, rfl, i1⟩
                refine Each.cons ?_ ?_
                · intro v g w hk hdep a ha K hK0
                  have hK := Lib.hid hK0
                  clear hK0
                  obtain ⟨c0, c1⟩ := HSS.out w hk.undrew
                  have q0 : a.tmps.getD 5 undef = .pointer (some ⟨yb, 0, none⟩) := by rw [← ha, setAll_out _ _ _ (by decide)]; rfl
                  clear ha
                  go_simp
                  exact hK.out _ [] _ (Keeps.refl _ _) (updAt_same v 102 _) (by simp)
                refine Each.cons ?_ ?_
                · intro v g w hk hdep a ha K hK0
                  have hK := Lib.hid hK0
                  clear hK0
                  have q0 : a.tmps.getD 15 undef = .int .i64 (who : Int) := by rw [← ha, setAll_out _ _ _ (by decide)]; rfl
                  clear ha
                  go_simp
                  exact hK.out _ [] _ (Keeps.refl _ _) (updAt_same v 103 _) (by simp)
                refine Each.cons ?_ ?_
                · intro v g w hk hdep a ha K hK0
                  have hK := Lib.hid hK0
                  clear hK0
                  have h0 : v 102 = .agg #[.int .i64 0, .int .i64 th] := hdep 6 (by kernel_rfl)
                  have h1 : v 103 = .int .i64 (who : Int) := hdep 7 (by kernel_rfl)
                  have HC := Lib.hid (H2.out w)
                  have q0 : a.tmps.getD 102 undef = .agg #[.int .i64 0, .int .i64 th] := by rw [← ha, setAll_in _ _ _ (by decide) (by kernel_rfl)]; exact h0
                  have q1 : a.tmps.getD 103 undef = .int .i64 (who : Int) := by rw [← ha, setAll_in _ _ _ (by decide) (by kernel_rfl)]; exact h1
                  clear hdep ha
                  go_simp
                  go_at_call 17
                  refine HC.out.mono ?_
                  rintro e w1 ⟨m1, S1, rfl, i1, k1, s1⟩
                  go_simp
                  refine hK.out _ S1 _ k1 ?_ (fun x hx => ⟨s1 x hx, (idRuns m1).lt i1 x hx⟩)
                  show ExW (fun m => LoneI idM (idE m) m) (fun j => idFive W who j) w1 (updAt v 104 _ 104) S1 2
                  rw [updAt_same]
                  exact ⟨m1, rfl, i1⟩
                refine Each.cons ?_ ?_
                · intro v g w hk hdep a ha K hK0
                  have hK := Lib.hid hK0
                  clear hK0
                  obtain ⟨c0, c1⟩ := HSS.out w hk.undrew
                  have q0 : a.tmps.getD 5 undef = .pointer (some ⟨yb, 0, none⟩) := by rw [← ha, setAll_out _ _ _ (by decide)]; rfl
                  clear ha
                  go_simp
                  exact hK.out _ [] _ (Keeps.refl _ _) (updAt_same v 105 _) (by simp)
                refine Each.cons ?_ ?_
                · intro v g w hk hdep a ha K hK0
                  have hK := Lib.hid hK0
                  clear hK0
                  have q0 : a.tmps.getD 15 undef = .int .i64 (who : Int) := by rw [← ha, setAll_out _ _ _ (by decide)]; rfl
                  clear ha
                  go_simp
                  exact hK.out _ [] _ (Keeps.refl _ _) (updAt_same v 106 _) (by simp)
                refine Each.cons ?_ ?_
                · intro v g w hk hdep a ha K hK0
                  have hK := Lib.hid hK0
                  clear hK0
                  have h0 : v 105 = .agg #[.int .i64 0, .int .i64 th] := hdep 9 (by kernel_rfl)
                  have h1 : v 106 = .int .i64 (who : Int) := hdep 10 (by kernel_rfl)
                  have HC := Lib.hid (H3.out w)
                  have q0 : a.tmps.getD 105 undef = .agg #[.int .i64 0, .int .i64 th] := by rw [← ha, setAll_in _ _ _ (by decide) (by kernel_rfl)]; exact h0
                  have q1 : a.tmps.getD 106 undef = .int .i64 (who : Int) := by rw [← ha, setAll_in _ _ _ (by decide) (by kernel_rfl)]; exact h1
                  clear hdep ha
                  go_simp
                  go_at_call 18
                  refine HC.out.mono ?_
                  rintro e w1 ⟨m1, S1, rfl, i1, k1, s1⟩
                  go_simp
                  refine hK.out _ S1 _ k1 ?_ (fun x hx => ⟨s1 x hx, (idRuns m1).lt i1 x hx⟩)
                  show ExW (fun m => LoneI idM (idE m) m) (fun j => idFive W who j) w1 (updAt v 107 _ 107) S1 3
                  rw [updAt_same]
                  exact ⟨m1, rfl, i1⟩
                refine Each.cons ?_ ?_
                · intro v g w hk hdep a ha K hK0
                  have hK := Lib.hid hK0
                  clear hK0
                  obtain ⟨c0, c1⟩ := HSS.out w hk.undrew
                  have q0 : a.tmps.getD 5 undef = .pointer (some ⟨yb, 0, none⟩) := by rw [← ha, setAll_out _ _ _ (by decide)]; rfl
                  clear ha
                  go_simp
                  exact hK.out _ [] _ (Keeps.refl _ _) (updAt_same v 108 _) (by simp)
                refine Each.cons ?_ ?_
                · intro v g w hk hdep a ha K hK0
                  have hK := Lib.hid hK0
                  clear hK0
                  have h0 : v 108 = .agg #[.int .i64 0, .int .i64 th] := hdep 12 (by kernel_rfl)
                  have HC := Lib.hid (H4.out w)
                  have q0 : a.tmps.getD 108 undef = .agg #[.int .i64 0, .int .i64 th] := by rw [← ha, setAll_in _ _ _ (by decide) (by kernel_rfl)]; exact h0
                  clear hdep ha
                  go_simp
                  go_at_call 19
                  refine HC.out.mono ?_
                  rintro e w1 ⟨m1, S1, rfl, i1, k1, s1⟩
                  go_simp
                  refine hK.out _ S1 _ k1 ?_ (fun x hx => ⟨s1 x hx, (idRuns m1).lt i1 x hx⟩)
                  show ExW (fun m => LoneI idM (idE m) m) (fun j => idFive W who j) w1 (updAt v 109 _ 109) S1 4
                  rw [updAt_same]
                  exact ⟨m1, rfl, i1⟩
                refine Each.cons ?_ ?_
                · intro v g w hk hdep a ha K hK0
                  have hK := Lib.hid hK0
                  clear hK0
                  obtain ⟨m0, e0, -⟩ := (show ExW (fun m => LoneI idM (idE m) m) (fun j => idFive W who j) w (v 98) (g 98) 0 from hdep 2 (by kernel_rfl))
                  obtain ⟨m1, e1, -⟩ := (show ExW (fun m => LoneI idM (idE m) m) (fun j => idFive W who j) w (v 101) (g 101) 1 from hdep 5 (by kernel_rfl))
                  obtain ⟨m2, e2, -⟩ := (show ExW (fun m => LoneI idM (idE m) m) (fun j => idFive W who j) w (v 104) (g 104) 2 from hdep 8 (by kernel_rfl))
                  obtain ⟨m3, e3, -⟩ := (show ExW (fun m => LoneI idM (idE m) m) (fun j => idFive W who j) w (v 107) (g 107) 3 from hdep 11 (by kernel_rfl))
                  obtain ⟨m4, e4, -⟩ := (show ExW (fun m => LoneI idM (idE m) m) (fun j => idFive W who j) w (v 109) (g 109) 4 from hdep 13 (by kernel_rfl))
                  have q0 : a.tmps.getD 98 undef = .pointer (some ⟨m0, 0, none⟩) := by rw [← ha, setAll_in _ _ _ (by decide) (by kernel_rfl)]; exact e0
                  have q1 : a.tmps.getD 101 undef = .pointer (some ⟨m1, 0, none⟩) := by rw [← ha, setAll_in _ _ _ (by decide) (by kernel_rfl)]; exact e1
                  have q2 : a.tmps.getD 104 undef = .pointer (some ⟨m2, 0, none⟩) := by rw [← ha, setAll_in _ _ _ (by decide) (by kernel_rfl)]; exact e2
                  have q3 : a.tmps.getD 107 undef = .pointer (some ⟨m3, 0, none⟩) := by rw [← ha, setAll_in _ _ _ (by decide) (by kernel_rfl)]; exact e3
                  have q4 : a.tmps.getD 109 undef = .pointer (some ⟨m4, 0, none⟩) := by rw [← ha, setAll_in _ _ _ (by decide) (by kernel_rfl)]; exact e4
                  rw [Array.getD_eq_getD_getElem?] at q0 q1 q2 q3 q4
                  clear hdep ha
                  have hrow : Hid (∀ u, ([98, 101, 104, 107, 109] : List Nat).map (updAt v 110 u) = [.pointer (some ⟨m0, 0, none⟩), .pointer (some ⟨m1, 0, none⟩), .pointer (some ⟨m2, 0, none⟩), .pointer (some ⟨m3, 0, none⟩), .pointer (some ⟨m4, 0, none⟩)]) := Lib.hid fun u => by
                    show [v 98, v 101, v 104, v 107, v 109] = _
                    rw [e0, e1, e2, e3, e4]
                  clear e0 e1 e2 e3 e4
                  go_simp
                  refine hK.out _ [w.heap.size] _ ((Keeps.refl _ _).alloc _) ?_ (by simp)
                  exact slPd_rowI rfl w.heap.size rfl (updAt_same _ _ _) _ (hrow.out _) (Row.new _ _ _)
                refine Each.cons ?_ ?_
                · intro v g w hk hdep a ha K hK0
                  have hK := Lib.hid hK0
                  clear hK0
                  have q0 : a.tmps.getD 110 undef = v 110 := by rw [← ha, setAll_in _ _ _ (by decide) (by kernel_rfl)]
                  clear ha
                  go_simp
                  exact hK.out (v 110) [] w (Keeps.refl _ _) (slPd_copyI (f := 110) rfl ((updAt_same v 16 _).trans (updAt_other v _ (by decide)).symm)) (by simp)
                exact Each.nil
              intro v g wz hk hall hdis a ha
              rw [setAll_list] at ha
              dsimp only [setL, List.foldl_cons, List.foldl_nil, List.set_cons_zero, List.set_cons_succ] at ha
              subst ha
              obtain ⟨bl, eRow, hX⟩ := slAll (I := (fun m => LoneI idM (idE m) m)) (st := (fun j => idFive W who j)) (tbl := (fun d => if d = 96 then .val (.agg #[.int .i64 0, .int .i64 th]) else if d = 97 then .val (.int .i64 (who : Int)) else if d = 98 then .walk 0 else if d = 99 then .val (.agg #[.int .i64 0, .int .i64 th]) else if d = 100 then .val (.int .i64 (who : Int)) else if d = 101 then .walk 1 else if d = 102 then .val (.agg #[.int .i64 0, .int .i64 th]) else if d = 103 then .val (.int .i64 (who : Int)) else if d = 104 then .walk 2 else if d = 105 then .val (.agg #[.int .i64 0, .int .i64 th]) else if d = 106 then .val (.int .i64 (who : Int)) else if d = 107 then .walk 3 else if d = 108 then .val (.agg #[.int .i64 0, .int .i64 th]) else if d = 109 then .walk 4 else if d = 110 then .row else if d = 16 then .copy 110 else .copy 0)) (ix := [98, 101, 104, 107, 109]) (dl := [96, 97, 98, 99, 100, 101, 102, 103, 104, 105, 106, 107, 108, 109, 110, 16]) 5 110 rfl rfl (by decide) (fun j hj => by rcases (show j = 0 ∨ j = 1 ∨ j = 2 ∨ j = 3 ∨ j = 4 by omega) with rfl | rfl | rfl | rfl | rfl <;> exact ⟨by decide, rfl⟩) hall hdis
              have eOut : v 16 = v 110 := (hall 16 (by decide)).1
              rw [eOut, eRow]
              obtain ⟨xs, hxs⟩ : ∃ xs : Nat → Value, (fun j => v (([98, 101, 104, 107, 109] : List Nat).getD j 0)) = xs := ⟨_, rfl⟩
              obtain ⟨γ, hγ⟩ : ∃ γ : Nat → List Nat, (fun j => g (([98, 101, 104, 107, 109] : List Nat).getD j 0)) = γ := ⟨_, rfl⟩
              rw [hxs, hγ] at hX
              have HX := Lib.hid hX
              have HK8 : Hid (Keeps [] W3 wz) := Lib.hid hk.undrew
              clear hall hdis hk hX hxs hγ eRow hstab eOut
              obtain ⟨mj, exj, hIj⟩ := HX.out.walks j hj5
              have cj := HX.out.row.cell (j := j) (u := xs j) (by simp [hj5])
              rw [exj] at cj
              have ckk := (HR3.out.1.keeps HK8.out (by simp)).cell (mapR_at hwn)
              rw [updG_same] at ckk
              have ij : (j : Int) < 5 := by omega
              have D := start_at _ L who o ⟨IdS, idM, LoneI idM (idE mj) mj, mj, idRuns mj, idFive W who j⟩ (γ j) W3 wz HL3.out HK8.out HO.out.1 HO.out.2 hIj (fun x hx => ((HX.out.own j hj5).1 x hx).1)
              rw [hLl] at D
              have HH4 := Lib.hid (HH3.out.trans (HK8.out.held (fun k hk => HL3.out.dom k (.inl hk)) (by simp)))
              have HR4 := Lib.hid (⟨HR3.out.1.keeps HK8.out (by simp), HR3.out.2.keeps HK8.out (by simp)⟩ : _ ∧ _)
              have HG : Hid ((¬ (E L.g ∨ L.g = kb ∨ L.g = sb)) ∧ ∀ k, E k → k < wz.heap.size) := Lib.hid ⟨HL3.out.base.2.1, fun k hk => Nat.lt_of_lt_of_le (HL3.out.dom k (.inl hk)) HK8.out.size⟩
              have HD4 := Lib.hid (HD.out.start hwn mj j hj5)
              clear hIj HX HK8 HR3 HL3 HL2 HR2 HH2 HH3 HSS H0 H1 H2 H3 H4 exj
              go_wp2_with fail
              refine D.mono ?_
              clear D
              rintro e w5 ⟨rfl, hL5, k5⟩
              have HL5 := Lib.hid hL5
              have HH5 := Lib.hid (HH4.out.trans (k5.held HG.out.2 (fun k hk => by simp at hk; subst hk; exact fun h => HG.out.1 (.inl h))))
              have HR5 := Lib.hid (⟨HR4.out.1.keeps k5 (by simp; exact fun h => HG.out.1 (.inr (.inl h.symm))), HR4.out.2.keeps k5 (by simp; exact fun h => HG.out.1 (.inr (.inr h.symm)))⟩ : _ ∧ _)
              clear hL5 k5
              go_wp2
              go_meet
              exact ⟨HH5.out, _, _, _, _, HL5.out, rfl, hLm, HR5.out.1, HR5.out.2, HD4.out.same rfl rfl rfl, updG_same _ _ _, idFive_over hW1 (by omega) hwn⟩
            -- >> start
      obtain ⟨hhc, L2, ss2, kd2, s, hLc, hl2, hm2, hrk, hrs, hDc, hs2, ho2⟩ := hcut
      obtain ⟨LM, s', sr', al', hone, hmm, -, hD', hev, hkd, hsr0, hsr1⟩ := hDc.step hwn hs2 ho2
      have D := pick_step _ who L2 LM wc hLc hone (by have := hDc.st; omega)
      rw [hl2] at D
      have hMl : LM.l = l := hone.l.trans hl2
      have hMm : LM.mm = m := hmm.trans hm2
      have HHc := Lib.hid hhc
      have HRc := Lib.hid (⟨hrk, hrs⟩ : _ ∧ _)
      have HEv := Lib.hid hev
      have HD' := Lib.hid hD'
      have HKd := Lib.hid hkd
      clear hhc hLc hrk hrs hDc hs2 ho2 hone hmm hev hD' hkd HL2 HR2 HH2 HD HBB HO
      go_wp2_with fail
      refine D.mono ?_
      clear D
      rintro e w7 ⟨rfl, hl7, hh7⟩
      have HL7 := Lib.hid hl7
      have HH7 := Lib.hid (HHc.out.trans (hh7.narrow (fun k hk => .inl hk)))
      have HR7 := Lib.hid (⟨HRc.out.1.block (hh7.block kb (.inr (.inl rfl))), HRc.out.2.block (hh7.block sb (.inr (.inr rfl)))⟩ : _ ∧ _)
      clear hl7 hh7 HHc HRc
      cases HEv.out with
      | go hr =>
        -- << go
        as_aux_lemma =>
          have hrs := HD'.out.crew.result _ w7 HL7.out hwn (updG_same _ _ _) (show idM.res s' = none from hr)
          rw [hMl] at hrs
          go_wp2_with fail
          refine hrs.mono ?_
          clear hrs
          rintro e wa ⟨qa, ca, rfl, -, ka1⟩
          obtain ⟨W9, hW9⟩ : ∃ W9, wa.alloc (.cells #[.int .i64 0, .int .u64 0, .slice qa 0 ca] 54) = W9 := ⟨_, rfl⟩
          have ka : Keeps [] wa W9 := by rw [← hW9]; exact (Keeps.refl _ _).alloc _
          have rb : Row W9 wa.heap.size 54 [.int .i64 0, .int .u64 0, .slice qa 0 ca] := by rw [← hW9]; exact Row.new _ _ _
          have HL9 := Lib.hid (HL7.out.keeps (ka1.trans ka))
          have HR9 := Lib.hid (⟨HR7.out.1.keeps (ka1.trans ka) (by simp), HR7.out.2.keeps (ka1.trans ka) (by simp)⟩ : _ ∧ _)
          have HH9 := Lib.hid (HH7.out.trans ((ka1.trans ka).held (fun k hk => HL7.out.dom k (.inl hk)) (by simp)))
          have r0 := rb.cell (j := 0) rfl
          have r1 := rb.cell (j := 1) rfl
          have rlt := rb.lt
          have hsb8 : sb < wa.heap.size := Nat.lt_of_lt_of_le HR7.out.2.lt ka1.size
          have hkb8 : kb < wa.heap.size := Nat.lt_of_lt_of_le HR7.out.1.lt ka1.size
          clear ka1 ka rb HL7 HR7 HH7 HEv
          go_wp2
          go_roundw
          case rel => exact ⟨k + 1, by omega, by go_num, LM, _, sr, al, kd2, rfl, HH9.out, HL9.out, hMl, hMm, HR9.out.1, HR9.out.2, HD'.out⟩
          case measure => simp [intOf]; omega
        -- >> go
      | no c hc0 hr =>
        -- << no
        as_aux_lemma =>
          have c1 : (c == 0) = false := by simpa using hc0
          have c2 : (c != 0) = true := by simpa using hc0
          clear hc0
          have hrs := HD'.out.crew.result _ w7 HL7.out hwn (updG_same _ _ _) (show idM.res s' = some ⟨c, 0, []⟩ from hr)
          rw [hMl] at hrs
          go_wp2_with fail
          refine hrs.mono ?_
          clear hrs
          rintro e wa ⟨qa, ca, rfl, -, ka1⟩
          obtain ⟨W9, hW9⟩ : ∃ W9, wa.alloc (.cells #[.int .i64 c, .int .u64 0, .slice qa 0 ca] 54) = W9 := ⟨_, rfl⟩
          have ka : Keeps [] wa W9 := by rw [← hW9]; exact (Keeps.refl _ _).alloc _
          have rb : Row W9 wa.heap.size 54 [.int .i64 c, .int .u64 0, .slice qa 0 ca] := by rw [← hW9]; exact Row.new _ _ _
          have HL9 := Lib.hid (HL7.out.keeps (ka1.trans ka))
          have HR9 := Lib.hid (⟨HR7.out.1.keeps (ka1.trans ka) (by simp), HR7.out.2.keeps (ka1.trans ka) (by simp)⟩ : _ ∧ _)
          have HH9 := Lib.hid (HH7.out.trans ((ka1.trans ka).held (fun k hk => HL7.out.dom k (.inl hk)) (by simp)))
          have r0 := rb.cell (j := 0) rfl
          have r1 := rb.cell (j := 1) rfl
          have rlt := rb.lt
          have hsb8 : sb < wa.heap.size := Nat.lt_of_lt_of_le HR7.out.2.lt ka1.size
          have hkb8 : kb < wa.heap.size := Nat.lt_of_lt_of_le HR7.out.1.lt ka1.size
          clear ka1 ka rb HL7 HR7 HH7 HEv
          go_wp2
          go_roundw
          case rel => exact ⟨k + 1, by omega, by go_num, LM, _, sr, al, kd2, rfl, HH9.out, HL9.out, hMl, hMm, HR9.out.1, HR9.out.2, HD'.out⟩
          case measure => simp [intOf]; omega
        -- >> no
      | sleep hk1 hr =>
        -- << sleep
        as_aux_lemma =>
          have hrs := HD'.out.crew.result _ w7 HL7.out hwn (updG_same _ _ _) (show idM.res s' = some ⟨0, 0, []⟩ from hr)
          rw [hMl] at hrs
          go_wp2_with fail
          refine hrs.mono ?_
          clear hrs
          rintro e wa ⟨qa, ca, rfl, -, ka1⟩
          obtain ⟨W9, hW9⟩ : ∃ W9, wa.alloc (.cells #[.int .i64 0, .int .u64 0, .slice qa 0 ca] 54) = W9 := ⟨_, rfl⟩
          have ka : Keeps [] wa W9 := by rw [← hW9]; exact (Keeps.refl _ _).alloc _
          have rb : Row W9 wa.heap.size 54 [.int .i64 0, .int .u64 0, .slice qa 0 ca] := by rw [← hW9]; exact Row.new _ _ _
          have HL9 := Lib.hid (HL7.out.keeps (ka1.trans ka))
          have HR9 := Lib.hid (⟨HR7.out.1.keeps (ka1.trans ka) (by simp), HR7.out.2.keeps (ka1.trans ka) (by simp)⟩ : _ ∧ _)
          have HH9 := Lib.hid (HH7.out.trans ((ka1.trans ka).held (fun k hk => HL7.out.dom k (.inl hk)) (by simp)))
          have r0 := rb.cell (j := 0) rfl
          have r1 := rb.cell (j := 1) rfl
          have rlt := rb.lt
          have hsb8 : sb < wa.heap.size := Nat.lt_of_lt_of_le HR7.out.2.lt ka1.size
          have hkb8 : kb < wa.heap.size := Nat.lt_of_lt_of_le HR7.out.1.lt ka1.size
          clear ka1 ka rb HL7 HR7 HH7 HEv
          have ck := HR9.out.1.cell (mapR_at hwn)
          rw [show kd2 who = 0 by rw [HKd.out, hk1]; rfl] at ck
          have iw : (who : Int) < (W : Int) := by omega
          have HLB := Lib.hid (HL9.out.apart ((Keeps.refl [sb] W9).setCell (p := ⟨sb, who, none⟩) (fun _ => by simp) (.bool true)) (fun x hx => by simp at hx; exact .inr (.inr hx)) (by rw [hMm]; simp; exact Ne.symm HP8.out.2.1.2) (by simpa using HP8.out.2.2.2))
          have HHB := Lib.hid (HH9.out.trans (((Keeps.refl [sb] W9).setCell (p := ⟨sb, who, none⟩) (fun _ => by simp) (.bool true)).held (fun k hk => HL9.out.dom k (.inl hk)) (fun k hk => by simp at hk; subst hk; exact HP8.out.1.2)))
          have HRB := Lib.hid (⟨HR9.out.1.keeps ((Keeps.refl [sb] W9).setCell (p := ⟨sb, who, none⟩) (fun _ => by simp) (.bool true)) (by simpa using hks), HR9.out.2.setR (g := fun z => Value.bool z) who true⟩ : _ ∧ _)
          have fs := HR9.out.2.frozen who
          have cs := HR9.out.2.cell (mapR_at (hwn))
          clear hk1
          go_wp2
          go_roundw
          case rel => exact ⟨k + 1, by omega, by go_num, LM, _, sr, _, kd2, rfl, HHB.out, HLB.out, hMl, hMm, HRB.out.1, HRB.out.2, HD'.out⟩
          case measure => simp [intOf]; omega
        -- >> sleep
      | leave hk1 hal hr =>
        -- << leave
        as_aux_lemma =>
          have hrs := HD'.out.crew.result _ w7 HL7.out hwn (updG_same _ _ _) (show idM.res s' = some ⟨0, 0, []⟩ from hr)
          rw [hMl] at hrs
          go_wp2_with fail
          refine hrs.mono ?_
          clear hrs
          rintro e wa ⟨qa, ca, rfl, -, ka1⟩
          obtain ⟨W9, hW9⟩ : ∃ W9, wa.alloc (.cells #[.int .i64 0, .int .u64 0, .slice qa 0 ca] 54) = W9 := ⟨_, rfl⟩
          have ka : Keeps [] wa W9 := by rw [← hW9]; exact (Keeps.refl _ _).alloc _
          have rb : Row W9 wa.heap.size 54 [.int .i64 0, .int .u64 0, .slice qa 0 ca] := by rw [← hW9]; exact Row.new _ _ _
          have HL9 := Lib.hid (HL7.out.keeps (ka1.trans ka))
          have HR9 := Lib.hid (⟨HR7.out.1.keeps (ka1.trans ka) (by simp), HR7.out.2.keeps (ka1.trans ka) (by simp)⟩ : _ ∧ _)
          have HH9 := Lib.hid (HH7.out.trans ((ka1.trans ka).held (fun k hk => HL7.out.dom k (.inl hk)) (by simp)))
          have r0 := rb.cell (j := 0) rfl
          have r1 := rb.cell (j := 1) rfl
          have rlt := rb.lt
          have hsb8 : sb < wa.heap.size := Nat.lt_of_lt_of_le HR7.out.2.lt ka1.size
          have hkb8 : kb < wa.heap.size := Nat.lt_of_lt_of_le HR7.out.1.lt ka1.size
          clear ka1 ka rb HL7 HR7 HH7 HEv
          have ck := HR9.out.1.cell (mapR_at hwn)
          rw [show kd2 who = 1 by rw [HKd.out, hk1]; rfl] at ck
          have iw : (who : Int) < (W : Int) := by omega
          have HLB := Lib.hid (HL9.out.apart ((Keeps.refl [sb] W9).setCell (p := ⟨sb, who, none⟩) (fun _ => by simp) (.bool false)) (fun x hx => by simp at hx; exact .inr (.inr hx)) (by rw [hMm]; simp; exact Ne.symm HP8.out.2.1.2) (by simpa using HP8.out.2.2.2))
          have HHB := Lib.hid (HH9.out.trans (((Keeps.refl [sb] W9).setCell (p := ⟨sb, who, none⟩) (fun _ => by simp) (.bool false)).held (fun k hk => HL9.out.dom k (.inl hk)) (fun k hk => by simp at hk; subst hk; exact HP8.out.1.2)))
          have HRB := Lib.hid (⟨HR9.out.1.keeps ((Keeps.refl [sb] W9).setCell (p := ⟨sb, who, none⟩) (fun _ => by simp) (.bool false)) (by simpa using hks), HR9.out.2.setR (g := fun z => Value.bool z) who false⟩ : _ ∧ _)
          have fs := HR9.out.2.frozen who
          have cs := HR9.out.2.cell (mapR_at (hwn))
          rw [hal] at cs
          clear hk1 hal
          go_wp2
          go_roundw
          case rel => exact ⟨k + 1, by omega, by go_num, LM, _, sr, _, kd2, rfl, HHB.out, HLB.out, hMl, hMm, HRB.out.1, HRB.out.2, HD'.out⟩
          case measure => simp [intOf]; omega
        -- >> leave
      | search hk1 hr =>
        -- << search
        as_aux_lemma =>
          have hrs := HD'.out.crew.result _ w7 HL7.out hwn (updG_same _ _ _) (show idM.res s' = some ⟨0, 0, []⟩ from hr)
          rw [hMl] at hrs
          go_wp2_with fail
          refine hrs.mono ?_
          clear hrs
          rintro e wa ⟨qa, ca, rfl, -, ka1⟩
          obtain ⟨W9, hW9⟩ : ∃ W9, wa.alloc (.cells #[.int .i64 0, .int .u64 0, .slice qa 0 ca] 54) = W9 := ⟨_, rfl⟩
          have ka : Keeps [] wa W9 := by rw [← hW9]; exact (Keeps.refl _ _).alloc _
          have rb : Row W9 wa.heap.size 54 [.int .i64 0, .int .u64 0, .slice qa 0 ca] := by rw [← hW9]; exact Row.new _ _ _
          have HL9 := Lib.hid (HL7.out.keeps (ka1.trans ka))
          have HR9 := Lib.hid (⟨HR7.out.1.keeps (ka1.trans ka) (by simp), HR7.out.2.keeps (ka1.trans ka) (by simp)⟩ : _ ∧ _)
          have HH9 := Lib.hid (HH7.out.trans ((ka1.trans ka).held (fun k hk => HL7.out.dom k (.inl hk)) (by simp)))
          have r0 := rb.cell (j := 0) rfl
          have r1 := rb.cell (j := 1) rfl
          have rlt := rb.lt
          have hsb8 : sb < wa.heap.size := Nat.lt_of_lt_of_le HR7.out.2.lt ka1.size
          have hkb8 : kb < wa.heap.size := Nat.lt_of_lt_of_le HR7.out.1.lt ka1.size
          clear ka1 ka rb HL7 HR7 HH7 HEv
          have ck := HR9.out.1.cell (mapR_at hwn)
          rw [show kd2 who = 2 by rw [HKd.out, hk1]; rfl] at ck
          have iw : (who : Int) < (W : Int) := by omega
          have hws : IntKind.i64.wrap (sr + 1) = sr + 1 := by rw [IntKind.wrap_i64]; omega
          clear hk1
          go_wp2
          go_roundw
          case rel => exact ⟨k + 1, by omega, by go_num, LM, _, (sr + 1), al, kd2, rfl, HH9.out, HL9.out, hMl, hMm, HR9.out.1, HR9.out.2, HD'.out⟩
          case measure => simp [intOf]; omega
        -- >> search
      | found hk1 hr =>
        -- << found
        as_aux_lemma =>
          have hws : IntKind.i64.wrap (sr - 1) = sr - 1 := by rw [IntKind.wrap_i64]; omega
          by_cases hz : sr - 1 = 0
          · rw [if_pos hz] at hr
            have z1 : ((sr - 1 : Int) == 0) = true := by simpa using hz
            clear hz
            have hrs := HD'.out.crew.result _ w7 HL7.out hwn (updG_same _ _ _) (show idM.res s' = some ⟨0, 1, []⟩ from hr)
            rw [hMl] at hrs
            go_wp2_with fail
            refine hrs.mono ?_
            clear hrs
            rintro e wa ⟨qa, ca, rfl, -, ka1⟩
            obtain ⟨W9, hW9⟩ : ∃ W9, wa.alloc (.cells #[.int .i64 0, .int .u64 1, .slice qa 0 ca] 54) = W9 := ⟨_, rfl⟩
            have ka : Keeps [] wa W9 := by rw [← hW9]; exact (Keeps.refl _ _).alloc _
            have rb : Row W9 wa.heap.size 54 [.int .i64 0, .int .u64 1, .slice qa 0 ca] := by rw [← hW9]; exact Row.new _ _ _
            have HL9 := Lib.hid (HL7.out.keeps (ka1.trans ka))
            have HR9 := Lib.hid (⟨HR7.out.1.keeps (ka1.trans ka) (by simp), HR7.out.2.keeps (ka1.trans ka) (by simp)⟩ : _ ∧ _)
            have HH9 := Lib.hid (HH7.out.trans ((ka1.trans ka).held (fun k hk => HL7.out.dom k (.inl hk)) (by simp)))
            have r0 := rb.cell (j := 0) rfl
            have r1 := rb.cell (j := 1) rfl
            have rlt := rb.lt
            have hsb8 : sb < wa.heap.size := Nat.lt_of_lt_of_le HR7.out.2.lt ka1.size
            have hkb8 : kb < wa.heap.size := Nat.lt_of_lt_of_le HR7.out.1.lt ka1.size
            clear ka1 ka rb HL7 HR7 HH7 HEv
            have ck := HR9.out.1.cell (mapR_at hwn)
            rw [show kd2 who = 3 by rw [HKd.out, hk1]; rfl] at ck
            have iw : (who : Int) < (W : Int) := by omega
            clear hk1
            go_wp2
            go_roundw
            case rel => exact ⟨k + 1, by omega, by go_num, LM, _, (sr - 1), al, kd2, rfl, HH9.out, HL9.out, hMl, hMm, HR9.out.1, HR9.out.2, HD'.out⟩
            case measure => simp [intOf]; omega
          · rw [if_neg hz] at hr
            have z1 : ((sr - 1 : Int) == 0) = false := by simpa using hz
            clear hz
            have hrs := HD'.out.crew.result _ w7 HL7.out hwn (updG_same _ _ _) (show idM.res s' = some ⟨0, 0, []⟩ from hr)
            rw [hMl] at hrs
            go_wp2_with fail
            refine hrs.mono ?_
            clear hrs
            rintro e wa ⟨qa, ca, rfl, -, ka1⟩
            obtain ⟨W9, hW9⟩ : ∃ W9, wa.alloc (.cells #[.int .i64 0, .int .u64 0, .slice qa 0 ca] 54) = W9 := ⟨_, rfl⟩
            have ka : Keeps [] wa W9 := by rw [← hW9]; exact (Keeps.refl _ _).alloc _
            have rb : Row W9 wa.heap.size 54 [.int .i64 0, .int .u64 0, .slice qa 0 ca] := by rw [← hW9]; exact Row.new _ _ _
            have HL9 := Lib.hid (HL7.out.keeps (ka1.trans ka))
            have HR9 := Lib.hid (⟨HR7.out.1.keeps (ka1.trans ka) (by simp), HR7.out.2.keeps (ka1.trans ka) (by simp)⟩ : _ ∧ _)
            have HH9 := Lib.hid (HH7.out.trans ((ka1.trans ka).held (fun k hk => HL7.out.dom k (.inl hk)) (by simp)))
            have r0 := rb.cell (j := 0) rfl
            have r1 := rb.cell (j := 1) rfl
            have rlt := rb.lt
            have hsb8 : sb < wa.heap.size := Nat.lt_of_lt_of_le HR7.out.2.lt ka1.size
            have hkb8 : kb < wa.heap.size := Nat.lt_of_lt_of_le HR7.out.1.lt ka1.size
            clear ka1 ka rb HL7 HR7 HH7 HEv
            have ck := HR9.out.1.cell (mapR_at hwn)
            rw [show kd2 who = 3 by rw [HKd.out, hk1]; rfl] at ck
            have iw : (who : Int) < (W : Int) := by omega
            clear hk1
            go_wp2
            go_roundw
            case rel => exact ⟨k + 1, by omega, by go_num, LM, _, (sr - 1), al, kd2, rfl, HH9.out, HL9.out, hMl, hMm, HR9.out.1, HR9.out.2, HD'.out⟩
            case measure => simp [intOf]; omega
        -- >> found
      | choose c hk1 hs0 hcW hal hr =>
        -- << choose
        as_aux_lemma =>
          subst hs0
          have hrs := HD'.out.crew.result _ w7 HL7.out hwn (updG_same _ _ _) (show idM.res s' = some ⟨0, (c : Int), []⟩ from hr)
          rw [hMl] at hrs
          go_wp2_with fail
          refine hrs.mono ?_
          clear hrs
          rintro e wa ⟨qa, ca, rfl, -, ka1⟩
          obtain ⟨W9, hW9⟩ : ∃ W9, wa.alloc (.cells #[.int .i64 0, .int .u64 (c : Int), .slice qa 0 ca] 54) = W9 := ⟨_, rfl⟩
          have ka : Keeps [] wa W9 := by rw [← hW9]; exact (Keeps.refl _ _).alloc _
          have rb : Row W9 wa.heap.size 54 [.int .i64 0, .int .u64 (c : Int), .slice qa 0 ca] := by rw [← hW9]; exact Row.new _ _ _
          have HL9 := Lib.hid (HL7.out.keeps (ka1.trans ka))
          have HR9 := Lib.hid (⟨HR7.out.1.keeps (ka1.trans ka) (by simp), HR7.out.2.keeps (ka1.trans ka) (by simp)⟩ : _ ∧ _)
          have HH9 := Lib.hid (HH7.out.trans ((ka1.trans ka).held (fun k hk => HL7.out.dom k (.inl hk)) (by simp)))
          have r0 := rb.cell (j := 0) rfl
          have r1 := rb.cell (j := 1) rfl
          have rlt := rb.lt
          have hsb8 : sb < wa.heap.size := Nat.lt_of_lt_of_le HR7.out.2.lt ka1.size
          have hkb8 : kb < wa.heap.size := Nat.lt_of_lt_of_le HR7.out.1.lt ka1.size
          clear ka1 ka rb HL7 HR7 HH7 HEv
          have ck := HR9.out.1.cell (mapR_at hwn)
          rw [show kd2 who = 4 by rw [HKd.out, hk1]; rfl] at ck
          have iw : (who : Int) < (W : Int) := by omega
          have ic : (c : Int) < (W : Int) := by omega
          have hwt : IntKind.u64.wrap th = th := by show th % 18446744073709551616 = _; omega
          have dc : decide (th ≤ (c : Int)) = false := decide_eq_false (by rw [HWn.out]; omega)
          have HLB := Lib.hid (HL9.out.apart ((Keeps.refl [sb] W9).setCell (p := ⟨sb, c, none⟩) (fun _ => by simp) (.bool false)) (fun x hx => by simp at hx; exact .inr (.inr hx)) (by rw [hMm]; simp; exact Ne.symm HP8.out.2.1.2) (by simpa using HP8.out.2.2.2))
          have HHB := Lib.hid (HH9.out.trans (((Keeps.refl [sb] W9).setCell (p := ⟨sb, c, none⟩) (fun _ => by simp) (.bool false)).held (fun k hk => HL9.out.dom k (.inl hk)) (fun k hk => by simp at hk; subst hk; exact HP8.out.1.2)))
          have HRB := Lib.hid (⟨HR9.out.1.keeps ((Keeps.refl [sb] W9).setCell (p := ⟨sb, c, none⟩) (fun _ => by simp) (.bool false)) (by simpa using hks), HR9.out.2.setR (g := fun z => Value.bool z) c false⟩ : _ ∧ _)
          have fs := HR9.out.2.frozen c
          have cs := HR9.out.2.cell (mapR_at (hcW))
          rw [hal] at cs
          clear hk1 hal
          go_wp2
          go_roundw
          case rel => exact ⟨k + 1, by omega, by go_num, LM, _, 1, _, kd2, rfl, HHB.out, HLB.out, hMl, hMm, HRB.out.1, HRB.out.2, HD'.out⟩
          case measure => simp [intOf]; omega
        -- >> choose
    · -- << end
      as_aux_lemma =>
        have dk : decide ((k : Int) < (q : Int) + 30 * th) = false := decide_eq_false (by rw [HWn.out]; omega)
        obtain ⟨b0, b1⟩ := HBxr.out wr HHr.out
        obtain ⟨hul, hdv, hbit⟩ := HD.out.inv.look
        have hr : idRight 0 th := ⟨by omega, by omega, by omega, by omega⟩
        have HLo := Lib.hid (idLook_fine 0 th L.mm L.b L.us wr HL.out.mem hr (by rw [hul]; decide) HL.out.amb (fun h => HL.out.base.2.2 (HL.out.ambD _ h)))
        obtain ⟨x, hx⟩ : ∃ x, L.us.getD 0 0 = x := ⟨_, rfl⟩
        rw [show (0 : Int).toNat = 0 from rfl, hx, hLm, show th.toNat = W by rw [HWn.out]; rfl, places_field _ _ (by omega)] at HLo
        rw [hx] at hdv hbit
        rw [hdv] at HLo
        have HBit := Lib.hid hbit
        have hplen : (M.placesTo x.toNat W).length ≤ W := M.placesTo_len _ _
        obtain ⟨pl, hpl⟩ : ∃ pl, M.placesTo x.toNat W = pl := ⟨_, rfl⟩
        rw [hpl] at HLo hplen
        have HPl := Lib.hid hpl
        have HLb : Hid ((¬ (E L.b ∨ L.b = kb ∨ L.b = sb)) ∧ ∀ k, E k → k < wr.heap.size) := Lib.hid ⟨HL.out.base.2.2, fun k hk => HL.out.dom k (.inl hk)⟩
        clear hul hdv hbit hr hx hpl
        go_wp2_with fail
        refine HLo.out.mono ?_
        rintro e w4 ⟨vL, rfl, sL, -, k4⟩
        obtain ⟨qL, cL, rfl⟩ := sL.len
        have HSL := Lib.hid sL
        have HH4 := Lib.hid (HHr.out.trans (k4.held HLb.out.2 (fun k hk => by simp at hk; subst hk; exact fun h => HLb.out.1 (.inl h))))
        have HR4 := Lib.hid (HR.out.2.keeps k4 (by simp; exact fun h => HLb.out.1 (.inr (.inr h.symm))))
        have hs4 : B ≤ w4.heap.size := by have h1 := HH4.out.size; have h2 := HB8.out.size; omega
        clear sL k4 HLo HR HL HHr HD b0 b1
        have hown := owns_empty w4 3 1
        go_wp2_with fail
        have hsb4 := HR4.out.lt
        go_loopw [22, 23] (fun v i wr => ∃ j : Nat, j ≤ W ∧ i = .int .i64 (j : Int) ∧ wr.ownsRow w4.heap.size 3 1 v (M.placesTo x.toNat j).length (ints .i64 (placesI (M.placesTo x.toNat j))) ∧ Below w4.heap.size w4 wr ∧ w4.heap.size ≤ wr.heap.size) (fun _ i _ => W - (intOf i).toNat)
        case atStart => exact ⟨0, by omega, rfl, hown, (Below.refl _ _).alloc (Nat.le_refl _) _, by simp⟩
        case round =>
          obtain ⟨j, hj, rfl, hown', hbel', hsz'⟩ := hrel
          have HRj := Lib.hid (HR4.out.block (hbel'.block sb hsb4))
          clear hown
          by_cases hlt : j < W
          · have hlen := M.placesTo_len x.toNat j
            have ij : (j : Int) < (W : Int) := by omega
            have dj : decide ((j : Int) < th) = true := decide_eq_true (by rw [HWn.out]; omega)
            have cs := HRj.out.cell (mapR_at hlt)
            rw [← HBit.out j hlt] at cs
            by_cases hb : x.toNat.testBit j = true
            · have HY := Lib.hid (M.placesTo_yes (u := x.toNat) (k := j) (by rw [M.bitN_tb, hb]; rfl))
              rw [hb] at cs
              clear hb
              go_wp2_with (at_builtin; refine append_one rfl _ _ 31 rfl w4.heap.size 3 _ 1 8 Tryd.underlying31 elemIntR _ _ _ rfl hown' #[.int .i64 (j : Int)] rfl rfl (by simp [Value.oneCell']) (by omega) hsz' ?_; intro v' w2 hown3 hbel3)
              go_roundw
              case rel => exact ⟨j + 1, by omega, by go_num, by rw [HY.out, List.length_append, placesI_snoc]; exact hown3, hbel'.trans hbel3, Nat.le_trans hsz' hbel3.size⟩
              case measure => simp [intOf]; omega
            · have hb' : x.toNat.testBit j = false := by simpa using hb
              have HY := Lib.hid (M.placesTo_no (u := x.toNat) (k := j) (by rw [M.bitN_tb, hb']; decide))
              rw [hb'] at cs
              clear hb hb'
              go_wp2
              go_roundw
              case rel => exact ⟨j + 1, by omega, by go_num, by rw [HY.out]; exact hown', hbel', hsz'⟩
              case measure => simp [intOf]; omega
          · obtain rfl : W = j := by omega
            have dj : decide ((W : Int) < th) = false := decide_eq_false (by rw [HWn.out]; omega)
            rw [HPl.out] at hown'
            have HOw := Lib.hid hown'
            have HBl := Lib.hid hbel'
            clear hown' hbel'
            go_wp2_with fail
            refine (sameInts_any _ _ _ _ (placesI pl) (placesI pl) wr (by unfold maxLen; omega) (by unfold maxLen; omega) (HSL.out.below HBl.out (Nat.le_refl _)) (Sl.of_owns HOw.out)).mono ?_
            rintro e w10 ⟨rfl, m10, rfl⟩
            rw [decide_eq_true rfl]
            go_wp2
            go_ret
            exact ⟨rfl, belowD ((HB8.out.trans (Held.below (HH4.out.narrow (E := (· < B)) (fun k hk => HE.out.1 k hk)))).trans (HBl.out.mono (by omega)))⟩
      -- >> end

set_option maxRecDepth 100000 in
theorem lifted (os : Os) (started : os.Started) (H : Type) (enc : TypeId × Value → H) :
    ReturnsInHanded {} Tryd.checked os 4 .any (fun w args => (Rows.idleCountsSpec.pre enc Tryd.prog Tryd.f4 [] false w args ∧ laidMetH Tryd.prog Ld w) ∧ sizedMet enc Tryd.prog Tryd.f4 (OpenSpec.ofChange Rows.idleCountsSpec) false w args)
      (Rows.idleCountsSpec.post enc Tryd.prog Tryd.f4 false true false false) := by
  refine returnsInHanded_of_change_and (C := Tryd.checked) (X := fun w _ => laidMetH Tryd.prog Ld w) (fun _ _ _ hh h => h.of_heap hh) own started (by kernel_rfl) Tryd.func4
    (ChangeSpec.witness_shaped (enc := enc) (C := Tryd.checked) (os := os) (X := fun w _ => laidMetH Tryd.prog Ld w) false (World.laidAll Tryd.prog os Ld) #[.int .i64 0, .slice none 0 0] 8 (World.laidAll_os _ _ _) (World.shaped_of_ZipB (by kernel_rfl) (by kernel_rfl)) (by kernel_rfl) (by kernel_rfl) (by kernel_rfl) (start_met os _)) ?_
  intro W base args ds gs before hval0 hW _ _ hL _
  have hval : ∀ (j : Nat) t v, Tryd.f4.params[j]? = some t → args[j]? = some v → Value.okWide Tryd.prog W .any base t v := hval0
  have hW' := hW
  obtain ⟨p, q, hA0, hV, rfl, hfz, hnd⟩ := hW
  have hA : DataW.TrodAll enc Tryd.prog W 0 (fun _ => true) true Tryd.f4.params.toList args.toList ds p := hA0
  rw [Tryd.params4] at hA hval
  obtain ⟨v0, vs0, d0, ds0, q0, qs0, hargs, rfl, rfl, h0, r0⟩ := trodAll_cons hA
  obtain ⟨v1, vs1, d1, ds1, q1, qs1, rfl, rfl, rfl, h1, r1⟩ := trodAll_cons r0
  obtain ⟨rfl, rfl, rfl⟩ := trodAll_nil r1
  obtain rfl : args = #[v0, v1] := by cases args; simp_all
  obtain ⟨rfl, rfl⟩ := trodVars_none hV
  have hF := facts hL
  obtain ⟨a0, rfl, rfl, rfl, w0⟩ := open_int Tryd.underlying3 (hval 0 3 v0 rfl rfl) h0
  obtain ⟨p1, n1, c1, rfl⟩ := okWide_slice Tryd.underlying41 (hval 1 41 v1 rfl rfl)
  have k1 := h1
  have lt1 : ∀ x ∈ q1, x.block < W.heap.size := by obtain ⟨m, hm⟩ := k1; exact DataW.trod_lt m _ _ _ hm
  obtain ⟨z1, s1, m1, b1⟩ := (by obtain ⟨fu, hf⟩ := h1; exact sl_ints Tryd.underlying41 Tryd.underlying5 (by kernel_rfl) hf : ∃ zs : List Int, Sl W 1 (.slice p1 n1 c1) n1 (ints .u8 zs) ∧ n1 ≤ maxLen ∧ ∀ z ∈ zs, (Lit.int .u8 z).wf = true)
  clear hA0 hval0
  simp only [List.append_nil] at hW'
  refine (walk a0 p1 n1 c1 z1 W w0 s1 m1 b1 hF).mono fun e W' ⟨he, bel⟩ => ?_
  subst he
  exact ⟨_, rfl, _, _, _, [], _, [], hW', trodAll_mk1 (shut_bool Tryd.underlying4 _), (trodAll_cons_mk (shut_int Tryd.underlying3 w0) (trodAll_cons_mk (Below.trod laidOut (by kernel_rfl) (of_decide_eq_true (by kernel_rfl)) k1 bel lt1) trodAll_mk0)), rfl, bel.frame _, fun h => by cases h⟩

theorem holds : Rows.IdleCountsSaid :=
  OpenClaim.holds_of_wide 4 Tryd.f4 rfl rfl rfl rfl rfl rfl rfl ⟨rfl, rfl, rfl, rfl, rfl⟩ rfl rfl rfl rfl rfl (by kernel_rfl) Tryd.func4 (by kernel_rfl)
    (of_decide_eq_true (by kernel_rfl)) (by unfold Func.isWrapper; first | (rw [if_pos (by decide +kernel)]; kernel_rfl) | (rw [if_neg (by decide +kernel)]; exact ⟨rfl, rfl⟩))
    (fun os started H enc _ => lifted os started H enc)

theorem proved : Rows.IdleCountsCardSaid :=
  Claim7.holds_tied_plain_at .later [] [.data] true (true, "77d570d79d0a981462a94565f79024614f7c52ac0de47a2ce15cad8cf7510714") false
    holds (fun _ h => by cases h) (by kernel_rfl) (fun _ h => by cases h) idleCounts_row_tie rfl ⟨rfl, rfl⟩ (by kernel_rfl) rfl
    (fun f fn hf hfn => by
      obtain rfl : f = 4 := Option.some.inj ((show Tryd.prog.funcNamed "coachyard/coachyardlaw10.IdleCounts" = some 4 by kernel_rfl).symm.trans hf) |>.symm
      obtain rfl : fn = Tryd.f4 := (Option.some.inj (Tryd.func4.symm.trans hfn)).symm
      exact ⟨by kernel_rfl, fun j t ht => by
        rw [Tryd.params4] at ht
        have hm : t ∈ [3, 41] := by simpa using Array.mem_of_getElem? ht
        have hall : ([3, 41].all fun u => !Tryd.prog.wantsStandIn u) = true := by kernel_rfl
        exact (show Tryd.prog.wantsStandIn t = false by simpa using List.all_eq_true.1 hall t hm)⟩)
    (by kernel_rfl)
#print axioms proved
end Go.Proofs.YtamcfobgmpgbeaaDoor.idleCounts
