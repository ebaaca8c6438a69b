/-
  The law ParkWakes of the statements holds for every input: the call returns true, and the arguments read as before.
-/
import Derived.Test.YtgononhihpkagaaPkI
import Derived.Test.YtgononhihpkagaaPkL
import Derived.Test.YtgononhihpkagaaOpenA
import Derived.Test.YtgononhihpkagaaLook
import Derived.Test.YtgononhihpkagaaOpen
import Derived.Test.YtgononhihpkagaaAcc
import Derived.Test.YtgononhihpkagaaRows
import Derived.WalkKit
import Derived.ProofKit
import Derived.OpenShut
import Derived.ShutString
import Derived.ChangeOld
import Derived.Below
import Derived.Test.YtgononhihpkagaaOpen
namespace Go.Proofs.Ytgononhihpkagaa.parkWakes
open Go.ChangeShapes Go.WideShapes Go.ChangeAt Go.RowKit
open Go.ChangeMaps (open_string shut_string)
set_option linter.unusedVariables false
set_option linter.unusedSimpArgs false

theorem own : ownKnob Try.prog.godebug = none := by kernel_rfl
theorem laidOut : laidOutB Try.prog = true := by kernel_rfl

set_option maxHeartbeats 12800000 in
set_option maxRecDepth 200000 in
theorem walk (u : Int) (p : Option Addr) (n c : Nat) (zs : List Int) (w : World) (hv : (Lit.int .u64 u).wf = true) (hsl : Sl w 1 (.slice p n c) n (ints .u8 zs)) (hn : n ≤ maxLen) (hz : ∀ z ∈ zs, (Lit.int .u8 z).wf = true) :
    Calls Try.prog 5 #[.int .u64 u, .slice p n c] w fun e w' => e = .returned (.bool true) ∧ Below w.heap.size w w' := by
  have HU : Hid (M.U u) := Lib.hid (M.U.wf hv)
  have HZ : Hid (∀ z ∈ zs, 0 ≤ z ∧ z ≤ 255) := Lib.hid fun z h => by
    have := hz z h
    simp [Lit.wf, IntKind.min, IntKind.max, IntKind.signed, IntKind.bits] at this
    omega
  have HSl := Lib.hid hsl
  have HLen := Lib.hid hsl.ints_len
  unfold maxLen at hn
  obtain ⟨B, hB⟩ : ∃ B, w.heap.size = B := ⟨_, rfl⟩
  rw [hB]
  clear hv hz hsl
  go_enter Try.func5, Try.ntmps5
  go_wp2_with fail
  refine (awake11 w).mono ?_
  rintro e w1 ⟨rfl, b1⟩
  rw [hB] at b1
  have HB1 := Lib.hid b1
  have s1 := b1.size
  clear b1
  by_cases h1 : 100 < n
  · have d1 : decide ((100 : Int) < n) = true := decide_eq_true (by omega)
    go_wp2
    go_ret
    exact ⟨rfl, HB1.out⟩
  have d1 : decide ((100 : Int) < n) = false := decide_eq_false (by omega)
  go_wp2_with fail
  obtain ⟨sb, hsb⟩ : ∃ sb, w1.heap.size = sb := ⟨_, rfl⟩
  rw [hsb]
  generalize hW2 : World.alloc w1 _ = w2
  have bq : Box w2 sb #[.int .i64 0] := by rw [← hW2, ← hsb]; exact Box.new _ _ _
  have k2 : Keeps [] w1 w2 := by rw [← hW2]; exact (Keeps.refl _ _).alloc _
  have s2 : w2.heap.size = sb + 1 := by rw [← hW2, ← hsb]; simp
  have HB2 := Lib.hid (HB1.out.trans (k2.below (by omega) (by simp)))
  have HQ2 := Lib.hid bq
  clear bq k2 hW2 HB1
  refine (new_any 1 w2 (by omega) (by omega)).mono ?_
  rintro e w3 ⟨m, b, rfl, hM, k3, hm, hb⟩
  have HB3 := Lib.hid (HB2.out.trans (k3.below (by omega) (by simp)))
  have HM3 := Lib.hid hM
  have HQ3 := Lib.hid (HQ2.out.keeps k3 (by simp))
  have s3 := k3.size
  have hmlt := hM.lt
  clear hM k3 HB2 HQ2
  go_wp2_with fail
  generalize hW4 : World.alloc w3 _ = w4
  have k4 : Keeps [] w3 w4 := by rw [← hW4]; exact (Keeps.refl _ _).alloc _
  have hsl4 : Sl w4 1 (.slice (some ⟨w3.heap.size, 0, none⟩) 1 1) 1 (ints .u64 [u]) := by rw [← hW4]; exact Sl.lit w3 #[.int .u64 u] 46 1 1 1 rfl
  have HM4 := Lib.hid (HM3.out.keeps k4 (by simp) (by simp))
  have HB4 := Lib.hid (HB3.out.trans (k4.below (by omega) (by simp)))
  have HQ4 := Lib.hid (HQ3.out.keeps k4 (by simp))
  have s4 := k4.size
  clear hW4 HM3 HB3 HQ3 k4
  refine (fill_any m b _ [u] _ 1 w4 HM4.out hsl4 (by simpa using HU.out) (by decide)).mono ?_
  rintro e w5 ⟨rfl, hM, k5⟩
  have HM5 := Lib.hid (show Mem w5 m b [u] from hM)
  have HB5 := Lib.hid (HB4.out.trans (k5.below (by omega) (by simp; omega)))
  have HQ5 := Lib.hid (HQ4.out.keeps k5 (by simp; omega))
  have s5 := k5.size
  clear hM k5 HM4 HB4 HQ4 hsl4
  obtain ⟨E, hE⟩ : ∃ E : Nat → Prop, (fun x => x < B ∨ x = sb) = E := ⟨_, rfl⟩
  have HE : Hid ((∀ k, k < B → E k) ∧ E sb ∧ ∀ k, E k → k < B ∨ k = sb) := Lib.hid (by rw [← hE]; exact ⟨fun k hk => .inl hk, .inr rfl, fun k hk => hk⟩)
  clear hE
  go_wp2_with fail
  refine (loomNew_any E 4 m b [u] w5 HM5.out (by omega) (by omega) (fun k hk => by rcases HE.out.2.2 k hk with h | h <;> omega) (fun hk => by rcases HE.out.2.2 b hk with h | h <;> omega)).mono ?_
  rintro e w6 ⟨l, g, rfl, hL6, k6⟩
  have HL6 := Lib.hid (show Loom E w6 ⟨l, g, m, b, [u], [none, none, none, none], 0⟩ from hL6)
  have q6 := HQ5.out.keeps k6 (by simp)
  have HS : Hid (∀ W, Held E w6 W → W.cell? ⟨sb, 0, none⟩ = some (.int .i64 0)) := Lib.hid (fun W hk => by
    have c := hk.cell (p := ⟨sb, 0, none⟩) HE.out.2.1
    have c0 := q6.cells 0
    simp at c0
    exact c.trans c0)
  have HBe : Hid (∀ W, Held E w6 W → Below B w W) := Lib.hid (fun W hk => (HB5.out.trans (k6.below (by omega) (by simp))).trans (hk.narrow HE.out.1).below)
  have c0 := HS.out w6 (Held.refl _ _)
  have s6 := k6.size
  clear hL6 k6 HM5 HB5 HQ5 q6
  go_wp2_with fail
  refine (pkPrepare_made 0 0 (by decide) (by decide) w6).mono ?_
  rintro e w7 ⟨m0, S0, rfl, hI, k7, hS⟩
  have D := start_at E _ 0 none (pkStrand m0 (pkNew 0 1 0)) S0 w6 w7 HL6.out k7 rfl rfl hI hS
  have HK := Lib.hid (k7.held (HL6.out.dom) (by simp))
  have hgE : ¬ E g := HL6.out.base.2.1
  have hdm : ∀ k, E k → k < w7.heap.size := fun k hk => Nat.lt_of_lt_of_le (HL6.out.dom k hk) k7.size
  clear hI k7 hS HL6
  go_wp2_with fail
  refine D.mono ?_
  clear D
  rintro e w8 ⟨rfl, hL, k8⟩
  have HL8 := Lib.hid (show Loom E w8 ⟨l, g, m, b, [u], [some (pkStrand m0 (pkNew 0 1 0)), none, none, none], 0⟩ from hL)
  have HH8 := Lib.hid (HK.out.trans (k8.held hdm (by intro k hk; simp at hk; subst hk; exact hgE)))
  have HP8 : Hid (PwL ⟨l, g, m, b, [u], [some (pkStrand m0 (pkNew 0 1 0)), none, none, none], 0⟩ l m b m0 0 u (pkNew 0 1 0)) := Lib.hid ⟨rfl, rfl, rfl, rfl, rfl, rfl, fun j h1 h4 => by
    rcases (show j = 1 ∨ j = 2 ∨ j = 3 by omega) with rfl | rfl | rfl <;> exact ⟨none, rfl, rfl⟩, Nat.le_refl _⟩
  clear hL k8 HK hgE hdm
  have c8 := HS.out w8 HH8.out
  have HSl8 := Lib.hid (fun W (hk : Held E w6 W) => HSl.out.below (HBe.out W hk) (by omega))
  go_wp2
  go_loopw [10, 11, 12, 13] (fun pr ca wa i wr => ∃ (k : Nat) (L : LSt) (m1 : Nat) (s : PkS) (K q v : Int) (pb cb : Bool), k ≤ n ∧ i = .int .i64 (k : Int) ∧ pr = .bool pb ∧ ca = .bool cb ∧ wa = .bool pb ∧ Held E w6 wr ∧ Loom E wr L ∧ PwL L l m b m1 k v s ∧ M.U v ∧
    ((pb = false ∧ cb = false ∧ s = pkNew 0 1 0) ∨ (pb = true ∧ Pw K q v s ∧ cb = decide (0 < q) ∧ q ≤ k))) (fun _ _ _ i _ => n - (intOf i).toNat)
  case atStart => exact ⟨0, _, m0, _, 0, 0, u, false, false, Nat.zero_le _, rfl, rfl, rfl, rfl, HH8.out, HL8.out, HP8.out, HU.out, .inl ⟨rfl, rfl, rfl⟩⟩
  case round =>
    obtain ⟨k, L, m1, s, K, q, v, pb, cb, hk, rfl, rfl, rfl, rfl, hh, hL, hP, hUv, hcase⟩ := hrel
    have HLr := Lib.hid hL
    have HHr := Lib.hid hh
    have HPr := Lib.hid hP
    have HUr := Lib.hid hUv
    have c0r := HS.out wr hh
    clear hL hh hP hUv HL8 HH8 HP8
    by_cases hlt : k < n
    · have hsl := HSl8.out wr HHr.out
      obtain ⟨pb', off, cap, he, hpb, hcell⟩ := hsl.some (by omega)
      cases he
      have hkz : k < zs.length := by rw [HLen.out]; exact hlt
      have az := hcell k _ (ints_at (k := .u8) hkz)
      have hzz : 0 ≤ zs.getD k 0 ∧ zs.getD k 0 ≤ 255 := HZ.out _ (by rw [List.getD, List.getElem?_eq_getElem hkz]; exact List.getElem_mem hkz)
      obtain ⟨z, hz⟩ : ∃ z, zs.getD k 0 = z := ⟨_, rfl⟩
      rw [hz] at az hzz
      have htm : z.tmod 4 = z % 4 := Int.tmod_eq_emod_of_nonneg hzz.1
      obtain ⟨who, hwho⟩ : ∃ who : Nat, z % 4 = (who : Int) := Int.eq_ofNat_of_zero_le (by omega)
      have hw4 : who < 4 := by omega
      rw [hwho] at htm
      clear hsl hcell hz hwho
      have i0 : (0 : Int) ≤ (k : Int) := by omega
      have i1 : (k : Int) < (n : Int) := by omega
      rcases hcase with ⟨rfl, rfl, rfl⟩ | ⟨rfl, hPw, hcb, hqk⟩
      · by_cases hwp : 1 ≤ who
        · skip
          have hwi : (0 : Int) < (who : Int) := by omega
          go_wp2_with fail
          refine (pkCall_made 0 0 (by decide) (by decide) wr).mono ?_
          rintro e w10 ⟨mc, Sc, rfl, hI, k10, hS⟩
          obtain ⟨L1, L2, hSt, hPi, hP2⟩ := pwCall HPr.out (by omega) HUr.out who hwp hw4 mc Sc E wr w10 HLr.out k10 hI hS
          have HPi := Lib.hid hPi
          have HP2 := Lib.hid hP2
          clear hI k10 hS hPi hP2
          go_wp2_with fail
          refine hSt.mono ?_
          clear hSt
          rintro e w11 ⟨rfl, hL1, hh1⟩
          have HL1 := Lib.hid hL1
          have HH1 := Lib.hid (HHr.out.trans hh1)
          clear hL1 hh1
          go_wp2_with fail
          refine (HPi.out w11 HL1.out).mono ?_
          rintro e w12 ⟨rfl, hL2, hh2⟩
          have HL2 := Lib.hid hL2
          have HH2 := Lib.hid (HH1.out.trans hh2)
          have hUn : M.U ((v + 4294967296) % 18446744073709551616) := ⟨by omega, by omega⟩
          have HUn := Lib.hid hUn
          clear hL2 hh2 hUn
          go_wp2
          go_roundw
          case rel => exact ⟨k + 1, L2, m1, _, 0, 0, _, false, false, by omega, by go_num, rfl, rfl, rfl, HH2.out, HL2.out, HP2.out, HUn.out, .inl ⟨rfl, rfl, rfl⟩⟩
          case measure => simp [intOf]; omega
        · obtain rfl : 0 = who := by omega
          clear hwp hw4
          have hz0 : ((0 : Nat) : Int) = 0 := rfl
          rw [hz0] at htm
          obtain ⟨L1, s1', hPi, hP1, hov⟩ := pwPrepares HPr.out (by omega) HUr.out E wr HLr.out
          have hovs : s1'.over.isSome = true := by rw [hov]; rfl
          have HP1 := Lib.hid hP1
          have HOv := Lib.hid (show s1'.over = none ∨ ∃ c v, s1'.over = some ⟨c, v, []⟩ from .inr ⟨_, _, hov⟩)
          have HOV := Lib.hid hov
          have HOVs := Lib.hid hovs
          clear hP1 hov
          go_wp2_with fail
          refine hPi.mono ?_
          clear hPi
          rintro e w10 ⟨rfl, hL1, hh1⟩
          have HL1 := Lib.hid hL1
          have HH1 := Lib.hid (HHr.out.trans hh1)
          clear hL1 hh1
          go_wp2_with fail
          refine (pwResult HP1.out HOv.out E w10 HL1.out).mono ?_
          rintro e w11 ⟨cd, vv, qq, cc, rfl, hrv, k11⟩
          rw [hovs]
          have hvv : v / 4294967296 = vv := (hrv _ HOV.out).2
          have HVV := Lib.hid hvv
          have HL2 := Lib.hid (HL1.out.keeps k11)
          have HH2 := Lib.hid (HH1.out.trans (k11.held HL1.out.dom (by simp)))
          clear hrv k11 hovs hvv
          obtain ⟨zr, hzr⟩ : ∃ z, w11.heap.size = z := ⟨_, rfl⟩
          obtain ⟨w12, hW12⟩ : ∃ W, w11.alloc (.cells #[.int .i64 cd, .int .u64 vv, .slice qq 0 cc] 55) = W := ⟨_, rfl⟩
          have k12 : Keeps [] w11 w12 := by rw [← hW12]; exact (Keeps.refl _ _).alloc _
          have r12 : Row w12 zr 55 [.int .i64 cd, .int .u64 vv, .slice qq 0 cc] := by rw [← hW12, ← hzr]; exact Row.new _ _ _
          have HL3 := Lib.hid (HL2.out.keeps k12)
          have HH3 := Lib.hid (HH2.out.trans (k12.held HL2.out.dom (by simp)))
          have c3 := HS.out w12 HH3.out
          have d1' : w12.cell? ⟨zr, 1, none⟩ = some (.int .u64 vv) := r12.cell (j := 1) rfl
          have hKb : 0 ≤ vv ∧ vv < 4294967296 := by
            have := HUr.out.nn; have := HUr.out.lt; have := HVV.out; omega
          have w32 : IntKind.u32.wrap vv = vv := by rw [IntKind.wrap_u32']; omega
          have HKb := Lib.hid hKb
          clear k12 r12 HL2 HH2 hKb
          go_wp2_with fail
          refine (pkWait_made 0 vv HKb.out.1 HKb.out.2 w12).mono ?_
          rintro e w13 ⟨mw, Sw, rfl, hI, k13, hS⟩
          obtain ⟨L2, hSt, hP2⟩ := pwStart HP1.out HOVs.out mw Sw E w12 w13 HL3.out k13 hI hS
          have HP2 := Lib.hid hP2
          clear hI k13 hS hP2
          go_wp2_with fail
          refine hSt.mono ?_
          clear hSt
          rintro e w14 ⟨rfl, hL4, hh4⟩
          have HL4 := Lib.hid hL4
          have HH4 := Lib.hid (HH3.out.trans hh4)
          have hB := Pw.begin HUr.out
          rw [HVV.out] at hB
          have HBg := Lib.hid hB
          clear hL4 hh4 hB
          go_wp2
          go_roundw
          case rel => exact ⟨k + 1, L2, mw, _, vv, 0, _, true, false, by omega, by go_num, rfl, rfl, rfl, HH4.out, HL4.out, HP2.out, HBg.out.2.2.1, .inr ⟨rfl, HBg.out, rfl, by omega⟩⟩
          case measure => simp [intOf]; omega
      · have HPw := Lib.hid hPw
        by_cases hwp : 1 ≤ who
        · by_cases hq : 0 < q
          · obtain rfl : cb = true := by rw [hcb]; exact decide_eq_true hq
            clear hcb hPw
            have hwi : (0 : Int) < (who : Int) := by omega
            go_wp2_with fail
            refine (pkCall_made 0 0 (by decide) (by decide) wr).mono ?_
            rintro e w10 ⟨mc, Sc, rfl, hI, k10, hS⟩
            obtain ⟨L1, L2, hSt, hPi, hP2⟩ := pwCall HPr.out (by omega) HUr.out who hwp hw4 mc Sc E wr w10 HLr.out k10 hI hS
            have HPi := Lib.hid hPi
            have HP2 := Lib.hid hP2
            clear hI k10 hS hPi hP2
            go_wp2_with fail
            refine hSt.mono ?_
            clear hSt
            rintro e w11 ⟨rfl, hL1, hh1⟩
            have HL1 := Lib.hid hL1
            have HH1 := Lib.hid (HHr.out.trans hh1)
            clear hL1 hh1
            go_wp2_with fail
            refine (HPi.out w11 HL1.out).mono ?_
            rintro e w12 ⟨rfl, hL2, hh2⟩
            have HL2 := Lib.hid hL2
            have HH2 := Lib.hid (HH1.out.trans hh2)
            have hUn : M.U ((v + 4294967296) % 18446744073709551616) := ⟨by omega, by omega⟩
            have HUn := Lib.hid hUn
            clear hL2 hh2 hUn
            go_wp2
            go_roundw
            case rel => exact ⟨k + 1, L2, m1, _, K, q + 1, _, true, true, by omega, by go_num, rfl, rfl, rfl, HH2.out, HL2.out, HP2.out, HUn.out, .inr ⟨rfl, HPw.out.call (by omega), (decide_eq_true (by omega)).symm, by omega⟩⟩
            case measure => simp [intOf]; omega
          · obtain rfl : cb = false := by rw [hcb]; exact decide_eq_false hq
            clear hcb hPw
            have hwi : (0 : Int) < (who : Int) := by omega
            go_wp2_with fail
            refine (pkCall_made 0 0 (by decide) (by decide) wr).mono ?_
            rintro e w10 ⟨mc, Sc, rfl, hI, k10, hS⟩
            obtain ⟨L1, L2, hSt, hPi, hP2⟩ := pwCall HPr.out (by omega) HUr.out who hwp hw4 mc Sc E wr w10 HLr.out k10 hI hS
            have HPi := Lib.hid hPi
            have HP2 := Lib.hid hP2
            clear hI k10 hS hPi hP2
            go_wp2_with fail
            refine hSt.mono ?_
            clear hSt
            rintro e w11 ⟨rfl, hL1, hh1⟩
            have HL1 := Lib.hid hL1
            have HH1 := Lib.hid (HHr.out.trans hh1)
            clear hL1 hh1
            go_wp2_with fail
            refine (HPi.out w11 HL1.out).mono ?_
            rintro e w12 ⟨rfl, hL2, hh2⟩
            have HL2 := Lib.hid hL2
            have HH2 := Lib.hid (HH1.out.trans hh2)
            have hUn : M.U ((v + 4294967296) % 18446744073709551616) := ⟨by omega, by omega⟩
            have HUn := Lib.hid hUn
            clear hL2 hh2 hUn
            go_wp2
            go_roundw
            case rel => exact ⟨k + 1, L2, m1, _, K, q + 1, _, true, true, by omega, by go_num, rfl, rfl, rfl, HH2.out, HL2.out, HP2.out, HUn.out, .inr ⟨rfl, HPw.out.call (by omega), (decide_eq_true (by have := HPw.out.2.2.2.2.1; omega)).symm, by omega⟩⟩
            case measure => simp [intOf]; omega
        · obtain rfl : 0 = who := by omega
          clear hwp hw4
          have hz0 : ((0 : Nat) : Int) = 0 := rfl
          rw [hz0] at htm
          obtain ⟨f, L1, v1, s1', hPi, hP1, hPw1, hf⟩ := pwPick HPr.out (by omega) hPw E wr HLr.out
          have HP1 := Lib.hid hP1
          have HPw1 := Lib.hid hPw1
          have HRs := Lib.hid hPw1.res
          have hOv := hPw1.over
          obtain ⟨ov, hov⟩ : ∃ ov, s1'.over.isSome = ov := ⟨_, rfl⟩
          rw [hov] at hOv
          have HOV := Lib.hid hov
          have hc3 : (cb = false ∧ q = 0 ∧ ov = false) ∨ (cb = true ∧ 0 < q ∧ f ≠ 11) := by
            have q0 := hPw.2.2.2.2.1
            by_cases hq : 0 < q
            · refine .inr ⟨by rw [hcb]; exact decide_eq_true hq, hq, ?_⟩
              rcases hf with h | h | ⟨h, h2⟩ <;> omega
            · refine .inl ⟨by rw [hcb]; exact decide_eq_false hq, by omega, ?_⟩
              cases ov with
              | false => rfl
              | true => exact absurd (hOv rfl).1 hq
          have hf3 : f = 0 ∨ f = 10 ∨ f = 11 := by rcases hf with h | h | ⟨h, -⟩ <;> simp [h]
          have hov2 : ov = false ∨ ov = true := by cases ov <;> simp
          have HCB := Lib.hid hcb
          clear hP1 hPw1 hOv hov hf hPw hcb
          go_wp2_with fail
          refine hPi.mono ?_
          clear hPi
          rintro e w10 ⟨rfl, hL1, hh1⟩
          have HL1 := Lib.hid hL1
          have HH1 := Lib.hid (HHr.out.trans hh1)
          clear hL1 hh1
          go_wp2_with fail
          refine (pwResult HP1.out HRs.out E w10 HL1.out).mono ?_
          rintro e w11 ⟨cd, vv, qq, cc, rfl, -, k11⟩
          rw [HOV.out]
          have HL2 := Lib.hid (HL1.out.keeps k11)
          have HH2 := Lib.hid (HH1.out.trans (k11.held HL1.out.dom (by simp)))
          clear k11
          have k12 : Keeps [] w11 (w11.alloc (.cells #[.int .i64 cd, .int .u64 vv, .slice qq 0 cc] 55)) := (Keeps.refl _ _).alloc _
          have HL3 := Lib.hid (HL2.out.keeps k12)
          have HH3 := Lib.hid (HH2.out.trans (k12.held HL2.out.dom (by simp)))
          clear k12 HL2 HH2
          rcases hc3 with ⟨rfl, rfl, rfl⟩ | ⟨rfl, hq, hf11⟩
          · clear hov2
            rcases hf3 with rfl | rfl | rfl
            all_goals (
              go_wp2
              go_roundw
              case rel => exact ⟨k + 1, L1, m1, s1', K, 0, v1, true, false, by omega, by go_num, rfl, rfl, rfl, HH3.out, HL3.out, HP1.out, HPw1.out.2.2.1, .inr ⟨rfl, HPw1.out, HCB.out, by omega⟩⟩
              case measure => simp [intOf]; omega)
          · have hb11 : (f == 11) = false := by simp [hf11]
            clear hf3 hf11
            rcases hov2 with rfl | rfl
            all_goals (
              go_wp2
              go_roundw
              case rel => exact ⟨k + 1, L1, m1, s1', K, q, v1, true, true, by omega, by go_num, rfl, rfl, rfl, HH3.out, HL3.out, HP1.out, HPw1.out.2.2.1, .inr ⟨rfl, HPw1.out, HCB.out, by omega⟩⟩
              case measure => simp [intOf]; omega)
    · obtain rfl : n = k := by omega
      rcases hcase with ⟨rfl, rfl, rfl⟩ | ⟨rfl, hPw, hcb, hqk⟩
      · go_wp2
        go_ret
        exact ⟨rfl, HBe.out _ HHr.out⟩
      · by_cases hq : 0 < q
        · obtain rfl : cb = true := by rw [hcb]; exact decide_eq_true hq
          have HPx := HPr
          have HPwx := Lib.hid hPw
          have HLx := HLr
          have HHx := HHr
          clear hcb hPw
          obtain ⟨LE, vE, sE, hPE, hPwE, hovE, hAE⟩ := pwEnds HPx.out (by omega) HPwx.out hq
          have HPE := Lib.hid hPE
          have HEv := Lib.hid (hPwE.over hovE)
          have HEU := Lib.hid hPwE.2.2.1
          have HER := Lib.hid hPwE.res
          have HOE := Lib.hid hovE
          have HAE := Lib.hid hAE
          clear hPE hPwE hovE hAE
          go_wp2_with fail
          refine (HAE.out E wr HLx.out).mono ?_
          rintro e w20 ⟨aE, cE, rfl, hL20, hh20⟩
          have HL20 := Lib.hid hL20
          have HH20 := Lib.hid (HHx.out.trans hh20)
          clear hL20 hh20
          go_wp2_with fail
          refine (pwResult HPE.out HER.out E w20 HL20.out).mono ?_
          rintro e w21 ⟨cd, vv, qq, cc, rfl, -, k21⟩
          rw [HOE.out]
          have HL21 := Lib.hid (HL20.out.keeps k21)
          have HH21 := Lib.hid (HH20.out.trans (k21.held HL20.out.dom (by simp)))
          clear k21
          obtain ⟨w22, hW22⟩ : ∃ W, w21.alloc (.cells #[.int .i64 cd, .int .u64 vv, .slice qq 0 cc] 55) = W := ⟨_, rfl⟩
          have k22 : Keeps [] w21 w22 := by rw [← hW22]; exact (Keeps.refl _ _).alloc _
          have HL22 := Lib.hid (HL21.out.keeps k22)
          have HH22 := Lib.hid (HH21.out.trans (k22.held HL21.out.dom (by simp)))
          have c22 := HS.out w22 HH22.out
          have hmem : Mem w22 m b [vE] := by
            have := HL22.out.mem
            rw [HPE.out.mm, HPE.out.b, HPE.out.us] at this
            exact this
          have HLk := Lib.hid (pkLook_fine 0 m b [vE] w22 hmem (by unfold pkRight; omega) (by simp))
          have hv2 : vE % 2 = 0 := HEv.out.2
          have HBf := Lib.hid (HBe.out w22 HH22.out)
          have HbE := Lib.hid (show B ≤ b by omega)
          simp only [show (0 : Int).toNat = 0 from rfl, List.getD_cons_zero, hv2] at HLk
          rw [show ((0 : Int) == 1) = false from rfl] at HLk
          clear k22 hv2 hmem HL20 HL21 HH20 HH21
          go_wp2_with fail
          refine HLk.out.mono ?_
          rintro e w23 ⟨rfl, -, k23⟩
          have HFin := Lib.hid (HBf.out.trans (k23.below (B := B) (by have := HBf.out.size; omega) (by intro x hx; simp at hx; subst hx; exact HbE.out)))
          clear k23
          go_wp2
          go_ret
          exact ⟨rfl, HFin.out⟩
        · obtain rfl : cb = false := by rw [hcb]; exact decide_eq_false hq
          obtain rfl : q = 0 := by have := hPw.2.2.2.2.1; omega
          obtain ⟨LP, sP, hPP, hPwP, hovP, hAP, hPk⟩ := pwParks HPr.out (by omega) hPw
          have HPP := Lib.hid hPP
          have HPwP := Lib.hid hPwP
          have HAP := Lib.hid hAP
          have HPk := Lib.hid hPk
          clear hcb hPw hPP hPwP hovP hAP hPk hq
          go_wp2_with fail
          refine (HAP.out E wr HLr.out).mono ?_
          rintro e w10 ⟨aP, cP, rfl, hL10, hh10⟩
          have HL10 := Lib.hid hL10
          have HH10 := Lib.hid (HHr.out.trans hh10)
          clear hL10 hh10
          go_wp2_with fail
          refine (HPk.out E w10 HL10.out).mono ?_
          rintro e w11 ⟨rfl, hL11, hh11⟩
          have HL11 := Lib.hid hL11
          have HH11 := Lib.hid (HH10.out.trans hh11)
          have c11 := HS.out w11 HH11.out
          clear hL11 hh11
          go_wp2_with fail
          refine (pkCall_made 0 0 (by decide) (by decide) w11).mono ?_
          rintro e w12 ⟨mc, Sc, rfl, hI, k12, hS⟩
          obtain ⟨L1, L2, hSt, hPi, hP2⟩ := pwCall HPP.out (by omega) HUr.out 1 (by decide) (by decide) mc Sc E w11 w12 HL11.out k12 hI hS
          have HPi := Lib.hid hPi
          have HPx := Lib.hid hP2
          have HPwx := Lib.hid (HPwP.out.call (by omega))
          clear hI k12 hS hPi hP2
          go_wp2_with fail
          refine hSt.mono ?_
          clear hSt
          rintro e w13 ⟨rfl, hL1, hh1⟩
          have HL1 := Lib.hid hL1
          have HH1 := Lib.hid (HH11.out.trans hh1)
          clear hL1 hh1
          go_wp2_with fail
          refine (HPi.out w13 HL1.out).mono ?_
          rintro e w14 ⟨rfl, hL2, hh2⟩
          have HLx := Lib.hid hL2
          have HHx := Lib.hid (HH1.out.trans hh2)
          clear hL2 hh2
          obtain ⟨LE, vE, sE, hPE, hPwE, hovE, hAE⟩ := pwEnds HPx.out (by omega) HPwx.out (by omega)
          have HPE := Lib.hid hPE
          have HEv := Lib.hid (hPwE.over hovE)
          have HEU := Lib.hid hPwE.2.2.1
          have HER := Lib.hid hPwE.res
          have HOE := Lib.hid hovE
          have HAE := Lib.hid hAE
          clear hPE hPwE hovE hAE
          go_wp2_with fail
          refine (HAE.out E w14 HLx.out).mono ?_
          rintro e w20 ⟨aE, cE, rfl, hL20, hh20⟩
          have HL20 := Lib.hid hL20
          have HH20 := Lib.hid (HHx.out.trans hh20)
          clear hL20 hh20
          go_wp2_with fail
          refine (pwResult HPE.out HER.out E w20 HL20.out).mono ?_
          rintro e w21 ⟨cd, vv, qq, cc, rfl, -, k21⟩
          rw [HOE.out]
          have HL21 := Lib.hid (HL20.out.keeps k21)
          have HH21 := Lib.hid (HH20.out.trans (k21.held HL20.out.dom (by simp)))
          clear k21
          obtain ⟨w22, hW22⟩ : ∃ W, w21.alloc (.cells #[.int .i64 cd, .int .u64 vv, .slice qq 0 cc] 55) = W := ⟨_, rfl⟩
          have k22 : Keeps [] w21 w22 := by rw [← hW22]; exact (Keeps.refl _ _).alloc _
          have HL22 := Lib.hid (HL21.out.keeps k22)
          have HH22 := Lib.hid (HH21.out.trans (k22.held HL21.out.dom (by simp)))
          have c22 := HS.out w22 HH22.out
          have hmem : Mem w22 m b [vE] := by
            have := HL22.out.mem
            rw [HPE.out.mm, HPE.out.b, HPE.out.us] at this
            exact this
          have HLk := Lib.hid (pkLook_fine 0 m b [vE] w22 hmem (by unfold pkRight; omega) (by simp))
          have hv2 : vE % 2 = 0 := HEv.out.2
          have HBf := Lib.hid (HBe.out w22 HH22.out)
          have HbE := Lib.hid (show B ≤ b by omega)
          simp only [show (0 : Int).toNat = 0 from rfl, List.getD_cons_zero, hv2] at HLk
          rw [show ((0 : Int) == 1) = false from rfl] at HLk
          clear k22 hv2 hmem HL20 HL21 HH20 HH21
          go_wp2_with fail
          refine HLk.out.mono ?_
          rintro e w23 ⟨rfl, -, k23⟩
          have HFin := Lib.hid (HBf.out.trans (k23.below (B := B) (by have := HBf.out.size; omega) (by intro x hx; simp at hx; subst hx; exact HbE.out)))
          clear k23
          go_wp2
          go_ret
          exact ⟨rfl, HFin.out⟩

set_option maxRecDepth 100000 in
theorem lifted (os : Os) (started : os.Started) (H : Type) (enc : TypeId × Value → H) :
    ReturnsInHanded {} Try.checked os 5 .any (Rows.parkWakesSpec.pre6 enc Try.prog Try.f5 Rows.parkWakesRow.domain false) (Rows.parkWakesSpec.post enc Try.prog Try.f5 false true false false) := by
  refine returnsInHanded_of_change (C := Try.checked) own started (by kernel_rfl) Try.func5
    (ChangeSpec.witness6 (enc := enc) (C := Try.checked) false ⟨#[], #[.int .u64 0, .slice none 0 0], []⟩ 8 (by kernel_rfl) (by kernel_rfl) (by kernel_rfl) (by kernel_rfl)) ?_
  intro W base args ds gs before hval0 hW hcnd _
  have hval : ∀ (j : Nat) t v, Try.f5.params[j]? = some t → args[j]? = some v → Value.okWide Try.prog W .any base t v := hval0
  have hW' := hW
  obtain ⟨p, q, hA0, hV, rfl, hfz, hnd⟩ := hW
  have hA : DataW.TrodAll enc Try.prog W 0 (fun _ => true) true Try.f5.params.toList args.toList ds p := hA0
  rw [Try.params5] at hA hval
  obtain ⟨v0, vs0, d0, ds0, q0, qs0, hargs, rfl, rfl, h0, r0⟩ := trodAll_cons hA
  obtain ⟨v1, vs1, d1, ds1, q1, qs1, rfl, rfl, rfl, h1, r1⟩ := trodAll_cons r0
  obtain ⟨rfl, rfl, rfl⟩ := trodAll_nil r1
  obtain rfl : args = #[v0, v1] := by cases args; simp_all
  obtain ⟨rfl, rfl⟩ := trodVars_none hV
  obtain ⟨a0, rfl, rfl, rfl, w0⟩ := open_int Try.underlying46 (hval 0 46 v0 rfl rfl) h0
  obtain ⟨p1, n1, c1, rfl⟩ := okWide_slice Try.underlying48 (hval 1 48 v1 rfl rfl)
  have k1 := h1
  have lt1 : ∀ x ∈ q1, x.block < W.heap.size := by obtain ⟨m, hm⟩ := k1; exact DataW.trod_lt m _ _ _ hm
  obtain ⟨z1, s1, m1, b1⟩ := (by obtain ⟨fu, hf⟩ := h1; exact sl_ints Try.underlying48 Try.underlying5 (by kernel_rfl) hf : ∃ zs : List Int, Sl W 1 (.slice p1 n1 c1) n1 (ints .u8 zs) ∧ n1 ≤ maxLen ∧ ∀ z ∈ zs, (Lit.int .u8 z).wf = true)
  clear hA0 hval0
  simp only [List.append_nil] at hW'
  refine (walk a0 p1 n1 c1 z1 W w0 s1 m1 b1).mono fun e W' ⟨he, bel⟩ => ?_
  subst he
  exact ⟨_, rfl, _, _, _, [], _, [], hW', trodAll_mk1 (shut_bool Try.underlying4 _), (trodAll_cons_mk (shut_int Try.underlying46 w0) (trodAll_cons_mk (Below.trod laidOut (by kernel_rfl) (of_decide_eq_true (by kernel_rfl)) k1 bel lt1) trodAll_mk0)), rfl, bel.frame _, fun h => by cases h⟩

theorem proved : Rows.ParkWakesSaid :=
  OpenClaim.holds_of_wide 5 Try.f5 rfl rfl rfl rfl rfl rfl rfl ⟨rfl, rfl, rfl, rfl, rfl⟩ rfl rfl rfl rfl rfl (by kernel_rfl) Try.func5 (by kernel_rfl)
    (of_decide_eq_true (by kernel_rfl)) (by unfold Func.isWrapper; first | (rw [if_pos (by decide +kernel)]; kernel_rfl) | (rw [if_neg (by decide +kernel)]; exact ⟨rfl, rfl⟩))
    (fun os started H enc _ => lifted os started H enc)
#print axioms proved
end Go.Proofs.Ytgononhihpkagaa.parkWakes
