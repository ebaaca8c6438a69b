/-
  The law LoomAdds of the statements holds for every input: the call returns true, and the arguments read as before.
-/
import Derived.Test.YtplmmflpodpbmaaAdds
import Derived.Test.YtplmmflpodpbmaaLook
import Derived.Test.YtplmmflpodpbmaaOpen
import Derived.Test.YtplmmflpodpbmaaAcc
import Derived.Test.YtplmmflpodpbmaaClone2
import Derived.Test.YtplmmflpodpbmaaFresh
import Derived.Test.YtplmmflpodpbmaaMem3
import Derived.Test.YtplmmflpodpbmaaRows
import Derived.WalkKit
import Derived.ProofKit
import Derived.OpenShut
import Derived.ShutString
import Derived.ChangeOld
import Derived.Below
import Derived.Test.YtplmmflpodpbmaaOpen
namespace Go.Proofs.Ytplmmflpodpbmaa.loomAdds
open Go.ChangeShapes Go.WideShapes Go.ChangeAt Go.RowKit
open Go.ChangeMaps (open_string shut_string)
set_option linter.unusedVariables false

theorem own : ownKnob Try.prog.godebug = none := by kernel_rfl
theorem laidOut : laidOutB Try.prog = true := by kernel_rfl

set_option maxHeartbeats 12800000 in
set_option maxRecDepth 200000 in
theorem walk (pa : Option Addr) (n ca : Nat) (zs : List Int) (times : Int) (pp : Option Addr) (q cp : Nat) (ys : List Int) (w : World)
    (ha : Sl w 1 (.slice pa n ca) n (ints .u64 zs)) (hna : n ≤ maxLen) (hza : ∀ z ∈ zs, (Lit.int .u64 z).wf = true) (hti : (Lit.int .i64 times).wf = true)
    (hp : Sl w 1 (.slice pp q cp) q (ints .u8 ys)) (hq : q ≤ maxLen) (hy : ∀ y ∈ ys, (Lit.int .u8 y).wf = true) :
    Calls Try.prog 3 #[.slice pa n ca, .int .i64 times, .slice pp q cp] w fun e w' => e = .returned (.bool true) ∧ Below w.heap.size w w' := by
  obtain ⟨B, hB⟩ : ∃ B, w.heap.size = B := ⟨_, rfl⟩
  rw [hB]
  have HZ : Hid (∀ z ∈ zs, M.U z) := Lib.hid fun z h => M.U.wf (hza z h)
  have HY : Hid (∀ y ∈ ys, 0 ≤ y ∧ y < 256) := Lib.hid fun y h => by
    have := bounds_u8 (hy y h)
    omega
  have HSA := Lib.hid ha
  have HSP := Lib.hid hp
  have HLA := Lib.hid ha.ints_len
  have HLP := Lib.hid hp.ints_len
  unfold maxLen at hna hq
  clear ha hp hza hy hti
  go_enter Try.func3, Try.ntmps3
  go_wp2_with fail
  refine (awake5 w).mono ?_
  rintro e w1 ⟨rfl, b1⟩
  rw [hB] at b1
  have HB1 := Lib.hid b1
  clear b1
  by_cases h1 : n < 1
  · have d1 : decide ((n : Int) < 1) = true := decide_eq_true (by omega)
    go_wp2
    go_ret
    exact ⟨rfl, HB1.out⟩
  have d1 : decide ((n : Int) < 1) = false := decide_eq_false (by omega)
  by_cases h2 : 16 < n
  · have d2 : decide ((16 : Int) < n) = true := decide_eq_true (by omega)
    go_wp2
    go_ret
    exact ⟨rfl, HB1.out⟩
  have d2 : decide ((16 : Int) < n) = false := decide_eq_false (by omega)
  by_cases h3 : times < 0
  · have d3 : decide (times < 0) = true := decide_eq_true (by omega)
    go_wp2
    go_ret
    exact ⟨rfl, HB1.out⟩
  obtain ⟨T, rfl⟩ : ∃ T : Nat, times = (T : Int) := ⟨times.toNat, by omega⟩
  have d3 : decide ((T : Int) < 0) = false := decide_eq_false (by omega)
  by_cases h4 : 20 < T
  · have d4 : decide ((20 : Int) < T) = true := decide_eq_true (by omega)
    go_wp2
    go_ret
    exact ⟨rfl, HB1.out⟩
  have d4 : decide ((20 : Int) < T) = false := decide_eq_false (by omega)
  by_cases h5 : 400 < q
  · have d5 : decide ((400 : Int) < q) = true := decide_eq_true (by omega)
    go_wp2
    go_ret
    exact ⟨rfl, HB1.out⟩
  have d5 : decide ((400 : Int) < q) = false := decide_eq_false (by omega)
  obtain ⟨ab, ao, ac, he, hab, hac⟩ := HSA.out.some (by omega)
  cases he
  rw [hB] at hab
  have HA : Hid (∀ W, Below B w W → ∀ i, i < n → W.cell? ⟨ab, ao + i, none⟩ = some (.int .u64 (zs.getD i 0))) := Lib.hid fun W hW i hi =>
    (hW.cell (p := ⟨ab, ao + i, none⟩) hab).trans (hac i _ (ints_at (k := .u64) (by rw [HLA.out]; exact hi)))
  clear hac hab
  have s1 := HB1.out.size
  go_wp2_with fail
  refine (new_any 1 w1 (by omega) (by omega)).mono ?_
  rintro e w2 ⟨m, b, rfl, hM, k2, hm, hb⟩
  have HB2 := Lib.hid (HB1.out.trans (k2.below (by omega) (by simp)))
  have HM2 := Lib.hid (show Mem w2 m b [0] from hM)
  clear hM k2 HB1
  have s2 := HB2.out.size
  go_wp2_with fail
  refine (loomNew_any B n m b [0] w2 HM2.out (by omega) (by omega) (by omega) (by omega)).mono ?_
  rintro e w3 ⟨l, g, rfl, hL, k3⟩
  have HL3 := Lib.hid hL
  have HB3 := Lib.hid (HB2.out.trans (k3.below (by omega) (by simp)))
  clear hL k3 HM2 HB2 hm hb
  have HStart : Hid (Starts zs T l m b ⟨l, g, m, b, [0], List.replicate n none, 0⟩ 0) := Lib.hid ⟨rfl, rfl, rfl, rfl, by simp [HLA.out], fun i hi => by omega, fun i _ hi => by
    have := HLA.out
    simp only [List.getElem?_replicate]
    rw [if_pos (by omega)], rfl⟩
  go_wp2
  go_loopw [11] (fun i wr => ∃ k : Nat, k ≤ n ∧ i = .int .i64 (k : Int) ∧ Below B w wr ∧ ∃ L : LSt, Loom B wr L ∧ Starts zs T l m b L k) (fun i _ => n - (intOf i).toNat)
  case atStart => exact ⟨0, Nat.zero_le _, rfl, HB3.out, _, HL3.out, HStart.out⟩
  case round =>
    obtain ⟨k, hk, rfl, hbr, L, hL, hst⟩ := hrel
    have HBr := Lib.hid hbr
    have HLr := Lib.hid hL
    have HSt := Lib.hid hst
    have hsr := hbr.size
    clear hbr hL hst HL3 HB3 HStart
    by_cases hlt : k < n
    · go_wp2
      obtain ⟨z, hz⟩ : ∃ z, zs.getD k 0 = z := ⟨_, rfl⟩
      have HZZ := Lib.hid hz
      clear hz
      rename World => V
      go_loopw [12, 13] (fun v j wi => ∃ kk : Nat, kk ≤ T ∧ j = .int .i64 (kk : Int) ∧ Keeps [] V wi ∧ wi.ownsRow V.heap.size 35 4 v kk (accs (List.replicate kk (addAcc z)))) (fun _ j _ => T - (intOf j).toNat)
      case atStart => exact ⟨0, Nat.zero_le _, rfl, (Keeps.refl _ _).alloc _, owns_empty V 35 4⟩
      case round =>
        obtain ⟨kk, hkk, rfl, hki, hown⟩ := hrel
        have HKi := Lib.hid hki
        have HOi := Lib.hid hown
        have hsi := hki.size
        have az := HA.out _ (HBr.out.trans (hki.below (by omega) (by simp))) k hlt
        rw [HZZ.out] at az
        clear hki hown
        by_cases hlt2 : kk < T
        · go_wp2_with (at_builtin; refine append_fresh rfl _ _ 32 rfl V.heap.size 35 _ 4 32 Try.underlying32 elemAcc _ _ _ rfl HOi.out #[.int .i64 4, .int .i64 0, .int .u64 z, .int .u64 0] rfl rfl (by simp [Value.oneCell']) ?c2 ?c3 ?_)
          case c2 => omega
          case c3 => omega
          intro v' w' own' k' fr' ne'
          have HQ : Hid (Keeps [] V w' ∧ w'.ownsRow V.heap.size 35 4 v' (kk + 1) (accs (List.replicate (kk + 1) (addAcc z)))) := Lib.hid
            ⟨HKi.out.step k' (fun g hg => (HOi.out.lt g ((ownBlock_toList _ _).1 hg)).1), by rw [← accs_snoc]; exact own'⟩
          clear own' k' fr' ne' az
          go_wp2
          go_roundw
          case rel => exact ⟨kk + 1, by omega, by go_num, HQ.out⟩
          case measure => simp [intOf]; omega
        · obtain rfl : T = kk := by omega
          clear az
          have HB5 := Lib.hid (HBr.out.trans (HKi.out.below (by omega) (by simp)))
          have hs5 := HB5.out.size
          have HT := HSt.out
          have hsl := Sl.of_owns HOi.out
          go_wp2_with fail
          refine (wPlain _ (List.replicate T (addAcc z)) wr (by rw [List.length_replicate]; exact hsl) (by simp; omega)).mono ?_
          rintro e w6 ⟨mi, S, rfl, hI, k6, hS⟩
          have hst7 := HSt.out.next (by rw [HLA.out]; exact hlt) mi
          rw [HZZ.out] at hst7
          have D := (start_at B L k none (plainStrand mi (List.replicate T (addAcc z)) []) S wr w6 (HLr.out.keeps HKi.out) k6 (HSt.out.no k (Nat.le_refl _) (by rw [HLA.out]; exact hlt)) rfl hI hS).mono
            fun e w' h => (⟨h.1, ⟨_, h.2.1, hst7⟩, h.2.2⟩ : e = .returned (.int .i64 0) ∧ (∃ L' : LSt, Loom B w' L' ∧ Starts zs T l m b L' (k + 1)) ∧ Keeps [L.g] w6 w')
          rw [HSt.out.l] at D
          have HB6 := Lib.hid (HB5.out.trans (k6.below (by omega) (by simp)))
          have HgB := Lib.hid HLr.out.base.2.1
          have hs6 := HB6.out.size
          clear hsl hI k6 hS HB5 HBr HLr HKi hst7
          go_wp2_with fail
          refine D.mono ?_
          clear D
          rintro e w7 ⟨rfl, ⟨L7, hL7, hst7⟩, k7⟩
          have HB7 := Lib.hid (HB6.out.trans (k7.below (by omega) (fun k hk => by simp at hk; have := HgB.out; omega)))
          have HL7 := Lib.hid hL7
          have HS7 := Lib.hid hst7
          clear hL7 k7 hst7 HB6
          go_wp2
          go_roundw
          case rel => exact ⟨k + 1, by omega, by go_num, HB7.out, _, HL7.out, HS7.out⟩
          case measure => simp [intOf]; omega
    · obtain rfl : n = k := by omega
      have hst := HSt.out
      rw [← HLA.out] at hst
      have HAd := Lib.hid hst.adds
      clear hst HSt
      rename World => V3
      have HB3' := Lib.hid HBr.out
      go_wp2
      go_loopw [14, 15, 16] (fun d s j wr => ∃ k : Nat, k ≤ q ∧ j = .int .i64 (k : Int) ∧ Below B w wr ∧ ∃ (L : LSt) (c : Nat → Nat), Loom B wr L ∧ Adds zs T l m b L c ∧ d = .int .u64 (addsD zs c) ∧ s = .int .i64 (sumN c zs.length : Nat)) (fun _ _ j _ => q - (intOf j).toNat)
      case atStart => exact ⟨0, Nat.zero_le _, rfl, HBr.out, L, fun _ => 0, HLr.out, HAd.out, by rw [addsD_zero], by rw [sumN_const]; simp⟩
      case round =>
        clear HBr HLr HAd
        obtain ⟨k, hk, rfl, hbr, L, c, hL, had, rfl, rfl⟩ := hrel
        have HBr := Lib.hid hbr
        have HLr := Lib.hid hL
        have HAd := Lib.hid had
        have hsr := hbr.size
        clear hbr hL had
        by_cases hlt : k < q
        · obtain ⟨pb, po, pc, he, hpb, hpc⟩ := HSP.out.some (by omega)
          cases he
          rw [hB] at hpb
          have hkz : k < ys.length := by rw [HLP.out]; exact hlt
          have ay := (HBr.out.cell (p := ⟨pb, po + k, none⟩) hpb).trans (hpc k _ (ints_at (k := .u8) hkz))
          have hyb := HY.out (ys.getD k 0) (by rw [List.getD, List.getElem?_eq_getElem hkz]; exact List.getElem_mem hkz)
          obtain ⟨y, hy⟩ : ∃ y, ys.getD k 0 = y := ⟨_, rfl⟩
          rw [hy] at ay hyb
          obtain ⟨yn, rfl⟩ : ∃ yn : Nat, y = (yn : Int) := ⟨y.toNat, by omega⟩
          clear hpc hy
          go_wp2_with fail
          rw [show (yn : Int) % (n : Int) = ((yn % n : Nat) : Int) from (Int.natCast_emod _ _).symm]
          have hwn : yn % n < n := Nat.mod_lt _ (by omega)
          obtain ⟨who, hwho⟩ : ∃ who, yn % n = who := ⟨_, rfl⟩
          rw [hwho] at hwn ⊢
          have hwz : who < zs.length := by rw [HLA.out]; exact hwn
          obtain ⟨z, hz⟩ : ∃ z, zs.getD who 0 = z := ⟨_, rfl⟩
          have HZZ := Lib.hid hz
          have HZU : Hid (M.U z) := Lib.hid (by rw [← hz]; exact HZ.out _ (by rw [List.getD, List.getElem?_eq_getElem hwz]; exact List.getElem_mem hwz))
          have hsum : L.steps ≤ 1000000 := by
            have h1 := HAd.out.steps
            have h2 := sumN_le HAd.out.top
            have : T * zs.length ≤ 20 * 16 := Nat.mul_le_mul (by omega) (by rw [HLA.out]; omega)
            omega
          have hsumc : sumN c zs.length ≤ 1000000 := by rw [← HAd.out.steps]; exact hsum
          have HWHO := Lib.hid hwho
          clear hz hwho ay
          by_cases hcT : c who < T
          · obtain ⟨M, hone, hadM⟩ := HAd.out.one HZ.out hwz hcT
            have D := pick_step B who L M wr HLr.out hone (by omega)
            rw [HAd.out.l] at D
            have HAM := Lib.hid hadM
            clear hone hadM
            refine D.mono ?_
            clear D
            rintro e w5 ⟨rfl, hL5, b5⟩
            have HL5 := Lib.hid hL5
            have HB5 := Lib.hid (HBr.out.trans b5)
            clear hL5 b5 HLr HBr
            have az := HA.out w5 HB5.out who hwn
            rw [HZZ.out] at az
            have hs5 := HB5.out.size
            go_wp2_with fail
            have hM5 := HL5.out.mem
            rw [HAM.out.m, HAM.out.b, HAM.out.us, addsD_upd zs c hwz, HZZ.out] at hM5
            rw [show IntKind.u64.wrap (addsD zs c + z) = (addsD zs c + z) % 18446744073709551616 from rfl]
            obtain ⟨d5, hd5⟩ : ∃ d5, (addsD zs c + z) % 18446744073709551616 = d5 := ⟨_, rfl⟩
            rw [hd5] at hM5 ⊢
            have HD5 : Hid (d5 = addsD zs (upd c who (c who + 1))) := Lib.hid (by rw [addsD_upd zs c hwz, HZZ.out, hd5])
            refine (all_any m b [d5] w5 hM5).mono ?_
            rintro e w6 ⟨g6, c6, rfl, hr6, k6, -⟩
            have a0 := hr6.cell (j := 0) rfl
            have HB6 := Lib.hid (HB5.out.trans (k6.below (by omega) (by simp)))
            have HL6 := Lib.hid (HL5.out.keeps k6)
            have HS6 : Hid (sumN (upd c who (c who + 1)) zs.length = sumN c zs.length + 1) := Lib.hid (by have := sumN_upd c hwz (c who + 1); omega)
            clear hM5 hd5 hr6 k6 HB5 HL5 az
            go_wp2
            go_roundw
            case rel => exact ⟨k + 1, by omega, by go_num, HB6.out, M, _, HL6.out, HAM.out, by rw [HD5.out], by rw [HS6.out]; go_num⟩
            case measure => simp [intOf]; omega
          · have hcT' : c who = T := by have := HAd.out.top who hwz; omega
            obtain ⟨o, ho, hw, hb⟩ := HAd.out.busy hwz hcT'
            have D := pick_idle B L who o wr HLr.out ho hw
            rw [HAd.out.l] at D
            have hM5 := HLr.out.mem
            rw [HAd.out.m, HAd.out.b, HAd.out.us] at hM5
            have HM5 := Lib.hid hM5
            clear ho hw hb hM5
            refine D.mono ?_
            clear D
            rintro e w5 ⟨rfl, k5⟩
            have HB5 := Lib.hid (HBr.out.trans (k5.below (by omega) (by simp)))
            have HL5 := Lib.hid (HLr.out.keeps k5)
            have hM5 := HM5.out.keeps k5 (by simp) (by simp)
            have hs5 := HB5.out.size
            clear k5 HBr HLr HM5
            obtain ⟨d5, hd5⟩ : ∃ d5, addsD zs c = d5 := ⟨_, rfl⟩
            rw [hd5] at hM5 ⊢
            have HD5 := Lib.hid hd5
            clear hd5
            go_wp2_with fail
            refine (all_any m b [d5] w5 hM5).mono ?_
            rintro e w6 ⟨g6, c6, rfl, hr6, k6, -⟩
            have a0 := hr6.cell (j := 0) rfl
            have HB6 := Lib.hid (HB5.out.trans (k6.below (by omega) (by simp)))
            have HL6 := Lib.hid (HL5.out.keeps k6)
            clear hM5 hr6 k6 HB5 HL5
            go_wp2
            go_roundw
            case rel => exact ⟨k + 1, by omega, by go_num, HB6.out, L, c, HL6.out, HAd.out, by rw [HD5.out], rfl⟩
            case measure => simp [intOf]; omega
        · obtain rfl : q = k := by omega
          rename World => V4
          go_wp2
          go_loopw [15, 20] (fun s i wr => ∃ k : Nat, k ≤ n ∧ i = .int .i64 (k : Int) ∧ Below B w wr ∧ ∃ (L : LSt) (c : Nat → Nat), Loom B wr L ∧ Adds zs T l m b L c ∧ (∀ j, j < k → c j = T) ∧ s = .int .i64 (sumN c zs.length : Nat)) (fun _ i _ => n - (intOf i).toNat)
          case atStart => exact ⟨0, Nat.zero_le _, rfl, HBr.out, L, c, HLr.out, HAd.out, fun j hj => by omega, rfl⟩
          case round =>
            clear HBr HLr HAd
            obtain ⟨k, hk, rfl, hbr, L, c, hL, had, hall, rfl⟩ := hrel
            have HBr := Lib.hid hbr
            have HLr := Lib.hid hL
            have HAd := Lib.hid had
            have HAll := Lib.hid hall
            have hsr := hbr.size
            clear hbr hL had hall
            by_cases hlt : k < n
            · have hwz : k < zs.length := by rw [HLA.out]; exact hlt
              have hsum : L.steps ≤ 1000000 := by
                have h1 := HAd.out.steps
                have h2 := sumN_le HAd.out.top
                have : T * zs.length ≤ 20 * 16 := Nat.mul_le_mul (by omega) (by rw [HLA.out]; omega)
                omega
              have hsumc : sumN c zs.length ≤ 1000000 := by rw [← HAd.out.steps]; exact hsum
              by_cases hcT : c k = T
              · obtain ⟨o, ho, hw, hb⟩ := HAd.out.busy hwz hcT
                have D := alone_idle B L k 30 o wr HLr.out ho hw
                have DB := fun W hW => busy_at B L k o W hW ho
                rw [HAd.out.l] at D
                rw [HAd.out.l, hb] at DB
                have HDB := Lib.hid DB
                clear ho hw hb DB
                go_wp2_with fail
                refine D.mono ?_
                clear D
                rintro e w5 ⟨rfl, k5⟩
                have HB5 := Lib.hid (HBr.out.trans (k5.below (by omega) (by simp)))
                have HL5 := Lib.hid (HLr.out.keeps k5)
                have hs5 := HB5.out.size
                clear k5 HBr HLr
                go_wp2_with fail
                refine (HDB.out w5 HL5.out).mono ?_
                rintro e w6 ⟨rfl, k6⟩
                have HB6 := Lib.hid (HB5.out.trans (k6.below (by omega) (by simp)))
                have HL6 := Lib.hid (HL5.out.keeps k6)
                clear k6 HB5 HL5 HDB
                go_wp2
                go_roundw
                case rel => exact ⟨k + 1, by omega, by go_num, HB6.out, L, c, HL6.out, HAd.out, fun j hj => by by_cases e : j = k; rw [e]; exact hcT; exact HAll.out j (by omega), by go_num⟩
                case measure => simp [intOf]; omega
              · have hcT' : c k < T := by have := HAd.out.top k hwz; omega
                obtain ⟨d, hd⟩ : ∃ d, T - c k = d := ⟨_, rfl⟩
                obtain ⟨Ls, hL0, hst, hads⟩ := HAd.out.many HZ.out hwz d (by omega)
                have hadd := hads d (Nat.le_refl _)
                rw [show c k + d = T by omega] at hadd
                obtain ⟨o, ho, hw, hb⟩ := hadd.busy hwz (upd_same _ _ _)
                have D := alone_ends B k 30 d Ls o wr (by rw [hL0]; exact HLr.out) (by omega) (by omega) (by omega) (by rw [hL0]; omega) hst ho hw hb
                have DB := fun W hW => busy_at B (Ls d) k o W hW ho
                rw [hL0, HAd.out.l] at D
                rw [hadd.l, hb] at DB
                have HDB := Lib.hid DB
                have HAD := Lib.hid hadd
                have HS6 : Hid (sumN (upd c k T) zs.length = sumN c zs.length + d) := Lib.hid (by have := sumN_upd c hwz T; omega)
                have hd20 : d ≤ 20 := by omega
                have hd0 : 0 < d := by omega
                clear ho hw hb DB hadd hads hst hL0
                go_wp2_with fail
                refine D.mono ?_
                clear D
                rintro e w5 ⟨rfl, hL5, b5⟩
                have HB5 := Lib.hid (HBr.out.trans b5)
                have HL5 := Lib.hid hL5
                have hs5 := HB5.out.size
                clear hL5 b5 HBr HLr
                go_wp2_with fail
                refine (HDB.out w5 HL5.out).mono ?_
                rintro e w6 ⟨rfl, k6⟩
                have HB6 := Lib.hid (HB5.out.trans (k6.below (by omega) (by simp)))
                have HL6 := Lib.hid (HL5.out.keeps k6)
                clear k6 HB5 HL5 HDB
                go_wp2
                go_roundw
                case rel => exact ⟨k + 1, by omega, by go_num, HB6.out, Ls d, _, HL6.out, HAD.out, fun j hj => by by_cases e : j = k; rw [e, upd_same]; rw [upd_ne _ _ e]; exact HAll.out j (by omega), by rw [HS6.out]; go_num⟩
                case measure => simp [intOf]; omega
            · obtain rfl : n = k := by omega
              rename World => V5
              go_wp2
              go_loopw [23, 24] (fun tt i wr => ∃ k : Nat, k ≤ n ∧ i = .int .i64 (k : Int) ∧ Keeps [] V5 wr ∧ tt = .int .u64 (sumI (fun i => zs.getD i 0 * (T : Int)) k % 18446744073709551616)) (fun _ i _ => n - (intOf i).toNat)
              case atStart => exact ⟨0, Nat.zero_le _, rfl, Keeps.refl _ _, rfl⟩
              case round =>
                obtain ⟨k, hk, rfl, hkr, rfl⟩ := hrel
                have HKr := Lib.hid hkr
                have hsr2 := hkr.size
                clear hkr
                by_cases hlt : k < n
                · have az := HA.out _ (HBr.out.trans (HKr.out.below (by omega) (by simp))) k hlt
                  obtain ⟨z, hz⟩ : ∃ z, zs.getD k 0 = z := ⟨_, rfl⟩
                  rw [hz] at az
                  have HZZ := Lib.hid hz
                  have HS6 : Hid (sumI (fun i => zs.getD i 0 * (T : Int)) (k + 1) = sumI (fun i => zs.getD i 0 * (T : Int)) k + z * (T : Int)) := Lib.hid (by rw [sumI, hz])
                  obtain ⟨sk, hsk⟩ : ∃ sk, sumI (fun i => zs.getD i 0 * (T : Int)) k = sk := ⟨_, rfl⟩
                  rw [hsk] at HS6 ⊢
                  clear hz hsk
                  go_wp2
                  go_roundw
                  case rel =>
                    refine ⟨k + 1, by omega, by go_num, HKr.out, ?_⟩
                    rw [HS6.out]
                    have e : ∀ x, IntKind.u64.wrap x = x % 18446744073709551616 := fun _ => rfl
                    rw [e, e, ← Int.add_emod]
                  case measure => simp [intOf]; omega
                · obtain rfl : n = k := by omega
                  have hk5 := HKr.out
                  have HB6 := Lib.hid (HBr.out.trans (hk5.below (by omega) (by simp)))
                  have hL6 := HLr.out.keeps hk5
                  have hM6 := hL6.mem
                  have hst6 := HAd.out.steps
                  rw [HAd.out.m, HAd.out.b, HAd.out.us, addsD_all zs T (c := c) (fun i hi => HAll.out i (by rw [← HLA.out]; exact hi)), HLA.out] at hM6
                  obtain ⟨d6, hd6⟩ : ∃ d6, sumI (fun i => zs.getD i 0 * (T : Int)) n % 18446744073709551616 = d6 := ⟨_, rfl⟩
                  rw [hd6] at hM6 ⊢
                  obtain ⟨s, hs⟩ : ∃ s : Nat, T * n = s := ⟨_, rfl⟩
                  have hsum : sumN c zs.length = s := by
                    rw [sumN_congr (g := fun _ => T) (fun i hi => HAll.out i (by rw [← HLA.out]; exact hi)), sumN_const, HLA.out, hs]
                  have hs20 : s ≤ 320 := by have := Nat.mul_le_mul (show T ≤ 20 by omega) (show n ≤ 16 by omega); omega
                  have hmul : (T : Int) * (n : Int) = (s : Int) := by rw [← hs]; exact (Int.natCast_mul T n).symm
                  rw [hsum] at hst6 ⊢
                  have HL6 := Lib.hid hL6
                  have HS6 := Lib.hid hst6
                  have hll := Lib.hid HAd.out.l
                  clear hd6 hs hsum hst6 hL6 hk5 HBr HLr HKr HAd HAll
                  go_wp2_with fail
                  refine (all_any m b [d6] wr hM6).mono ?_
                  rintro e w6 ⟨g6, c6, rfl, hr6, k6, -⟩
                  have a0 := hr6.cell (j := 0) rfl
                  have HB7 := Lib.hid (HB6.out.trans (k6.below (by omega) (by simp)))
                  have D := steps_any B L w6 (HL6.out.keeps k6)
                  rw [hll.out, HS6.out] at D
                  have HD := Lib.hid D
                  clear hM6 hr6 k6 D
                  go_wp2_with fail
                  refine HD.out.mono ?_
                  rintro e w7 ⟨rfl, rfl⟩
                  go_wp2
                  go_ret
                  exact ⟨rfl, HB7.out⟩

set_option maxRecDepth 100000 in
theorem lifted (os : Os) (started : os.Started) (H : Type) (enc : TypeId × Value → H) :
    ReturnsInHanded {} Try.checked os 3 .any (Rows.loomAddsSpec.pre6 enc Try.prog Try.f3 Rows.loomAddsRow.domain false) (Rows.loomAddsSpec.post enc Try.prog Try.f3 false true false false) := by
  refine returnsInHanded_of_change (C := Try.checked) own started (by kernel_rfl) Try.func3
    (ChangeSpec.witness6 (enc := enc) (C := Try.checked) false ⟨#[], #[.slice none 0 0, .int .i64 0, .slice none 0 0], []⟩ 8 (by kernel_rfl) (by kernel_rfl) (by kernel_rfl) (by kernel_rfl)) ?_
  intro W base args ds gs before hval0 hW hcnd _
  have hval : ∀ (j : Nat) t v, Try.f3.params[j]? = some t → args[j]? = some v → Value.okWide Try.prog W .any base t v := hval0
  have hW' := hW
  obtain ⟨p, q, hA0, hV, rfl, hfz, hnd⟩ := hW
  have hA : DataW.TrodAll enc Try.prog W 0 (fun _ => true) true Try.f3.params.toList args.toList ds p := hA0
  rw [Try.params3] at hA hval
  obtain ⟨v0, vs0, d0, ds0, q0, qs0, hargs, rfl, rfl, h0, r0⟩ := trodAll_cons hA
  obtain ⟨v1, vs1, d1, ds1, q1, qs1, rfl, rfl, rfl, h1, r1⟩ := trodAll_cons r0
  obtain ⟨v2, vs2, d2, ds2, q2, qs2, rfl, rfl, rfl, h2, r2⟩ := trodAll_cons r1
  obtain ⟨rfl, rfl, rfl⟩ := trodAll_nil r2
  obtain rfl : args = #[v0, v1, v2] := by cases args; simp_all
  obtain ⟨rfl, rfl⟩ := trodVars_none hV
  obtain ⟨p0, n0, c0, rfl⟩ := okWide_slice Try.underlying22 (hval 0 22 v0 rfl rfl)
  have k0 := h0
  have lt0 : ∀ x ∈ q0, x.block < W.heap.size := by obtain ⟨m, hm⟩ := k0; exact DataW.trod_lt m _ _ _ hm
  obtain ⟨z0, s0, m0, b0⟩ := (by obtain ⟨fu, hf⟩ := h0; exact sl_ints Try.underlying22 Try.underlying33 (by kernel_rfl) hf : ∃ zs : List Int, Sl W 1 (.slice p0 n0 c0) n0 (ints .u64 zs) ∧ n0 ≤ maxLen ∧ ∀ z ∈ zs, (Lit.int .u64 z).wf = true)
  obtain ⟨a1, rfl, rfl, rfl, w1⟩ := open_int Try.underlying3 (hval 1 3 v1 rfl rfl) h1
  obtain ⟨p2, n2, c2, rfl⟩ := okWide_slice Try.underlying23 (hval 2 23 v2 rfl rfl)
  have k2 := h2
  have lt2 : ∀ x ∈ q2, x.block < W.heap.size := by obtain ⟨m, hm⟩ := k2; exact DataW.trod_lt m _ _ _ hm
  obtain ⟨z2, s2, m2, b2⟩ := (by obtain ⟨fu, hf⟩ := h2; exact sl_ints Try.underlying23 Try.underlying5 (by kernel_rfl) hf : ∃ zs : List Int, Sl W 1 (.slice p2 n2 c2) n2 (ints .u8 zs) ∧ n2 ≤ maxLen ∧ ∀ z ∈ zs, (Lit.int .u8 z).wf = true)
  clear hA0 hval0
  simp only [List.append_nil] at hW'
  refine (walk p0 n0 c0 z0 a1 p2 n2 c2 z2 W s0 m0 b0 w1 s2 m2 b2).mono fun e W' ⟨he, bel⟩ => ?_
  subst he
  exact ⟨_, rfl, _, _, _, [], _, [], hW', trodAll_mk1 (shut_bool Try.underlying4 _), (trodAll_cons_mk (Below.trod laidOut (by kernel_rfl) (of_decide_eq_true (by kernel_rfl)) k0 bel lt0) (trodAll_cons_mk (shut_int Try.underlying3 w1) (trodAll_cons_mk (Below.trod laidOut (by kernel_rfl) (of_decide_eq_true (by kernel_rfl)) k2 bel lt2) trodAll_mk0))), rfl, bel.frame _, fun h => by cases h⟩

theorem proved : Rows.LoomAddsSaid :=
  OpenClaim.holds_of_wide 3 Try.f3 rfl rfl rfl rfl rfl rfl rfl ⟨rfl, rfl, rfl, rfl, rfl⟩ rfl rfl rfl rfl rfl (by kernel_rfl) Try.func3 (by kernel_rfl)
    (of_decide_eq_true (by kernel_rfl)) (by unfold Func.isWrapper; first | (rw [if_pos (by decide +kernel)]; kernel_rfl) | (rw [if_neg (by decide +kernel)]; exact ⟨rfl, rfl⟩))
    (fun os started H enc _ => lifted os started H enc)
#print axioms proved
end Go.Proofs.Ytplmmflpodpbmaa.loomAdds
