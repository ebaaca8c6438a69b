/-
  The law ArenaOnce of the statements holds for every input: the call returns true, and the arguments read as before.
-/
import Derived.Test.YtgpfknoddljopaaDrive
import Derived.Test.YtgpfknoddljopaaArS
import Derived.Test.YtgpfknoddljopaaLook
import Derived.Test.YtgpfknoddljopaaOpen
import Derived.Test.YtgpfknoddljopaaAcc
import Derived.Test.YtgpfknoddljopaaMem3
import Derived.Test.YtgpfknoddljopaaRows
import Derived.WalkKit
import Derived.ProofKit
import Derived.OpenShut
import Derived.ShutString
import Derived.ChangeOld
import Derived.Below
import Derived.Test.YtgpfknoddljopaaOpen
namespace Go.Proofs.Ytgpfknoddljopaa.arenaOnce
open Go.ChangeShapes Go.WideShapes Go.ChangeAt Go.RowKit
open Go.ChangeMaps (open_string shut_string)
set_option linter.unusedVariables false

theorem own : ownKnob Try.prog.godebug = none := by kernel_rfl
theorem laidOut : laidOutB Try.prog = true := by kernel_rfl

set_option maxHeartbeats 12800000 in
set_option maxRecDepth 200000 in
theorem walk (workers n : Int) (pp : Option Addr) (q cp : Nat) (ys : List Int) (w : World) (hwo : (Lit.int .i64 workers).wf = true) (hno : (Lit.int .i64 n).wf = true)
    (hp : Sl w 1 (.slice pp q cp) q (ints .u8 ys)) (hq : q ≤ maxLen) (hy : ∀ y ∈ ys, (Lit.int .u8 y).wf = true) :
    Calls Try.prog 5 #[.int .i64 workers, .int .i64 n, .slice pp q cp] w fun e w' => e = .returned (.bool true) ∧ Below w.heap.size w w' := by
  obtain ⟨B, hB⟩ : ∃ B, w.heap.size = B := ⟨_, rfl⟩
  rw [hB]
  have HY : Hid (∀ y ∈ ys, 0 ≤ y ∧ y < 256) := Lib.hid fun y h => by
    have := bounds_u8 (hy y h)
    omega
  have HSP := Lib.hid hp
  have HLP := Lib.hid hp.ints_len
  unfold maxLen at hq
  clear hp hy hwo hno
  go_enter Try.func5, Try.ntmps5
  go_wp2_with fail
  refine (awake6 w).mono ?_
  rintro e w1 ⟨rfl, b1⟩
  rw [hB] at b1
  have HB1 := Lib.hid b1
  clear b1
  by_cases h1 : workers < 1
  · have d1 : decide (workers < 1) = true := decide_eq_true (by omega)
    go_wp2
    go_ret
    exact ⟨rfl, HB1.out⟩
  by_cases h2 : 6 < workers
  · have d1 : decide (workers < 1) = false := decide_eq_false (by omega)
    have d2 : decide (6 < workers) = true := decide_eq_true (by omega)
    go_wp2
    go_ret
    exact ⟨rfl, HB1.out⟩
  obtain ⟨W, rfl⟩ : ∃ W : Nat, workers = (W : Int) := ⟨workers.toNat, by omega⟩
  have d1 : decide ((W : Int) < 1) = false := decide_eq_false (by omega)
  have d2 : decide (6 < (W : Int)) = false := decide_eq_false (by omega)
  by_cases h3 : n < 1
  · have d3 : decide (n < 1) = true := decide_eq_true (by omega)
    go_wp2
    go_ret
    exact ⟨rfl, HB1.out⟩
  by_cases h4 : 20 < n
  · have d3 : decide (n < 1) = false := decide_eq_false (by omega)
    have d4 : decide (20 < n) = true := decide_eq_true (by omega)
    go_wp2
    go_ret
    exact ⟨rfl, HB1.out⟩
  obtain ⟨N, rfl⟩ : ∃ N : Nat, n = (N : Int) := ⟨n.toNat, by omega⟩
  have d3 : decide ((N : Int) < 1) = false := decide_eq_false (by omega)
  have d4 : decide (20 < (N : Int)) = false := decide_eq_false (by omega)
  by_cases h5 : 300 < q
  · have d5 : decide ((300 : Int) < q) = true := decide_eq_true (by omega)
    go_wp2
    go_ret
    exact ⟨rfl, HB1.out⟩
  have d5 : decide ((300 : Int) < q) = false := decide_eq_false (by omega)
  have s1 := HB1.out.size
  have NA := new_any (N + 1) w1 (by omega) (by omega)
  rw [show ((N + 1 : Nat) : Int) = (N : Int) + 1 by omega] at NA
  go_wp2_with fail
  refine NA.mono ?_
  clear NA
  rintro e w2 ⟨m, b, rfl, hM, k2, hm, hb⟩
  have HB2 := Lib.hid (HB1.out.trans (k2.below (by omega) (by simp)))
  have HM2 := Lib.hid hM
  have s2 := HB2.out.size
  have hmlt := hM.lt
  clear hM k2 HB1
  go_wp2_with fail
  generalize hW : World.alloc _ _ = W3
  have k3 : Keeps [] w2 W3 := by rw [← hW]; exact (Keeps.refl _ _).alloc _
  have bx : Box W3 w2.heap.size #[.int .i64 0, .int .i64 (N : Int)] := by rw [← hW]; exact Box.new _ _ _
  obtain ⟨ab, hab⟩ : ∃ ab, w2.heap.size = ab := ⟨_, rfl⟩
  rw [hab] at bx ⊢
  have HBx3 := Lib.hid bx
  have HM3 := Lib.hid (HM2.out.keeps k3 (by simp) (by simp))
  have HB3 := Lib.hid (HB2.out.trans (k3.below (by omega) (by simp)))
  clear hW bx k3 HM2 HB2
  have s3 := HB3.out.size
  -- the blocks that nobody writes
  obtain ⟨E, hE⟩ : ∃ E : Nat → Prop, (fun x => x < B ∨ x = ab) = E := ⟨_, rfl⟩
  have HE : Hid ((∀ k, k < B → E k) ∧ E ab ∧ ∀ k, E k → k < B ∨ k = ab) := Lib.hid (by rw [← hE]; exact ⟨fun k hk => .inl hk, .inr rfl, fun k hk => hk⟩)
  have hablt := HBx3.out.lt
  clear hE
  refine (loomNew_any E W m b _ W3 HM3.out (by omega) (by omega) (fun k hk => by rcases HE.out.2.2 k hk with h | h <;> omega) (fun hk => by rcases HE.out.2.2 b hk with h | h <;> omega)).mono ?_
  rintro e w4 ⟨l, g, rfl, hL4, k4⟩
  have HL4 := Lib.hid hL4
  have HBx4 := Lib.hid (HBx3.out.keeps k4 (by simp))
  have HM4 := Lib.hid (HM3.out.keeps k4 (by simp) (by simp))
  have HB4 := Lib.hid (HB3.out.trans (k4.below (by omega) (by simp)))
  have s4 := HB4.out.size
  clear hL4 k4 HBx3 HM3 HB3
  have b40 := HBx4.out.cells 0
  have b41 := HBx4.out.cells 1
  simp at b40 b41
  have hl4 := HBx4.out.lt
  have NI := init0_any m b N _ w4 HM4.out (by simp) (by omega) (by omega)
  go_wp2_with fail
  refine NI.mono ?_
  clear NI
  rintro e w5 ⟨rfl, us, hM5, hus, hu0, hui, k5⟩
  have HL5 := Lib.hid (show Loom E w5 ⟨l, g, m, b, us, List.replicate W none, 0⟩ from HL4.out.setMem k5 hM5)
  have hbab : b ≠ ab := by omega
  have HBx5 := Lib.hid (HBx4.out.keeps k5 (by simp; exact Ne.symm hbab))
  have HB5 := Lib.hid (HB4.out.trans (k5.below (by omega) (by simp; omega)))
  have s5 := HB5.out.size
  have HInv := Lib.hid (ArInv.start N W (by omega) (by omega) us hus hu0 hui)
  clear hM5 hus hu0 hui k5 HL4 HBx4 HM4 HB4 b40 b41
  obtain ⟨w6, hrun, hrow, k6, z6⟩ := make_row (P := Try.prog) w5 58 47 _ 1 24 Try.underlying58 elemInts .i64 .i64 W (by omega)
  obtain ⟨h, hh⟩ : ∃ h, w5.heap.size = h := ⟨_, rfl⟩
  rw [hh] at hrun hrow
  have hz6 := k6.size
  have hT6 : HasAt w6 h W [h] (fun _ => []) := by
    refine ⟨by simp, _, ?_, hrow, fun i v hv => ?_⟩
    · simp [madeCells, Value.cells]
    · have : v = .slice none 0 0 := by
        simp [madeCells, Value.cells, Nat.mod_one] at hv
        exact hv.2.symm
      subst this
      exact ⟨World.ownsRow_nil _ _ _ _, fun g hg => by (cases hg), fun j u _ _ g hg => by (cases hg)⟩
  have HT6 := Lib.hid hT6
  have HK6 := Lib.hid k6
  have hlt5 : ∀ k, E k → k < w5.heap.size := fun k hk => by have := HBx5.out.lt; rcases HE.out.2.2 k hk with h | h <;> omega
  have HL6 : Hid (Loom (fun x => E x ∨ x ∈ [h]) w6 ⟨l, g, m, b, us, List.replicate W none, 0⟩) := Lib.hid (HL5.out.widen k6 (fun k hk => by
    rcases hk with hk | hk
    · exact .inl hk
    · simp at hk; subst hk; exact .inr ⟨by omega, by omega⟩))
  have HA6 : Hid (ArLoom l g m b N W ⟨l, g, m, b, us, List.replicate W none, 0⟩ (fun _ => none) (fun _ => []) 0 (List.range' 1 N)) := Lib.hid
    ⟨rfl, rfl, rfl, rfl, by simp, fun i hi => ⟨none, by simp [hi], rfl⟩, HInv.out⟩
  have HBx6 := Lib.hid (HBx5.out.keeps k6 (by simp))
  have HB6 := Lib.hid (HB5.out.trans (k6.below (by omega) (by simp)))
  have b60 := HBx5.out.cells 0
  have b61 := HBx5.out.cells 1
  have b60' := HBx6.out.cells 0
  have b61' := HBx6.out.cells 1
  simp at b60 b61 b60' b61'
  have hm5 : m < w5.heap.size := HL5.out.mem.lt.1
  have hnE : ¬ E h := fun hk => by have := hlt5 h hk; omega
  have D := drive_any E l g m b h W N W q cp pp ys _ _ _ 0 _ [h] w6 HL6.out HA6.out HT6.out (by simpa using hnE) (by simp; omega) (by omega) (fun i s _ hs => by cases hs)
    (fun W' hW' => HSP.out.below ((HB6.out.trans (Held.below (hW'.narrow (E := (· < B)) (fun k hk => HE.out.1 k hk)))) ) (by omega)) HLP.out HY.out (by omega) (by omega) (by omega) (by omega) (by omega) (by simp)
  have HD := Lib.hid D
  clear hT6 k6 hrow D hlt5 hnE HInv HL5
  go_wp2_with fail
  refine HD.out.mono ?_
  rintro e w7 ⟨rfl, L, ss, has, tag, F, T, hL7, hA7, hT7, hTE, hmT, htag, hst, hh7⟩
  have HL7 := Lib.hid hL7
  have HA7 := Lib.hid hA7
  have HT7 := Lib.hid (⟨hT7, hTE, hmT, htag, hst⟩ : _ ∧ _ ∧ _ ∧ _ ∧ _)
  have HBx7 := Lib.hid (HBx6.out.block hh7.size (hh7.block ab HE.out.2.1))
  have HB7 := Lib.hid (HB6.out.trans (Held.below (hh7.narrow (E := (· < B)) (fun k hk => HE.out.1 k hk))))
  have s7 := HB7.out.size
  have b70 := HBx7.out.cells 0
  have b71 := HBx7.out.cells 1
  have hl7 := HBx7.out.lt
  simp at b70 b71
  clear hL7 hA7 hT7 hTE hmT htag hst hh7 b60 b61 b60' b61' HD HL6 HA6 HT6 HBx5 HBx6 HB5 HB6 HK6 hrun z6 hz6 hh
  go_wp2
  go_loopw [13, 14] (fun f i wr => ∃ k : Nat, k ≤ W ∧ i = .int .i64 (k : Int) ∧ f = .int .i64 ((sumN (fun i => fly1 (ss i)) k : Nat) : Int) ∧ Keeps [] w7 wr) (fun _ i _ => W - (intOf i).toNat)
  case atStart => exact ⟨0, Nat.zero_le _, rfl, rfl, Keeps.refl _ _⟩
  case round =>
    obtain ⟨k, hk, rfl, rfl, hkr⟩ := hrel
    have HKr := Lib.hid hkr
    have hsr := hkr.size
    have hfk : sumN (fun i => fly1 (ss i)) k ≤ 1 * k := sumN_le (fun i _ => by unfold fly1; split <;> omega)
    clear hkr
    by_cases hlt : k < W
    · obtain ⟨o, ho, hbo⟩ := HA7.out.busy hlt
      have D := busy_at _ L k o wr (HL7.out.keeps HKr.out) ho
      rw [HA7.out.l, hbo] at D
      have HF1 : Hid (sumN (fun i => fly1 (ss i)) (k + 1) = sumN (fun i => fly1 (ss i)) k + fly1 (ss k)) := Lib.hid rfl
      clear ho hbo
      cases hfl : flies (ss k) with
      | true =>
        rw [hfl] at D
        have hf1 : fly1 (ss k) = 1 := by unfold fly1; rw [hfl]; rfl
        rw [hf1] at HF1
        clear hf1 hfl
        go_wp2_with fail
        refine D.mono ?_
        clear D
        rintro e w8 ⟨rfl, k8⟩
        have HK8 := Lib.hid (HKr.out.trans k8)
        clear k8
        go_wp2
        go_roundw
        case rel => exact ⟨k + 1, by omega, by go_num, by rw [HF1.out]; go_num, HK8.out⟩
        case measure => simp [intOf]; omega
      | false =>
        rw [hfl] at D
        have hf1 : fly1 (ss k) = 0 := by unfold fly1; rw [hfl]; rfl
        rw [hf1] at HF1
        clear hf1 hfl
        go_wp2_with fail
        refine D.mono ?_
        clear D
        rintro e w8 ⟨rfl, k8⟩
        have HK8 := Lib.hid (HKr.out.trans k8)
        clear k8
        go_wp2
        go_roundw
        case rel => exact ⟨k + 1, by omega, by go_num, by rw [HF1.out]; go_num, HK8.out⟩
        case measure => simp [intOf]; omega
    · obtain rfl : W = k := by omega
      have hL8 := HL7.out.keeps HKr.out
      have hM8 := hL8.mem
      rw [HA7.out.m, HA7.out.b] at hM8
      have hbx8 := HBx7.out.keeps HKr.out (by simp)
      have b80 := hbx8.cells 0
      have b81 := hbx8.cells 1
      have hl8 := hbx8.lt
      simp at b80 b81
      have NF := free0_any m b N L.us F wr hM8 HA7.out.inv.len (by omega) (by omega) HA7.out.inv.lo HA7.out.inv.chain (fun x hx => HA7.out.inv.free hx) HA7.out.inv.nodup
      have HL8 := Lib.hid hL8
      clear hL8 hM8 hbx8 b70 b71
      go_wp2_with fail
      refine NF.mono ?_
      clear NF
      rintro e w9 ⟨fv, rfl, hfv, k9⟩
      have hT9 := (HT7.out.1.keeps HKr.out (by simp)).keeps k9 (by simp)
      have hL9 := HL8.out.keeps k9
      have hinv := HA7.out.inv
      have NO := once_any N W (sumN (fun i => fly1 (ss i)) W) h W T has F fv w9 hT9 (fun x hx => hL9.dom x (.inr hx)) hfv (fun x => by have := hinv.part x; split at this <;> (split <;> omega)) hinv.lack.1 hinv.lack.2 (by omega) (by omega) (by omega)
      have HNO := Lib.hid NO
      have HL9 := Lib.hid hL9
      have HT9 := Lib.hid hT9
      have HB9 := Lib.hid (HB7.out.trans ((HKr.out.trans k9).below (by omega) (by simp)))
      obtain ⟨qf, cf, rfl⟩ := hfv.len
      have HBx9 := Lib.hid ((HBx7.out.keeps HKr.out (by simp)).keeps k9 (by simp))
      have s9 := HB9.out.size
      clear hfv hT9 hL9 hinv NO k9
      go_wp2_with fail
      refine HNO.out.mono ?_
      rintro e w10 ⟨rfl, k10⟩
      have HL10 := Lib.hid (HL9.out.keeps k10)
      have HT10 := Lib.hid (HT9.out.keeps k10 (by simp))
      have HB10 := Lib.hid (HB9.out.trans (k10.below (by omega) (by simp)))
      have HBx10 := Lib.hid (HBx9.out.keeps k10 (by simp))
      clear k10 HL9 HT9 HB9 HNO HL8
      have s10 := HB10.out.size
      go_wp2
      go_loopw [17] (fun i wr => ∃ k : Nat, k ≤ W ∧ i = .int .i64 (k : Int) ∧ Below B w wr ∧ Held E w10 wr ∧ ∃ (L : LSt) (ss : Nat → Option ArS) (has : Nat → List Nat) (tag : Nat) (F : List Nat) (T : List Nat),
        Loom (fun x => E x ∨ x ∈ T) wr L ∧ ArLoom l g m b N W L ss has tag F ∧ (HasAt wr h W T has ∧ (∀ x ∈ T, ¬ E x) ∧ m ∉ T ∧ tag ≤ 300 + 4 * k ∧ L.steps ≤ 300 + 4 * k) ∧ ∀ j, j < k → flies (ss j) = false) (fun i _ => W - (intOf i).toNat)
      case atStart =>
        obtain ⟨-, t2, t3, t4, t5⟩ := HT7.out
        refine ⟨0, Nat.zero_le _, rfl, HB10.out, Held.refl _ _, L, ss, has, tag, F, T, HL10.out, HA7.out, ⟨HT10.out, t2, t3, by omega, ?_⟩, fun j hj => by omega⟩
        omega
      case round =>
        obtain ⟨k, hk, rfl, hbr, hhr, L2, ss2, has2, tag2, F2, T2, hL2, hA2, hT2, hall⟩ := hrel
        have HBr := Lib.hid hbr
        have HHr := Lib.hid hhr
        have HL2 := Lib.hid hL2
        have HA2 := Lib.hid hA2
        have HT2 := Lib.hid hT2
        have HAll := Lib.hid hall
        have hsr2 := hbr.size
        clear hbr hhr hL2 hA2 hT2 hall
        by_cases hlt : k < W
        · obtain ⟨o, ho, hbo⟩ := HA2.out.busy hlt
          have D := busy_at _ L2 k o wr HL2.out ho
          rw [HA2.out.l, hbo] at D
          clear ho hbo
          cases hfl : flies (ss2 k) with
          | false =>
            rw [hfl] at D
            have HFl := Lib.hid hfl
            clear hfl
            go_wp2_with fail
            refine D.mono ?_
            clear D
            rintro e w11 ⟨rfl, k11⟩
            have HL11 := Lib.hid (HL2.out.keeps k11)
            have HT11 := Lib.hid (⟨HT2.out.1.keeps k11 (by simp), HT2.out.2⟩ : _ ∧ _)
            have HB11 := Lib.hid (HBr.out.trans (k11.below (by omega) (by simp)))
            have HH11 := Lib.hid (HHr.out.trans (k11.held (fun k hk => HL2.out.dom k (.inl hk)) (by simp)))
            clear k11
            go_wp2
            go_roundw
            case rel => exact ⟨k + 1, by omega, by go_num, HB11.out, HH11.out, L2, ss2, has2, tag2, F2, T2, HL11.out, HA2.out, ⟨HT11.out.1, HT11.out.2.1, HT11.out.2.2.1, by have := HT11.out.2.2.2.1; omega, by have := HT11.out.2.2.2.2; omega⟩, fun j hj => by
              by_cases e : j = k
              · rw [e]; exact HFl.out
              · exact HAll.out j (by omega)⟩
            case measure => simp [intOf]; omega
          | true =>
            rw [hfl] at D
            obtain ⟨s, hs1, hs2⟩ := flies_yes hfl
            have hle : arLeft L2.us F2 s ≤ 4 := by
              unfold arLeft
              simp only
              (repeat' split) <;> omega
            obtain ⟨d, hd⟩ : ∃ d, arLeft L2.us F2 s = d := ⟨_, rfl⟩
            obtain ⟨hd0, Ls, s', tag3, F3, has3, hL0, hone, htag3, hA3, hend, hov⟩ := HA2.out.alone d (by have := HT2.out.2.2.2.1; omega) hlt hs1 hs2 hd
            obtain ⟨t', ht1, ht2⟩ := hA3.worker hlt (updO_same _ _ _)
            have hw3 : (some t').bind Strand.want = none := by
              show t'.want = none
              rw [ht2.want]
              simp [arenaM, hov]
            have hb3 : busy (some t') = false := by simp [busy, ht2.res, hov]
            have hst2 := HT2.out.2.2.2.2
            have DA := fun w11 (hw : Loom (fun x => E x ∨ x ∈ T2) w11 L2) => alone_ends _ k 20 d Ls (some t') w11 (by rw [hL0]; exact hw) hd0 (by omega) (by omega) (by rw [hL0]; omega) hone ht1 hw3 hb3
            rw [hL0, HA2.out.l] at DA
            have hsd := steps_l hone d (Nat.le_refl _)
            rw [hL0] at hsd
            have HSd := Lib.hid (⟨hsd, htag3, hle, hd⟩ : _ ∧ _ ∧ _ ∧ _)
            have HDA := Lib.hid DA
            have HA3 := Lib.hid hA3
            have HEnd := Lib.hid hend
            have HT1 := Lib.hid (⟨ht1, ht2⟩ : _ ∧ _)
            have HAll3 : Hid (∀ j, j < k + 1 → flies (updO ss2 k (some s') j) = false) := Lib.hid fun j hj => by
              by_cases e : j = k
              · rw [e, updO_same]; simp [flies, hov]
              · rw [updO_ne _ _ e]; exact HAll.out j (by omega)
            clear hfl hs1 hs2 hle hd hone htag3 hA3 hend hw3 hb3 hst2 DA hsd ht1 ht2 hL0
            go_wp2_with fail
            refine D.mono ?_
            clear D
            rintro e w11 ⟨rfl, k11⟩
            have HL11 := Lib.hid (HL2.out.keeps k11)
            have HT11 := Lib.hid (HT2.out.1.keeps k11 (by simp))
            have HB11 := Lib.hid (HBr.out.trans (k11.below (by omega) (by simp)))
            have HH11 := Lib.hid (HHr.out.trans (k11.held (fun k hk => HL2.out.dom k (.inl hk)) (by simp)))
            have s11 := HB11.out.size
            clear k11
            go_wp2_with fail
            refine (HDA.out w11 HL11.out).mono ?_
            rintro e w12 ⟨rfl, hl12, hh12⟩
            have HL12 := Lib.hid hl12
            have HT12 := Lib.hid (HT11.out.block (fun k hk => hh12.block k (.inr hk)))
            have HH12 := Lib.hid (HH11.out.trans (hh12.narrow (fun k hk => .inl hk)))
            have HB12 := Lib.hid (HB11.out.trans (Held.below (hh12.narrow (E := (· < B)) (fun k hk => .inl (HE.out.1 k hk)))))
            have s12 := HB12.out.size
            have hrs := loomResult_at _ (Ls d) k (some t') w12 HL12.out HT1.out.1
            rw [HSd.out.1.1, HA2.out.l, show (some t').bind Strand.res = s'.over from HT1.out.2.res] at hrs
            clear hl12 hh12 HL11 HT11 HB11 HH11
            have he0 := HEnd.out
            cases hov' : s'.over with
            | none => rw [hov'] at hov; cases hov
            | some r =>
            rw [hov'] at he0
            cases he0 with
            | put e0 e1 e2 =>
              subst e1 e2
              rw [hov'] at hrs
              simp only [Option.getD_some, Option.isSome_some] at hrs
              go_wp2_with fail
              refine hrs.mono ?_
              clear hrs
              rintro e w13 ⟨rl, rfl, hol, k13⟩
              obtain ⟨q8, c8, rfl⟩ := (Sl.of_owns hol).len
              have ka : Keeps [] w13 (w13.alloc (.cells #[.int .i64 0, .int .u64 0, .slice q8 0 c8] 66)) := (Keeps.refl [] w13).alloc _
              have HL14 := Lib.hid ((HL12.out.keeps k13).keeps ka)
              have HT14 := Lib.hid ((HT12.out.keeps k13 (by simp)).keeps ka (by simp))
              have HB14 := Lib.hid (HB12.out.trans ((k13.trans ka).below (by omega) (by simp)))
              have HH14 := Lib.hid (HH12.out.trans ((k13.trans ka).held (fun k hk => HL12.out.dom k (.inl hk)) (by simp)))
              clear hol k13 ka
              go_wp2
              go_roundw
              case rel => exact ⟨k + 1, by omega, by go_num, HB14.out, HH14.out, Ls d, _, _, tag3, _, T2, HL14.out, HA3.out, ⟨HT14.out, HT2.out.2.1, HT2.out.2.2.1, by have := HT2.out.2.2.2.1; have := HSd.out; omega, by have := HT2.out.2.2.2.2; have := HSd.out; omega⟩, HAll3.out⟩
              case measure => simp [intOf]; omega
            | empty e0 e1 e1' e2 =>
              subst e1 e1' e2
              rw [hov'] at hrs
              simp only [Option.getD_some, Option.isSome_some] at hrs
              go_wp2_with fail
              refine hrs.mono ?_
              clear hrs
              rintro e w13 ⟨rl, rfl, hol, k13⟩
              obtain ⟨q8, c8, rfl⟩ := (Sl.of_owns hol).len
              have ka : Keeps [] w13 (w13.alloc (.cells #[.int .i64 7, .int .u64 0, .slice q8 0 c8] 66)) := (Keeps.refl [] w13).alloc _
              have HL14 := Lib.hid ((HL12.out.keeps k13).keeps ka)
              have HT14 := Lib.hid ((HT12.out.keeps k13 (by simp)).keeps ka (by simp))
              have HB14 := Lib.hid (HB12.out.trans ((k13.trans ka).below (by omega) (by simp)))
              have HH14 := Lib.hid (HH12.out.trans ((k13.trans ka).held (fun k hk => HL12.out.dom k (.inl hk)) (by simp)))
              clear hol k13 ka
              go_wp2
              go_roundw
              case rel => exact ⟨k + 1, by omega, by go_num, HB14.out, HH14.out, Ls d, _, _, tag3, _, T2, HL14.out, HA3.out, ⟨HT14.out, HT2.out.2.1, HT2.out.2.2.1, by have := HT2.out.2.2.2.1; have := HSd.out; omega, by have := HT2.out.2.2.2.2; have := HSd.out; omega⟩, HAll3.out⟩
              case measure => simp [intOf]; omega
            | take y e0 e1 e2 =>
              subst e1 e2
              rw [hov'] at hrs
              simp only [Option.getD_some, Option.isSome_some] at hrs
              have hy1 : 1 ≤ y ∧ y ≤ N := HA2.out.inv.free (by simp)
              have dy : decide ((0 : Int) < (y : Int)) = true := decide_eq_true (by omega)
              go_wp2_with fail
              refine hrs.mono ?_
              clear hrs
              rintro e w13 ⟨rl, rfl, hol, k13⟩
              obtain ⟨q8, c8, rfl⟩ := (Sl.of_owns hol).len
              have ka : Keeps [] w13 (w13.alloc (.cells #[.int .i64 0, .int .u64 (y : Int), .slice q8 0 c8] 66)) := (Keeps.refl [] w13).alloc _
              have K79 := Lib.hid (k13.trans ka)
              have rb : Row (w13.alloc (.cells #[.int .i64 0, .int .u64 (y : Int), .slice q8 0 c8] 66)) w13.heap.size 66 [.int .i64 0, .int .u64 (y : Int), .slice q8 0 c8] := Row.new _ _ _
              obtain ⟨W9, hW9⟩ : ∃ W9, w13.alloc (.cells #[.int .i64 0, .int .u64 (y : Int), .slice q8 0 c8] 66) = W9 := ⟨_, rfl⟩
              rw [hW9] at K79 rb
              have hL9 := HL12.out.keeps K79.out
              have hR9 := HT12.out.keeps K79.out (by simp)
              have r0 := rb.cell (j := 0) rfl
              have r1 := rb.cell (j := 1) rfl
              have hrlt := rb.lt
              obtain ⟨v9, hv9, hf9, own9, blk9⟩ := hR9.row hlt
              obtain ⟨p9, c9, rfl⟩ := (Sl.of_owns own9).len
              obtain ⟨ln, hln⟩ : ∃ ln, (has2 k).length = ln := ⟨_, rfl⟩
              rw [hln] at own9 hv9 blk9
              have hlw : ln ≤ 1000000 := by
                have h1 := HA2.out.inv.lack
                have h2 : (has2 k).length ≤ sumN (fun i => (has2 i).length) W := sumN_one (fun i => (has2 i).length) hlt
                omega
              have HOwn9 := Lib.hid own9
              have HBlk9 := Lib.hid blk9
              have HR9 := Lib.hid hR9
              have HL9 := Lib.hid hL9
              have HLn := Lib.hid hln
              have yw : IntKind.i64.wrap (y : Int) = (y : Int) := IntWalk.i64_in _ (by omega)
              clear hol k13 ka rb hL9 hR9 own9 blk9 hln
              have hhno : h ∉ (Value.slice p9 ln c9).ownBlock.toList := fun hm => (HBlk9.out h (by simpa using hm)).1 rfl
              have hhlt9 : h < W9.heap.size := by have := HL9.out.dom h (.inr HR9.out.1); exact this
              have hvA : (W9.alloc (.cells #[.int .i64 (y : Int)] 3)).drew.cell? ⟨h, k, none⟩ = some (.slice p9 ln c9) := (((Keeps.refl [] W9).alloc (.cells #[.int .i64 (y : Int)] 3)).cell (p := ⟨h, k, none⟩) hhlt9 (by simp)).trans hv9
              have hfA : (W9.alloc (.cells #[.int .i64 (y : Int)] 3)).drew.frozen? ⟨h, k, none⟩ = false := (((Keeps.refl [] W9).alloc (.cells #[.int .i64 (y : Int)] 3)).frozen (p := ⟨h, k, none⟩) hhlt9 (by simp)).trans hf9
              have hLit : ∀ j u, [Value.int .i64 (y : Int)][j]? = some u → (W9.alloc (.cells #[.int .i64 (y : Int)] 3)).drew.cell? ⟨W9.heap.size, j, none⟩ = some u := fun j u hu => by
                show (W9.alloc (.cells #[.int .i64 (y : Int)] 3)).cell? ⟨W9.heap.size, j, none⟩ = some u
                rw [World.cell?_alloc_at _ _ _ _ rfl, ← Array.getElem?_toList]; exact hu
              go_wp2_with fail
              go_region_law (first | (refine step_append_fresh (by rfl) _ _ 47 (by rfl) 0 3 _ 1 8 Try.underlying47 elemInt' _ ln (nodes (has2 k)) (by rfl) (owns_keeps HOwn9.out ((Keeps.refl [] _).drew.alloc _) (by simp)) _ [.int .i64 (y : Int)] (by rfl) rfl (by simp [Value.oneCell']) (fun j u hu => hLit j u hu) (by omega) (Nat.zero_le _) ?_; intro v10 w14 own10 k10 f10 ne10; have hv10 := (k10.cell (p := ⟨h, k, none⟩) (by simp; omega) hhno).trans hvA; have hf10 := (k10.frozen (p := ⟨h, k, none⟩) (by simp; omega) hhno).trans hfA; obtain ⟨p10, c10, rfl⟩ := (Sl.of_owns own10).len))
              all_goals
                have HQ := Lib.hid (took_rows HL9.out HR9.out HA3.out.m HT2.out.2.2.1 HT2.out.2.1 hv9 hlt HBlk9.out HLn.out k10 own10 f10)
                have hB9 : Below B w W9 := HB12.out.trans (K79.out.below (by omega) (by simp))
                have HBQ := Lib.hid (hB9.trans (Held.below (HQ.out.1.narrow (E := (· < B)) (fun k hk => HE.out.1 k hk))))
                have HHQ := Lib.hid ((HH12.out.trans (K79.out.held (fun k hk => HL12.out.dom k (.inl hk)) (by simp))).trans HQ.out.1)
                clear own10 k10 f10 ne10 hv10 hf10 hvA hfA hLit hv9 hf9 hB9
                go_wp2
                go_roundw
                case rel => exact ⟨k + 1, by omega, by go_num, HBQ.out, HHQ.out, Ls d, _, _, tag3, _, _, HQ.out.2.1, HA3.out, ⟨HQ.out.2.2.1, HQ.out.2.2.2.2, HQ.out.2.2.2.1, by have := HT2.out.2.2.2.1; have := HSd.out; omega, by have := HT2.out.2.2.2.2; have := HSd.out; omega⟩, HAll3.out⟩
                case measure => simp [intOf]; omega
        · obtain rfl : W = k := by omega
          have hM2 := HL2.out.mem
          rw [HA2.out.m, HA2.out.b] at hM2
          have hbx2 := HBx10.out.block HHr.out.size (HHr.out.block ab HE.out.2.1)
          have b90 := hbx2.cells 0
          have b91 := hbx2.cells 1
          have hl9 := hbx2.lt
          simp at b90 b91
          have NF := free0_any m b N L2.us F2 wr hM2 HA2.out.inv.len (by omega) (by omega) HA2.out.inv.lo HA2.out.inv.chain (fun x hx => HA2.out.inv.free hx) HA2.out.inv.nodup
          clear hM2 hbx2 b80 b81
          go_wp2_with fail
          refine NF.mono ?_
          clear NF
          rintro e w11 ⟨fv, rfl, hfv, k11⟩
          have hinv := HA2.out.inv
          have h0 : sumN (fun i => fly1 (ss2 i)) W = 0 := (sumN_congr (f := fun i => fly1 (ss2 i)) (g := fun _ => 0) fun i hi => by unfold fly1; rw [HAll.out i hi]; rfl).trans (by rw [sumN_const]; omega)
          have NO := once_any N W 0 h W T2 has2 F2 fv w11 (HT2.out.1.keeps k11 (by simp)) (fun x hx => (HL2.out.keeps k11).dom x (.inr hx)) hfv (fun x => by have := hinv.part x; split at this <;> (split <;> omega)) hinv.lack.1 (by have := hinv.lack.2; omega) (by omega) (by omega) (by omega)
          have HNO := Lib.hid NO
          have HB11 := Lib.hid (HBr.out.trans (k11.below (by omega) (by simp)))
          have s11 := HB11.out.size
          obtain ⟨qf, cf, rfl⟩ := hfv.len
          clear hfv hinv NO k11 h0
          go_wp2_with fail
          refine HNO.out.mono ?_
          rintro e w12 ⟨rfl, k12⟩
          have HB12 := Lib.hid (HB11.out.trans (k12.below (by omega) (by simp)))
          clear k12
          go_wp2
          go_ret
          exact ⟨rfl, HB12.out⟩

set_option maxRecDepth 100000 in
theorem lifted (os : Os) (started : os.Started) (H : Type) (enc : TypeId × Value → H) :
    ReturnsInHanded {} Try.checked os 5 .any (Rows.arenaOnceSpec.pre6 enc Try.prog Try.f5 Rows.arenaOnceRow.domain false) (Rows.arenaOnceSpec.post enc Try.prog Try.f5 false true false false) := by
  refine returnsInHanded_of_change (C := Try.checked) own started (by kernel_rfl) Try.func5
    (ChangeSpec.witness6 (enc := enc) (C := Try.checked) false ⟨#[], #[.int .i64 0, .int .i64 0, .slice none 0 0], []⟩ 8 (by kernel_rfl) (by kernel_rfl) (by kernel_rfl) (by kernel_rfl)) ?_
  intro W base args ds gs before hval0 hW hcnd _
  have hval : ∀ (j : Nat) t v, Try.f5.params[j]? = some t → args[j]? = some v → Value.okWide Try.prog W .any base t v := hval0
  have hW' := hW
  obtain ⟨p, q, hA0, hV, rfl, hfz, hnd⟩ := hW
  have hA : DataW.TrodAll enc Try.prog W 0 (fun _ => true) true Try.f5.params.toList args.toList ds p := hA0
  rw [Try.params5] at hA hval
  obtain ⟨v0, vs0, d0, ds0, q0, qs0, hargs, rfl, rfl, h0, r0⟩ := trodAll_cons hA
  obtain ⟨v1, vs1, d1, ds1, q1, qs1, rfl, rfl, rfl, h1, r1⟩ := trodAll_cons r0
  obtain ⟨v2, vs2, d2, ds2, q2, qs2, rfl, rfl, rfl, h2, r2⟩ := trodAll_cons r1
  obtain ⟨rfl, rfl, rfl⟩ := trodAll_nil r2
  obtain rfl : args = #[v0, v1, v2] := by cases args; simp_all
  obtain ⟨rfl, rfl⟩ := trodVars_none hV
  obtain ⟨a0, rfl, rfl, rfl, w0⟩ := open_int Try.underlying3 (hval 0 3 v0 rfl rfl) h0
  obtain ⟨a1, rfl, rfl, rfl, w1⟩ := open_int Try.underlying3 (hval 1 3 v1 rfl rfl) h1
  obtain ⟨p2, n2, c2, rfl⟩ := okWide_slice Try.underlying54 (hval 2 54 v2 rfl rfl)
  have k2 := h2
  have lt2 : ∀ x ∈ q2, x.block < W.heap.size := by obtain ⟨m, hm⟩ := k2; exact DataW.trod_lt m _ _ _ hm
  obtain ⟨z2, s2, m2, b2⟩ := (by obtain ⟨fu, hf⟩ := h2; exact sl_ints Try.underlying54 Try.underlying5 (by kernel_rfl) hf : ∃ zs : List Int, Sl W 1 (.slice p2 n2 c2) n2 (ints .u8 zs) ∧ n2 ≤ maxLen ∧ ∀ z ∈ zs, (Lit.int .u8 z).wf = true)
  clear hA0 hval0
  simp only [List.append_nil] at hW'
  refine (walk a0 a1 p2 n2 c2 z2 W w0 w1 s2 m2 b2).mono fun e W' ⟨he, bel⟩ => ?_
  subst he
  exact ⟨_, rfl, _, _, _, [], _, [], hW', trodAll_mk1 (shut_bool Try.underlying4 _), (trodAll_cons_mk (shut_int Try.underlying3 w0) (trodAll_cons_mk (shut_int Try.underlying3 w1) (trodAll_cons_mk (Below.trod laidOut (by kernel_rfl) (of_decide_eq_true (by kernel_rfl)) k2 bel lt2) trodAll_mk0))), rfl, bel.frame _, fun h => by cases h⟩

theorem proved : Rows.ArenaOnceSaid :=
  OpenClaim.holds_of_wide 5 Try.f5 rfl rfl rfl rfl rfl rfl rfl ⟨rfl, rfl, rfl, rfl, rfl⟩ rfl rfl rfl rfl rfl (by kernel_rfl) Try.func5 (by kernel_rfl)
    (of_decide_eq_true (by kernel_rfl)) (by unfold Func.isWrapper; first | (rw [if_pos (by decide +kernel)]; kernel_rfl) | (rw [if_neg (by decide +kernel)]; exact ⟨rfl, rfl⟩))
    (fun os started H enc _ => lifted os started H enc)
#print axioms proved
end Go.Proofs.Ytgpfknoddljopaa.arenaOnce
