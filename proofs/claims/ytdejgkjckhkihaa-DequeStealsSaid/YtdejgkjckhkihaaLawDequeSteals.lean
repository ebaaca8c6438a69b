/-
  The law DequeSteals of the statements holds for every input: the call returns true, and the arguments read as before.
-/
import Derived.Test.YtdejgkjckhkihaaDqC
import Derived.Test.YtdejgkjckhkihaaDqB
import Derived.Test.YtdejgkjckhkihaaRef7a
import Derived.Test.YtdejgkjckhkihaaOpenD
import Derived.Test.YtdejgkjckhkihaaAt
import Derived.Test.YtdejgkjckhkihaaLook
import Derived.Test.YtdejgkjckhkihaaOpen
import Derived.Test.YtdejgkjckhkihaaAcc
import Derived.Test.YtdejgkjckhkihaaSolo
import Derived.Test.YtdejgkjckhkihaaDqS
import Derived.Test.YtdejgkjckhkihaaDqA
import Derived.Test.YtdejgkjckhkihaaMem3
import Derived.IntWalk
import Derived.Deep.CutRange
import Derived.Test.YtdejgkjckhkihaaRows
import Derived.WalkKit
import Derived.ProofKit
import Derived.OpenShut
import Derived.ShutString
import Derived.ChangeOld
import Derived.Below
import Derived.Test.YtdejgkjckhkihaaOpen
namespace Go.Proofs.Ytdejgkjckhkihaa.dequeSteals
open Go.ChangeShapes Go.WideShapes Go.ChangeAt Go.RowKit
open Go.ChangeMaps (open_string shut_string)
set_option linter.unusedVariables false
set_option linter.unusedSimpArgs false

theorem own : ownKnob Try.prog.godebug = none := by kernel_rfl
theorem laidOut : laidOutB Try.prog = true := by kernel_rfl

-- caps
theorem sl_nought (w : World) (p : Option Addr) (n c : Nat) (xs : List Int) (h : n = 0) (hx : xs = []) : Sl w 1 (.slice p n c) n (ints .u64 xs) := by
  subst h hx
  exact ⟨rfl, .inl ⟨p, c, rfl, rfl⟩⟩
theorem sl_behind {w : World} {b off n c T : Nat} {xs : List Int} (h : Sl w 1 (.slice (some ⟨b, off, none⟩) n c) n (ints .u64 xs)) (hn : 0 < n) (hT : T ≤ n) (c' : Nat) : Sl w 1 (.slice (some ⟨b, off + T, none⟩) (n - T) c') (n - T) (ints .u64 (xs.drop T)) := by
  have hl := h.ints_len
  obtain ⟨b', off', cc, he, hb, hc⟩ := h.some hn
  cases he
  refine ⟨by simp [ints]; omega, .inr ⟨b, off + T, c', rfl, hb, fun j u hu => ?_⟩⟩
  rw [Nat.add_assoc]
  exact hc (T + j) u (by simpa [ints] using hu)

set_option maxHeartbeats 25600000 in
set_option maxRecDepth 200000 in
theorem walk (th : Int) (pa : Option Addr) (nt ca : Nat) (zs : List Int) (pp : Option Addr) (q cp : Nat) (ys : List Int) (w : World) (hwt : (Lit.int .i64 th).wf = true)
    (ha : Sl w 1 (.slice pa nt ca) nt (ints .u64 zs)) (hna : nt ≤ maxLen) (hza : ∀ z ∈ zs, (Lit.int .u64 z).wf = true) (hca : nt ≤ ca ∧ ca ≤ maxLen)
    (hp : Sl w 1 (.slice pp q cp) q (ints .u8 ys)) (hq : q ≤ maxLen) (hy : ∀ y ∈ ys, (Lit.int .u8 y).wf = true) (hcp : q ≤ cp ∧ cp ≤ maxLen) :
    Calls Try.prog 5 #[.int .i64 th, .slice pa nt ca, .slice pp q cp] w fun e w' => e = .returned (.bool true) ∧ Below w.heap.size w w' := by
  obtain ⟨B, hB⟩ : ∃ B, w.heap.size = B := ⟨_, rfl⟩
  rw [hB]
  have HZ : Hid (∀ z ∈ zs, M.U z) := Lib.hid fun z h => M.U.wf (hza z h)
  have HY : Hid (∀ y ∈ ys, 0 ≤ y ∧ y < 256) := Lib.hid fun y h => by
    have := bounds_u8 (hy y h)
    omega
  have HSA := Lib.hid ha
  have HLA := Lib.hid ha.ints_len
  have HSP := Lib.hid hp
  have HLP := Lib.hid hp.ints_len
  unfold maxLen at hna hq hca hcp
  clear ha hp hza hy hwt
  go_enter Try.func5, Try.ntmps5
  go_wp2_with fail
  refine (awake7 w).mono ?_
  rintro e w1 ⟨rfl, b1⟩
  rw [hB] at b1
  have HB1 := Lib.hid b1
  clear b1
  by_cases h1 : th < 1
  · have d1 : decide (th < 1) = true := decide_eq_true (by omega)
    go_wp2
    go_ret
    exact ⟨rfl, HB1.out⟩
  have d1 : decide (th < 1) = false := decide_eq_false (by omega)
  by_cases h2 : 4 < th
  · have d2 : decide (4 < th) = true := decide_eq_true (by omega)
    go_wp2
    go_ret
    exact ⟨rfl, HB1.out⟩
  have d2 : decide (4 < th) = false := decide_eq_false (by omega)
  obtain ⟨W, rfl⟩ : ∃ W : Nat, th = (W : Int) := ⟨th.toNat, by omega⟩
  by_cases h3 : 20 < nt
  · have d3 : decide ((20 : Int) < nt) = true := decide_eq_true (by omega)
    go_wp2
    go_ret
    exact ⟨rfl, HB1.out⟩
  have d3 : decide ((20 : Int) < nt) = false := decide_eq_false (by omega)
  by_cases h4 : 300 < q
  · have d4 : decide ((300 : Int) < q) = true := decide_eq_true (by omega)
    go_wp2
    go_ret
    exact ⟨rfl, HB1.out⟩
  have d4 : decide ((300 : Int) < q) = false := decide_eq_false (by omega)
  have s1 := HB1.out.size
  go_wp2_with fail
  generalize hW : World.alloc _ _ = W2
  have k2 : Keeps [] w1 W2 := by rw [← hW]; exact (Keeps.refl _ _).alloc _
  have bx : Box W2 w1.heap.size #[.int .i64 0, .int .i64 32] := by rw [← hW]; exact Box.new _ _ _
  obtain ⟨ab, hab⟩ : ∃ ab, w1.heap.size = ab := ⟨_, rfl⟩
  rw [hab] at bx ⊢
  have HBx2 := Lib.hid bx
  have HB2 := Lib.hid (HB1.out.trans (k2.below (by omega) (by simp)))
  have hablt := HBx2.out.lt
  have s2 := HB2.out.size
  clear hW bx k2 HB1
  refine (new_any 34 W2 (by omega) (by omega)).mono ?_
  rintro e w3 ⟨m, b, rfl, hM, k3, hm, hb⟩
  have HM3 := Lib.hid hM
  have HB3 := Lib.hid (HB2.out.trans (k3.below (by omega) (by simp)))
  have HBx3 := Lib.hid (HBx2.out.keeps k3 (by simp))
  have s3 := HB3.out.size
  have hmlt := hM.lt
  clear hM k3 HB2 HBx2
  -- the blocks that nobody writes
  obtain ⟨E, hE⟩ : ∃ E : Nat → Prop, (fun x => x < B ∨ x = ab) = E := ⟨_, rfl⟩
  have HE : Hid ((∀ k, k < B → E k) ∧ E ab ∧ ∀ k, E k → k < B ∨ k = ab) := Lib.hid (by rw [← hE]; exact ⟨fun k hk => .inl hk, .inr rfl, fun k hk => hk⟩)
  clear hE
  have LN := loomNew_any E W m b (List.replicate 34 0) w3 HM3.out (by omega) (by omega) (fun k hk => by rcases HE.out.2.2 k hk with h | h <;> omega) (fun hk => by rcases HE.out.2.2 b hk with h | h <;> omega)
  have HLN := Lib.hid LN
  clear LN
  go_wp2_with fail
  refine HLN.out.mono ?_
  rintro e w6 ⟨l, gl, rfl, hL6, k6⟩
  have HL6 := Lib.hid hL6
  have HBx6 := Lib.hid (HBx3.out.keeps k6 (by simp))
  have HB6 := Lib.hid (HB3.out.trans (k6.below (by omega) (by simp)))
  have s6 := HB6.out.size
  have HQ6 : Hid (DqL 32 0 0 (List.replicate 34 0) []) := Lib.hid (DqL.new (by unfold dqPow; omega) (by simp) rfl rfl)
  clear hL6 k6 HBx3 HB3 HM3 HLN
  -- what anybody who holds E has
  have HSAr : Hid (∀ W, Held E w6 W → Sl W 1 (.slice pa nt ca) nt (ints .u64 zs)) := Lib.hid fun W hW => HSA.out.below (HB6.out.trans (Held.below (hW.narrow (E := (· < B)) (fun k hk => HE.out.1 k hk)))) (by omega)
  have HSPr : Hid (∀ W, Held E w6 W → Sl W 1 (.slice pp q cp) q (ints .u8 ys)) := Lib.hid fun W hW => HSP.out.below (HB6.out.trans (Held.below (hW.narrow (E := (· < B)) (fun k hk => HE.out.1 k hk)))) (by omega)
  have HBxr : Hid (∀ W, Held E w6 W → W.cell? ⟨ab, 0, none⟩ = some (.int .i64 0) ∧ W.cell? ⟨ab, 1, none⟩ = some (.int .i64 32)) := Lib.hid fun W hW => by
    have hbx := HBx6.out.block hW.size (hW.block ab HE.out.2.1)
    exact ⟨hbx.cells 0, hbx.cells 1⟩
  go_wp2
  go_loopw [12] (fun i wr => ∃ k : Nat, k ≤ nt ∧ i = .int .i64 (k : Int) ∧ ∃ L : LSt, Held E w6 wr ∧ Loom E wr L ∧ L.l = l ∧ L.mm = m ∧ L.ts.length = W ∧ (∀ j, j < W → ∃ o, L.ts[j]? = some o ∧ busy o = false) ∧ L.steps ≤ 6 * k ∧ DqL 32 0 0 L.us (zs.take k)) (fun i _ => nt - (intOf i).toNat)
  case atStart => exact ⟨0, Nat.zero_le _, rfl, _, Held.refl _ _, HL6.out, rfl, rfl, by simp, fun j hj => ⟨none, by simp [hj], rfl⟩, Nat.le_refl _, HQ6.out⟩
  case round =>
    obtain ⟨k, hk, rfl, L, hh, hL, hLl, hLm, hLt, hid, hst, hQ⟩ := hrel
    have HHr := Lib.hid hh
    have HL := Lib.hid hL
    have HQ := Lib.hid hQ
    have HId := Lib.hid hid
    clear hh hL hQ hid
    by_cases hlt : k < nt
    · have hsl := HSAr.out wr HHr.out
      obtain ⟨tb, tof, tc, he, htb, htc⟩ := hsl.some (by omega)
      cases he
      have hkz : k < zs.length := by rw [HLA.out]; exact hlt
      have ay := htc k _ (ints_at (k := .u64) hkz)
      obtain ⟨z, hz⟩ : ∃ z, zs.getD k 0 = z := ⟨_, rfl⟩
      rw [hz] at ay
      have hzU : M.U z := by rw [← hz]; exact HZ.out _ (by rw [List.getD, List.getElem?_eq_getElem hkz]; exact List.getElem_mem hkz)
      have htk : zs.take (k + 1) = zs.take k ++ [z] := by rw [← hz, List.take_add_one, List.getElem?_eq_getElem hkz]; simp [List.getD, hkz]
      have HTk := Lib.hid htk
      have hbx := HBxr.out wr HHr.out
      have b0 := hbx.1
      have b1 := hbx.2
      have HS : Hid (∀ W, Held E wr W → W.cell? ⟨ab, 0, none⟩ = some (.int .i64 0) ∧ W.cell? ⟨ab, 1, none⟩ = some (.int .i64 32) ∧ W.cell? ⟨tb, tof + k, none⟩ = some (.int .u64 z)) := Lib.hid fun W hW => by
        obtain ⟨tb', tof', tc', he', -, htc'⟩ := (HSAr.out W (HHr.out.trans hW)).some (by omega)
        cases he'
        have := htc' k _ (ints_at (k := .u64) hkz)
        rw [hz] at this
        exact ⟨(HBxr.out W (HHr.out.trans hW)).1, (HBxr.out W (HHr.out.trans hW)).2, this⟩
      have hlen : (zs.take k).length = k := by rw [List.length_take]; omega
      obtain ⟨n, us', s', n0, n6, hsolo, hc⟩ := HQ.out.push z hzU
      have hc' : s'.over = some ⟨0, 0, []⟩ ∧ DqL 32 0 0 us' (zs.take (k + 1)) := by
        rcases hc with ⟨hfull, -, -⟩ | ⟨-, h1, h2⟩
        · omega
        · exact ⟨h1, by rw [htk]; exact h2⟩
      obtain ⟨o, ho, hbo⟩ := HId.out 0 (by omega)
      have HSol := Lib.hid (show _ ∧ _ ∧ _ ∧ _ ∧ _ from ⟨n0, n6, hsolo, hc'.1, hc'.2⟩)
      have HO := Lib.hid (show _ ∧ _ from ⟨ho, hbo⟩)
      have hhd : Held E wr wr.drew := (Keeps.refl [] wr).drew.held (fun k hk => HL.out.dom k hk) (by simp)
      clear hc hc' n0 n6 hsolo ho hbo htk hsl htc hbx hz
      have hlt1 : (k : Int) < (nt : Int) := by omega
      go_wp2_with fail
      go_region_held3 (fun w' => w'.cell? ⟨ab, 0, none⟩ = some (.int .i64 0) ∧ w'.cell? ⟨ab, 1, none⟩ = some (.int .i64 32) ∧ w'.cell? ⟨tb, tof + k, none⟩ = some (.int .u64 z))
        (first
          | exact HS.out _ hhd
          | exact HS.out _ hh4
          | exact HS.out _ hh3
          | fail)
        (first
          | (have _ := HI3; go_at_call 16; obtain ⟨L1, M, o', hM, hSt, hDo⟩ := HSol.out.2.2.1.begun (I := LoneIO dequeM (dqE mm3) mm3) (m := mm3) (R := dqRuns mm3) E 0 9 0 0 o S3 wr _ HL.out HI3.out.2.1 HO.out.1 HO.out.2 HI3.out.1 HI3.out.2.2 HSol.out.1 (by have := HSol.out.2.1; omega) (by omega) (by omega) HSol.out.2.2.2.1; rw [hLl] at hSt hDo; refine hSt.mono ?_; rintro e w4 ⟨rfl, l4, hh4⟩; have HL4 := Lib.hid l4; have HM := Lib.hid hM; have HAl := Lib.hid hDo.1; have HRe := Lib.hid hDo.2; clear l4 hM hSt hDo)
          | (go_at_call 20; refine (dqPush_made 0 32 z _ (by decide) hzU).mono ?_; rintro e w3 ⟨mm3, S3, rfl, i3, k3, s3⟩; have HI3 := Lib.hid (show _ ∧ Keeps [] wr w3 ∧ ∀ x ∈ S3, wr.heap.size ≤ x from ⟨i3, k3.undrew, s3⟩); have hh3 : Held E wr w3 := HI3.out.2.1.held (fun k hk => HL.out.dom k hk) (by simp); clear i3 k3 s3)
          | fail)
      clear HS b0 b1 ay
      go_wp2_with fail
      refine (HAl.out _ w4 HL4.out).mono ?_
      rintro e w5 ⟨rfl, hL5, hh5⟩
      have HL5 := Lib.hid hL5
      have HH5 := Lib.hid (hh4.trans hh5)
      clear hL5 hh5 hh4 hh3 hhd
      go_wp2_with fail
      refine (HRe.out _ w5 HL5.out).mono ?_
      rintro e w6' ⟨rq, rc, rfl, k6'⟩
      obtain ⟨W7, hW7⟩ : ∃ W7, w6'.alloc (.cells #[.int .i64 0, .int .u64 0, .slice rq 0 rc] 50) = W7 := ⟨_, rfl⟩
      have k7 : Keeps [] w6' W7 := by rw [← hW7]; exact (Keeps.refl _ _).alloc _
      have r7 : Row W7 w6'.heap.size 50 [.int .i64 0, .int .u64 0, .slice rq 0 rc] := by rw [← hW7]; exact Row.new _ _ _
      have HL7 := Lib.hid ((HL5.out.keeps k6').keeps k7)
      have HH7 := Lib.hid (HH5.out.trans ((k6'.trans k7).held (fun k hk => HL5.out.dom k hk) (by simp)))
      have q0 := r7.cell (j := 0) rfl
      clear k6' k7 r7 HL5 HH5 HL4 HAl HRe
      go_wp2
      go_roundw
      case rel =>
        obtain ⟨e1, -, e2, -, e3, e4, e5, e6, e7, e8⟩ := HM.out
        refine ⟨k + 1, by omega, by go_num, M, HHr.out.trans HH7.out, HL7.out, e1.trans hLl, e2.trans hLm, by rw [e7]; exact hLt, fun j hj => ?_, by have := HSol.out.2.1; omega, by rw [e3]; exact HSol.out.2.2.2.2⟩
        by_cases ej : j = 0
        · subst ej; exact ⟨_, e5, e6⟩
        · rw [e8 j ej]; exact HId.out j hj
      case measure => simp [intOf]; omega
    · obtain rfl : nt = k := by omega
      have hQ := HQ.out
      rw [List.take_of_length_le (by rw [HLA.out]; omega)] at hQ
      have hcr : DqCrew 32 W 0 L (fun _ => none) 0 nt (fun x => zs.getD x.toNat 0) := by
        refine ⟨⟨hLt, fun i hi => .inl ⟨rfl, HId.out i hi⟩⟩, ?_⟩
        have hlen := HLA.out
        refine { size_ := hQ.size_, len := hQ.len, top := hQ.top, range := ⟨by omega, by omega, by omega, by omega⟩, slots := fun x x1 x2 => ?_, tasks := fun x => ?_, low := fun h => ?_, high := fun _ => ?_, wk := fun i s _ h => by cases h }
        · have := hQ.slots x.toNat (by omega)
          rw [show (0 : Int) + (x.toNat : Int) = x by omega] at this
          exact this
        · rw [List.getD]
          cases hx : zs[x.toNat]? with
          | none => exact ⟨by decide, by decide⟩
          | some v => exact HZ.out v (List.mem_of_getElem? hx)
        · obtain ⟨s, hs, -⟩ := h; cases hs
        · rw [hQ.bottom, hlen]; congr 1; omega
      have HCr := Lib.hid hcr
      clear hQ hcr HQ HId
      rename World => V
      have HHv := HHr
      have HLv := HL
      clear HHr HL
      go_wp2
      go_loopw [15, 16] (fun nn i wr => ∃ k : Nat, k ≤ q ∧ i = .int .i64 (k : Int) ∧ ∃ (L : LSt) (ss : Nat → Option DqS) (T : Nat), nn = .int .i64 (T : Int) ∧ Held E w6 wr ∧ Loom E wr L ∧ L.l = l ∧ L.mm = m ∧ L.steps ≤ 120 + k ∧ T ≤ nt ∧ DqCrew 32 W 0 L ss T nt (fun x => zs.getD x.toNat 0) ∧ ∀ i s, i < W → ss i = some s → s.over = none → s.kind = 3) (fun _ i _ => q - (intOf i).toNat)
      case atStart => exact ⟨0, Nat.zero_le _, rfl, L, fun _ => none, 0, rfl, HHv.out, HLv.out, hLl, hLm, by omega, Nat.zero_le _, HCr.out, fun i s _ h => by cases h⟩
      case round =>
        clear HHv HLv HCr hLl hLm hst hLt
        obtain ⟨k, hk, rfl, L, ss, T, rfl, hh, hL, hLl, hLm, hst, hT, hcr, hk3⟩ := hrel
        have HHr := Lib.hid hh
        have HL := Lib.hid hL
        have HCr := Lib.hid hcr
        have HK3 := Lib.hid hk3
        clear hh hL hcr hk3
        by_cases hlt : k < q
        · have hsl := HSPr.out wr HHr.out
          obtain ⟨pb, po, pc, he, hpb, hpc⟩ := hsl.some (by omega)
          cases he
          have hkz : k < ys.length := by rw [HLP.out]; exact hlt
          have ay := hpc k _ (ints_at (k := .u8) hkz)
          have hyb := HY.out (ys.getD k 0) (by rw [List.getD, List.getElem?_eq_getElem hkz]; exact List.getElem_mem hkz)
          obtain ⟨y, hy⟩ : ∃ y, ys.getD k 0 = y := ⟨_, rfl⟩
          rw [hy] at ay hyb
          obtain ⟨yn, rfl⟩ : ∃ yn : Nat, y = (yn : Int) := ⟨y.toNat, by omega⟩
          clear hpc hsl hy
          go_wp2_with fail
          rw [show (yn : Int) % (W : Int) = ((yn % W : Nat) : Int) from (Int.natCast_emod _ _).symm]
          have hwn : yn % W < W := Nat.mod_lt _ (by omega)
          obtain ⟨who, hwho⟩ : ∃ who, yn % W = who := ⟨_, rfl⟩
          rw [hwho] at hwn ⊢
          clear hwho
          obtain ⟨o, ho, hb⟩ := HCr.out.crew.at hwn
          have D := busy_at E L who o wr HL.out ho
          rw [hLl, hb] at D
          obtain ⟨bb, hbb⟩ : ∃ bb, atWork dequeM (ss who) = bb := ⟨_, rfl⟩
          rw [hbb] at D hb
          have HBB := Lib.hid hbb
          have HO := Lib.hid (⟨ho, hb⟩ : _ ∧ _)
          clear ho hb hbb
          refine D.mono ?_
          clear D
          rintro e w2 ⟨rfl, k2⟩
          have HL2 := Lib.hid (HL.out.keeps k2)
          have HH2 := Lib.hid (HHr.out.trans (k2.held (fun k hk => HL.out.dom k hk) (by simp)))
          clear k2 HHr HL ay
          go_upto_if 97 with (fail)
          go_cut [] from 81 to 146 (fun w' => Held E w6 w' ∧ ∃ (L2 : LSt) (ss2 : Nat → Option DqS) (s : DqS), Loom E w' L2 ∧ L2.l = l ∧ L2.mm = m ∧ L2.steps = L.steps ∧ DqCrew 32 W 0 L2 ss2 T nt (fun x => zs.getD x.toNat 0) ∧ (∀ i s, i < W → ss2 i = some s → s.over = none → s.kind = 3) ∧ ss2 who = some s ∧ s.over = none)
          case first =>
            cases bb with
            | true =>
              obtain ⟨s, hs1, hs2⟩ := HCr.out.work HBB.out
              have HM := Lib.hid (⟨hs1, hs2⟩ : _ ∧ _)
              clear hs1 hs2
              go_wp2
              go_meet
              exact ⟨HH2.out, L, ss, s, HL2.out, hLl, hLm, rfl, HCr.out, HK3.out, HM.out.1, HM.out.2⟩
            | false =>
              have hbx := HBxr.out w2 HH2.out
              have b0 := hbx.1
              have b1 := hbx.2
              clear hbx
              go_wp2_with fail
              refine (dqSteal_made 0 32 w2 (by decide)).mono ?_
              rintro e w3 ⟨mm3, S3, rfl, i3, k3, s3⟩
              have D := start_at E L who o ⟨DqS, dequeM, LoneIO dequeM (dqE mm3) mm3, mm3, dqRuns mm3, dqNew 0 32 3 0⟩ S3 w2 w3 HL2.out k3 HO.out.1 HO.out.2 i3 s3
              rw [hLl] at D
              have HH3 := Lib.hid (HH2.out.trans (k3.held (fun k hk => HL2.out.dom k hk) (by simp)))
              have hg3 := HL2.out.base.2.1
              have hd3 : ∀ k, E k → k < w3.heap.size := fun k hk => Nat.lt_of_lt_of_le (HL2.out.dom k hk) k3.size
              have HG := Lib.hid (⟨hg3, hd3⟩ : _ ∧ _)
              clear i3 k3 s3 hg3 hd3 b0 b1
              go_wp2_with fail
              refine D.mono ?_
              clear D
              rintro e w4 ⟨rfl, hL4, k4⟩
              have HL4 := Lib.hid hL4
              have HH4 := Lib.hid (HH3.out.trans (k4.held HG.out.2 (fun k hk => by simp at hk; subst hk; exact HG.out.1)))
              clear hL4 k4
              go_wp2
              go_meet
              have hcb := HCr.out.begin_ hwn HBB.out mm3 3 0 (.inl rfl)
              refine ⟨HH4.out, _, _, _, HL4.out, rfl, hLm, rfl, ⟨⟨hcb.crew.len, hcb.crew.th⟩, hcb.inv⟩, fun i s hi hs hov => ?_, updG_same _ _ _, ?_⟩
              · by_cases ei : i = who
                · subst ei
                  rw [updG_same] at hs
                  cases hs
                  rfl
                · rw [updG_ne _ _ ei] at hs
                  exact HK3.out i s hi hs hov
              · have hr : dqRight 0 ((32 : Nat) : Int) := dqRight_pow HCr.out.inv.size_
                exact congrArg (fun s : DqS => s.over) (show dqNew 0 ((32 : Nat) : Int) 3 0 = ⟨0, ((32 : Nat) : Int), 3, 0, 1, 0, 0, 0, false, none⟩ by simp only [dqNew, if_pos hr])
          case rest =>
          obtain ⟨hhc, L2, ss2, s, hLc, hl2, hm2, hst2, hcc, hk2, hs2, ho2⟩ := hcut
          obtain ⟨M, s', T', B', A', hone, hmm, hmb, hcM, -, -, hev, hkd, -, hgv⟩ := hcc.step hwn hs2 ho2 (by omega)
          have D := pick_step E who L2 M wc hLc hone (by omega)
          rw [hl2] at D
          have hMl : M.l = l := hone.l.trans hl2
          have hMm : M.mm = m := hmm.trans hm2
          have hMs := hone.steps
          have hs3 := hk2 who s hwn hs2 ho2
          have hkT : DqT 32 0 (T : Int) (nt : Int) (fun x => zs.getD x.toNat 0) s := by
            rcases hcc.inv.wk who s hwn hs2 ho2 with h | ⟨-, h | h⟩
            · exact h
            · have := h.kind; omega
            · have := h.kind; omega
          have hlow : ¬ dqLow (ss2 0) := by
            rintro ⟨u, hu, h1, h2, -⟩
            have := hk2 0 u (by omega) hu h1
            omega
          have hem : s'.over = some ⟨5, 0, []⟩ → (T : Int) = nt := fun h => hcc.inv.empty_ hkT hlow ho2 (by rw [← hgv]; exact h)
          have HHc := Lib.hid hhc
          have HDom := Lib.hid hLc.dom
          have HCM := Lib.hid hcM
          have HEv := Lib.hid hev
          have HEm := Lib.hid hem
          have HKM : Hid (∀ i u, i < W → updG ss2 who (some s') i = some u → u.over = none → u.kind = 3) := Lib.hid fun i u hi hu hou => by
            by_cases ei : i = who
            · subst ei
              rw [updG_same] at hu
              cases hu
              rw [hkd]; exact hs3
            · rw [updG_ne _ _ ei] at hu
              exact hk2 i u hi hu hou
          have HMs : Hid (M.steps ≤ 120 + (k + 1)) := Lib.hid (by omega)
          clear hhc hLc hcc hcM hev hem hkT hlow hone hgv hmm hmb hk2 hs2 ho2 HL2 HH2 hkd hst2
          go_wp2_with fail
          refine D.mono ?_
          clear D
          rintro e w7 ⟨rfl, hl7, hh7⟩
          have HL7 := Lib.hid hl7
          have HH7 := Lib.hid (HHc.out.trans hh7)
          clear hl7 hh7
          cases HEv.out with
          | go hov e1 e2 e3 _ =>
            subst e1 e2 e3
            have hrs := HCM.out.crew.result E w7 HL7.out hwn (updG_same _ _ _) (show dequeM.res s' = none from hov)
            rw [hMl] at hrs
            go_wp2_with fail
            refine hrs.mono ?_
            clear hrs
            rintro e w8 ⟨q8, c8, rfl, -, k8⟩
            obtain ⟨W9, hW9⟩ : ∃ W9, w8.alloc (.cells #[.int .i64 0, .int .u64 0, .slice q8 0 c8] 50) = W9 := ⟨_, rfl⟩
            have ka : Keeps [] w8 W9 := by rw [← hW9]; exact (Keeps.refl _ _).alloc _
            have rb : Row W9 w8.heap.size 50 [.int .i64 0, .int .u64 0, .slice q8 0 c8] := by rw [← hW9]; exact Row.new _ _ _
            have HL9 := Lib.hid (HL7.out.keeps (k8.trans ka))
            have HH9 := Lib.hid (HH7.out.trans ((k8.trans ka).held (fun k hk => HL7.out.dom k hk) (by simp)))
            have r0 := rb.cell (j := 0) rfl
            have r1 := rb.cell (j := 1) rfl
            clear k8 ka rb
            go_wp2
            go_roundw
            case rel => exact ⟨k + 1, by omega, by go_num, M, _, T, rfl, HH9.out, HL9.out, hMl, hMm, HMs.out, hT, HCM.out, HKM.out⟩
            case measure => simp [intOf]; omega
          | abort _ hov e1 e2 e3 =>
            subst e1 e2 e3
            have hrs := HCM.out.crew.result E w7 HL7.out hwn (updG_same _ _ _) (show dequeM.res s' = some ⟨6, 0, []⟩ from hov)
            rw [hMl] at hrs
            go_wp2_with fail
            refine hrs.mono ?_
            clear hrs
            rintro e w8 ⟨q8, c8, rfl, -, k8⟩
            obtain ⟨W9, hW9⟩ : ∃ W9, w8.alloc (.cells #[.int .i64 6, .int .u64 0, .slice q8 0 c8] 50) = W9 := ⟨_, rfl⟩
            have ka : Keeps [] w8 W9 := by rw [← hW9]; exact (Keeps.refl _ _).alloc _
            have rb : Row W9 w8.heap.size 50 [.int .i64 6, .int .u64 0, .slice q8 0 c8] := by rw [← hW9]; exact Row.new _ _ _
            have HL9 := Lib.hid (HL7.out.keeps (k8.trans ka))
            have HH9 := Lib.hid (HH7.out.trans ((k8.trans ka).held (fun k hk => HL7.out.dom k hk) (by simp)))
            have r0 := rb.cell (j := 0) rfl
            have r1 := rb.cell (j := 1) rfl
            clear k8 ka rb
            go_wp2
            go_roundw
            case rel => exact ⟨k + 1, by omega, by go_num, M, _, T, rfl, HH9.out, HL9.out, hMl, hMm, HMs.out, hT, HCM.out, HKM.out⟩
            case measure => simp [intOf]; omega
          | none_ _ _ hov e1 e2 e3 =>
            subst e1 e2 e3
            have hTn := HEm.out hov
            have dT : decide ((T : Int) < (nt : Int)) = false := decide_eq_false (by omega)
            have dT2 : decide (T < nt) = false := decide_eq_false (by omega)
            have dT3 : ¬ T < nt := by omega
            clear hTn
            have hrs := HCM.out.crew.result E w7 HL7.out hwn (updG_same _ _ _) (show dequeM.res s' = some ⟨5, 0, []⟩ from hov)
            rw [hMl] at hrs
            go_wp2_with fail
            refine hrs.mono ?_
            clear hrs
            rintro e w8 ⟨q8, c8, rfl, -, k8⟩
            obtain ⟨W9, hW9⟩ : ∃ W9, w8.alloc (.cells #[.int .i64 5, .int .u64 0, .slice q8 0 c8] 50) = W9 := ⟨_, rfl⟩
            have ka : Keeps [] w8 W9 := by rw [← hW9]; exact (Keeps.refl _ _).alloc _
            have rb : Row W9 w8.heap.size 50 [.int .i64 5, .int .u64 0, .slice q8 0 c8] := by rw [← hW9]; exact Row.new _ _ _
            have HL9 := Lib.hid (HL7.out.keeps (k8.trans ka))
            have HH9 := Lib.hid (HH7.out.trans ((k8.trans ka).held (fun k hk => HL7.out.dom k hk) (by simp)))
            have r0 := rb.cell (j := 0) rfl
            have r1 := rb.cell (j := 1) rfl
            clear k8 ka rb
            go_wp2
            go_roundw
            case rel => exact ⟨k + 1, by omega, by go_num, M, _, T, rfl, HH9.out, HL9.out, hMl, hMm, HMs.out, hT, HCM.out, HKM.out⟩
            case measure => simp [intOf]; omega
          | steal _ hTB hov e1 e2 e3 =>
            subst e1 e2 e3
            obtain ⟨v, hv⟩ : ∃ v, zs.getD (T : Int).toNat 0 = v := ⟨_, rfl⟩
            rw [hv] at hov
            have hrs := HCM.out.crew.result E w7 HL7.out hwn (updG_same _ _ _) (show dequeM.res s' = some ⟨0, v, []⟩ from hov)
            rw [hMl] at hrs
            go_wp2_with fail
            refine hrs.mono ?_
            clear hrs
            rintro e w8 ⟨q8, c8, rfl, -, k8⟩
            obtain ⟨W9, hW9⟩ : ∃ W9, w8.alloc (.cells #[.int .i64 0, .int .u64 v, .slice q8 0 c8] 50) = W9 := ⟨_, rfl⟩
            have ka : Keeps [] w8 W9 := by rw [← hW9]; exact (Keeps.refl _ _).alloc _
            have rb : Row W9 w8.heap.size 50 [.int .i64 0, .int .u64 v, .slice q8 0 c8] := by rw [← hW9]; exact Row.new _ _ _
            have HL9 := Lib.hid (HL7.out.keeps (k8.trans ka))
            have HH9 := Lib.hid (HH7.out.trans ((k8.trans ka).held (fun k hk => HL7.out.dom k hk) (by simp)))
            have r0 := rb.cell (j := 0) rfl
            have r1 := rb.cell (j := 1) rfl
            clear k8 ka rb
            have hTz : T < zs.length := by have := HLA.out; omega
            have hsl := HSAr.out W9 HH9.out
            obtain ⟨tb, tof, tc, he, htb, htc⟩ := hsl.some (by omega)
            cases he
            have at9 := htc T _ (ints_at (k := .u64) hTz)
            rw [show zs.getD T 0 = v from hv] at at9
            clear hsl htc hv
            have dT : decide ((nt : Int) ≤ (T : Int)) = false := decide_eq_false (by omega)
            have dT2 : decide (nt ≤ T) = false := decide_eq_false (by omega)
            have iT : (T : Int) < (nt : Int) := by omega
            go_wp2_with fail
            go_quiet (fail)
            go_wp2
            go_roundw
            case rel =>
              have kd : ∀ nq, Keeps [] W9 (W9.drewN nq) := fun nq => (Keeps.refl [] W9).drewN
              refine ⟨k + 1, by omega, by go_num, M, _, T + 1, by go_num, HH9.out.trans ((kd _).held (fun k hk => HL9.out.dom k hk) (by simp)), HL9.out.keeps (kd _), hMl, hMm, HMs.out, by omega, ?_, HKM.out⟩
              rw [show ((T + 1 : Nat) : Int) = (T : Int) + 1 by omega]
              exact HCM.out
            case measure => simp [intOf]; omega
          | push h1 _ _ _ _ => omega
          | lost h1 _ _ _ _ _ _ => omega
          | full h1 _ _ _ _ _ => omega
          | pop h1 _ _ _ _ _ => omega
          | take h1 _ _ _ _ _ _ _ => omega
          | took h1 _ _ _ _ _ _ _ => omega
          | empty h1 _ _ _ _ _ => omega
        · obtain rfl : q = k := by omega
          have hbx := HBxr.out wr HHr.out
          have b0 := hbx.1
          have b1 := hbx.2
          have hlow : ¬ dqLow (ss 0) := by
            rintro ⟨u, hu, h1, h2, -⟩
            have := HK3.out 0 u (by omega) hu h1
            omega
          have hli := HCr.out.inv.list hlow
          have hdl : dqList (T : Int) (nt : Int) (fun x => zs.getD x.toNat 0) = zs.drop T := by
            have hlen := HLA.out
            apply List.ext_getElem
            · simp [dqList]; omega
            · intro i h1 h2
              simp only [dqList, List.length_map, List.length_range] at h1
              simp only [dqList, List.getElem_map, List.getElem_range, List.getElem_drop]
              rw [show ((T : Int) + (i : Int)).toNat = T + i by omega, List.getD, List.getElem?_eq_getElem (by omega)]
              rfl
          rw [hdl] at hli
          have hm9 := HL.out.mem
          rw [hLm] at hm9
          have hAll := dqAll_any 0 ((32 : Nat) : Int) m L.b L.us wr hm9 (by simpa using dqRight_pow hli.size_) (by rw [hli.len]; simp)
          rw [show dqAllOf ((0 : Nat) : Int) ((32 : Nat) : Int) L.us = some (zs.drop T) from hli.all] at hAll
          have HAll := Lib.hid hAll
          clear hbx hlow hli hdl hm9 hAll
          go_wp2_with fail
          refine HAll.out.mono ?_
          rintro e w16 ⟨k16, t16⟩
          obtain ⟨l16, rfl, o16⟩ := t16.2 _ rfl
          obtain ⟨lp16, lc16, rfl⟩ := (Sl.of_owns o16).len
          have HH16 := Lib.hid (HHr.out.trans (k16.held (fun k hk => HL.out.dom k hk) (by simp)))
          have HO16 := Lib.hid o16
          clear k16 t16 o16
          rw [List.length_drop] at HO16
          have HSame : Hid (∀ (p : Option Addr) (c : Nat), Sl w16 1 (.slice p (nt - T) c) (nt - T) (ints .u64 (zs.drop T)) → Calls Try.prog 13 #[.slice lp16 (zs.length - T) lc16, .slice p (nt - T) c] w16 fun e w' => e = .returned (.bool true) ∧ ∃ m, w16.drewN m = w') := Lib.hid fun p c hs => by
            have hlen := HLA.out
            have := sameWords_any _ _ (zs.length - T) (nt - T) (zs.drop T) (zs.drop T) w16 (by unfold maxLen; omega) (by unfold maxLen; omega) (Sl.of_owns HO16.out) hs
            rwa [decide_eq_true rfl] at this
          have c2 : (T : Int) ≤ (nt : Int) := by omega
          have c3 : (nt : Int) ≤ (ca : Int) := by omega
          have hd0 : nt = T → zs.drop T = [] := fun h => List.drop_of_length_le (by have := HLA.out; omega)
          have HD0 := Lib.hid hd0
          clear hd0
          by_cases h0 : nt = 0
          · obtain rfl : T = 0 := by omega
            subst h0
            have HS0 : Hid (∀ (p : Option Addr) (c : Nat), Calls Try.prog 13 #[.slice lp16 zs.length lc16, .slice p 0 c] w16 fun e w' => e = .returned (.bool true) ∧ ∃ m, w16.drewN m = w') := Lib.hid fun p c => by
              have := HSame.out p c (sl_nought _ _ _ _ _ rfl (HD0.out rfl))
              simpa using this
            cases pa with
            | none =>
              go_wp2_with fail
              refine (HS0.out _ _).mono ?_
              rintro e w17 ⟨rfl, nd, rfl⟩
              go_wp2
              go_ret
              exact ⟨rfl, HB6.out.trans (Held.below ((HH16.out.trans ((Keeps.refl [] w16).drewN.held (fun k hk => Nat.lt_of_lt_of_le (HL6.out.dom k hk) HH16.out.size) (by simp))).narrow (E := (· < B)) (fun k hk => HE.out.1 k hk)))⟩
            | some pa =>
              by_cases hcT : ca = 0
              all_goals
                go_wp2_with fail
                refine (HS0.out _ _).mono ?_
                rintro e w17 ⟨rfl, nd, rfl⟩
                go_wp2
                go_ret
                exact ⟨rfl, HB6.out.trans (Held.below ((HH16.out.trans ((Keeps.refl [] w16).drewN.held (fun k hk => Nat.lt_of_lt_of_le (HL6.out.dom k hk) HH16.out.size) (by simp))).narrow (E := (· < B)) (fun k hk => HE.out.1 k hk)))⟩
          · have hsl := HSAr.out w16 HH16.out
            obtain ⟨tb, tof, tc, he, htb, htc⟩ := hsl.some (by omega)
            cases he
            clear htc
            by_cases hcT : ca = T
            case' pos =>
              have hz := sl_nought w16 (some ⟨tb, tof, none⟩) (nt - T) 0 (zs.drop T) (by omega) (HD0.out (by omega))
            case' neg =>
              have hz := sl_behind hsl (by omega) (show T ≤ nt by omega) (ca - T)
            all_goals
              have HZz := Lib.hid hz
              clear hz hsl
              go_wp2_with fail
              refine (HSame.out _ _ HZz.out).mono ?_
              rintro e w17 ⟨rfl, nd, rfl⟩
              go_wp2
              go_ret
              exact ⟨rfl, HB6.out.trans (Held.below ((HH16.out.trans ((Keeps.refl [] w16).drewN.held (fun k hk => Nat.lt_of_lt_of_le (HL6.out.dom k hk) HH16.out.size) (by simp))).narrow (E := (· < B)) (fun k hk => HE.out.1 k hk)))⟩

set_option maxRecDepth 100000 in
theorem lifted (os : Os) (started : os.Started) (H : Type) (enc : TypeId × Value → H) :
    ReturnsInHanded {} Try.checked os 5 .any (Rows.dequeStealsSpec.pre6 enc Try.prog Try.f5 Rows.dequeStealsRow.domain false) (Rows.dequeStealsSpec.post enc Try.prog Try.f5 false true false false) := by
  refine returnsInHanded_of_change (C := Try.checked) own started (by kernel_rfl) Try.func5
    (ChangeSpec.witness6 (enc := enc) (C := Try.checked) false ⟨#[], #[.int .i64 0, .slice none 0 0, .slice none 0 0], []⟩ 8 (by kernel_rfl) (by kernel_rfl) (by kernel_rfl) (by kernel_rfl)) ?_
  intro W base args ds gs before hval0 hW hcnd _
  have hval : ∀ (j : Nat) t v, Try.f5.params[j]? = some t → args[j]? = some v → Value.okWide Try.prog W .any base t v := hval0
  have hW' := hW
  obtain ⟨p, q, hA0, hV, rfl, hfz, hnd⟩ := hW
  have hA : DataW.TrodAll enc Try.prog W 0 (fun _ => true) true Try.f5.params.toList args.toList ds p := hA0
  rw [Try.params5] at hA hval
  obtain ⟨v0, vs0, d0, ds0, q0, qs0, hargs, rfl, rfl, h0, r0⟩ := trodAll_cons hA
  obtain ⟨v1, vs1, d1, ds1, q1, qs1, rfl, rfl, rfl, h1, r1⟩ := trodAll_cons r0
  obtain ⟨v2, vs2, d2, ds2, q2, qs2, rfl, rfl, rfl, h2, r2⟩ := trodAll_cons r1
  obtain ⟨rfl, rfl, rfl⟩ := trodAll_nil r2
  obtain rfl : args = #[v0, v1, v2] := by cases args; simp_all
  obtain ⟨rfl, rfl⟩ := trodVars_none hV
  obtain ⟨a0, rfl, rfl, rfl, w0⟩ := open_int Try.underlying3 (hval 0 3 v0 rfl rfl) h0
  obtain ⟨p1, n1, c1, rfl⟩ := okWide_slice Try.underlying22 (hval 1 22 v1 rfl rfl)
  have k1 := h1
  have lt1 : ∀ x ∈ q1, x.block < W.heap.size := by obtain ⟨m, hm⟩ := k1; exact DataW.trod_lt m _ _ _ hm
  obtain ⟨z1, s1, m1, b1⟩ := (by obtain ⟨fu, hf⟩ := h1; exact sl_ints Try.underlying22 Try.underlying38 (by kernel_rfl) hf : ∃ zs : List Int, Sl W 1 (.slice p1 n1 c1) n1 (ints .u64 zs) ∧ n1 ≤ maxLen ∧ ∀ z ∈ zs, (Lit.int .u64 z).wf = true)
  have cc1 : n1 ≤ c1 ∧ c1 ≤ maxLen := by obtain ⟨fu, hf⟩ := h1; exact sl_caps Try.underlying22 Try.underlying38 (by kernel_rfl) hf
  obtain ⟨p2, n2, c2, rfl⟩ := okWide_slice Try.underlying39 (hval 2 39 v2 rfl rfl)
  have k2 := h2
  have lt2 : ∀ x ∈ q2, x.block < W.heap.size := by obtain ⟨m, hm⟩ := k2; exact DataW.trod_lt m _ _ _ hm
  obtain ⟨z2, s2, m2, b2⟩ := (by obtain ⟨fu, hf⟩ := h2; exact sl_ints Try.underlying39 Try.underlying5 (by kernel_rfl) hf : ∃ zs : List Int, Sl W 1 (.slice p2 n2 c2) n2 (ints .u8 zs) ∧ n2 ≤ maxLen ∧ ∀ z ∈ zs, (Lit.int .u8 z).wf = true)
  have cc2 : n2 ≤ c2 ∧ c2 ≤ maxLen := by obtain ⟨fu, hf⟩ := h2; exact sl_caps Try.underlying39 Try.underlying5 (by kernel_rfl) hf
  clear hA0 hval0
  simp only [List.append_nil] at hW'
  refine (walk a0 p1 n1 c1 z1 p2 n2 c2 z2 W w0 s1 m1 b1 cc1 s2 m2 b2 cc2).mono fun e W' ⟨he, bel⟩ => ?_
  subst he
  exact ⟨_, rfl, _, _, _, [], _, [], hW', trodAll_mk1 (shut_bool Try.underlying4 _), (trodAll_cons_mk (shut_int Try.underlying3 w0) (trodAll_cons_mk (Below.trod laidOut (by kernel_rfl) (of_decide_eq_true (by kernel_rfl)) k1 bel lt1) (trodAll_cons_mk (Below.trod laidOut (by kernel_rfl) (of_decide_eq_true (by kernel_rfl)) k2 bel lt2) trodAll_mk0))), rfl, bel.frame _, fun h => by cases h⟩

theorem proved : Rows.DequeStealsSaid :=
  OpenClaim.holds_of_wide 5 Try.f5 rfl rfl rfl rfl rfl rfl rfl ⟨rfl, rfl, rfl, rfl, rfl⟩ rfl rfl rfl rfl rfl (by kernel_rfl) Try.func5 (by kernel_rfl)
    (of_decide_eq_true (by kernel_rfl)) (by unfold Func.isWrapper; first | (rw [if_pos (by decide +kernel)]; kernel_rfl) | (rw [if_neg (by decide +kernel)]; exact ⟨rfl, rfl⟩))
    (fun os started H enc _ => lifted os started H enc)
#print axioms proved
end Go.Proofs.Ytdejgkjckhkihaa.dequeSteals
