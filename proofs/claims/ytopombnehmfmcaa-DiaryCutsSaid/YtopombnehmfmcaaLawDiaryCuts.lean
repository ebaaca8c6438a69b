/-
  The law DiaryCuts of the statements holds for every input: the call returns true, and the arguments read as before.
-/
import Derived.Test.YtopombnehmfmcaaDiO
import Derived.Test.YtopombnehmfmcaaDiE
import Derived.Test.YtopombnehmfmcaaDiF
import Derived.Deep.CutRange
import Derived.Deep.CutBlock
import Derived.Test.YtopombnehmfmcaaRows
import Derived.WalkKit
import Derived.ProofKit
import Derived.OpenShut
import Derived.ShutString
import Derived.ChangeOld
import Derived.Below
import Derived.Test.YtopombnehmfmcaaOpen
namespace Go.Proofs.Ytopombnehmfmcaa.diaryCuts
open Go.ChangeShapes Go.WideShapes Go.ChangeAt Go.RowKit
open Go.ChangeMaps (open_string shut_string)
set_option linter.unusedVariables false
set_option linter.unusedSimpArgs false

theorem own : ownKnob Try.prog.godebug = none := by kernel_rfl
theorem laidOut : laidOutB Try.prog = true := by kernel_rfl

theorem sl_take15 {w : World} {p : Option Addr} {n k c : Nat} {l : List DEv} (h : Sl w 10 (.slice p n c) n (evCells l)) (hn : l.length = n) (hk : k ≤ n) : Sl w 10 (.slice p k c) k (evCells (l.take k)) := by
  have hpre : ∀ j u, (evCells (l.take k))[j]? = some u → (evCells l)[j]? = some u := fun j u hu => by
    have : evCells l = evCells (l.take k) ++ evCells (l.drop k) := by rw [evCells, evCells, evCells, ← List.flatMap_append, List.take_append_drop]
    rw [this, List.getElem?_append_left (List.getElem?_eq_some_iff.1 hu).1]; exact hu
  refine ⟨by rw [evCells_len, List.length_take]; congr 1; omega, ?_⟩
  rcases h.2 with ⟨p', cap, h1, h2⟩ | ⟨b, off, cap, h1, h2, h3⟩
  · cases h1
    exact .inl ⟨_, _, by rw [show k = 0 by omega], by omega⟩
  · cases h1
    exact .inr ⟨b, off, _, rfl, h2, fun j u hu => h3 j u (hpre j u hu)⟩
theorem diCutCopies {n B C : Nat} {w w2 : World} {M L M2 L2 : List DSp} (h : DiCut n M2 M) (h1 : L.length = M.length) (c1 : ∀ i, i < L.length → Copied B w (M.getD i default) (L.getD i default)) (h2 : L2.length = M2.length) (c2 : ∀ i, i < L2.length → Copied C w2 (M2.getD i default) (L2.getD i default)) : DiCut n L2 L := by
  refine ⟨by rw [h1, h2]; exact h.len, fun i hi => ?_, fun i hi1 hi2 => ?_⟩
  · have hl := h.len
    have a := c1 i (by omega)
    have b := c2 i hi
    have := h.old i (by omega)
    rw [b.lo, b.hi, a.lo, a.hi]
    exact this
  · rw [(c1 i hi2).lo]
    exact h.new i (by omega) (by omega)
set_option maxRecDepth 100000 in
set_option maxHeartbeats 20000000 in
theorem walk (p0 : Option Addr) (n0 c0 : Nat) (z0 : List DEv) (m : Int) (w : World) (s0 : Sl w 10 (.slice p0 n0 c0) n0 (evCells z0)) (l0 : z0.length = n0) (m0 : n0 ≤ maxLen) (b0 : ∀ x ∈ z0, x.call.Op w ∧ x.res.Op w) (e0 : n0 ≤ c0 ∧ c0 ≤ maxLen) (f1 : (Lit.int .i64 m).wf = true) :
    Calls Try.prog 5 #[.slice p0 n0 c0, .int .i64 m] w fun e w' => e = .returned (.bool true) ∧ Below w.heap.size w w' := by
  subst l0
  unfold maxLen at m0 e0
  obtain ⟨e01, e02⟩ := e0
  have HAw := Lib.hid (awake15 w)
  have HF := Lib.hid (slFace s0)
  have HS0 := Lib.hid s0
  have HB0 := Lib.hid b0
  clear s0 b0
  go_enter Try.func5, Try.ntmps5
  go_wp2_with fail
  refine HAw.out.mono ?_
  rintro e w1 ⟨rfl, k1⟩
  have HK1 := Lib.hid k1
  clear k1 HAw
  by_cases h1 : 60 < z0.length
  · have h1' : decide ((z0.length : Int) > 60) = true := decide_eq_true (by omega)
    go_wp2
    go_ret
    exact ⟨rfl, HK1.out.end⟩
  have h1' : decide ((z0.length : Int) > 60) = false := decide_eq_false (by omega)
  by_cases h2 : m < 0
  · have h2' : decide (m < 0) = true := decide_eq_true h2
    go_wp2
    go_ret
    exact ⟨rfl, HK1.out.end⟩
  have h2' : decide (m < 0) = false := decide_eq_false h2
  by_cases h3 : (z0.length : Int) < m
  · have h3' : decide (m > (z0.length : Int)) = true := decide_eq_true h3
    go_wp2
    go_ret
    exact ⟨rfl, HK1.out.end⟩
  have h3' : decide (m > (z0.length : Int)) = false := decide_eq_false h3
  obtain ⟨cn, rfl⟩ : ∃ cn : Nat, m = (cn : Int) := ⟨m.toNat, by omega⟩
  have hcn : cn ≤ z0.length := by omega
  have hlen : z0.length ≤ 60 := by omega
  clear h1 h2 h3
  go_wp2
  clear h1' h2' h3'
  go_loopw [5] (fun i wr => ∃ k : Nat, k ≤ z0.length ∧ i = .int .i64 (k : Int) ∧ Hid (∀ j, j < k → ¬ 100 < (z0.getD j default).call.n ∧ ¬ 100 < (z0.getD j default).res.n) ∧ Keeps [] w wr) (fun i _ => z0.length - (intOf i).toNat)
  case atStart => exact ⟨0, Nat.zero_le _, rfl, Lib.hid (fun j hj => by omega), HK1.out⟩
  case round =>
    obtain ⟨k, hk, rfl, hno, hkp⟩ := hrel
    by_cases hlt : k < z0.length
    · rcases HF.out with h0 | ⟨b, off, hp, hbl, hc⟩
      · omega
      subst hp
      have hcx := EvsAt.cells (b := b) (off := off) hbl hc k hlt hkp
      obtain ⟨xc, hxc⟩ : ∃ xc, (z0.getD k default).call.n = xc := ⟨_, rfl⟩
      obtain ⟨xr, hxr⟩ : ∃ xr, (z0.getD k default).res.n = xr := ⟨_, rfl⟩
      have c6 := hcx 6 _ (by omega) rfl
      have c9 := hcx 9 _ (by omega) rfl
      rw [hxc] at c6
      rw [hxr] at c9
      rw [show off + k * 10 + 6 = off + k * 10 + 4 + 2 by omega] at c6
      rw [show off + k * 10 + 9 = off + k * 10 + 7 + 2 by omega] at c9
      have HK := Lib.hid hkp
      have HX := Lib.hid (And.intro hxc hxr)
      clear hbl hc hcx hkp hxc hxr
      by_cases h1 : 100 < xc
      · have h1' : decide ((xc : Int) > 100) = true := by simp; omega
        go_wp2
        go_ret
        exact ⟨rfl, HK.out.end⟩
      · have h1' : decide ((xc : Int) > 100) = false := by simp; omega
        by_cases h2 : 100 < xr
        · have h2' : decide ((xr : Int) > 100) = true := by simp; omega
          go_wp2
          go_ret
          exact ⟨rfl, HK.out.end⟩
        · have h2' : decide ((xr : Int) > 100) = false := by simp; omega
          go_wp2
          go_roundw
          case rel =>
            refine ⟨k + 1, by omega, by go_num, Lib.hid (fun j hj => ?_), HK.out⟩
            by_cases hjk : j = k
            · subst hjk; rw [HX.out.1, HX.out.2]; exact ⟨h1, h2⟩
            · exact hno.out j (by omega)
          case measure => simp [intOf]; omega
    · obtain rfl : k = z0.length := by omega
      have hev : EvsAt w (.slice p0 z0.length c0) z0 := ⟨HS0.out, fun x hx => by
        obtain ⟨i, hi, rfl⟩ := mem_getD z0 x hx
        have h1 := hno.out i hi
        have h2 := HB0.out _ hx
        exact ⟨⟨h2.1.1, by omega⟩, ⟨h2.2.1, by omega⟩⟩⟩
      have hevT : EvsAt w (.slice p0 cn c0) (z0.take cn) := ⟨by have := sl_take15 HS0.out rfl hcn; rw [List.length_take, Nat.min_eq_left hcn]; exact this, fun x hx => hev.at_ x (List.mem_of_mem_take hx)⟩
      have HRR := Lib.hid (fun W (kW : Keeps [] w W) => refRight _ z0 W (hev.keeps kW) (by omega))
      have HSp := Lib.hid (fun W (kW : Keeps [] w W) => diSpans_any _ z0 W (by omega) (hev.keeps kW))
      have hltk : (z0.take cn).length = cn := by rw [List.length_take]; omega
      have hSpT := fun W (kW : Keeps [] w W) => diSpans_any _ (z0.take cn) W (by omega) (hevT.keeps kW)
      have hRiT := fun W (kW : Keeps [] w W) => diRight_any _ (z0.take cn) W (by omega) (hevT.keeps kW)
      rw [hltk, rdAll_take z0 cn cn (Nat.le_refl _)] at hSpT hRiT
      have HK := Lib.hid hkp
      clear hno hkp hltk
      cases hrd : rdAll z0 z0.length with
      | none =>
        rw [hrd] at HRR
        clear hSpT hRiT hev hevT
        go_wp2_with fail
        refine (HRR.out _ HK.out).mono ?_
        rintro e w2 ⟨rfl, k2⟩
        go_wp2
        go_ret
        exact ⟨rfl, (HK.out.trans k2).end⟩
      | some S =>
        rw [hrd] at HRR HSp
        obtain ⟨s, hs, hcut⟩ := DiCut.all z0 cn (z0.length - cn) S (by rw [show cn + (z0.length - cn) = z0.length by omega]; exact hrd)
        rw [hs] at hSpT hRiT
        have HSpT := Lib.hid hSpT
        have HRiT := Lib.hid hRiT
        have HCut := Lib.hid hcut
        have HSl : Hid (S.sps.length ≤ 60 ∧ s.sps.length ≤ 60) := Lib.hid (by
          have a := (rdAll_some hrd).spans
          have b := (rdAll_some hs).spans
          have c := diBegins_len z0 z0.length
          have d := diBegins_len z0 cn
          rw [a, b]
          simp only [diSpans, List.length_map]
          omega)
        clear hSpT hRiT hev hevT hcut hs hrd
        go_wp2_with fail
        refine (HRR.out _ HK.out).mono ?_
        rintro e w2 ⟨rfl, k2⟩
        have HK2 := Lib.hid (HK.out.trans k2)
        clear k2
        go_wp2_with fail
        refine (HSp.out _ HK2.out).mono ?_
        rintro e w3 ⟨k3, sv, L, rfl, hL, hown, hcop⟩
        have HK3 := Lib.hid (HK2.out.trans k3)
        clear k3
        go_wp2_with fail
        refine (HSpT.out _ HK3.out).mono ?_
        rintro e w4 ⟨k4, sv2, L2, rfl, hL2, hown2, hcop2⟩
        have HK4 := Lib.hid (HK3.out.trans k4)
        have hCL := diCutCopies HCut.out hL hcop hL2 hcop2
        have hsp1 := (sps_of hown hL hcop).keeps k4
        have hsp2 := sps_of hown2 hL2 hcop2
        have hl1 : L.length ≤ 60 := by rw [hL]; exact HSl.out.1
        have hl2 : L2.length ≤ 60 := by rw [hL2]; exact HSl.out.2
        obtain ⟨q1, r1, rfl⟩ := hsp1.sl.len
        obtain ⟨q2, r2, rfl⟩ := hsp2.sl.len
        have HM1 := Lib.hid (fun W (kW : Keeps [] w4 W) => diMost_any _ L W (hsp1.keeps kW) (by omega))
        have HM2 := Lib.hid (fun W (kW : Keeps [] w4 W) => diMost_any _ L2 W (hsp2.keeps kW) (by omega))
        have HF1 := Lib.hid (slFace hsp1.sl)
        have HF2 := Lib.hid (slFace hsp2.sl)
        have hd1 : decide ((L2.length : Int) > (L.length : Int)) = false := decide_eq_false (by have := hCL.len; omega)
        have hd1' : L2.length ≤ L.length := hCL.len
        have hd1'' : ¬ L.length < L2.length := by omega
        obtain ⟨M1, hM1⟩ : ∃ M1, diMost L = M1 := ⟨_, rfl⟩
        obtain ⟨M2, hM2⟩ : ∃ M2, diMost L2 = M2 := ⟨_, rfl⟩
        have hd2 : decide ((M2 : Int) > (M1 : Int)) = false := decide_eq_false (by have := hCL.most; omega)
        have hd2' : M2 ≤ M1 := by have := hCL.most; omega
        have hd2'' : ¬ M1 < M2 := by omega
        rw [hM1] at HM1
        rw [hM2] at HM2
        have HCL := Lib.hid hCL
        clear k4 hown hcop hown2 hcop2 hL hL2 hCL hsp1 hsp2 hM1 hM2 HCut HSl HSp HSpT HRR HS0 HB0 HF
        go_wp2_with fail
        refine (HRiT.out _ HK4.out).mono ?_
        rintro e w5 ⟨rfl, k5⟩
        have HK5 := Lib.hid (HK4.out.trans k5)
        have R5 := Lib.hid k5
        clear k5
        go_wp2_with fail
        refine (HM2.out _ R5.out).mono ?_
        rintro e w6 ⟨rfl, k6⟩
        have HK6 := Lib.hid (HK5.out.trans k6)
        have R6 := Lib.hid (R5.out.trans k6)
        clear k6
        go_wp2_with fail
        refine (HM1.out _ R6.out).mono ?_
        rintro e w7 ⟨rfl, k7⟩
        have HK7 := Lib.hid (HK6.out.trans k7)
        have R7 := Lib.hid (R6.out.trans k7)
        clear k7 HK6 R6 HK5 R5 HM1 HM2 HRiT HK4 HK3 HK2 HK HK1
        go_wp2
        clear hd1 hd2
        go_loopw [10] (fun i wr => ∃ k : Nat, k ≤ L.length ∧ i = .int .i64 (k : Int) ∧ Keeps [] w7 wr) (fun i _ => L.length - (intOf i).toNat)
        case atStart => exact ⟨0, Nat.zero_le _, rfl, Keeps.refl _ _⟩
        case round =>
          obtain ⟨k, hk, rfl, hkp⟩ := hrel
          by_cases hlt : k < L.length
          · rcases HF1.out with h0 | ⟨b1, o1, hp1, hb1, hc1⟩
            · omega
            subst hp1
            obtain ⟨x, hx⟩ : ∃ x, L[k]? = some x := ⟨_, List.getElem?_eq_getElem hlt⟩
            have hxd : L.getD k default = x := by rw [List.getD_eq_getElem?_getD, hx]; rfl
            have hcx := SpsAt.cells (c := r1) hb1 hc1 k x hx (R7.out.trans hkp)
            have HKr := Lib.hid hkp
            have hnew := HCL.out.new k
            have hold := HCL.out.old k
            rw [hxd] at hnew hold
            obtain ⟨x1, x2, x3, x4, x5, x6⟩ := x
            simp only at hcx hnew hold
            have c2 := hcx 2 _ (by omega) rfl
            have c3 := hcx 3 _ (by omega) rfl
            by_cases hlt2 : k < L2.length
            · have hd3 : decide ((k : Int) < (L2.length : Int)) = true := decide_eq_true (by omega)
              rcases HF2.out with h0 | ⟨b2, o2, hp2, hb2, hc2⟩
              · omega
              subst hp2
              obtain ⟨y, hy⟩ : ∃ y, L2[k]? = some y := ⟨_, List.getElem?_eq_getElem hlt2⟩
              have hyd : L2.getD k default = y := by rw [List.getD_eq_getElem?_getD, hy]; rfl
              have hcy := SpsAt.cells (c := r2) hb2 hc2 k y hy (R7.out.trans hkp)
              have ho := hold hlt2
              rw [hyd] at ho
              obtain ⟨y1, y2, y3, y4, y5, y6⟩ := y
              simp only at hcy ho
              have e2 := hcy 2 _ (by omega) rfl
              have e3 := hcy 3 _ (by omega) rfl
              obtain ⟨g1, g2, g3, g4, g5⟩ := ho
              subst g1
              have hd4 : decide (y3 < (cn : Int)) = true := decide_eq_true g3
              have hd5 : (y3 != y3) = false := by simp
              clear hb1 hc1 hb2 hc2 hx hxd hy hyd hcx hcy hnew hold hkp
              rcases g5 with g5 | ⟨g5, g6⟩
              · subst g5
                have hd9 : (y4 != y4) = false := by simp
                by_cases hy0 : 0 ≤ y4
                · have hd6 : decide (y4 ≥ 0) = true := decide_eq_true hy0
                  have hd7 : decide (y4 < (cn : Int)) = true := decide_eq_true g4
                  go_wp2
                  go_quiet (fail)
                  go_wp2
                  go_roundw
                  case rel => exact ⟨k + 1, by omega, by go_num, by first | exact HKr.out.drewN | exact HKr.out⟩
                  case measure => simp [intOf]; omega
                · have hd6 : decide (y4 ≥ 0) = false := decide_eq_false hy0
                  go_wp2
                  go_quiet (fail)
                  go_wp2
                  go_roundw
                  case rel => exact ⟨k + 1, by omega, by go_num, by first | exact HKr.out.drewN | exact HKr.out⟩
                  case measure => simp [intOf]; omega
              · have hd6 : decide (y4 ≥ 0) = false := decide_eq_false (by omega)
                have hd7 : decide (x4 ≥ 0) = true := decide_eq_true (by omega)
                have hd8 : decide (x4 < (cn : Int)) = false := decide_eq_false (by omega)
                go_wp2
                go_quiet (fail)
                go_wp2
                go_roundw
                case rel => exact ⟨k + 1, by omega, by go_num, by first | exact HKr.out.drewN | exact HKr.out⟩
                case measure => simp [intOf]; omega
            · have hd3 : decide ((k : Int) < (L2.length : Int)) = false := decide_eq_false (by omega)
              have hd4 : decide (x3 < (cn : Int)) = false := decide_eq_false (by have := hnew (by omega) hlt; omega)
              clear hb1 hc1 hx hxd hcx hnew hold hkp
              go_wp2
              go_quiet (fail)
              go_wp2
              go_roundw
              case rel => exact ⟨k + 1, by omega, by go_num, by first | exact HKr.out.drewN | exact HKr.out⟩
              case measure => simp [intOf]; omega
          · obtain rfl : k = L.length := by omega
            have HKr := Lib.hid hkp
            clear hkp
            go_wp2
            go_ret
            exact ⟨rfl, (HK7.out.trans HKr.out).end⟩

set_option maxRecDepth 100000 in
theorem lifted (os : Os) (started : os.Started) (H : Type) (enc : TypeId × Value → H) :
    ReturnsInHanded {} Try.checked os 5 .any (Rows.diaryCutsSpec.pre6 enc Try.prog Try.f5 Rows.diaryCutsRow.domain false) (Rows.diaryCutsSpec.post enc Try.prog Try.f5 false true false false) := by
  refine returnsInHanded_of_change (C := Try.checked) own started (by kernel_rfl) Try.func5
    (ChangeSpec.witness6 (enc := enc) (C := Try.checked) false ⟨#[], #[.slice none 0 0, .int .i64 0], []⟩ 8 (by kernel_rfl) (by kernel_rfl) (by kernel_rfl) (by kernel_rfl)) ?_
  intro W base args ds gs before hval0 hW hcnd _
  have hval : ∀ (j : Nat) t v, Try.f5.params[j]? = some t → args[j]? = some v → Value.okWide Try.prog W .any base t v := hval0
  have hW' := hW
  obtain ⟨p, q, hA0, hV, rfl, hfz, hnd⟩ := hW
  have hA : DataW.TrodAll enc Try.prog W 0 (fun _ => true) true Try.f5.params.toList args.toList ds p := hA0
  rw [Try.params5] at hA hval
  obtain ⟨v0, vs0, d0, ds0, q0, qs0, hargs, rfl, rfl, h0, r0⟩ := trodAll_cons hA
  obtain ⟨v1, vs1, d1, ds1, q1, qs1, rfl, rfl, rfl, h1, r1⟩ := trodAll_cons r0
  obtain ⟨rfl, rfl, rfl⟩ := trodAll_nil r1
  obtain rfl : args = #[v0, v1] := by cases args; simp_all
  obtain ⟨rfl, rfl⟩ := trodVars_none hV
  obtain ⟨p0, n0, c0, rfl⟩ := okWide_slice Try.underlying22 (hval 0 22 v0 rfl rfl)
  have k0 := h0
  have lt0 : ∀ x ∈ q0, x.block < W.heap.size := by obtain ⟨m, hm⟩ := k0; exact DataW.trod_lt m _ _ _ hm
  obtain ⟨z0, s0, l0, m0, b0, e0⟩ := (by obtain ⟨fu, hf⟩ := h0; exact ev_open Try.underlying22 hf : ∃ xs : List DEv, Sl W 10 (.slice p0 n0 c0) n0 (evCells xs) ∧ xs.length = n0 ∧ n0 ≤ maxLen ∧ (∀ x ∈ xs, x.call.Op W ∧ x.res.Op W) ∧ n0 ≤ c0 ∧ c0 ≤ maxLen)
  obtain ⟨a1, rfl, rfl, rfl, w1⟩ := open_int Try.underlying3 (hval 1 3 v1 rfl rfl) h1
  clear hA0 hval0
  simp only [List.append_nil] at hW'
  refine (walk p0 n0 c0 z0 a1 W s0 l0 m0 b0 e0 w1).mono fun e W' ⟨he, bel⟩ => ?_
  subst he
  exact ⟨_, rfl, _, _, _, [], _, [], hW', trodAll_mk1 (shut_bool Try.underlying4 _), (trodAll_cons_mk (Below.trod laidOut (by kernel_rfl) (of_decide_eq_true (by kernel_rfl)) k0 bel lt0) (trodAll_cons_mk (shut_int Try.underlying3 w1) trodAll_mk0)), rfl, bel.frame _, fun h => by cases h⟩

theorem proved : Rows.DiaryCutsSaid :=
  OpenClaim.holds_of_wide 5 Try.f5 rfl rfl rfl rfl rfl rfl rfl ⟨rfl, rfl, rfl, rfl, rfl⟩ rfl rfl rfl rfl rfl (by kernel_rfl) Try.func5 (by kernel_rfl)
    (of_decide_eq_true (by kernel_rfl)) (by unfold Func.isWrapper; first | (rw [if_pos (by decide +kernel)]; kernel_rfl) | (rw [if_neg (by decide +kernel)]; exact ⟨rfl, rfl⟩))
    (fun os started H enc _ => lifted os started H enc)
#print axioms proved
end Go.Proofs.Ytopombnehmfmcaa.diaryCuts
