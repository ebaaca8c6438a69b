/-
  The law DiarySpans of the statements holds for every input: the call returns true, and the arguments read as before.
-/
import Derived.Test.YtopombnehmfmcaaDiO
import Derived.Test.YtopombnehmfmcaaDiE
import Derived.Test.YtopombnehmfmcaaDiD
import Derived.Test.YtopombnehmfmcaaDiG
import Derived.Deep.CutRange
import Derived.Deep.CutBlock
import Derived.Test.YtopombnehmfmcaaRows
import Derived.WalkKit
import Derived.ProofKit
import Derived.OpenShut
import Derived.ShutString
import Derived.ChangeOld
import Derived.Below
import Derived.Test.YtopombnehmfmcaaOpen
namespace Go.Proofs.Ytopombnehmfmcaa.diarySpans
open Go.ChangeShapes Go.WideShapes Go.ChangeAt Go.RowKit
open Go.ChangeMaps (open_string shut_string)
set_option linter.unusedVariables false
set_option linter.unusedSimpArgs false

theorem own : ownKnob Try.prog.godebug = none := by kernel_rfl
theorem laidOut : laidOutB Try.prog = true := by kernel_rfl

/-- Each told list is a row of the call's own. -/
def Rows15 (B : Nat) (w : World) (L : List DSp) : Prop := ∀ i, i < L.length →
  (∃ zs, w.ownsRow B 3 1 (.slice (L.getD i default).call.p (L.getD i default).call.n (L.getD i default).call.c) (L.getD i default).call.n (ints .i64 zs)) ∧
  ∃ zs, w.ownsRow B 24 1 (.slice (L.getD i default).res.p (L.getD i default).res.n (L.getD i default).res.c) (L.getD i default).res.n (ints .u64 zs)
theorem Rows15.keeps {B : Nat} {w w' : World} {L : List DSp} (h : Rows15 B w L) (k : Keeps [] w w') : Rows15 B w' L := fun i hi => by
  obtain ⟨⟨zs, h1⟩, us, h2⟩ := h i hi
  exact ⟨⟨zs, diOwnsKeeps h1 k (by simp)⟩, us, diOwnsKeeps h2 k (by simp)⟩
theorem owns_put {w : World} {B g n : Nat} {e : TypeId} {v : Value} {xs : List Value} (h : w.ownsRow B e 1 v n xs) (hg : v.ownBlock = some g) (j : Nat) (u : Value) : (w.setCell ⟨g, j, none⟩ u).ownsRow B e 1 v n (xs.set j u) := by
  have hl := h.1
  rcases h.2 with ⟨h1, _⟩ | ⟨g', cap', cur, h1, hb, hh, hnc, hcm, hcs, htake⟩
  · subst h1; cases hg
  · subst h1
    simp [Value.ownBlock] at hg
    subst hg
    refine ⟨by simpa using hl, .inr ⟨_, cap', cur.setIfInBounds j u, rfl, hb, ?_, hnc, hcm, by simpa using hcs, ?_⟩⟩
    · have hlt := (Array.getElem?_eq_some_iff.1 hh).1
      have hv := (Array.getElem?_eq_some_iff.1 hh).2
      simp only [World.setCell]
      rw [Array.getElem?_eq_getElem (by simpa using hlt), Array.getElem_modify]
      simp [hv]
    · rw [Array.toList_setIfInBounds, List.take_set, htake]
theorem ints_set (k : IntKind) (zs : List Int) (j : Nat) (z : Int) : (ints k zs).set j (.int k z) = ints k (zs.set j z) := by simp [ints, List.map_set]
theorem rows_put {w : World} {B g n j : Nat} {k : IntKind} {e e' : TypeId} {v v' : Value} {n' : Nat} {zs us : List Int} {z : Int} (h : w.ownsRow B e 1 v n (ints k zs)) (ht : w.ownsRow B e' 1 v' n' (ints k us)) (hg : v'.ownBlock = some g) (he : e = e') :
    ∃ zs', (w.setCell ⟨g, j, none⟩ (.int k z)).ownsRow B e 1 v n (ints k zs') := by
  by_cases hv : v.ownBlock = some g
  · have := owns_put h hv j (.int k z)
    rw [ints_set] at this
    exact ⟨_, this⟩
  · exact ⟨zs, diOwnsKeeps h ((Keeps.refl [g] w).put (by simp) j _) (fun g' hg' hm => by rw [List.mem_singleton] at hm; subst hm; exact hv hg')⟩
/-- A number of one of the lists is written. -/
theorem Rows15.putI {B g n j : Nat} {w : World} {L : List DSp} {v : Value} {us : List Int} (h : Rows15 B w L) (ht : w.ownsRow B 3 1 v n (ints .i64 us)) (hg : v.ownBlock = some g) (z : Int) : Rows15 B (w.setCell ⟨g, j, none⟩ (.int .i64 z)) L := fun i hi => by
  obtain ⟨⟨zs, h1⟩, ys, h2⟩ := h i hi
  exact ⟨rows_put h1 ht hg rfl, ys, diOwnsKeeps h2 ((Keeps.refl [g] w).put (by simp) j _) (fun g' hg' hm => by rw [List.mem_singleton] at hm; subst hm; exact owns_ne h2 ht (by decide) hg' hg)⟩
theorem Rows15.putU {B g n j : Nat} {w : World} {L : List DSp} {v : Value} {us : List Int} (h : Rows15 B w L) (ht : w.ownsRow B 24 1 v n (ints .u64 us)) (hg : v.ownBlock = some g) (z : Int) : Rows15 B (w.setCell ⟨g, j, none⟩ (.int .u64 z)) L := fun i hi => by
  obtain ⟨⟨zs, h1⟩, ys, h2⟩ := h i hi
  exact ⟨⟨zs, diOwnsKeeps h1 ((Keeps.refl [g] w).put (by simp) j _) (fun g' hg' hm => by rw [List.mem_singleton] at hm; subst hm; exact owns_ne h1 ht (by decide) hg' hg)⟩, rows_put h2 ht hg rfl⟩
theorem Rows15.drew {B : Nat} {w : World} {L : List DSp} (h : Rows15 B w L) : Rows15 B w.drew L := h.keeps (Keeps.refl [] w).drew
theorem Rows15.atI {B : Nat} {w : World} {L : List DSp} (h : Rows15 B w L) (k : Nat) (x : DSp) (hx : L.getD k default = x) (hk : k < L.length) (kk : Nat) (hkk : kk < x.call.n) :
    ∃ b z, x.call.p = some ⟨b, 0, none⟩ ∧ B ≤ b ∧ w.cell? ⟨b, kk, none⟩ = some (.int .i64 z) ∧ w.frozen? ⟨b, kk, none⟩ = false ∧ (∀ z', Rows15 B (w.setCell ⟨b, kk, none⟩ (.int .i64 z')) L) ∧ ∀ (v : Value) (n : Nat) (xs : List Value), w.ownsRow B 41 10 v n xs → v.ownBlock ≠ some b := by
  have hr := (h k hk).1
  rw [hx] at hr
  obtain ⟨zs, ho⟩ := hr
  have hzl : zs.length = x.call.n := by have := ho.1; rw [ints_length] at this; omega
  rcases ho.2 with ⟨h1, h2⟩ | ⟨b, cap, cur, h1, hb, _⟩
  · omega
  · have hrow : Row w b 3 (ints .i64 zs) := by rw [h1] at ho; exact Row.of_owns ho
    have hp : x.call.p = some ⟨b, 0, none⟩ := by cases h1' : x.call.p <;> rw [h1'] at h1 <;> simp at h1; rw [h1.1]
    refine ⟨b, zs.getD kk 0, hp, hb, hrow.cell (ints_at (by omega)), hrow.frozen kk, fun z' => h.putI ho (by rw [hp]; rfl) z', fun v n xs hv hvb => ?_⟩
    exact owns_ne hv ho (by decide) hvb (by rw [hp]; rfl)
theorem Rows15.atU {B : Nat} {w : World} {L : List DSp} (h : Rows15 B w L) (k : Nat) (x : DSp) (hx : L.getD k default = x) (hk : k < L.length) (kk : Nat) (hkk : kk < x.res.n) :
    ∃ b z, x.res.p = some ⟨b, 0, none⟩ ∧ B ≤ b ∧ w.cell? ⟨b, kk, none⟩ = some (.int .u64 z) ∧ w.frozen? ⟨b, kk, none⟩ = false ∧ (∀ z', Rows15 B (w.setCell ⟨b, kk, none⟩ (.int .u64 z')) L) ∧ ∀ (v : Value) (n : Nat) (xs : List Value), w.ownsRow B 41 10 v n xs → v.ownBlock ≠ some b := by
  have hr := (h k hk).2
  rw [hx] at hr
  obtain ⟨zs, ho⟩ := hr
  have hzl : zs.length = x.res.n := by have := ho.1; rw [ints_length] at this; omega
  rcases ho.2 with ⟨h1, h2⟩ | ⟨b, cap, cur, h1, hb, _⟩
  · omega
  · have hrow : Row w b 24 (ints .u64 zs) := by rw [h1] at ho; exact Row.of_owns ho
    have hp : x.res.p = some ⟨b, 0, none⟩ := by cases h1' : x.res.p <;> rw [h1'] at h1 <;> simp at h1; rw [h1.1]
    refine ⟨b, zs.getD kk 0, hp, hb, hrow.cell (ints_at (by omega)), hrow.frozen kk, fun z' => h.putU ho (by rw [hp]; rfl) z', fun v n xs hv hvb => ?_⟩
    exact owns_ne hv ho (by decide) hvb (by rw [hp]; rfl)
theorem DSp.same_me (s : DSp) : s.same s = true := by simp [DSp.same, DCall.same, DRes.same]
set_option maxRecDepth 100000 in
set_option maxHeartbeats 20000000 in
theorem walk (p0 : Option Addr) (n0 c0 : Nat) (z0 : List DEv) (w : World) (s0 : Sl w 10 (.slice p0 n0 c0) n0 (evCells z0)) (l0 : z0.length = n0) (m0 : n0 ≤ maxLen) (b0 : ∀ x ∈ z0, x.call.Op w ∧ x.res.Op w) (e0 : n0 ≤ c0 ∧ c0 ≤ maxLen) :
    Calls Try.prog 3 #[.slice p0 n0 c0] w fun e w' => e = .returned (.bool true) ∧ Below w.heap.size w w' := by
  subst l0
  unfold maxLen at m0 e0
  have HAw := Lib.hid (awake15 w)
  have HF := Lib.hid (slFace s0)
  have HS0 := Lib.hid s0
  have HB0 := Lib.hid b0
  clear s0 b0
  go_enter Try.func3, Try.ntmps3
  go_wp2_with fail
  refine HAw.out.mono ?_
  rintro e w1 ⟨rfl, k1⟩
  have HK1 := Lib.hid k1
  clear k1 HAw
  by_cases h1 : 200 < z0.length
  · have h1' : decide ((z0.length : Int) > 200) = true := decide_eq_true (by omega)
    go_wp2
    go_ret
    exact ⟨rfl, HK1.out.end⟩
  have h1' : decide ((z0.length : Int) > 200) = false := decide_eq_false (by omega)
  have hlen : z0.length ≤ 200 := by omega
  clear h1
  go_wp2
  clear h1'
  go_loopw [3] (fun i wr => ∃ k : Nat, k ≤ z0.length ∧ i = .int .i64 (k : Int) ∧ Hid (∀ j, j < k → ¬ 100 < (z0.getD j default).call.n ∧ ¬ 100 < (z0.getD j default).res.n) ∧ Keeps [] w wr) (fun i _ => z0.length - (intOf i).toNat)
  case atStart => exact ⟨0, Nat.zero_le _, rfl, Lib.hid (fun j hj => by omega), HK1.out⟩
  case round =>
    obtain ⟨k, hk, rfl, hno, hkp⟩ := hrel
    by_cases hlt : k < z0.length
    · rcases HF.out with h0 | ⟨b, off, hp, hbl, hc⟩
      · omega
      subst hp
      have hcx := EvsAt.cells (b := b) (off := off) hbl hc k hlt hkp
      obtain ⟨xc, hxc⟩ : ∃ xc, (z0.getD k default).call.n = xc := ⟨_, rfl⟩
      obtain ⟨xr, hxr⟩ : ∃ xr, (z0.getD k default).res.n = xr := ⟨_, rfl⟩
      have c6 := hcx 6 _ (by omega) rfl
      have c9 := hcx 9 _ (by omega) rfl
      rw [hxc] at c6
      rw [hxr] at c9
      rw [show off + k * 10 + 6 = off + k * 10 + 4 + 2 by omega] at c6
      rw [show off + k * 10 + 9 = off + k * 10 + 7 + 2 by omega] at c9
      have HK := Lib.hid hkp
      have HX := Lib.hid (And.intro hxc hxr)
      clear hbl hc hcx hkp hxc hxr
      by_cases h1 : 100 < xc
      · have h1' : decide ((xc : Int) > 100) = true := by simp; omega
        go_wp2
        go_ret
        exact ⟨rfl, HK.out.end⟩
      · have h1' : decide ((xc : Int) > 100) = false := by simp; omega
        by_cases h2 : 100 < xr
        · have h2' : decide ((xr : Int) > 100) = true := by simp; omega
          go_wp2
          go_ret
          exact ⟨rfl, HK.out.end⟩
        · have h2' : decide ((xr : Int) > 100) = false := by simp; omega
          go_wp2
          go_roundw
          case rel =>
            refine ⟨k + 1, by omega, by go_num, Lib.hid (fun j hj => ?_), HK.out⟩
            by_cases hjk : j = k
            · subst hjk; rw [HX.out.1, HX.out.2]; exact ⟨h1, h2⟩
            · exact hno.out j (by omega)
          case measure => simp [intOf]; omega
    · obtain rfl : k = z0.length := by omega
      have hev : EvsAt w (.slice p0 z0.length c0) z0 := ⟨HS0.out, fun x hx => by
        obtain ⟨i, hi, rfl⟩ := mem_getD z0 x hx
        have h1 := hno.out i hi
        have h2 := HB0.out _ hx
        exact ⟨⟨h2.1.1, by omega⟩, ⟨h2.2.1, by omega⟩⟩⟩
      have HRR := Lib.hid (fun W (kW : Keeps [] w W) => refRight _ z0 W (hev.keeps kW) (by omega))
      have HRi := Lib.hid (fun W (kW : Keeps [] w W) => diRight_any _ z0 W (by omega) (hev.keeps kW))
      have HSp := Lib.hid (fun W (kW : Keeps [] w W) => diSpans_any _ z0 W (by omega) (hev.keeps kW))
      have HRs := Lib.hid (fun W (kW : Keeps [] w W) => refSpans _ z0 W (hev.keeps kW) (by omega))
      have HAt := Lib.hid (fun W (kW : Keeps [] w W) => diSpans_at (hev.keeps kW))
      have HK := Lib.hid hkp
      clear hno hkp hev
      cases hrd : rdAll z0 z0.length with
      | none =>
        rw [hrd] at HRR HRi HSp
        go_wp2_with fail
        refine (HSp.out _ HK.out).mono ?_
        rintro e w2 ⟨k2, rfl⟩
        have HK2 := Lib.hid (HK.out.trans k2)
        clear k2
        go_wp2_with fail
        refine (HRi.out _ HK2.out).mono ?_
        rintro e w3 ⟨rfl, k3⟩
        have HK3 := Lib.hid (HK2.out.trans k3)
        clear k3
        go_wp2_with fail
        refine (HRR.out _ HK3.out).mono ?_
        rintro e w4 ⟨rfl, k4⟩
        have HK4 := Lib.hid (HK3.out.trans k4)
        clear k4
        go_wp2_with fail
        refine (HRR.out _ HK4.out).mono ?_
        rintro e w5 ⟨rfl, k5⟩
        go_wp2
        go_ret
        exact ⟨rfl, (HK4.out.trans k5).end⟩
      | some S =>
        rw [hrd] at HRR HRi HSp
        have hS := (rdAll_some hrd).spans
        have hSl : S.sps.length ≤ 200 := by rw [hS]; have := diBegins_len z0 z0.length; simp only [diSpans, List.length_map]; omega
        rw [← hS] at HRs HAt
        clear hS hrd
        have HSame := Lib.hid (fun W (kW : Keeps [] w W) (va vb : Value) (L : List DSp) (B C : Nat) (ho : W.ownsRow B 41 10 va L.length (spCells L)) (hl : L.length = S.sps.length) (hc : ∀ i, i < L.length → Copied C W (S.sps.getD i default) (L.getD i default)) (D : Nat) (hb : W.ownsRow D 41 10 vb S.sps.length (spCells S.sps)) =>
          refSameSpans va vb L S.sps W (sps_of ho hl hc) ⟨Sl.of_owns hb, HAt.out W kW⟩ (by omega) hl (fun j hj => by rw [(hc j hj).same]; exact DSp.same_me _))
        go_wp2_with fail
        refine (HSp.out _ HK.out).mono ?_
        rintro e w2 ⟨k2, sv, L, rfl, hL, hown, hcop⟩
        obtain ⟨q, r, rfl⟩ := (Sl.of_owns hown).len
        have HLn := Lib.hid hL
        have hL2 : L.length ≤ 200 := by omega
        have HK2 := Lib.hid (HK.out.trans k2)
        have HO2 := Lib.hid hown
        have HC2 := Lib.hid hcop
        have sz2 := HK.out.size
        clear k2 hown hcop hL
        go_wp2_with fail
        refine (HRi.out _ HK2.out).mono ?_
        rintro e w3 ⟨rfl, k3⟩
        have HK3 := Lib.hid (HK2.out.trans k3)
        have R3 := Lib.hid k3
        clear k3
        go_wp2_with fail
        refine (HRR.out _ HK3.out).mono ?_
        rintro e w4 ⟨rfl, k4⟩
        have HK4 := Lib.hid (HK3.out.trans k4)
        have R4 := Lib.hid (R3.out.trans k4)
        clear k4
        go_wp2_with fail
        refine (HRR.out _ HK4.out).mono ?_
        rintro e w5 ⟨rfl, k5⟩
        have HK5 := Lib.hid (HK4.out.trans k5)
        have R5 := Lib.hid (R4.out.trans k5)
        clear k5
        go_wp2_with fail
        refine (HRs.out _ HK5.out).mono ?_
        rintro e w6 ⟨vb, rfl, hown6, k6⟩
        have HK6 := Lib.hid (HK5.out.trans k6)
        have R6 := Lib.hid (R5.out.trans k6)
        have HS6 := Lib.hid (HSame.out w6 HK6.out _ _ L _ _ (diOwnsKeeps HO2.out R6.out (by simp)) HLn.out (fun i hi => (HC2.out i hi).keeps R6.out (by simp) (by simp)) _ hown6)
        clear k6 hown6
        go_wp2_with fail
        refine HS6.out.mono ?_
        rintro e w7 ⟨rfl, k7⟩
        have HK7 := Lib.hid (HK6.out.trans k7)
        have R7 := Lib.hid (R6.out.trans k7)
        clear k7 HK3 HK4 HK5 HK6 R3 R4 R5 R6 HS6 HRR HRi
        have hrows : Rows15 wr.heap.size w7 L := fun i hi => by
          have h := (HC2.out i hi).keeps R7.out (by simp) (by simp)
          exact ⟨⟨_, h.own1⟩, _, h.own2⟩
        have HRw := Lib.hid hrows
        have HO7 := Lib.hid (diOwnsKeeps HO2.out R7.out (by simp))
        obtain ⟨B, hB⟩ : ∃ B, wr.heap.size = B := ⟨_, rfl⟩
        rw [hB] at HRw HO7 sz2
        have HN := Lib.hid (fun i (hi : i < L.length) => And.intro (HC2.out i hi).n1 (HC2.out i hi).n2)
        clear hrows hB HO2 HC2 R7
        have HSame2 := HSame
        clear HSame
        go_wp2
        go_loopw [6] (fun i wr2 => ∃ k : Nat, k ≤ L.length ∧ i = .int .i64 (k : Int) ∧ Rows15 B wr2 L ∧ wr2.ownsRow B 41 10 (.slice q L.length r) L.length (spCells L) ∧ Keeps [] w wr2) (fun i _ => L.length - (intOf i).toNat)
        case atStart => exact ⟨0, Nat.zero_le _, rfl, HRw.out, HO7.out, HK7.out⟩
        case round =>
          obtain ⟨k, hk, rfl, hrw, hown, hkp⟩ := hrel
          by_cases hlt : k < L.length
          · obtain ⟨x, hx⟩ : ∃ x, L[k]? = some x := ⟨_, List.getElem?_eq_getElem hlt⟩
            have hxd : L.getD k default = x := by rw [List.getD_eq_getElem?_getD, hx]; rfl
            have hxn : x.call.n ≤ 1000000 ∧ x.res.n ≤ 1000000 := by rw [← hxd]; exact ⟨(HN.out k hlt).1, (HN.out k hlt).2⟩
            obtain ⟨hxn1, hxn2⟩ := hxn
            obtain ⟨g, hq⟩ : ∃ g, q = some ⟨g, 0, none⟩ := by
              rcases hown.2 with ⟨_, h2⟩ | ⟨g, cap, cur, h1, _⟩
              · omega
              · cases h1; exact ⟨g, rfl⟩
            subst hq
            have HRw2 := Lib.hid hrw
            have HO := Lib.hid hown
            have HKr := Lib.hid hkp
            clear hrw hown hkp
            go_wp2
            go_loopw [7] (fun i wr3 => ∃ kk : Nat, kk ≤ x.call.n ∧ i = .int .i64 (kk : Int) ∧ Rows15 B wr3 L ∧ wr3.ownsRow B 41 10 (.slice (some ⟨g, 0, none⟩) L.length r) L.length (spCells L) ∧ Keeps [] w wr3) (fun i _ => x.call.n - (intOf i).toNat)
            case atStart => exact ⟨0, Nat.zero_le _, rfl, HRw2.out, HO.out, HKr.out⟩
            case round =>
              obtain ⟨kk, hkk, rfl, hrw, hown, hkp⟩ := hrel
              have c6 := (Row.of_owns hown).cell ((sp_at L k 6 x hx (by omega)).trans rfl)
              rw [show k * 10 + 6 = k * 10 + 4 + 2 by omega] at c6
              by_cases hlt3 : kk < x.call.n
              · obtain ⟨b, z, hbp, hbB, cz, fz, hput, hne⟩ := hrw.atI k x hxd hlt kk hlt3
                rw [hbp] at c6
                have HP := Lib.hid hput
                have HNe := Lib.hid (hne _ _ _ hown)
                have HO3 := Lib.hid hown
                have HK3 := Lib.hid hkp
                clear hput hne hown hkp hrw
                go_wp2
                go_region
                go_wp2
                go_roundw
                case rel =>
                  refine ⟨kk + 1, by omega, by go_num, ?_, ?_, ?_⟩
                  · first | exact HP.out _ | exact (HP.out _).drew
                  · have hh := fun z' => diOwnsKeeps HO3.out ((Keeps.refl [b] _).put (List.mem_singleton.2 rfl : b ∈ [b]) kk z') (fun g' hg hm => by rw [List.mem_singleton] at hm; subst hm; exact HNe.out hg)
                    first | exact hh _ | exact diOwnsKeeps (hh _) (Keeps.refl [] _).drew (by simp)
                  · have hh := fun z' => HK3.out.step ((Keeps.refl [b] _).put (List.mem_singleton.2 rfl : b ∈ [b]) kk z') (fun g' hg => by rw [List.mem_singleton] at hg; subst hg; omega)
                    first | exact hh _ | exact (hh _).drew
                case measure => simp [intOf]; omega
              · obtain rfl : kk = x.call.n := by omega
                have HR3 := Lib.hid hrw
                have HO3 := Lib.hid hown
                have HK3 := Lib.hid hkp
                clear hrw hown hkp
                go_wp2
                go_loopw [8] (fun i wr3 => ∃ kk : Nat, kk ≤ x.res.n ∧ i = .int .i64 (kk : Int) ∧ Rows15 B wr3 L ∧ wr3.ownsRow B 41 10 (.slice (some ⟨g, 0, none⟩) L.length r) L.length (spCells L) ∧ Keeps [] w wr3) (fun i _ => x.res.n - (intOf i).toNat)
                case atStart => exact ⟨0, Nat.zero_le _, rfl, HR3.out, HO3.out, HK3.out⟩
                case round =>
                  obtain ⟨kk, hkk, rfl, hrw, hown, hkp⟩ := hrel
                  have c6 := (Row.of_owns hown).cell ((sp_at L k 9 x hx (by omega)).trans rfl)
                  rw [show k * 10 + 9 = k * 10 + 7 + 2 by omega] at c6
                  by_cases hlt3 : kk < x.res.n
                  · obtain ⟨b, z, hbp, hbB, cz, fz, hput, hne⟩ := hrw.atU k x hxd hlt kk hlt3
                    rw [hbp] at c6
                    have HP := Lib.hid hput
                    have HNe := Lib.hid (hne _ _ _ hown)
                    have HO3 := Lib.hid hown
                    have HK3 := Lib.hid hkp
                    clear hput hne hown hkp hrw
                    go_wp2
                    go_region
                    go_wp2
                    go_roundw
                    case rel =>
                      refine ⟨kk + 1, by omega, by go_num, ?_, ?_, ?_⟩
                      · first | exact HP.out _ | exact (HP.out _).drew
                      · have hh := fun z' => diOwnsKeeps HO3.out ((Keeps.refl [b] _).put (List.mem_singleton.2 rfl : b ∈ [b]) kk z') (fun g' hg hm => by rw [List.mem_singleton] at hm; subst hm; exact HNe.out hg)
                        first | exact hh _ | exact diOwnsKeeps (hh _) (Keeps.refl [] _).drew (by simp)
                      · have hh := fun z' => HK3.out.step ((Keeps.refl [b] _).put (List.mem_singleton.2 rfl : b ∈ [b]) kk z') (fun g' hg => by rw [List.mem_singleton] at hg; subst hg; omega)
                        first | exact hh _ | exact (hh _).drew
                    case measure => simp [intOf]; omega
                  · obtain rfl : kk = x.res.n := by omega
                    have HR3 := Lib.hid hrw
                    have HO3 := Lib.hid hown
                    have HK3 := Lib.hid hkp
                    clear hrw hown hkp
                    go_wp2
                    go_roundw
                    case rel => exact ⟨k + 1, by omega, by go_num, HR3.out, HO3.out, HK3.out⟩
                    case measure => simp [intOf]; omega
          · obtain rfl : k = L.length := by omega
            have HKr := Lib.hid hkp
            clear hrw hown hkp
            go_wp2_with fail
            refine (HSp.out _ HKr.out).mono ?_
            rintro e w8 ⟨k8, sv', L', rfl, hL', hown', hcop'⟩
            obtain ⟨q', r', rfl⟩ := (Sl.of_owns hown').len
            have HK8 := Lib.hid (HKr.out.trans k8)
            have HO8 := Lib.hid hown'
            have HC8 := Lib.hid hcop'
            have HL8 := Lib.hid hL'
            clear k8 hown' hcop' hL'
            go_wp2_with fail
            refine (HRs.out _ HK8.out).mono ?_
            rintro e w9 ⟨vb', rfl, hown9, k9⟩
            have HK9 := Lib.hid (HK8.out.trans k9)
            have HS9 := Lib.hid (HSame2.out w9 HK9.out _ _ L' _ _ (diOwnsKeeps HO8.out k9 (by simp)) HL8.out (fun i hi => (HC8.out i hi).keeps k9 (by simp) (by simp)) _ hown9)
            clear k9 hown9
            go_wp2_with fail
            refine HS9.out.mono ?_
            rintro e w10 ⟨rfl, k10⟩
            go_wp2
            go_ret
            exact ⟨rfl, (HK9.out.trans k10).end⟩

set_option maxRecDepth 100000 in
theorem lifted (os : Os) (started : os.Started) (H : Type) (enc : TypeId × Value → H) :
    ReturnsInHanded {} Try.checked os 3 .any (Rows.diarySpansSpec.pre6 enc Try.prog Try.f3 Rows.diarySpansRow.domain false) (Rows.diarySpansSpec.post enc Try.prog Try.f3 false true false false) := by
  refine returnsInHanded_of_change (C := Try.checked) own started (by kernel_rfl) Try.func3
    (ChangeSpec.witness6 (enc := enc) (C := Try.checked) false ⟨#[], #[.slice none 0 0], []⟩ 8 (by kernel_rfl) (by kernel_rfl) (by kernel_rfl) (by kernel_rfl)) ?_
  intro W base args ds gs before hval0 hW hcnd _
  have hval : ∀ (j : Nat) t v, Try.f3.params[j]? = some t → args[j]? = some v → Value.okWide Try.prog W .any base t v := hval0
  have hW' := hW
  obtain ⟨p, q, hA0, hV, rfl, hfz, hnd⟩ := hW
  have hA : DataW.TrodAll enc Try.prog W 0 (fun _ => true) true Try.f3.params.toList args.toList ds p := hA0
  rw [Try.params3] at hA hval
  obtain ⟨v0, vs0, d0, ds0, q0, qs0, hargs, rfl, rfl, h0, r0⟩ := trodAll_cons hA
  obtain ⟨rfl, rfl, rfl⟩ := trodAll_nil r0
  obtain rfl : args = #[v0] := by cases args; simp_all
  obtain ⟨rfl, rfl⟩ := trodVars_none hV
  obtain ⟨p0, n0, c0, rfl⟩ := okWide_slice Try.underlying22 (hval 0 22 v0 rfl rfl)
  have k0 := h0
  have lt0 : ∀ x ∈ q0, x.block < W.heap.size := by obtain ⟨m, hm⟩ := k0; exact DataW.trod_lt m _ _ _ hm
  obtain ⟨z0, s0, l0, m0, b0, e0⟩ := (by obtain ⟨fu, hf⟩ := h0; exact ev_open Try.underlying22 hf : ∃ xs : List DEv, Sl W 10 (.slice p0 n0 c0) n0 (evCells xs) ∧ xs.length = n0 ∧ n0 ≤ maxLen ∧ (∀ x ∈ xs, x.call.Op W ∧ x.res.Op W) ∧ n0 ≤ c0 ∧ c0 ≤ maxLen)
  clear hA0 hval0
  simp only [List.append_nil] at hW'
  refine (walk p0 n0 c0 z0 W s0 l0 m0 b0 e0).mono fun e W' ⟨he, bel⟩ => ?_
  subst he
  exact ⟨_, rfl, _, _, _, [], _, [], hW', trodAll_mk1 (shut_bool Try.underlying4 _), (trodAll_cons_mk (Below.trod laidOut (by kernel_rfl) (of_decide_eq_true (by kernel_rfl)) k0 bel lt0) trodAll_mk0), rfl, bel.frame _, fun h => by cases h⟩

theorem proved : Rows.DiarySpansSaid :=
  OpenClaim.holds_of_wide 3 Try.f3 rfl rfl rfl rfl rfl rfl rfl ⟨rfl, rfl, rfl, rfl, rfl⟩ rfl rfl rfl rfl rfl (by kernel_rfl) Try.func3 (by kernel_rfl)
    (of_decide_eq_true (by kernel_rfl)) (by unfold Func.isWrapper; first | (rw [if_pos (by decide +kernel)]; kernel_rfl) | (rw [if_neg (by decide +kernel)]; exact ⟨rfl, rfl⟩))
    (fun os started H enc _ => lifted os started H enc)
#print axioms proved
end Go.Proofs.Ytopombnehmfmcaa.diarySpans
