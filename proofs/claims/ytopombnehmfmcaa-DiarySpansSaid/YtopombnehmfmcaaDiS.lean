import Derived.Test.YtopombnehmfmcaaDiR
import Derived.Test.YtopombnehmfmcaaDiB
/-
  The document's own words for diaries: how many at once.
-/
namespace Go.Proofs.Ytopombnehmfmcaa
set_option maxRecDepth 100000
set_option linter.unusedSimpArgs false
set_option linter.unusedVariables false
open Go.ChangeShapes Go.WideShapes Go.ChangeAt Go.RowKit

set_option maxHeartbeats 800000 in
theorem refHas (s : DSp) (at_ : Int) (w : World) : Calls Try.prog 25 #[s.val, .int .i64 at_] w fun e w' => e = .returned (.bool (s.at_ at_)) ∧ Keeps [] w w' := by
  obtain ⟨who, nth, lo, hi, ⟨kind, task, p, n, c, vs⟩, ⟨code, v, q, m, d, ls⟩⟩ := s
  simp only [DSp.val, DSp.at_]
  go_enter Try.func25, Try.ntmps25
  by_cases h0 : 0 ≤ lo
  · have h0' : decide (lo ≥ 0) = true := by simpa using h0
    by_cases h1 : lo ≤ at_
    · have h1' : decide (lo ≤ at_) = true := by simpa using h1
      by_cases h2 : hi < 0
      · have h2' : decide (hi < 0) = true := by simpa using h2
        go_wp2
        go_ret
        exact ⟨ret_bool (by simp [h0, h1, h2]), (Keeps.refl _ _).alloc _⟩
      · have h2' : decide (hi < 0) = false := by simpa using h2
        go_wp2
        go_ret
        exact ⟨ret_bool (by simp [h0, h1, h2]), (Keeps.refl _ _).alloc _⟩
    · have h1' : decide (lo ≤ at_) = false := by simpa using h1
      go_wp2
      go_ret
      exact ⟨ret_bool (by simp [h0, h1]), (Keeps.refl _ _).alloc _⟩
  · have h0' : decide (lo ≥ 0) = false := by simpa using h0
    go_wp2
    go_ret
    exact ⟨ret_bool (by simp [h0]), (Keeps.refl _ _).alloc _⟩

def diBig (l : List DSp) (most : Int) : Bool := decide (most < (l.length : Int)) || l.any fun x => decide (100 < x.call.n) || decide (100 < x.res.n)
theorem any_take_succ (l : List DSp) (f : DSp → Bool) (k : Nat) (x : DSp) (hx : l[k]? = some x) : (l.take (k + 1)).any f = ((l.take k).any f || f x) := by
  have hk := (List.getElem?_eq_some_iff.1 hx).1
  rw [List.take_succ_eq_append_getElem hk, List.any_append]
  have : l[k] = x := (List.getElem?_eq_some_iff.1 hx).2
  simp [this]
theorem any_of (l : List DSp) (f : DSp → Bool) (k : Nat) (x : DSp) (hx : l[k]? = some x) (hf : f x = true) : l.any f = true := List.any_eq_true.2 ⟨x, List.mem_of_getElem? hx, hf⟩
set_option maxHeartbeats 800000 in
theorem refBig (v : Value) (l : List DSp) (most : Int) (w : World) (h : Sl w 10 v l.length (spCells l)) (hl : l.length ≤ maxLen) :
    Calls Try.prog 12 #[v, .int .i64 most] w fun e w' => e = .returned (.bool (diBig l most)) ∧ Keeps [] w w' := by
  unfold maxLen at hl
  obtain ⟨p, c, rfl⟩ := h.len
  have HF := Lib.hid (slFace h)
  clear h
  by_cases hm : most < (l.length : Int)
  · have hm' : decide ((l.length : Int) > most) = true := by simpa using hm
    go_enter Try.func12, Try.ntmps12
    go_wp2
    go_ret
    exact ⟨ret_bool (by simp [diBig, hm]), Keeps.refl _ _⟩
  have hm' : decide ((l.length : Int) > most) = false := by simpa using hm
  have HM := Lib.hid hm
  clear hm
  go_enter Try.func12, Try.ntmps12
  go_wp2
  go_loopw [5] (fun i wr => ∃ k q : Nat, k ≤ l.length ∧ i = .int .i64 (k : Int) ∧ Hid ((l.take k).any (fun x => decide (100 < x.call.n) || decide (100 < x.res.n)) = false) ∧ wr = w.drewN q) (fun i _ => l.length - (intOf i).toNat)
  case atStart => exact ⟨0, 0, Nat.zero_le _, rfl, Lib.hid (by simp), rfl⟩
  case round =>
    obtain ⟨k, qq, hk, rfl, hno, rfl⟩ := hrel
    by_cases hlt : k < l.length
    · rcases HF.out with h0 | ⟨b, off, rfl, hb, hc⟩
      · omega
      obtain ⟨x, hx⟩ : ∃ x, l[k]? = some x := ⟨_, List.getElem?_eq_getElem hlt⟩
      have hkp : Keeps [] w (w.drewN qq) := Keeps.of_drewN _ _
      have c6 := (hkp.cell (p := ⟨b, off + (k * 10 + 6), none⟩) hb (by simp)).trans (hc _ _ ((sp_at l k 6 x hx (by omega)).trans rfl))
      have c9 := (hkp.cell (p := ⟨b, off + (k * 10 + 9), none⟩) hb (by simp)).trans (hc _ _ ((sp_at l k 9 x hx (by omega)).trans rfl))
      have e6 : off + (k * 10 + 6) = off + k * 10 + 4 + 2 := by omega
      have e9 : off + (k * 10 + 9) = off + k * 10 + 7 + 2 := by omega
      rw [e6] at c6
      rw [e9] at c9
      clear e6 e9
      have HX := Lib.hid hx
      clear hx hb hc hkp
      obtain ⟨xc, hxc⟩ : ∃ xc, x.call.n = xc := ⟨_, rfl⟩
      obtain ⟨xr, hxr⟩ : ∃ xr, x.res.n = xr := ⟨_, rfl⟩
      rw [hxc] at c6
      rw [hxr] at c9
      have HXC := Lib.hid hxc
      have HXR := Lib.hid hxr
      clear hxc hxr
      by_cases h1 : 100 < xc
      · have h1' : decide ((xc : Int) > 100) = true := by simp; omega
        go_wp2
        go_ret
        exact ⟨ret_bool (by unfold diBig; rw [any_of l _ k x HX.out (by simp [HXC.out, h1])]; simp), by first | exact (Keeps.of_drewN w qq).drew | exact (Keeps.of_drewN w qq).drewN | exact Keeps.of_drewN _ _⟩
      · have h1' : decide ((xc : Int) > 100) = false := by simp; omega
        by_cases h2 : 100 < xr
        · have h2' : decide ((xr : Int) > 100) = true := by simp; omega
          go_wp2
          go_ret
          exact ⟨ret_bool (by unfold diBig; rw [any_of l _ k x HX.out (by simp [HXR.out, h2])]; simp), by first | exact (Keeps.of_drewN w qq).drew | exact (Keeps.of_drewN w qq).drewN | exact Keeps.of_drewN _ _⟩
        · have h2' : decide ((xr : Int) > 100) = false := by simp; omega
          go_wp2
          go_roundw
          case rel => exact ⟨k + 1, _, by omega, by go_num, Lib.hid (by rw [any_take_succ l _ k x HX.out, hno.out]; simp [HXC.out, HXR.out]; omega), by first | rfl | exact World.drewN_drewN ..⟩
          case measure => simp [intOf]; omega
    · obtain rfl : k = l.length := by omega
      go_wp2
      go_ret
      have hno2 := hno.out
      rw [List.take_length] at hno2
      exact ⟨ret_bool (by unfold diBig; rw [hno2]; have := HM.out; simp; omega), by first | exact (Keeps.of_drewN w qq).drew | exact (Keeps.of_drewN w qq).drewN | exact Keeps.of_drewN _ _⟩

set_option maxHeartbeats 4000000 in
theorem refMost (v : Value) (l : List DSp) (w : World) (h : SpsAt w v l) (hl : l.length ≤ 1000000) :
    Calls Try.prog 16 #[v] w fun e w' => e = .returned (.int .i64 (diMost l : Int)) ∧ Keeps [] w w' := by
  obtain ⟨p, c, rfl⟩ := h.sl.len
  have HF := Lib.hid (slFace h.sl)
  clear h
  go_enter Try.func16, Try.ntmps16
  go_wp2
  go_loopw [3, 4] (fun most i wr => ∃ k q : Nat, k ≤ l.length ∧ i = .int .i64 (k : Int) ∧ most = .int .i64 (q : Int) ∧ Hid (q = diMostTo l k) ∧ q ≤ l.length ∧ Keeps [] w wr) (fun _ i _ => l.length - (intOf i).toNat)
  case atStart => exact ⟨0, 0, Nat.zero_le _, rfl, rfl, Lib.hid rfl, Nat.zero_le _, Keeps.refl _ _⟩
  case round =>
    obtain ⟨k, q, hk, rfl, rfl, hq, hql, hkp⟩ := hrel
    by_cases hlt : k < l.length
    · rcases HF.out with h0 | ⟨b, off, hp, hb, hc⟩
      · omega
      subst hp
      obtain ⟨x, hx⟩ : ∃ x, l[k]? = some x := ⟨_, List.getElem?_eq_getElem hlt⟩
      have hxd : l.getD k default = x := by rw [List.getD_eq_getElem?_getD, hx]; rfl
      have HCx := Lib.hid (fun W (kW : Keeps [] w W) => SpsAt.cells (c := c) hb hc k x hx kW)
      have HCy := Lib.hid (fun W k2 y hy (kW : Keeps [] w W) => SpsAt.cells (c := c) hb hc k2 y hy kW)
      have HHx := Lib.hid (fun W => refHas x x.lo W)
      have HHy := Lib.hid (fun y W => refHas y x.lo W)
      have hnext : diMostTo l (k + 1) = max (diMostTo l k) (if x.fit then diCnt l x.lo else 0) := by show max _ _ = _; rw [hxd]
      rw [DSp.fit_at] at HHx
      obtain ⟨ft, hft⟩ : ∃ ft, x.fit = ft := ⟨_, rfl⟩
      rw [hft] at HHx hnext
      obtain ⟨x1, x2, x3, x4, ⟨x5, x6, xp, xn, xc, xvs⟩, ⟨x8, x9, yp, yn, yc, yls⟩⟩ := x
      simp only [DSp.val] at HHx HHy HCx hnext
      have HNext := Lib.hid hnext
      have HK := Lib.hid hkp
      clear hx hxd hb hc hkp hnext hft
      go_wp2
      go_loopw [5, 6] (fun n i wr2 => ∃ k2 q2 : Nat, k2 ≤ l.length ∧ i = .int .i64 (k2 : Int) ∧ n = .int .i64 (q2 : Int) ∧ Hid (q2 = (l.take k2).countP fun s => s.at_ x3) ∧ q2 ≤ k2 ∧ (ft = true ∨ k2 = 0) ∧ Keeps [] w wr2) (fun _ i _ => l.length - (intOf i).toNat)
      case atStart => exact ⟨0, 0, Nat.zero_le _, rfl, rfl, Lib.hid (by simp), Nat.le_refl _, .inr rfl, HK.out⟩
      case round =>
        obtain ⟨k2, q2, hk2, rfl, rfl, hq2, hq2k, hf2, hkp2⟩ := hrel
        have HK2 := Lib.hid hkp2
        by_cases hlt2 : k2 < l.length
        · have hi2 : decide ((k2 : Int) < (l.length : Int)) = true := by simp; omega
          obtain ⟨y, hy⟩ : ∃ y, l[k2]? = some y := ⟨_, List.getElem?_eq_getElem hlt2⟩
          have cx := HCx.out _ hkp2
          have c0 := cx 0 _ (by omega) rfl
          have c1 := cx 1 _ (by omega) rfl
          have c2 := cx 2 _ (by omega) rfl
          have c3 := cx 3 _ (by omega) rfl
          have c4 := cx 4 _ (by omega) rfl
          have c5 := cx 5 _ (by omega) rfl
          have c6 := cx 6 _ (by omega) rfl
          have c7 := cx 7 _ (by omega) rfl
          have c8 := cx 8 _ (by omega) rfl
          have c9 := cx 9 _ (by omega) rfl
          rw [Nat.add_zero] at c0
          clear cx hkp2
          cases ft with
          | false =>
            obtain rfl : k2 = 0 := by rcases hf2 with h | h; cases h; exact h
            have hq20 : q2 = 0 := by omega
            subst hq20
            have hmx : decide ((0 : Int) > (q : Int)) = false := by simp
            simp only [Bool.false_eq_true, if_false] at HNext
            clear hq2
            go_wp2
            refine wp_region_mid 14 (by kernel_rfl) (by kernel_rfl) ?_
            simp only [List.take_succ_cons, List.take_zero, List.drop_succ_cons, List.drop_zero]
            repeat still_step
            refine wpStill_nil ?_
            go_wp2_with fail
            refine (HHx.out _).mono ?_
            rintro e w1 ⟨rfl, k1⟩
            go_wp2
            show wpStill _ _ _ _ _ _
            repeat still_step
            refine wpStill_nil ?_
            go_wp2
            go_roundw
            case rel => exact ⟨k + 1, q, by omega, by go_num, rfl, Lib.hid (by rw [HNext.out, ← hq.out]; omega), hql, HK2.out.trans k1.undrewN⟩
            case measure => simp [intOf]; omega
          | true =>
            have hstep := countP_take_succ l (fun s => s.at_ x3) k2 y hy
            have cy0 := fun W (kW : Keeps [] w W) => HCy.out W k2 y hy kW
            have hHy := HHy.out y
            obtain ⟨ha, hha⟩ : ∃ ha, y.at_ x3 = ha := ⟨_, rfl⟩
            rw [hha] at hHy hstep
            obtain ⟨y1, y2, y3, y4, ⟨y5, y6, zp, zn, zc, yvs⟩, ⟨y8, y9, up, un, uc, zls⟩⟩ := y
            simp only [DSp.val] at hHy cy0
            have HHY := Lib.hid hHy
            have HCY := Lib.hid cy0
            have HSt := Lib.hid hstep
            clear hHy cy0 hy hha hstep
            go_wp2
            refine wp_region_mid 14 (by kernel_rfl) (by kernel_rfl) ?_
            simp only [List.take_succ_cons, List.take_zero, List.drop_succ_cons, List.drop_zero]
            repeat still_step
            refine wpStill_nil ?_
            go_wp2_with fail
            refine (HHx.out _).mono ?_
            rintro e w1 ⟨rfl, k1⟩
            have k1' : Keeps [] w w1 := HK2.out.trans k1.undrewN
            have d2 := HCx.out _ k1' 2 _ (by omega) rfl
            have cy := HCY.out _ k1'
            have e0 := cy 0 _ (by omega) rfl
            have e1 := cy 1 _ (by omega) rfl
            have e2 := cy 2 _ (by omega) rfl
            have e3 := cy 3 _ (by omega) rfl
            have e4 := cy 4 _ (by omega) rfl
            have e5 := cy 5 _ (by omega) rfl
            have e6 := cy 6 _ (by omega) rfl
            have e7 := cy 7 _ (by omega) rfl
            have e8 := cy 8 _ (by omega) rfl
            have e9 := cy 9 _ (by omega) rfl
            rw [Nat.add_zero] at e0
            have HK1 := Lib.hid k1'
            clear cy k1 k1' c0 c1 c2 c3 c4 c5 c6 c7 c8 c9
            go_wp2
            show wpStill _ _ _ _ _ _
            repeat still_step
            refine wpStill_nil ?_
            cases ha with
            | true =>
              go_wp2
              go_still_tail 9, (by kernel_rfl)
              change wpList _ _ _ _ _ w1.drew
              go_wp2_with fail
              refine (HHY.out _).mono ?_
              rintro e w3 ⟨rfl, k3⟩
              go_wp2
              go_roundw
              case rel => exact ⟨k2 + 1, q2 + 1, by omega, by go_num, by go_num, Lib.hid (by rw [HSt.out, ← hq2.out]; rfl), by omega, .inl trivial, HK1.out.trans k3.undrew⟩
              case measure => simp [intOf]; omega
            | false =>
              go_wp2
              go_still_tail 9, (by kernel_rfl)
              change wpList _ _ _ _ _ w1.drew
              go_wp2_with fail
              refine (HHY.out _).mono ?_
              rintro e w3 ⟨rfl, k3⟩
              go_wp2
              go_roundw
              case rel => exact ⟨k2 + 1, q2, by omega, by go_num, rfl, Lib.hid (by rw [HSt.out, ← hq2.out]; rfl), by omega, .inl trivial, HK1.out.trans k3.undrew⟩
              case measure => simp [intOf]; omega
        · obtain rfl : k2 = l.length := by omega
          have hi2 : decide ((l.length : Int) < (l.length : Int)) = false := by simp
          have hft : ft = true := by rcases hf2 with h | h; exact h; omega
          subst hft
          have hq3 := hq2.out
          rw [List.take_length] at hq3
          have HQ3 := Lib.hid hq3
          simp only [if_true] at HNext
          clear hq3 hq2 hkp2
          by_cases hmx : q2 > q
          · have hmx' : decide ((q2 : Int) > (q : Int)) = true := by simp; omega
            have hq4 : q2 = diMostTo l (k + 1) := by rw [HNext.out, ← hq.out]; unfold diCnt; rw [← HQ3.out]; omega
            have HQ4 := Lib.hid hq4
            clear hq4
            go_wp2
            go_quiet (fail)
            go_wp2
            go_roundw
            case rel => exact ⟨k + 1, q2, by omega, by go_num, rfl, HQ4, by omega, by first | exact HK2.out | exact HK2.out.drewN⟩
            case measure => simp [intOf]; omega
          · have hmx' : decide ((q2 : Int) > (q : Int)) = false := by simp; omega
            have hq4 : q = diMostTo l (k + 1) := by rw [HNext.out, ← hq.out]; unfold diCnt; rw [← HQ3.out]; omega
            have HQ4 := Lib.hid hq4
            clear hq4
            go_wp2
            go_quiet (fail)
            go_wp2
            go_roundw
            case rel => exact ⟨k + 1, q, by omega, by go_num, rfl, HQ4, by omega, by first | exact HK2.out | exact HK2.out.drewN⟩
            case measure => simp [intOf]; omega
    · obtain rfl : k = l.length := by omega
      have HK := Lib.hid hkp
      clear hkp
      go_wp2
      go_ret
      exact ⟨by unfold diMost; rw [← hq.out]; rfl, HK.out⟩
end Go.Proofs.Ytopombnehmfmcaa
