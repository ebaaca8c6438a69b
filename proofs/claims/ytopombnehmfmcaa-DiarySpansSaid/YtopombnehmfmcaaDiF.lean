import Derived.Test.YtopombnehmfmcaaDiA
/-
  The document's own words for diaries: a right diary.
-/
namespace Go.Proofs.Ytopombnehmfmcaa
set_option maxRecDepth 100000
set_option linter.unusedSimpArgs false
set_option linter.unusedVariables false
open Go.ChangeShapes Go.WideShapes Go.ChangeAt Go.RowKit

theorem EvsAt.cells {w wr : World} {b off : Nat} {l : List DEv} (hb : b < w.heap.size) (hc : ∀ j u, (evCells l)[j]? = some u → w.cell? ⟨b, off + j, none⟩ = some u) (k : Nat) (hk : k < l.length) (kw : Keeps [] w wr) :
    ∀ j u, j < 10 → [Value.int .i64 (l.getD k default).step, .int .i64 (l.getD k default).who, .int .i64 (l.getD k default).nth, .bool (l.getD k default).ends, .int .i64 (l.getD k default).call.kind, .int .u64 (l.getD k default).call.task, .slice (l.getD k default).call.p (l.getD k default).call.n (l.getD k default).call.c, .int .i64 (l.getD k default).res.code, .int .u64 (l.getD k default).res.v, .slice (l.getD k default).res.p (l.getD k default).res.n (l.getD k default).res.c][j]? = some u → wr.cell? ⟨b, off + k * 10 + j, none⟩ = some u := fun j u hj hu => by
  rw [Nat.add_assoc]
  exact (kw.cell (p := ⟨b, off + (k * 10 + j), none⟩) hb (by simp)).trans (hc _ _ ((ev_at l k j _ (by rw [List.getD_eq_getElem?_getD, List.getElem?_eq_getElem hk]; rfl) hj).trans hu))
theorem diRight_iff (l : List DEv) (n : Nat) : diRight l n ↔ (rdAll l n).isSome = true := by
  cases h : rdAll l n with
  | none => exact ⟨fun hr => absurd hr (rdAll_none h), fun hr => by cases hr⟩
  | some s => exact ⟨fun _ => rfl, fun _ => (rdAll_some h).right⟩
theorem not_right {l : List DEv} {n : Nat} (h : ¬ diRight l n) : (rdAll l n).isSome = false := by
  cases h' : (rdAll l n).isSome with
  | false => rfl
  | true => exact absurd ((diRight_iff l n).2 h') h
theorem natInts_at (ks : List Nat) (k : Nat) (hk : k < ks.length) : (natInts ks)[k]? = some (.int .i64 ((ks.getD k 0 : Nat) : Int)) := by
  simp [natInts, ints, List.getD_eq_getElem?_getD, hk]
theorem natInts_len (ks : List Nat) : (natInts ks).length = ks.length := by simp [natInts, ints]

set_option maxHeartbeats 8000000 in
theorem refRight (v : Value) (l : List DEv) (w : World) (h : EvsAt w v l) (hl : l.length ≤ 1000) :
    Calls Try.prog 9 #[v] w fun e w' => e = .returned (.bool (rdAll l l.length).isSome) ∧ Keeps [] w w' := by
  obtain ⟨p, c, rfl⟩ := h.sl.len
  have HF := Lib.hid (slFace h.sl)
  have HA := Lib.hid h.at_
  have HOwn := Lib.hid (fun W who (kW : Keeps [] w W) => refOwn (.slice p l.length c) l who W (h.keeps kW) (by omega))
  have hNot : ∀ {P : Prop}, (diRight l l.length → P) → ¬ P → (rdAll l l.length).isSome = false := fun h1 h2 => not_right (fun hr => h2 (h1 hr))
  clear h
  go_enter Try.func9, Try.ntmps9
  go_wp2
  go_loopw [3] (fun i wr => ∃ k : Nat, k ≤ l.length ∧ i = .int .i64 (k : Int) ∧ Hid (∀ j, j < k → diStepOk l j) ∧ Keeps [] w wr) (fun i _ => l.length - (intOf i).toNat)
  case atStart => exact ⟨0, Nat.zero_le _, rfl, Lib.hid (fun j hj => by omega), Keeps.refl _ _⟩
  case round =>
    obtain ⟨k, hk, rfl, hok, hkp⟩ := hrel
    by_cases hlt : k < l.length
    · rcases HF.out with h0 | ⟨b, off, hp, hbl, hc⟩
      · omega
      subst hp
      have HCx := Lib.hid (fun k2 (hk2 : k2 < l.length) W (kW : Keeps [] w W) => EvsAt.cells (b := b) (off := off) hbl hc k2 hk2 kW)
      have hN : ¬ diStepOk l k → (rdAll l l.length).isSome = false := fun h2 => hNot (fun hr => hr.1 k hlt) h2
      have c0 := HCx.out k hlt _ hkp 0 _ (by omega) rfl
      have c1 := HCx.out k hlt _ hkp 1 _ (by omega) rfl
      rw [Nat.add_zero] at c0
      have hY : diStepOk l k → ∀ j, j < k + 1 → diStepOk l j := fun h2 j hj => by
        by_cases hjk : j = k
        · subst hjk; exact h2
        · exact hok.out j (by omega)
      have HN := Lib.hid hN
      have HY := Lib.hid hY
      have HK := Lib.hid hkp
      obtain ⟨st, hst⟩ : ∃ st, (l.getD k default).step = st := ⟨_, rfl⟩
      obtain ⟨wh, hwh⟩ : ∃ wh, (l.getD k default).who = wh := ⟨_, rfl⟩
      unfold diStepOk at HN HY
      rw [hst] at c0
      rw [hwh] at c1
      rw [hst, hwh] at HN HY
      clear hN hY hok hst hwh
      by_cases h1 : st < 0
      · have h1' : decide (st < 0) = true := by simpa using h1
        have HB := Lib.hid (HN.out (fun h => h (.inl h1)))
        clear hkp h1 HCx hbl hc
        go_wp2
        go_quiet (fail)
        go_wp2
        go_ret
        exact ⟨ret_bool HB.out.symm, by first | exact HK.out.drewN | exact HK.out⟩
      · have h1' : decide (st < 0) = false := by simpa using h1
        cases k with
        | zero =>
          have h2' : decide (((0 : Nat) : Int) > 0) = false := by simp
          have h2'' : decide ((0 : Int) > 0) = false := by simp
          rw [Nat.zero_mul, Nat.add_zero] at c0 c1
          by_cases h4 : wh < 0
          · have h4' : decide (wh < 0) = true := by simpa using h4
            have HB := Lib.hid (HN.out (fun h => h (.inr (.inr (.inl h4)))))
            clear hkp h4 HCx hbl hc
            go_wp2
            go_quiet (fail)
            go_wp2
            go_ret
            exact ⟨ret_bool HB.out.symm, by first | exact HK.out.drewN | exact HK.out⟩
          · have h4' : decide (wh < 0) = false := by simpa using h4
            by_cases h5 : 15 < wh
            · have h5' : decide (wh > 15) = true := by simpa using h5
              have HB := Lib.hid (HN.out (fun h => h (.inr (.inr (.inr h5)))))
              clear hkp h4 h5 HCx hbl hc
              go_wp2
              go_quiet (fail)
              go_wp2
              go_ret
              exact ⟨ret_bool HB.out.symm, by first | exact HK.out.drewN | exact HK.out⟩
            · have h5' : decide (wh > 15) = false := by simpa using h5
              have HB := Lib.hid (HY.out (fun h => by rcases h with h | h | h | h <;> omega))
              clear hkp h4 h5 HCx hbl hc
              go_wp2
              go_quiet (fail)
              go_wp2
              go_roundw
              case rel => exact ⟨0 + 1, by omega, by go_num, HB, by first | exact HK.out.drewN | exact HK.out⟩
              case measure => simp [intOf]; omega
        | succ k =>
          have h2' : decide (((k + 1 : Nat) : Int) > 0) = true := decide_eq_true (by omega)
          have h2'' : decide ((k : Int) + 1 > 0) = true := decide_eq_true (by omega)
          have p0 := HCx.out k (by omega) _ hkp 0 _ (by omega) rfl
          rw [Nat.add_zero] at p0
          obtain ⟨pt, hpt⟩ : ∃ pt, (l.getD k default).step = pt := ⟨_, rfl⟩
          rw [hpt] at p0
          rw [show k + 1 - 1 = k from rfl, hpt] at HN HY
          clear hpt
          have hsb : IntKind.i64.wrap (((k + 1 : Nat) : Int) - 1) = (k : Int) := by rw [IntWalk.i64_in _ (by omega)]; omega
          have hsb2 : (((k + 1 : Nat) : Int) - 1) = (k : Int) := by omega
          by_cases h3 : st < pt
          · have h3' : decide (st < pt) = true := by simpa using h3
            have HB := Lib.hid (HN.out (fun h => h (.inr (.inl ⟨by omega, h3⟩))))
            clear hkp h3 HCx hbl hc
            go_wp2
            trace_state
            go_quiet (fail)
            go_wp2
            go_ret
            exact ⟨ret_bool HB.out.symm, by first | exact HK.out.drewN | exact HK.out⟩
          · have h3' : decide (st < pt) = false := by simpa using h3
            by_cases h4 : wh < 0
            · have h4' : decide (wh < 0) = true := by simpa using h4
              have HB := Lib.hid (HN.out (fun h => h (.inr (.inr (.inl h4)))))
              clear hkp h4 HCx hbl hc
              go_wp2
              go_quiet (fail)
              go_wp2
              go_ret
              exact ⟨ret_bool HB.out.symm, by first | exact HK.out.drewN | exact HK.out⟩
            · have h4' : decide (wh < 0) = false := by simpa using h4
              by_cases h5 : 15 < wh
              · have h5' : decide (wh > 15) = true := by simpa using h5
                have HB := Lib.hid (HN.out (fun h => h (.inr (.inr (.inr h5)))))
                clear hkp h4 h5 HCx hbl hc
                go_wp2
                go_quiet (fail)
                go_wp2
                go_ret
                exact ⟨ret_bool HB.out.symm, by first | exact HK.out.drewN | exact HK.out⟩
              · have h5' : decide (wh > 15) = false := by simpa using h5
                have HB := Lib.hid (HY.out (fun h => by rcases h with h | h | h | h <;> omega))
                clear hkp h4 h5 HCx hbl hc
                go_wp2
                go_quiet (fail)
                go_wp2
                go_roundw
                case rel => exact ⟨k + 1 + 1, by omega, by go_num, HB, by first | exact HK.out.drewN | exact HK.out⟩
                case measure => simp [intOf]; omega
    · obtain rfl : k = l.length := by omega
      have HOk := Lib.hid hok.out
      have HK := Lib.hid hkp
      clear hok hkp
      go_wp2
      go_loopw [4] (fun i wr => ∃ u : Nat, u ≤ 16 ∧ i = .int .i64 (u : Int) ∧ Hid (∀ x : Nat, x < u → ∀ j, j < (diOwn l x l.length).length → diTurnOk l (diOwn l x l.length) j) ∧ Keeps [] w wr) (fun i _ => 16 - (intOf i).toNat)
      case atStart => exact ⟨0, Nat.zero_le _, rfl, Lib.hid (fun x hx => by omega), HK.out⟩
      case round =>
        obtain ⟨u, hu, rfl, hall, hkp⟩ := hrel
        by_cases hu16 : u < 16
        · have hN : ∀ j, j < (diOwn l u l.length).length → ¬ diTurnOk l (diOwn l u l.length) j → (rdAll l l.length).isSome = false := fun j hj h2 => hNot (fun hr => hr.2 u hu16 j hj) h2
          have hlts := diOwn_lt l u l.length
          have hY : (∀ j, j < (diOwn l u l.length).length → diTurnOk l (diOwn l u l.length) j) → ∀ x : Nat, x < u + 1 → ∀ j, j < (diOwn l x l.length).length → diTurnOk l (diOwn l x l.length) j := fun h x hx => by
            by_cases hxu : x = u
            · subst hxu; exact h
            · exact hall.out x (by omega)
          have HO := Lib.hid (HOwn.out _ (u : Int) hkp)
          have hlen := diOwn_le l (u : Int) l.length
          obtain ⟨ks, hks⟩ : ∃ ks, diOwn l (u : Int) l.length = ks := ⟨_, rfl⟩
          rw [hks] at hN hlts HO hlen
          have hY2 : (∀ j, j < ks.length → diTurnOk l ks j) → ∀ x : Nat, x < u + 1 → ∀ j, j < (diOwn l x l.length).length → diTurnOk l (diOwn l x l.length) j := by rw [← hks]; exact hY
          have HN := Lib.hid hN
          have HY := Lib.hid hY2
          have HL := Lib.hid (fun j (hj : j < ks.length) => (hlts _ (show ks.getD j 0 ∈ ks by rw [List.getD_eq_getElem?_getD, List.getElem?_eq_getElem hj]; exact List.getElem_mem hj)).1)
          have HK2 := Lib.hid hkp
          clear hN hY hY2 hlts hks hkp hall HOk
          go_wp2_with fail
          refine HO.out.mono ?_
          rintro e w1 ⟨v', rfl, hown, k1⟩
          obtain ⟨kp, kc, rfl⟩ := (Sl.of_owns hown).len
          have HKs := Lib.hid (slFace (Sl.of_owns hown))
          have HK1 := Lib.hid (HK2.out.trans k1)
          clear hown k1 HO
          go_wp2
          go_loopw [6] (fun i wr => ∃ kk : Nat, kk ≤ ks.length ∧ i = .int .i64 (kk : Int) ∧ Hid (∀ j, j < kk → diTurnOk l ks j) ∧ Keeps [] w1 wr) (fun i _ => ks.length - (intOf i).toNat)
          case atStart => exact ⟨0, Nat.zero_le _, rfl, Lib.hid (fun j hj => by omega), Keeps.refl _ _⟩
          case round =>
            obtain ⟨kk, hkk, rfl, htn, hkp⟩ := hrel
            by_cases hltk : kk < ks.length
            · rcases HKs.out with h0 | ⟨g, o2, hkp2, hgl, hgc⟩
              · omega
              subst hkp2
              have hiL := HL.out kk hltk
              rcases HF.out with h0 | ⟨b, off, hp, hbl, hc⟩
              · omega
              subst hp
              have HCx := Lib.hid (fun k2 (hk2 : k2 < l.length) W (kW : Keeps [] w W) => EvsAt.cells (b := b) (off := off) hbl hc k2 hk2 kW)
              have HGc := Lib.hid (fun j (hj : j < ks.length) W (kW : Keeps [] w1 W) => (kW.cell (p := ⟨g, o2 + j, none⟩) hgl (by simp)).trans (hgc _ _ (natInts_at ks j hj)))
              have hxa := HA.out (l.getD (ks.getD kk 0) default) (by rw [List.getD_eq_getElem?_getD (l := l), List.getElem?_eq_getElem hiL]; exact List.getElem_mem hiL)
              have HNk := Lib.hid (HN.out kk hltk)
              have HYk : Hid (diTurnOk l ks kk → ∀ j, j < kk + 1 → diTurnOk l ks j) := Lib.hid (fun h j hj => by
                by_cases he : j = kk
                · subst he; exact h
                · exact htn.out j (by omega))
              obtain ⟨i0, hi0⟩ : ∃ i0, ks.getD kk 0 = i0 := ⟨_, rfl⟩
              have g0 := HGc.out kk hltk _ hkp
              have hcx := HCx.out i0 (by rw [← hi0]; exact hiL) _ (HK1.out.trans hkp)
              unfold diTurnOk at HNk HYk
              rw [hi0] at hxa g0 hiL HNk HYk
              obtain ⟨x, hx⟩ : ∃ x, l.getD i0 default = x := ⟨_, rfl⟩
              rw [hx] at hxa hcx HNk HYk
              have HXa := Lib.hid hxa
              obtain ⟨x1, x2, x3, x4, ⟨x5, x6, xp, xn, xc, xvs⟩, ⟨x8, x9, yp, yn, yc, yls⟩⟩ := x
              simp only at HNk HYk hcx
              have c0 := hcx 0 _ (by omega) rfl
              have c1 := hcx 1 _ (by omega) rfl
              have c2 := hcx 2 _ (by omega) rfl
              have c3 := hcx 3 _ (by omega) rfl
              have c4 := hcx 4 _ (by omega) rfl
              have c5 := hcx 5 _ (by omega) rfl
              have c6 := hcx 6 _ (by omega) rfl
              have c7 := hcx 7 _ (by omega) rfl
              have c8 := hcx 8 _ (by omega) rfl
              have c9 := hcx 9 _ (by omega) rfl
              rw [Nat.add_zero] at c0
              have HK3 := Lib.hid hkp
              have HK4 := Lib.hid (HK1.out.trans hkp)
              clear hgl hgc hbl hc hcx hxa hkp htn hx
              have e2 : ((kk / 2 : Nat) : Int) = (kk : Int) / 2 := by omega
              by_cases h1 : x3 = ((kk / 2 : Nat) : Int)
              · have h1' : (x3 != (kk : Int) / 2) = false := by rw [h1, e2]; simp
                by_cases hm : kk % 2 = 1
                · have hm' : ((kk : Int) % 2 == 1) = true := by simp; omega
                  cases x4 with
                  | false =>
                    have HB := Lib.hid (HNk.out (fun h => by have := h.2.1; simp [hm] at this))
                    obtain ⟨V0, hV0⟩ : ∃ V0, wr.alloc (.cells #[.int .i64 x1, .int .i64 x2, .int .i64 x3, .bool false, .int .i64 x5, .int .u64 x6, .slice xp xn xc, .int .i64 x8, .int .u64 x9, .slice yp yn yc] 33) = V0 := ⟨_, rfl⟩
                    have kV : Keeps [] wr V0 := by rw [← hV0]; exact (Keeps.refl _ _).alloc _
                    have bV : Box V0 wr.heap.size #[.int .i64 x1, .int .i64 x2, .int .i64 x3, .bool false, .int .i64 x5, .int .u64 x6, .slice xp xn xc, .int .i64 x8, .int .u64 x9, .slice yp yn yc] := by rw [← hV0]; exact Box.new _ _ _
                    have HKV := Lib.hid kV
                    have HBV := Lib.hid bV
                    have bx := bV.cells
                    clear kV bV
                    clear h1 hm e2
                    go_wp2
                    go_ret
                    exact ⟨ret_bool HB.out.symm, HK4.out.trans HKV.out⟩
                  | true =>
                    obtain ⟨m, rfl⟩ : ∃ m, kk = m + 1 := ⟨kk - 1, by omega⟩
                    have hm1 : m < ks.length := by omega
                    have hiL1 := HL.out m hm1
                    have hya := HA.out (l.getD (ks.getD m 0) default) (by rw [List.getD_eq_getElem?_getD (l := l), List.getElem?_eq_getElem hiL1]; exact List.getElem_mem hiL1)
                    rw [show m + 1 - 1 = m from rfl] at HNk HYk
                    obtain ⟨i1, hi1⟩ : ∃ i1, ks.getD m 0 = i1 := ⟨_, rfl⟩
                    have g1 := fun W (kW : Keeps [] w1 W) => HGc.out m hm1 W kW
                    rw [hi1] at hya g1 hiL1 HNk HYk
                    have hcy := fun W (kW : Keeps [] w W) => HCx.out i1 hiL1 W kW
                    obtain ⟨y, hy⟩ : ∃ y, l.getD i1 default = y := ⟨_, rfl⟩
                    rw [hy] at hya hcy HNk HYk
                    have hC := fun W (kW : Keeps [] w W) => refSameCall ⟨x5, x6, xp, xn, xc, xvs⟩ y.call W (HXa.out.1.keeps kW) (hya.1.keeps kW)
                    obtain ⟨r, hr⟩ : ∃ r, DCall.same ⟨x5, x6, xp, xn, xc, xvs⟩ y.call = r := ⟨_, rfl⟩
                    rw [hr] at hC HNk HYk
                    have hsb : ((m + 1 : Nat) : Int) - 1 = (m : Int) := by omega
                    have h1e : x3 = ((m : Int) + 1) / 2 := by omega
                    have h1'' : (x3 != ((m : Int) + 1) / 2) = false := by rw [h1e]; simp
                    clear h1e
                    have hm'' : (((m : Int) + 1) % 2 == 1) = true := by rw [beq_iff_eq]; omega
                    obtain ⟨y1, y2, y3, y4, ⟨y5, y6, zp, zn, zc, yvs⟩, ⟨y8, y9, up, un, uc, zls⟩⟩ := y
                    simp only [DCall.val] at hC hcy
                    obtain ⟨V0, hV0⟩ : ∃ V0, wr.alloc (.cells #[.int .i64 x1, .int .i64 x2, .int .i64 x3, .bool true, .int .i64 x5, .int .u64 x6, .slice xp xn xc, .int .i64 x8, .int .u64 x9, .slice yp yn yc] 33) = V0 := ⟨_, rfl⟩
                    have kV : Keeps [] wr V0 := by rw [← hV0]; exact (Keeps.refl _ _).alloc _
                    have bV : Box V0 wr.heap.size #[.int .i64 x1, .int .i64 x2, .int .i64 x3, .bool true, .int .i64 x5, .int .u64 x6, .slice xp xn xc, .int .i64 x8, .int .u64 x9, .slice yp yn yc] := by rw [← hV0]; exact Box.new _ _ _
                    have HKV := Lib.hid kV
                    have HBV := Lib.hid bV
                    have bx := bV.cells
                    clear kV bV
                    have KWV := HK4.out.trans HKV.out
                    have d4 := hcy V0 KWV 4 _ (by omega) rfl
                    have d5 := hcy V0 KWV 5 _ (by omega) rfl
                    have d6 := hcy V0 KWV 6 _ (by omega) rfl
                    have g1' := g1 V0 (HK3.out.trans HKV.out)
                    have hw1 : IntKind.i64.wrap ((m : Int) + 1 - 1) = (m : Int) := by rw [show (m : Int) + 1 - 1 = m by omega]; exact IntWalk.i64_in _ (by omega)
                    have hw2 : IntKind.i64.wrap (m : Int) = (m : Int) := IntWalk.i64_in _ (by omega)
                    have HC := Lib.hid hC
                    have hnb : (Bool.true != ((((m + 1 : Nat) : Int) % 2) == 1)) = false := by rw [hm']; rfl
                    cases r with
                    | false =>
                      have HB := Lib.hid (HNk.out (fun h => by have := h.2.2.2 rfl; cases this))
                      clear hC hcy g1 hy hya h1 hm e2 HNk HYk
                      go_wp2
                      refine wp_region_mid 14 (by kernel_rfl) (by kernel_rfl) ?_
                      simp only [List.take_succ_cons, List.take_zero, List.drop_succ_cons, List.drop_zero]
                      repeat still_step
                      refine wpStill_nil ?_
                      go_wp2_with fail
                      refine (HC.out _ (KWV.trans (Keeps.of_drewN _ _))).mono ?_
                      rintro e w5 ⟨rfl, k5⟩
                      have HK5 := Lib.hid ((KWV.trans (Keeps.of_drewN _ _)).trans k5)
                      go_wp2
                      show wpStill _ _ _ _ _ _
                      repeat still_step
                      refine wpStill_nil ?_
                      go_wp2
                      go_ret
                      exact ⟨ret_bool HB.out.symm, HK5.out⟩
                    | true =>
                      have HT := Lib.hid (HYk.out ⟨h1, by simp [hm], fun h => (by cases h), fun _ => rfl⟩)
                      clear hC hcy g1 hy hya h1 hm e2 HNk HYk
                      go_wp2
                      refine wp_region_mid 14 (by kernel_rfl) (by kernel_rfl) ?_
                      simp only [List.take_succ_cons, List.take_zero, List.drop_succ_cons, List.drop_zero]
                      repeat still_step
                      refine wpStill_nil ?_
                      go_wp2_with fail
                      refine (HC.out _ (KWV.trans (Keeps.of_drewN _ _))).mono ?_
                      rintro e w5 ⟨rfl, k5⟩
                      have HK5 := Lib.hid ((HK3.out.trans (HKV.out.trans (Keeps.of_drewN _ _))).trans k5)
                      go_wp2
                      show wpStill _ _ _ _ _ _
                      repeat still_step
                      refine wpStill_nil ?_
                      go_wp2
                      go_roundw
                      case rel => exact ⟨m + 1 + 1, by omega, by go_num, HT, HK5.out⟩
                      case measure => simp [intOf]; omega
                · have hm' : ((kk : Int) % 2 == 1) = false := by rw [beq_eq_false_iff_ne]; omega
                  cases x4 with
                  | true =>
                    have HB := Lib.hid (HNk.out (fun h => by have := h.2.1; simp [hm] at this))
                    obtain ⟨V0, hV0⟩ : ∃ V0, wr.alloc (.cells #[.int .i64 x1, .int .i64 x2, .int .i64 x3, .bool true, .int .i64 x5, .int .u64 x6, .slice xp xn xc, .int .i64 x8, .int .u64 x9, .slice yp yn yc] 33) = V0 := ⟨_, rfl⟩
                    have kV : Keeps [] wr V0 := by rw [← hV0]; exact (Keeps.refl _ _).alloc _
                    have bV : Box V0 wr.heap.size #[.int .i64 x1, .int .i64 x2, .int .i64 x3, .bool true, .int .i64 x5, .int .u64 x6, .slice xp xn xc, .int .i64 x8, .int .u64 x9, .slice yp yn yc] := by rw [← hV0]; exact Box.new _ _ _
                    have HKV := Lib.hid kV
                    have HBV := Lib.hid bV
                    have bx := bV.cells
                    clear kV bV
                    clear h1 hm e2
                    go_wp2
                    go_ret
                    exact ⟨ret_bool HB.out.symm, HK4.out.trans HKV.out⟩
                  | false =>
                    have hR := fun W (kW : Keeps [] w W) => refSameResult ⟨x8, x9, yp, yn, yc, yls⟩ DRes.none W (HXa.out.2.keeps kW) (DRes.none_at W)
                    obtain ⟨r, hr⟩ : ∃ r, DRes.same ⟨x8, x9, yp, yn, yc, yls⟩ DRes.none = r := ⟨_, rfl⟩
                    rw [hr] at hR HNk HYk
                    simp only [DRes.val, DRes.none] at hR
                    obtain ⟨V0, hV0⟩ : ∃ V0, wr.alloc (.cells #[.int .i64 x1, .int .i64 x2, .int .i64 x3, .bool false, .int .i64 x5, .int .u64 x6, .slice xp xn xc, .int .i64 x8, .int .u64 x9, .slice yp yn yc] 33) = V0 := ⟨_, rfl⟩
                    have kV : Keeps [] wr V0 := by rw [← hV0]; exact (Keeps.refl _ _).alloc _
                    have bV : Box V0 wr.heap.size #[.int .i64 x1, .int .i64 x2, .int .i64 x3, .bool false, .int .i64 x5, .int .u64 x6, .slice xp xn xc, .int .i64 x8, .int .u64 x9, .slice yp yn yc] := by rw [← hV0]; exact Box.new _ _ _
                    have HKV := Lib.hid kV
                    have HBV := Lib.hid bV
                    have bx := bV.cells
                    clear kV bV
                    have KWV := HK4.out.trans HKV.out
                    have HR := Lib.hid hR
                    cases r with
                    | false =>
                      have HB := Lib.hid (HNk.out (fun h => by have := h.2.2.1 rfl; cases this))
                      clear hR h1 hm e2 HNk HYk
                      go_wp2_with (go_at_call 21; refine (HR.out _ KWV).mono ?_; rintro e w5 ⟨rfl, k5⟩)
                      go_ret
                      exact ⟨ret_bool HB.out.symm, KWV.trans k5⟩
                    | true =>
                      have HT := Lib.hid (HYk.out ⟨h1, by simp [hm], fun _ => rfl, fun h => (by cases h)⟩)
                      clear hR h1 hm e2 HNk HYk
                      go_wp2_with (go_at_call 21; refine (HR.out _ KWV).mono ?_; rintro e w5 ⟨rfl, k5⟩; have by5 := (HBV.out.keeps k5 (by simp)).cells; have HK5 := Lib.hid (HK3.out.trans (HKV.out.trans k5)))
                      go_quiet (fail)
                      go_wp2
                      go_roundw
                      case rel => exact ⟨kk + 1, by omega, by go_num, HT, by first | exact HK5.out.drewN | exact HK5.out⟩
                      case measure => simp [intOf]; omega
              · have h1' : (x3 != (kk : Int) / 2) = true := by rw [bne_iff_ne]; omega
                have HB := Lib.hid (HNk.out (fun h => h1 h.1))
                obtain ⟨V0, hV0⟩ : ∃ V0, wr.alloc (.cells #[.int .i64 x1, .int .i64 x2, .int .i64 x3, .bool x4, .int .i64 x5, .int .u64 x6, .slice xp xn xc, .int .i64 x8, .int .u64 x9, .slice yp yn yc] 33) = V0 := ⟨_, rfl⟩
                have kV : Keeps [] wr V0 := by rw [← hV0]; exact (Keeps.refl _ _).alloc _
                have bV : Box V0 wr.heap.size #[.int .i64 x1, .int .i64 x2, .int .i64 x3, .bool x4, .int .i64 x5, .int .u64 x6, .slice xp xn xc, .int .i64 x8, .int .u64 x9, .slice yp yn yc] := by rw [← hV0]; exact Box.new _ _ _
                have HKV := Lib.hid kV
                have HBV := Lib.hid bV
                have bx := bV.cells
                clear kV bV
                clear h1 e2
                go_wp2
                go_ret
                exact ⟨ret_bool HB.out.symm, HK4.out.trans HKV.out⟩
            · obtain rfl : kk = ks.length := by omega
              have HK3 := Lib.hid hkp
              have HYY := Lib.hid (HY.out htn.out)
              clear htn hkp
              go_wp2
              go_roundw
              case rel => exact ⟨u + 1, by omega, by go_num, HYY, HK1.out.trans HK3.out⟩
              case measure => simp [intOf]; omega
        · obtain rfl : u = 16 := by omega
          have HK3 := Lib.hid hkp
          have hr : diRight l l.length := ⟨HOk.out, fun x hx => hall.out x hx⟩
          have HB := Lib.hid ((diRight_iff l l.length).1 hr)
          clear hr hall hkp
          go_wp2
          go_ret
          exact ⟨ret_bool HB.out.symm, HK3.out⟩
end Go.Proofs.Ytopombnehmfmcaa
