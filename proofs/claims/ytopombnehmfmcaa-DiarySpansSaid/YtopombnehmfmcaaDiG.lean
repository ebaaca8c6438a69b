/-
  The document's own words for diaries: the spans.
-/
import Derived.Test.YtopombnehmfmcaaDiF
import Derived.Test.YtopombnehmfmcaaDiC
namespace Go.Proofs.Ytopombnehmfmcaa
set_option maxRecDepth 100000
set_option linter.unusedSimpArgs false
set_option linter.unusedVariables false
open Go.ChangeShapes Go.WideShapes Go.ChangeAt Go.RowKit

/-- A span on the way: behind the first k events. -/
def diPart (l : List DEv) (i k : Nat) : List Value := [.int .i64 (l.getD i default).who, .int .i64 (l.getD i default).nth, .int .i64 (i : Int), .int .i64 (diHi l i k).1, .int .i64 (l.getD i default).call.kind, .int .u64 (l.getD i default).call.task, .slice (l.getD i default).call.p (l.getD i default).call.n (l.getD i default).call.c, .int .i64 (diHi l i k).2.code, .int .u64 (diHi l i k).2.v, .slice (diHi l i k).2.p (diHi l i k).2.n (diHi l i k).2.c]
theorem diPart_same {l : List DEv} {k k2 : Nat} (h : diHi l k (k2 + 1) = diHi l k k2) : diPart l k (k2 + 1) = diPart l k k2 := by unfold diPart; rw [h]
theorem diPart_hit {l : List DEv} {k k2 : Nat} {z : Int} {r : DRes} (h : diHi l k (k2 + 1) = (z, r)) : ((((diPart l k k2).set 3 (.int .i64 z)).set 7 (.int .i64 r.code)).set 8 (.int .u64 r.v)).set 9 (.slice r.p r.n r.c) = diPart l k (k2 + 1) := by
  unfold diPart; rw [h]; rfl
theorem diHi_first (l : List DEv) (i k : Nat) (h : k ≤ i + 1) : diHi l i k = (-1, DRes.none) := by
  induction k with
  | zero => rfl
  | succ k ih => rw [diHi, if_neg (by omega)]; exact ih (by omega)

theorem diHi_res (l : List DEv) (i k : Nat) : (diHi l i k).2 = DRes.none ∨ ∃ j, j < k ∧ (diHi l i k).2 = (l.getD j default).res := by
  induction k with
  | zero => exact .inl rfl
  | succ k ih =>
    rw [diHi]
    split
    · exact .inr ⟨k, by omega, rfl⟩
    · rcases ih with h | ⟨j, hj, h⟩
      · exact .inl h
      · exact .inr ⟨j, by omega, h⟩
theorem diSpans_at {w : World} {v : Value} {l : List DEv} (h : EvsAt w v l) : ∀ x ∈ diSpans l l.length, x.call.At w ∧ x.res.At w := by
  have hm : ∀ j, j < l.length → l.getD j default ∈ l := fun j hj => by rw [List.getD_eq_getElem?_getD, List.getElem?_eq_getElem hj]; exact List.getElem_mem hj
  intro x hx
  simp only [diSpans, List.mem_map] at hx
  obtain ⟨i, hi, rfl⟩ := hx
  refine ⟨(h.at_ _ (hm i (diBegins_lt l _ i hi).1)).1, ?_⟩
  simp only [diSpan]
  rcases diHi_res l i l.length with h0 | ⟨j, hj, h0⟩
  · rw [h0]; exact DRes.none_at w
  · rw [h0]; exact (h.at_ _ (hm j hj)).2
set_option maxHeartbeats 8000000 in
theorem refSpans (v : Value) (l : List DEv) (w : World) (h : EvsAt w v l) (hl : l.length ≤ 1000) :
    Calls Try.prog 11 #[v] w fun e w' => ∃ v', e = .returned v' ∧ w'.ownsRow w.heap.size 41 10 v' (diSpans l l.length).length (spCells (diSpans l l.length)) ∧ Keeps [] w w' := by
  obtain ⟨p, c, rfl⟩ := h.sl.len
  have HF := Lib.hid (slFace h.sl)
  clear h
  go_enter Try.func11, Try.ntmps11
  go_wp2
  go_loopw [3, 4] (fun o i wr => ∃ (k : Nat) (op : Option Addr) (oc n : Nat), k ≤ l.length ∧ i = .int .i64 (k : Int) ∧ o = .slice op n oc ∧ n ≤ k ∧ Hid (n = (diBegins l k).length) ∧ wr.ownsRow w.heap.size 41 10 (.slice op n oc) n (spCells ((diBegins l k).map (diSpan l l.length))) ∧ Keeps [] w wr) (fun _ i _ => l.length - (intOf i).toNat)
  case atStart => exact ⟨0, _, _, 0, Nat.zero_le _, rfl, rfl, Nat.le_refl _, Lib.hid rfl, owns_empty w 41 10, (Keeps.refl _ _).alloc _⟩
  case round =>
    obtain ⟨k, op, oc, n, hk, rfl, rfl, hnk, hn, hown, hkp⟩ := hrel
    by_cases hlt : k < l.length
    · rcases HF.out with h0 | ⟨b, off, hp, hbl, hc⟩
      · omega
      subst hp
      have HCx := Lib.hid (fun k2 (hk2 : k2 < l.length) W (kW : Keeps [] w W) => EvsAt.cells (b := b) (off := off) hbl hc k2 hk2 kW)
      have hcx := HCx.out k hlt _ hkp
      have hbeg : diBegins l (k + 1) = diBegins l k ++ if (l.getD k default).ends then [] else [k] := rfl
      obtain ⟨x, hx⟩ : ∃ x, l.getD k default = x := ⟨_, rfl⟩
      rw [hx] at hcx hbeg
      have HK := Lib.hid hkp
      have HO := Lib.hid hown
      obtain ⟨x1, x2, x3, x4, ⟨x5, x6, xp, xn, xc, xvs⟩, ⟨x8, x9, yp, yn, yc, yls⟩⟩ := x
      simp only at hcx hbeg
      have c1 := hcx 1 _ (by omega) rfl
      have c2 := hcx 2 _ (by omega) rfl
      have c3 := hcx 3 _ (by omega) rfl
      have c4 := hcx 4 _ (by omega) rfl
      have c5 := hcx 5 _ (by omega) rfl
      have c6 := hcx 6 _ (by omega) rfl
      have HX := Lib.hid hx
      have HBe := Lib.hid hbeg
      have HBL := Lib.hid hbl
      have szr := hkp.size
      clear hbl hc hcx hkp hown hx hbeg
      cases x4 with
      | true =>
        simp only [if_true, List.append_nil] at HBe
        go_wp2
        go_roundw
        case rel => exact ⟨k + 1, op, oc, n, by omega, by go_num, rfl, by omega, Lib.hid (by rw [HBe.out]; exact hn.out), by rw [HBe.out]; exact HO.out, HK.out⟩
        case measure => simp [intOf]; omega
      | false =>
        simp only [Bool.false_eq_true, if_false] at HBe
        have lb : b < wr.heap.size := Nat.lt_of_lt_of_le HBL.out szr
        have kA := (Keeps.refl [] wr).alloc (.cells #[.int .i64 0, .int .i64 0, .int .i64 0, .int .i64 0, .int .i64 0, .int .u64 0, .slice none 0 0, .int .i64 0, .int .u64 0, .slice none 0 0] 41)
        have d1 := (kA.cell (p := ⟨b, off + k * 10 + 1, none⟩) lb (by simp)).trans c1
        have d2 := (kA.cell (p := ⟨b, off + k * 10 + 2, none⟩) lb (by simp)).trans c2
        have d4 := (kA.cell (p := ⟨b, off + k * 10 + 4, none⟩) lb (by simp)).trans c4
        have d5 := (kA.cell (p := ⟨b, off + k * 10 + 5, none⟩) lb (by simp)).trans c5
        have d6 := (kA.cell (p := ⟨b, off + k * 10 + 6, none⟩) lb (by simp)).trans c6
        have d5' := d5
        have d6' := d6
        rw [show off + k * 10 + 5 = off + k * 10 + 4 + 1 by omega] at d5'
        rw [show off + k * 10 + 6 = off + k * 10 + 4 + 2 by omega] at d6'
        have c5' := c5
        have c6' := c6
        rw [show off + k * 10 + 5 = off + k * 10 + 4 + 1 by omega] at c5'
        rw [show off + k * 10 + 6 = off + k * 10 + 4 + 2 by omega] at c6'
        clear kA
        go_wp2
        go_region
        obtain ⟨V1, hV1⟩ : ∃ V1, (wr.alloc (.cells #[.int .i64 x2, .int .i64 x3, .int .i64 (k : Int), .int .i64 (-1), .int .i64 x5, .int .u64 x6, .slice xp xn xc, .int .i64 0, .int .u64 0, .slice none 0 0] 41)).drew = V1 := ⟨_, rfl⟩
        rw [hV1]
        have kV : Keeps [] wr V1 := by rw [← hV1]; exact ((Keeps.refl _ _).alloc _).drew
        have rV : Row V1 wr.heap.size 41 (diPart l k (k + 1)) := by
          have hr := (Row.new wr #[.int .i64 x2, .int .i64 x3, .int .i64 (k : Int), .int .i64 (-1), .int .i64 x5, .int .u64 x6, .slice xp xn xc, .int .i64 0, .int .u64 0, .slice none 0 0] 41).keeps ((Keeps.refl [] _).drew) (by simp)
          rw [hV1] at hr
          have he : (#[.int .i64 x2, .int .i64 x3, .int .i64 (k : Int), .int .i64 (-1), .int .i64 x5, .int .u64 x6, .slice xp xn xc, .int .i64 0, .int .u64 0, .slice none 0 0] : Array Value).toList = diPart l k (k + 1) := by
            unfold diPart
            rw [diHi_first l k (k + 1) (Nat.le_refl _), HX.out]
            rfl
          rw [he] at hr
          exact hr
        have HKV := Lib.hid kV
        have HRV := Lib.hid rV
        have sV := kV.size
        clear kV rV hV1 c1 c2 c3 c4 c5 c6 c5' c6' d1 d2 d4 d5 d6 d5' d6'
        go_wp2
        go_loopw [6] (fun i wr2 => ∃ k2 : Nat, k + 1 ≤ k2 ∧ k2 ≤ l.length ∧ i = .int .i64 (k2 : Int) ∧ Row wr2 wr.heap.size 41 (diPart l k k2) ∧ Keeps [wr.heap.size] V1 wr2) (fun i _ => l.length - (intOf i).toNat)
        case atStart => exact ⟨k + 1, Nat.le_refl _, by omega, by go_num, HRV.out, Keeps.refl _ _⟩
        case round =>
          obtain ⟨k2, hk1, hk2, rfl, hrow, hkv⟩ := hrel
          have hkw := (HK.out.trans HKV.out).step hkv (fun g hg => by rw [List.mem_singleton] at hg; subst hg; exact szr)
          by_cases hlt2 : k2 < l.length
          · have hcy := HCx.out k2 hlt2 _ hkw
            have hnext : diHi l k (k2 + 1) = if k < k2 ∧ (l.getD k2 default).who = (l.getD k default).who ∧ (l.getD k2 default).ends = true ∧ (l.getD k2 default).nth = (l.getD k default).nth then ((k2 : Int), (l.getD k2 default).res) else diHi l k k2 := rfl
            obtain ⟨y, hy⟩ : ∃ y, l.getD k2 default = y := ⟨_, rfl⟩
            rw [hy, HX.out] at hnext
            rw [hy] at hcy
            have r0 := hrow.cell (j := 0) (u := .int .i64 x2) (by unfold diPart; rw [HX.out]; rfl)
            have r1 := hrow.cell (j := 1) (u := .int .i64 x3) (by unfold diPart; rw [HX.out]; rfl)
            have r3 := hrow.cell (j := 3) rfl
            have r7 := hrow.cell (j := 7) rfl
            have r8 := hrow.cell (j := 8) rfl
            have r9 := hrow.cell (j := 9) rfl
            have f3 := hrow.frozen 3
            have f7 := hrow.frozen 7
            have f8 := hrow.frozen 8
            have f9 := hrow.frozen 9
            obtain ⟨y1, y2, y3, y4, ⟨y5, y6, zp, zn, zc, yvs2⟩, ⟨y8, y9, up, un, uc, zls⟩⟩ := y
            simp only at hcy hnext
            have e1 := hcy 1 _ (by omega) rfl
            have e2 := hcy 2 _ (by omega) rfl
            have e3 := hcy 3 _ (by omega) rfl
            have e7 := hcy 7 _ (by omega) rfl
            have e8 := hcy 8 _ (by omega) rfl
            have e9 := hcy 9 _ (by omega) rfl
            rw [show off + k2 * 10 + 8 = off + k2 * 10 + 7 + 1 by omega] at e8
            rw [show off + k2 * 10 + 9 = off + k2 * 10 + 7 + 2 by omega] at e9
            have HRow := Lib.hid hrow
            have HKV2 := Lib.hid hkv
            have HNx := Lib.hid hnext
            clear hcy hnext hrow hkv hkw hy
            by_cases g1 : y2 = x2
            · have g1' : (y2 == x2) = true := by simp [g1]
              cases y4 with
              | true =>
                by_cases g3 : y3 = x3
                · have g3' : (y3 == x3) = true := by simp [g3]
                  have hh : diHi l k (k2 + 1) = ((k2 : Int), ⟨y8, y9, up, un, uc, zls⟩) := by rw [HNx.out, if_pos ⟨by omega, g1, rfl, g3⟩]
                  have HH := Lib.hid hh
                  clear g1 g3 hh
                  go_wp2
                  go_quiet (fail)
                  go_wp2
                  go_roundw
                  case rel =>
                    refine ⟨k2 + 1, by omega, by omega, by go_num, ?_, ?_⟩
                    · rw [← diPart_hit HH.out]
                      exact ((((HRow.out.keeps (Keeps.of_drewN _ _) (by simp)).set 3 _).set 7 _).set 8 _).set 9 _
                    · exact ((((HKV2.out.drewN).put (by simp) _ _).put (by simp) _ _).put (by simp) _ _).put (by simp) _ _
                  case measure => simp [intOf]; omega
                · have g3' : (y3 == x3) = false := by simp [g3]
                  have hh : diHi l k (k2 + 1) = diHi l k k2 := by rw [HNx.out, if_neg (fun h => g3 h.2.2.2)]
                  have HH := Lib.hid hh
                  clear g1 g3 hh
                  go_wp2
                  go_quiet (fail)
                  go_wp2
                  go_roundw
                  case rel => exact ⟨k2 + 1, by omega, by omega, by go_num, (by rw [diPart_same HH.out]; exact HRow.out.keeps (Keeps.of_drewN _ _) (by simp)), HKV2.out.drewN⟩
                  case measure => simp [intOf]; omega
              | false =>
                have hh : diHi l k (k2 + 1) = diHi l k k2 := by rw [HNx.out, if_neg (fun h => by cases h.2.2.1)]
                have HH := Lib.hid hh
                clear g1 hh
                go_wp2
                go_quiet (fail)
                go_wp2
                go_roundw
                case rel => exact ⟨k2 + 1, by omega, by omega, by go_num, (by rw [diPart_same HH.out]; exact HRow.out.keeps (Keeps.of_drewN _ _) (by simp)), HKV2.out.drewN⟩
                case measure => simp [intOf]; omega
            · have g1' : (y2 == x2) = false := by simp [g1]
              have hh : diHi l k (k2 + 1) = diHi l k k2 := by rw [HNx.out, if_neg (fun h => g1 h.2.1)]
              have HH := Lib.hid hh
              clear g1 hh
              go_wp2
              go_quiet (fail)
              go_wp2
              go_roundw
              case rel => exact ⟨k2 + 1, by omega, by omega, by go_num, (by rw [diPart_same HH.out]; exact HRow.out.keeps (Keeps.of_drewN _ _) (by simp)), HKV2.out.drewN⟩
              case measure => simp [intOf]; omega
          · obtain rfl : k2 = l.length := by omega
            have hO2 := diOwnsKeeps (diOwnsKeeps HO.out HKV.out (by simp)) hkv (fun g hg hm => by rw [List.mem_singleton] at hm; subst hm; have := (HO.out.lt _ hg).2; omega)
            obtain ⟨D, hD⟩ : ∃ D, diHi l k l.length = D := ⟨_, rfl⟩
            obtain ⟨hi, ⟨dc, dv, dp, dn, dq, dls⟩⟩ := D
            have hcells : diPart l k l.length = [.int .i64 x2, .int .i64 x3, .int .i64 (k : Int), .int .i64 hi, .int .i64 x5, .int .u64 x6, .slice xp xn xc, .int .i64 dc, .int .u64 dv, .slice dp dn dq] := by unfold diPart; rw [HX.out, hD]
            have hspan : diSpan l l.length k = ⟨x2, x3, k, hi, ⟨x5, x6, xp, xn, xc, xvs⟩, ⟨dc, dv, dp, dn, dq, dls⟩⟩ := by unfold diSpan; rw [HX.out, hD]
            have HSpn := Lib.hid hspan
            rw [hcells] at hrow
            clear hcells hspan hD
            have r0 := hrow.cell (j := 0) rfl
            have r1 := hrow.cell (j := 1) rfl
            have r2 := hrow.cell (j := 2) rfl
            have r3 := hrow.cell (j := 3) rfl
            have r4 := hrow.cell (j := 4) rfl
            have r5 := hrow.cell (j := 5) rfl
            have r6 := hrow.cell (j := 6) rfl
            have r7 := hrow.cell (j := 7) rfl
            have r8 := hrow.cell (j := 8) rfl
            have r9 := hrow.cell (j := 9) rfl
            have HO2 := Lib.hid hO2
            have HKW := Lib.hid hkw
            have sz2 := hkw.size
            clear hrow hkv hO2 hkw
            go_wp2_with (at_builtin; refine append_fresh rfl _ _ 34 rfl w.heap.size 41 _ 10 112 Try.underlying34 elemSp _ _ _ rfl HO2.out #[.int .i64 x2, .int .i64 x3, .int .i64 (k : Int), .int .i64 hi, .int .i64 x5, .int .u64 x6, .slice xp xn xc, .int .i64 dc, .int .u64 dv, .slice dp dn dq] rfl rfl (by simp [Value.oneCell']) (by omega) (by omega) ?_; intro v10 w10 own10 k10 f10 ne10; have hk10 : Keeps (Value.slice op n oc).ownBlock.toList _ w10 := k10; obtain ⟨p10, c10, rfl⟩ := (Sl.of_owns own10).len)
            go_roundw
            case rel =>
              refine ⟨k + 1, p10, c10, n + 1, by omega, by go_num, rfl, by omega, Lib.hid ?_, ?_, HKW.out.step hk10 (fun g hg => (HO.out.lt g (Option.mem_toList.1 hg)).1)⟩
              · rw [HBe.out, List.length_append, ← hn.out]; rfl
              · rw [HBe.out, List.map_append, List.map_cons, List.map_nil, HSpn.out, spCells_snoc]
                exact own10
            case measure => simp [intOf]; omega
    · obtain rfl : k = l.length := by omega
      have HK := Lib.hid hkp
      have HO := Lib.hid hown
      have hn2 : n = (diSpans l l.length).length := by rw [hn.out]; simp [diSpans]
      subst hn2
      clear hkp hown hn
      go_wp2
      go_ret
      exact ⟨_, rfl, HO.out, HK.out⟩
end Go.Proofs.Ytopombnehmfmcaa
