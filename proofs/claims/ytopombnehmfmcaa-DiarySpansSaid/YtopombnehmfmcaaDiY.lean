import Derived.Test.YtopombnehmfmcaaDiV
/-
  Contracts of package diary's reader: a call ends; an event; all events.
-/
namespace Go.Proofs.Ytopombnehmfmcaa
set_option maxRecDepth 100000
set_option linter.unusedSimpArgs false
set_option linter.unusedVariables false
open Go.ChangeShapes Go.WideShapes Go.ChangeAt Go.RowKit

theorem sp_at (l : List DSp) (i j : Nat) (x : DSp) (h : l[i]? = some x) (hj : j < 10) : (spCells l)[i * 10 + j]? = [Value.int .i64 x.who, .int .i64 x.nth, .int .i64 x.lo, .int .i64 x.hi, .int .i64 x.call.kind, .int .u64 x.call.task, .slice x.call.p x.call.n x.call.c, .int .i64 x.res.code, .int .u64 x.res.v, .slice x.res.p x.res.n x.res.c][j]? := flat_at 10 _ (fun _ => rfl) l i j x h hj
theorem owns_set10 {w : World} {base g n cap size : Nat} {e : TypeId} {xs : List Value} (h : w.ownsRow base e size (.slice (some ⟨g, 0, none⟩) n cap) n xs) (j : Nat) (u : Value) (hj : j < n * size) :
    (w.setCell ⟨g, j, none⟩ u).ownsRow base e size (.slice (some ⟨g, 0, none⟩) n cap) n (xs.set j u) := by
  have hl := h.1
  rcases h.2 with ⟨h1, _⟩ | ⟨g', cap', cur, h1, hb, hg, hnc, hcm, hcs, htake⟩
  · cases h1
  · cases h1
    refine ⟨by simpa using hl, .inr ⟨g, cap, cur.setIfInBounds j u, rfl, hb, ?_, hnc, hcm, by simpa using hcs, ?_⟩⟩
    · have hlt := (Array.getElem?_eq_some_iff.1 hg).1
      have hv := (Array.getElem?_eq_some_iff.1 hg).2
      simp only [World.setCell]
      rw [Array.getElem?_eq_getElem (by simpa using hlt), Array.getElem_modify]
      simp [hv]
    · rw [Array.toList_setIfInBounds, List.take_set, htake]
theorem rwCells_one (ws : List RdW) (k : Nat) (x : RdW) (o : Bool) (h : ws[k]? = some x) : (rwCells ws).set (k * 3 + 1) (.bool o) = rwCells (ws.set k { x with opn := o }) :=
  flat_set 3 (fun k : RdW => [Value.int .i64 (k.begun : Int), .bool k.opn, .int .i64 (k.last : Int)]) (fun _ => rfl) ws k 1 x { x with opn := o } (.bool o) h (by omega) rfl
/-- A span's end is stored. -/
theorem spCells_end (l : List DSp) (i : Nat) (x : DSp) (h : l[i]? = some x) (hi : Int) (r : DRes) :
    ((((spCells l).set (i * 10 + 3) (.int .i64 hi)).set (i * 10 + 7) (.int .i64 r.code)).set (i * 10 + 8) (.int .u64 r.v)).set (i * 10 + 9) (.slice r.p r.n r.c) = spCells (l.set i { x with hi := hi, res := r }) := by
  obtain ⟨who, nth, lo, hi0, cl, ⟨code, v, q, m, d, ls⟩⟩ := x
  obtain ⟨code', v', q', m', d', ls'⟩ := r
  have hk := (List.getElem?_eq_some_iff.1 h).1
  have key := flat_set 10 (fun s : DSp => [Value.int .i64 s.who, .int .i64 s.nth, .int .i64 s.lo, .int .i64 s.hi, .int .i64 s.call.kind, .int .u64 s.call.task, .slice s.call.p s.call.n s.call.c, .int .i64 s.res.code, .int .u64 s.res.v, .slice s.res.p s.res.n s.res.c]) (fun _ => rfl)
  have e0 := key l i 3 _ ⟨who, nth, lo, hi, cl, ⟨code, v, q, m, d, ls⟩⟩ (.int .i64 hi) h (by omega) rfl
  have e1 := key (l.set i ⟨who, nth, lo, hi, cl, ⟨code, v, q, m, d, ls⟩⟩) i 7 ⟨who, nth, lo, hi, cl, ⟨code, v, q, m, d, ls⟩⟩ ⟨who, nth, lo, hi, cl, ⟨code', v, q, m, d, ls⟩⟩ (.int .i64 code') (by simp [hk]) (by omega) rfl
  have e2 := key ((l.set i ⟨who, nth, lo, hi, cl, ⟨code, v, q, m, d, ls⟩⟩).set i ⟨who, nth, lo, hi, cl, ⟨code', v, q, m, d, ls⟩⟩) i 8 ⟨who, nth, lo, hi, cl, ⟨code', v, q, m, d, ls⟩⟩ ⟨who, nth, lo, hi, cl, ⟨code', v', q, m, d, ls⟩⟩ (.int .u64 v') (by simp [hk]) (by omega) rfl
  have e3 := key (((l.set i ⟨who, nth, lo, hi, cl, ⟨code, v, q, m, d, ls⟩⟩).set i ⟨who, nth, lo, hi, cl, ⟨code', v, q, m, d, ls⟩⟩).set i ⟨who, nth, lo, hi, cl, ⟨code', v', q, m, d, ls⟩⟩) i 9 ⟨who, nth, lo, hi, cl, ⟨code', v', q, m, d, ls⟩⟩ ⟨who, nth, lo, hi, cl, ⟨code', v', q', m', d', ls'⟩⟩ (.slice q' m' d') (by simp [hk]) (by omega) rfl
  unfold spCells
  rw [e0, e1, e2, e3]
  simp

set_option maxHeartbeats 4000000 in
theorem rdEnd (W0 w : World) (R : Nat) (s : Rd) (sv : Value) (place : Nat) (e : DEv) (k : Nat) (h : RdAt W0 w R s sv) (hst : s.step = e.step) (hk : e.who = (k : Int)) (h16 : k < 16) (hl : s.ws.length = 16)
    (hlast : (s.ws.getD k default).opn = true → (s.ws.getD k default).last < s.sps.length) (hsl : s.sps.length ≤ 1000000) (hp : place ≤ 1000000) (hc : e.call.At W0) (hr : e.res.At W0) :
    Calls Try.prog 33 #[.pointer (some ⟨R, 0, none⟩), .int .i64 (place : Int), e.val] w fun v w' =>
      match s.end_ place e with
      | some s' => v = .returned (.bool true) ∧ ∃ sv', RdAt W0 w' R s' sv'
      | none => v = .returned (.bool false) ∧ Below W0.heap.size w w' := by
  have hk0 : e.who.toNat = k := by omega
  have h0 := h.row.cell (j := 0) (u := .int .i64 s.step) rfl
  have h1 := h.row.cell (j := 1) (u := sv) rfl
  unfold Rd.end_ Rd.wk
  rw [hk0]
  obtain ⟨x, hx⟩ : ∃ x, s.ws.getD k default = x := ⟨_, rfl⟩
  have hx' : s.ws[k]? = some x := by
    rw [List.getD_eq_getElem?_getD] at hx
    rw [List.getElem?_eq_getElem (by omega)] at hx ⊢
    simpa using hx
  rw [hx] at hlast ⊢
  have c (j : Nat) (hj : j < 3) : (rdCells s.step sv s.ws)[2 + (k * 3 + j)]? = [Value.int .i64 (x.begun : Int), .bool x.opn, .int .i64 (x.last : Int)][j]? := by
    rw [Nat.add_comm 2, rdCells, List.getElem?_cons_succ, List.getElem?_cons_succ]
    exact flat_at 3 _ (fun _ => rfl) s.ws k j x hx' hj
  have c1 := h.row.cell (c 1 (by omega))
  have c2 := h.row.cell (c 2 (by omega))
  have f1 := h.row.frozen (2 + k * 3 + 1)
  obtain ⟨begun, opn, last⟩ := x
  obtain ⟨step, who, nth, ends, ⟨kind, task, p, n, cc, vs⟩, ⟨code, v, q, m, d, ls⟩⟩ := e
  simp only at hk hst hlast
  subst hk
  simp only [DEv.val] at hc hr ⊢
  have hbel := h.bel.size
  have lR := h.row.lt
  obtain ⟨V0, hV0⟩ : ∃ V0, w.alloc (.cells #[.int .i64 step, .int .i64 (k : Int), .int .i64 nth, .bool ends, .int .i64 kind, .int .u64 task, .slice p n cc, .int .i64 code, .int .u64 v, .slice q m d] 33) = V0 := ⟨_, rfl⟩
  have HB : Hid (Box V0 w.heap.size #[.int .i64 step, .int .i64 (k : Int), .int .i64 nth, .bool ends, .int .i64 kind, .int .u64 task, .slice p n cc, .int .i64 code, .int .u64 v, .slice q m d]) := Lib.hid (by rw [← hV0]; exact Box.new _ _ _)
  have HK : Hid (Keeps [] w V0) := Lib.hid (by rw [← hV0]; exact (Keeps.refl _ _).alloc _)
  have d1 := (HK.out.cell (p := ⟨R, 2 + (k * 3 + 1), none⟩) lR (by simp)).trans c1
  have d2 := (HK.out.cell (p := ⟨R, 2 + (k * 3 + 2), none⟩) lR (by simp)).trans c2
  have e1 := (HK.out.cell (p := ⟨R, 1, none⟩) lR (by simp)).trans h1
  rw [← Nat.add_assoc] at d1 d2
  simp only at d1 d2
  have KB : Hid (Below W0.heap.size w V0) := Lib.hid (HK.out.below hbel (by simp))
  have HH := Lib.hid (h.keeps HK.out)
  have HCc := Lib.hid c
  have HNR : Hid (w.heap.size ≠ R) := Lib.hid (by omega)
  clear c c1 c2 h0 h1 h f1
  have HC := Lib.hid hc
  have HR := Lib.hid hr
  clear hc hr
  have cx := HB.out.cells
  cases opn with
  | false =>
    simp only [true_or, if_true]
    go_enter Try.func33, Try.ntmps33
    go_wp2
    go_quiet (fail)
    go_wp2
    go_ret
    exact ⟨rfl, by first | exact belowD (belowD KB.out) | exact belowD KB.out⟩
  | true =>
    have hlt := hlast rfl
    obtain ⟨y, hy⟩ : ∃ y, s.sps.getD last default = y := ⟨_, rfl⟩
    have hy' : s.sps[last]? = some y := by
      rw [List.getD_eq_getElem?_getD] at hy
      rw [List.getElem?_eq_getElem hlt] at hy ⊢
      simpa using hy
    have hym : y ∈ s.sps := List.mem_of_getElem? hy'
    have HY := Lib.hid (HH.out.at_ y hym)
    have hown := HH.out.own
    obtain ⟨sp, sc, hsv⟩ := (Sl.of_owns hown).len
    subst hsv
    obtain ⟨g, cap, hg1, hg2⟩ : ∃ g cap, Value.slice sp s.sps.length sc = .slice (some ⟨g, 0, none⟩) s.sps.length cap ∧ Row V0 g 41 (spCells s.sps) := by
      rcases hown.2 with ⟨h1, h2⟩ | ⟨g, cap, cur, h1, _⟩
      · omega
      · rw [h1] at hown; exact ⟨g, cap, h1, Row.of_owns hown⟩
    rw [hg1] at hown e1 HH HCc
    clear hg1
    rw [hy]
    have s1 := hg2.cell ((sp_at s.sps last 1 y hy' (by omega)).trans rfl)
    have s4 := hg2.cell ((sp_at s.sps last 4 y hy' (by omega)).trans rfl)
    have s5 := hg2.cell ((sp_at s.sps last 5 y hy' (by omega)).trans rfl)
    have s6 := hg2.cell ((sp_at s.sps last 6 y hy' (by omega)).trans rfl)
    have hSm := fun W (k0 : Below W0.heap.size W0 W) => diIsSame ⟨kind, task, p, n, cc, vs⟩ y.call W ⟨HC.out.1.below k0 (Nat.le_refl _), HC.out.2⟩ ⟨HY.out.1.1.below k0 (Nat.le_refl _), HY.out.1.2⟩
    simp only [DCall.val] at hSm
    have HSm := Lib.hid hSm
    have HG := Lib.hid hg2
    have gne : g ≠ R := fun e => HH.out.apart (by simp [Value.ownBlock, e])
    have hgW : W0.heap.size ≤ g := (hown.lt g rfl).1
    obtain ⟨ywho, ynth, ylo, yhi, ⟨ykind, ytask, yp, yn, ycc, yvs⟩, ⟨ycode, yv, yq, ym, yd, yls⟩⟩ := y
    simp only at s1 s4 s5 s6 hSm HSm ⊢
    clear hSm hg2 hown
    by_cases h2 : nth = ynth
    · subst h2
      have hnn : (nth != nth) = false := by simp
      cases h3 : DCall.same ⟨kind, task, p, n, cc, vs⟩ ⟨ykind, ytask, yp, yn, ycc, yvs⟩ with
      | false =>
        rw [if_pos (by simp)]
        rw [h3] at HSm
        go_enter Try.func33, Try.ntmps33
        go_wp2
        go_quiet (fail)
        go_wp2
        go_quiet (fail)
        go_wp2
        refine wp_region_mid 14 (by kernel_rfl) (by kernel_rfl) ?_
        simp only [List.take_succ_cons, List.take_zero, List.drop_succ_cons, List.drop_zero]
        repeat still_step
        refine wpStill_nil ?_
        go_wp2_with fail
        refine (HSm.out _ (by first | exact belowD (belowD HH.out.bel) | exact belowD HH.out.bel)).mono ?_
        rintro e w1 ⟨rfl, k1⟩
        go_wp2
        show wpStill _ _ _ _ _ _
        repeat still_step
        refine wpStill_nil ?_
        have KB1 := Lib.hid (KB.out.trans (k1.undrewN.below (Nat.le_trans hbel HK.out.size) (by simp)))
        clear k1
        go_wp2
        go_ret
        exact ⟨rfl, by first | exact KB1.out | exact belowD KB1.out⟩
      | true =>
        rw [if_neg (by simp)]
        rw [h3] at HSm
        go_enter Try.func33, Try.ntmps33
        go_wp2
        go_quiet (fail)
        go_wp2
        go_quiet (fail)
        go_wp2
        refine wp_region_mid 14 (by kernel_rfl) (by kernel_rfl) ?_
        simp only [List.take_succ_cons, List.take_zero, List.drop_succ_cons, List.drop_zero]
        repeat still_step
        refine wpStill_nil ?_
        go_wp2_with fail
        refine (HSm.out _ (by first | exact belowD (belowD HH.out.bel) | exact belowD HH.out.bel)).mono ?_
        rintro e w1 ⟨rfl, k1⟩
        have h1 := HH.out.keeps k1.undrewN
        have c1 := h1.row.cell (j := 2 + (k * 3 + 1)) (u := .bool true) (HCc.out 1 (by omega))
        have f1 := h1.row.frozen (2 + k * 3 + 1)
        rw [← Nat.add_assoc] at c1
        have hg1 := HG.out.keeps k1.undrewN (by simp)
        have HB1 := Lib.hid (HB.out.keeps k1.undrewN (by simp))
        have HG1 := Lib.hid hg1
        have HH1 := Lib.hid h1
        clear h1 hg1 k1
        go_wp2
        show wpStill _ _ _ _ _ _
        repeat still_step
        refine wpStill_nil ?_
        go_wp2
        obtain ⟨W2, hW2⟩ : ∃ W2, w1.setCell ⟨R, 2 + k * 3 + 1, none⟩ (.bool false) = W2 := ⟨_, rfl⟩
        rw [hW2]
        have k2 : Keeps [R] w1 W2 := by rw [← hW2]; exact (Keeps.refl [R] w1).put (by simp) _ _
        have r2 : Row W2 R 51 (rdCells s.step (.slice (some ⟨g, 0, none⟩) s.sps.length cap) (s.ws.set k ⟨begun, false, last⟩)) := by
          have hset := rwCells_one s.ws k ⟨begun, true, last⟩ false hx'
          have hr := HH1.out.row.set (2 + k * 3 + 1) (.bool false)
          rw [Nat.add_comm 2 (k * 3)] at hr hW2
          rw [hW2] at hr
          have e : (rdCells s.step (.slice (some ⟨g, 0, none⟩) s.sps.length cap) s.ws).set (k * 3 + 2 + 1) (.bool false) = rdCells s.step (.slice (some ⟨g, 0, none⟩) s.sps.length cap) (s.ws.set k ⟨begun, false, last⟩) := by
            unfold rdCells
            rw [← hset]
            rfl
          rw [e] at hr
          exact hr
        have hgR : g ∉ [R] := by simpa using gne
        have own2 := diOwnsKeeps HH1.out.own k2 (fun g' hg hm => by rw [List.mem_singleton] at hm; subst hm; simp [Value.ownBlock] at hg; exact gne hg)
        have bel2 := HH1.out.bel.trans (k2.below HH1.out.bel.size (fun x hx => by rw [List.mem_singleton] at hx; subst hx; exact HH1.out.new))
        have hG2 := HG1.out.keeps k2 hgR
        have bx := (HB1.out.keeps k2 (by simpa using HNR.out)).cells
        have s3 := hG2.cell ((sp_at s.sps last 3 _ hy' (by omega)).trans rfl)
        have s7 := hG2.cell ((sp_at s.sps last 7 _ hy' (by omega)).trans rfl)
        have s8 := hG2.cell ((sp_at s.sps last 8 _ hy' (by omega)).trans rfl)
        have s9 := hG2.cell ((sp_at s.sps last 9 _ hy' (by omega)).trans rfl)
        have q3 := hG2.frozen (last * 10 + 3)
        have q7 := hG2.frozen (last * 10 + 7)
        have q8 := hG2.frozen (last * 10 + 8)
        have q9 := hG2.frozen (last * 10 + 9)
        simp only at s3 s7 s8 s9
        have HR2 := Lib.hid r2
        have HO2 := Lib.hid own2
        have HG2 := Lib.hid hG2
        have HBel2 := Lib.hid bel2
        clear r2 own2 hG2 bel2 k2 hW2 c1 f1 d1 d2 cx s1 s4 s5 s6 e1 HB HK KB HH HSm HB1 HG1 HCc hgR
        go_region
        obtain ⟨W3, hW3⟩ : ∃ W3, ((((W2.setCell ⟨g, last * 10 + 3, none⟩ (.int .i64 (place : Int))).setCell ⟨g, last * 10 + 7, none⟩ (.int .i64 code)).setCell ⟨g, last * 10 + 7 + 1, none⟩ (.int .u64 v)).setCell ⟨g, last * 10 + 7 + 2, none⟩ (.slice q m d)).drew = W3 := ⟨_, rfl⟩
        rw [hW3]
        have k3 : Keeps [g] W2 W3 := by rw [← hW3]; exact (((((Keeps.refl [g] W2).put (by simp) _ _).put (by simp) _ _).put (by simp) _ _).put (by simp) _ _).drew
        have own3 := owns_set10 (owns_set10 (owns_set10 (owns_set10 HO2.out (last * 10 + 3) (.int .i64 (place : Int)) (by omega)) (last * 10 + 7) (.int .i64 code) (by omega)) (last * 10 + 7 + 1) (.int .u64 v) (by omega)) (last * 10 + 7 + 2) (.slice q m d) (by omega)
        have hend := spCells_end s.sps last _ hy' place ⟨code, v, q, m, d, ls⟩
        simp only at hend
        rw [show last * 10 + 7 + 1 = last * 10 + 8 from rfl, show last * 10 + 7 + 2 = last * 10 + 9 from rfl] at own3 hW3
        rw [hend] at own3
        have own4 : W3.ownsRow W0.heap.size 41 10 (.slice (some ⟨g, 0, none⟩) s.sps.length cap) s.sps.length (spCells (s.sps.set last ⟨ywho, nth, ylo, place, ⟨ykind, ytask, yp, yn, ycc, yvs⟩, ⟨code, v, q, m, d, ls⟩⟩)) := by
          rw [← hW3]; exact own3
        have hfin : RdAt W0 W3 R ⟨s.step, s.sps.set last ⟨ywho, nth, ylo, place, ⟨ykind, ytask, yp, yn, ycc, yvs⟩, ⟨code, v, q, m, d, ls⟩⟩, s.ws.set k ⟨begun, false, last⟩⟩ (.slice (some ⟨g, 0, none⟩) s.sps.length cap) := by
          refine ⟨HBel2.out.trans (k3.below HBel2.out.size (fun x hx => by rw [List.mem_singleton] at hx; subst hx; exact hgW)), HR2.out.keeps k3 (by simpa using Ne.symm gne), ?_, HH1.out.new, HH1.out.apart, fun x hx => ?_⟩
          · rw [List.length_set]; exact own4
          · rcases List.mem_or_eq_of_mem_set hx with hx | hx
            · exact HH1.out.at_ x hx
            · subst hx; exact ⟨HY.out.1, HR.out⟩
        have HF := Lib.hid hfin
        clear hfin own4 own3 k3 hW3 HO2 HR2 HG2 HBel2
        go_wp2
        go_ret
        rw [← hst]
        exact ⟨rfl, _, HF.out⟩
    · have hnn : (nth != ynth) = true := by simp [h2]
      rw [if_pos (by simp [h2])]
      have H2 := Lib.hid h2
      clear h2
      go_enter Try.func33, Try.ntmps33
      go_wp2
      go_quiet (fail)
      go_wp2
      go_quiet (fail)
      go_wp2
      go_quiet (fail)
      go_wp2
      go_ret
      exact ⟨rfl, by first | exact belowD (belowD (belowD KB.out)) | exact belowD (belowD KB.out) | exact belowD KB.out⟩
end Go.Proofs.Ytopombnehmfmcaa
