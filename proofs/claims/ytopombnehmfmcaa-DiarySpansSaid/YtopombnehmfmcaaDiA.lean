import Derived.Test.YtopombnehmfmcaaDiU
import Derived.Deep.RegionHeld3
/-
  Contracts of package diary: Right, Spans.
-/
namespace Go.Proofs.Ytopombnehmfmcaa
set_option maxRecDepth 100000
set_option linter.unusedSimpArgs false
set_option linter.unusedVariables false
open Go.ChangeShapes Go.WideShapes Go.ChangeAt Go.RowKit

theorem diBegins_len (l : List DEv) (n : Nat) : (diBegins l n).length ≤ n := by
  induction n with
  | zero => exact Nat.le_refl _
  | succ n ih => simp only [diBegins, List.length_append]; split <;> simp <;> omega
theorem Keeps.put10 {S : List Nat} {a w : World} (h : Keeps S a w) {m : Nat} (hm : m ∈ S) (o0 o1 o2 o3 o4 o5 o6 o7 o8 o9 : Nat) (u0 u1 u2 u3 u4 u5 u6 u7 u8 u9 : Value) : Keeps S a ((((((((((w.setCell ⟨m, o0, none⟩ u0).setCell ⟨m, o1, none⟩ u1).setCell ⟨m, o2, none⟩ u2).setCell ⟨m, o3, none⟩ u3).setCell ⟨m, o4, none⟩ u4).setCell ⟨m, o5, none⟩ u5).setCell ⟨m, o6, none⟩ u6).setCell ⟨m, o7, none⟩ u7).setCell ⟨m, o8, none⟩ u8).setCell ⟨m, o9, none⟩ u9) := ((((((((((h.put hm o0 u0).put hm o1 u1).put hm o2 u2).put hm o3 u3).put hm o4 u4).put hm o5 u5).put hm o6 u6).put hm o7 u7).put hm o8 u8).put hm o9 u9)
theorem owns_ne {w : World} {b b' s s' n n' : Nat} {e e' : TypeId} {v v' : Value} {xs xs' : List Value} (h : w.ownsRow b e s v n xs) (h' : w.ownsRow b' e' s' v' n' xs') (he : e ≠ e') {g : Nat} (hg : v.ownBlock = some g) : v'.ownBlock ≠ some g := by
  intro hg'
  rcases h.2 with ⟨h1, _⟩ | ⟨g1, cap1, cur1, h1, _, hb1, _⟩
  · rw [h1] at hg; cases hg
  · rcases h'.2 with ⟨h2, _⟩ | ⟨g2, cap2, cur2, h2, _, hb2, _⟩
    · rw [h2] at hg'; cases hg'
    · rw [h1] at hg; rw [h2] at hg'
      simp [Value.ownBlock] at hg hg'
      subst hg hg'
      rw [hb1] at hb2
      simp at hb2
      exact he hb2.2

theorem rd_new (w : World) : RdAt w (w.alloc (.cells #[.int .i64 0, .slice none 0 0, .int .i64 0, .bool false, .int .i64 0, .int .i64 0, .bool false, .int .i64 0, .int .i64 0, .bool false, .int .i64 0, .int .i64 0, .bool false, .int .i64 0, .int .i64 0, .bool false, .int .i64 0, .int .i64 0, .bool false, .int .i64 0, .int .i64 0, .bool false, .int .i64 0, .int .i64 0, .bool false, .int .i64 0, .int .i64 0, .bool false, .int .i64 0, .int .i64 0, .bool false, .int .i64 0, .int .i64 0, .bool false, .int .i64 0, .int .i64 0, .bool false, .int .i64 0, .int .i64 0, .bool false, .int .i64 0, .int .i64 0, .bool false, .int .i64 0, .int .i64 0, .bool false, .int .i64 0, .int .i64 0, .bool false, .int .i64 0] 51)) w.heap.size Rd.new (.slice none 0 0) :=
  ⟨((Keeps.refl [] w).alloc _).below (Nat.le_refl _) (by simp), Row.new w _ _, World.ownsRow_nil _ _ _ _, Nat.le_refl _, by simp [Value.ownBlock], fun x hx => by simp [Rd.new] at hx⟩

theorem diRight_any (v : Value) (l : List DEv) (w : World) (hl : l.length ≤ 1000000) (hv : EvsAt w v l) :
    Calls Try.prog 8 #[v] w fun e w' => e = .returned (.bool (rdAll l l.length).isSome) ∧ Keeps [] w w' := by
  have H := Lib.hid (readAll_any w _ w.heap.size _ v l hl hv (rd_new w))
  obtain ⟨p, c, rfl⟩ := hv.sl.len
  clear hv
  go_enter Try.func8, Try.ntmps8
  go_wp2_with fail
  refine H.out.mono ?_
  rintro e w1 h1
  cases ho : rdAll l l.length with
  | none =>
    rw [ho] at h1
    obtain ⟨rfl, hb⟩ := h1
    go_wp2
    go_ret
    rw [ho]
    exact ⟨rfl, Keeps.of_below hb (Nat.le_refl _)⟩
  | some s =>
    rw [ho] at h1
    obtain ⟨rfl, sv', hb⟩ := h1
    have HB := Lib.hid hb.bel
    clear hb
    go_wp2
    go_ret
    rw [ho]
    exact ⟨rfl, Keeps.of_below HB.out (Nat.le_refl _)⟩

/-- What Spans tells. -/
def SpansTold (w : World) (o : Option Rd) (e : Ending) (w' : World) : Prop :=
  Keeps [] w w' ∧ match o with
  | none => e = .returned (.tuple #[.slice none 0 0, .int .i64 13])
  | some s => ∃ sv L, e = .returned (.tuple #[sv, .int .i64 0]) ∧ L.length = s.sps.length ∧ w'.ownsRow w.heap.size 41 10 sv L.length (spCells L) ∧ ∀ i, i < L.length → Copied w.heap.size w' (s.sps.getD i default) (L.getD i default)

set_option maxHeartbeats 8000000 in
theorem diSpans_any (v : Value) (l : List DEv) (w : World) (hl : l.length ≤ 1000000) (hv : EvsAt w v l) :
    Calls Try.prog 7 #[v] w fun e w' => SpansTold w (rdAll l l.length) e w' := by
  have H := Lib.hid (readAll_any w _ w.heap.size _ v l hl hv (rd_new w))
  obtain ⟨p, c, rfl⟩ := hv.sl.len
  clear hv
  go_enter Try.func7, Try.ntmps7
  go_wp2_with fail
  refine H.out.mono ?_
  rintro e w1 h1
  cases ho : rdAll l l.length with
  | none =>
    rw [ho] at h1
    obtain ⟨rfl, hb⟩ := h1
    go_wp2
    first | (refine bodyPost_ret (results_tmp2 rfl _ _ _) rfl ?_) | go_ret
    rw [ho]
    exact ⟨Keeps.of_below hb (Nat.le_refl _), rfl⟩
  | some s =>
    rw [ho] at h1
    obtain ⟨rfl, sv, hb⟩ := h1
    have hlen : s.sps.length ≤ 1000000 := by
      have hI := (rdAll_some ho).spans
      rw [hI]
      have := diBegins_len l l.length
      simp only [diSpans, List.length_map]
      omega
    obtain ⟨q, m, rfl⟩ := (Sl.of_owns hb.own).len
    have c1 := hb.row.cell (j := 1) (u := .slice q s.sps.length m) rfl
    have HB := Lib.hid hb
    clear hb
    go_wp2
    go_loopw [13] (fun i wr => ∃ k : Nat, k ≤ s.sps.length ∧ i = .int .i64 (k : Int) ∧ Row wr w.heap.size 51 (rdCells s.step (.slice q s.sps.length m) s.ws) ∧ Below w.heap.size w wr ∧ ∃ L : List DSp, L.length = s.sps.length ∧ wr.ownsRow w.heap.size 41 10 (.slice q s.sps.length m) s.sps.length (spCells L) ∧ (∀ j, j < k → Copied w.heap.size wr (s.sps.getD j default) (L.getD j default)) ∧ ∀ j, k ≤ j → L.getD j default = s.sps.getD j default) (fun i _ => s.sps.length - (intOf i).toNat)
    case atStart => exact ⟨0, Nat.zero_le _, rfl, HB.out.row, HB.out.bel, s.sps, rfl, HB.out.own, fun j hj => by omega, fun j _ => rfl⟩
    case round =>
      obtain ⟨k, hk, rfl, hrow, hbel, L, hL, hown, hdone, hrest⟩ := hrel
      have hbs := hbel.size
      by_cases hlt : k < s.sps.length
      · obtain ⟨g, hq, hgr⟩ : ∃ g, q = some ⟨g, 0, none⟩ ∧ Row wr g 41 (spCells L) := by
          rcases hown.2 with ⟨_, h2⟩ | ⟨g, cap, cur, h1, _⟩
          · omega
          · cases h1; exact ⟨g, rfl, Row.of_owns hown⟩
        subst hq
        obtain ⟨x, hx⟩ : ∃ x, L[k]? = some x := ⟨_, List.getElem?_eq_getElem (by omega)⟩
        have hxd : L.getD k default = x := by rw [List.getD_eq_getElem?_getD, hx]; rfl
        have hxs : s.sps.getD k default = x := by rw [← hrest k (Nat.le_refl _), hxd]
        have hxm : x ∈ s.sps := by
          rw [← hxs, List.getD_eq_getElem?_getD, List.getElem?_eq_getElem hlt]
          exact List.getElem_mem hlt
        have hxa := HB.out.at_ x hxm
        have hgR : g ≠ w.heap.size := fun e => HB.out.apart (by simp [Value.ownBlock, e])
        have hgw := (hown.lt g rfl).1
        have cc : ∀ j u, j < 10 → [Value.int .i64 x.who, .int .i64 x.nth, .int .i64 x.lo, .int .i64 x.hi, .int .i64 x.call.kind, .int .u64 x.call.task, .slice x.call.p x.call.n x.call.c, .int .i64 x.res.code, .int .u64 x.res.v, .slice x.res.p x.res.n x.res.c][j]? = some u → wr.cell? ⟨g, k * 10 + j, none⟩ = some u := fun j u hj hu => hgr.cell ((sp_at L k j x hx hj).trans hu)
        have HCp := Lib.hid (fun W (kW : Keeps [] wr W) => diCopied x W ⟨hxa.1.1.below (hbel.trans (kW.below hbs (by simp))) (Nat.le_refl _), hxa.1.2⟩ ⟨hxa.2.1.below (hbel.trans (kW.below hbs (by simp))) (Nat.le_refl _), hxa.2.2⟩)
        obtain ⟨x1, x2, x3, x4, ⟨x5, x6, xp, xn, xc, xvs⟩, ⟨x8, x9, yp, yn, yc, yls⟩⟩ := x
        simp only [DSp.val] at HCp cc
        have q0 := cc 0 _ (by omega) rfl
        have q1 := cc 1 _ (by omega) rfl
        have q2 := cc 2 _ (by omega) rfl
        have q3 := cc 3 _ (by omega) rfl
        have q4 := cc 4 _ (by omega) rfl
        have q5 := cc 5 _ (by omega) rfl
        have q6 := cc 6 _ (by omega) rfl
        have q7 := cc 7 _ (by omega) rfl
        have q8 := cc 8 _ (by omega) rfl
        have q9 := cc 9 _ (by omega) rfl
        rw [Nat.add_zero] at q0
        have HRow := Lib.hid hrow
        have HG := Lib.hid hgr
        have HX := Lib.hid hx
        have HO := Lib.hid hown
        have HBel := Lib.hid hbel
        have HDone := Lib.hid hdone
        have HRest := Lib.hid hrest
        have HXs := Lib.hid hxs
        clear hx hxd hxs hxm hxa cc hrow hbel hown hdone hrest hgr c1
        go_wp2_with fail
        obtain ⟨V0, hV0⟩ : ∃ V0, wr.alloc (.cells #[.int .i64 x1, .int .i64 x2, .int .i64 x3, .int .i64 x4, .int .i64 x5, .int .u64 x6, .slice xp xn xc, .int .i64 x8, .int .u64 x9, .slice yp yn yc] 41) = V0 := ⟨_, rfl⟩
        rw [hV0]
        have kV : Keeps [] wr V0 := by rw [← hV0]; exact (Keeps.refl _ _).alloc _
        have bV : Box V0 wr.heap.size #[.int .i64 x1, .int .i64 x2, .int .i64 x3, .int .i64 x4, .int .i64 x5, .int .u64 x6, .slice xp xn xc, .int .i64 x8, .int .u64 x9, .slice yp yn yc] := by rw [← hV0]; exact Box.new _ _ _
        have rV := HRow.out.keeps kV (by simp)
        have gV := HG.out.keeps kV (by simp)
        have HQ : Hid (∀ W S, Keeps S V0 W → w.heap.size ∉ S ∧ wr.heap.size ∉ S → W.cell? ⟨w.heap.size, 1, none⟩ = some (.slice (some ⟨g, 0, none⟩) s.sps.length m) ∧ ∀ i, W.cell? ⟨wr.heap.size, i, none⟩ = #[.int .i64 x1, .int .i64 x2, .int .i64 x3, .int .i64 x4, .int .i64 x5, .int .u64 x6, .slice xp xn xc, .int .i64 x8, .int .u64 x9, .slice yp yn yc][i]?) := Lib.hid (fun W S hk hq => ⟨(rV.keeps hk hq.1).cell (j := 1) rfl, (bV.keeps hk hq.2).cells⟩)
        have d1 := rV.cell (j := 1) (u := .slice (some ⟨g, 0, none⟩) s.sps.length m) rfl
        have cx := bV.cells
        have HKV := Lib.hid kV
        have HGV := Lib.hid gV
        have sV := kV.size
        have hwr0 : g < wr.heap.size := HG.out.lt
        have HNot : Hid (w.heap.size ∉ [g] ∧ wr.heap.size ∉ [g]) := Lib.hid ⟨by simp; omega, by simp; omega⟩
        clear kV rV gV bV hV0 q0 q1 q2 q3 q4 q5 q6 q7 q8 q9
        go_region_law (first
          | (go_simp; go_at_call 19; refine (HCp.out _ (HKV.out.trans (Keeps.refl [] V0).drew)).mono ?_; rintro e w2 ⟨y, rfl, hcp, k2⟩; have hk2 : Keeps [] V0 w2 := k2.undrew; have hR2 := (HQ.out w2 [] hk2 ⟨by simp, by simp⟩).1; have g2 := HGV.out.keeps hk2 (by simp); have t0 := g2.cell ((sp_at L k 0 _ HX.out (by omega)).trans rfl); have t1 := g2.cell ((sp_at L k 1 _ HX.out (by omega)).trans rfl); have t2 := g2.cell ((sp_at L k 2 _ HX.out (by omega)).trans rfl); have t3 := g2.cell ((sp_at L k 3 _ HX.out (by omega)).trans rfl); have t4 := g2.cell ((sp_at L k 4 _ HX.out (by omega)).trans rfl); have t5 := g2.cell ((sp_at L k 5 _ HX.out (by omega)).trans rfl); have t6 := g2.cell ((sp_at L k 6 _ HX.out (by omega)).trans rfl); have t7 := g2.cell ((sp_at L k 7 _ HX.out (by omega)).trans rfl); have t8 := g2.cell ((sp_at L k 8 _ HX.out (by omega)).trans rfl); have t9 := g2.cell ((sp_at L k 9 _ HX.out (by omega)).trans rfl); rw [Nat.add_zero] at t0; have fz := fun i => g2.frozen i; have HCpd := Lib.hid hcp; have HK2 := Lib.hid hk2; clear hcp k2 hk2 g2))
        all_goals
          obtain ⟨y1, y2, y3, y4, ⟨y5, y6, zp, zn, zc, yvs⟩, ⟨y8, y9, up, un, uc, yls'⟩⟩ := y
          have hLn : s.sps.length * 10 = L.length * 10 := by rw [hL]
          have kwr : Keeps [] wr w2 := HKV.out.trans HK2.out
          have own2 := diOwnsKeeps HO.out kwr (by simp)
          have hkL : k < L.length := by omega
          have own3 := (owns_set10 (owns_set10 (owns_set10 (owns_set10 (owns_set10 (owns_set10 (owns_set10 (owns_set10 (owns_set10 (owns_set10 own2 (k * 10) (.int .i64 y1) (by rw [hLn]; omega)) (k * 10 + 1) (.int .i64 y2) (by rw [hLn]; omega)) (k * 10 + 2) (.int .i64 y3) (by rw [hLn]; omega)) (k * 10 + 3) (.int .i64 y4) (by rw [hLn]; omega)) (k * 10 + 4) (.int .i64 y5) (by rw [hLn]; omega)) (k * 10 + 5) (.int .u64 y6) (by rw [hLn]; omega)) (k * 10 + 6) (.slice zp zn zc) (by rw [hLn]; omega)) (k * 10 + 7) (.int .i64 y8) (by rw [hLn]; omega)) (k * 10 + 8) (.int .u64 y9) (by rw [hLn]; omega)) (k * 10 + 9) (.slice up un uc) (by rw [hLn]; omega))
          have hfill := spFill L k _ _ _ _ _ _ _ _ _ _ _ _ _ _ _ _ y1 y2 y3 y4 y5 y6 zp zn zc yvs y8 y9 up un uc yls' HX.out
          rw [hfill] at own3
          have k3 := (Keeps.refl [g] w2).put10 (List.mem_singleton.2 rfl) (k * 10) (k * 10 + 1) (k * 10 + 2) (k * 10 + 3) (k * 10 + 4) (k * 10 + 5) (k * 10 + 6) (k * 10 + 7) (k * 10 + 8) (k * 10 + 9) (.int .i64 y1) (.int .i64 y2) (.int .i64 y3) (.int .i64 y4) (.int .i64 y5) (.int .u64 y6) (.slice zp zn zc) (.int .i64 y8) (.int .u64 y9) (.slice up un uc)
          obtain ⟨W3, hW3⟩ : ∃ W3, ((((((((((w2.setCell ⟨g, k * 10, none⟩ (.int .i64 y1)).setCell ⟨g, k * 10 + 1, none⟩ (.int .i64 y2)).setCell ⟨g, k * 10 + 2, none⟩ (.int .i64 y3)).setCell ⟨g, k * 10 + 3, none⟩ (.int .i64 y4)).setCell ⟨g, k * 10 + 4, none⟩ (.int .i64 y5)).setCell ⟨g, k * 10 + 5, none⟩ (.int .u64 y6)).setCell ⟨g, k * 10 + 6, none⟩ (.slice zp zn zc)).setCell ⟨g, k * 10 + 7, none⟩ (.int .i64 y8)).setCell ⟨g, k * 10 + 8, none⟩ (.int .u64 y9)).setCell ⟨g, k * 10 + 9, none⟩ (.slice up un uc)) = W3 := ⟨_, rfl⟩
          rw [hW3] at own3 k3 ⊢
          have hwV := HKV.out.size
          have hcp := HCpd.out
          have hyne1 : ∀ g', (Value.slice zp zn zc).ownBlock = some g' → g' ∉ [g] := fun g' hg' hm => by
            rw [List.mem_singleton] at hm; subst hm
            exact owns_ne hcp.own1 own2 (by decide) hg' rfl
          have hyne2 : ∀ g', (Value.slice up un uc).ownBlock = some g' → g' ∉ [g] := fun g' hg' hm => by
            rw [List.mem_singleton] at hm; subst hm
            exact owns_ne hcp.own2 own2 (by decide) hg' rfl
          have hcp3 := (hcp.keeps k3 hyne1 hyne2).base (show w.heap.size ≤ _ from Nat.le_trans hbs hwV)
          have hdone3 : ∀ j, j < k → Copied w.heap.size W3 (s.sps.getD j default) (L.getD j default) := fun j hj => by
            have h0 := HDone.out j hj
            have h1 := h0.keeps kwr (by simp) (by simp)
            refine h1.keeps k3 (fun g' hg' hm => ?_) (fun g' hg' hm => ?_)
            · rw [List.mem_singleton] at hm; subst hm
              exact owns_ne h1.own1 own2 (by decide) hg' rfl
            · rw [List.mem_singleton] at hm; subst hm
              exact owns_ne h1.own2 own2 (by decide) hg' rfl
          have row3 := (HRow.out.keeps kwr (by simp)).keeps k3 (fun hm => by rw [List.mem_singleton] at hm; exact hgR hm.symm)
          have bel3 := (HBel.out.trans (kwr.below hbs (by simp))).trans (k3.below (Nat.le_trans hbs kwr.size) (fun g' hm => by rw [List.mem_singleton] at hm; subst hm; exact hgw))
          have HF := Lib.hid (And.intro row3 (And.intro bel3 (And.intro own3 (And.intro hcp3 hdone3))))
          clear own2 own3 hfill k3 hW3 hcp hyne1 hyne2 hcp3 hdone3 row3 bel3 kwr t0 t1 t2 t3 t4 t5 t6 t7 t8 t9 fz d1 cx
          go_wp2
          go_roundw
          case rel =>
            refine ⟨k + 1, by omega, by go_num, HF.out.1, HF.out.2.1, L.set k ⟨y1, y2, y3, y4, ⟨y5, y6, zp, zn, zc, yvs⟩, ⟨y8, y9, up, un, uc, yls'⟩⟩, by rw [List.length_set]; exact hL, HF.out.2.2.1, fun j hj => ?_, fun j hj => ?_⟩
            · rw [getD_set _ _ _ _ _ hkL]
              by_cases hjk : j = k
              · subst hjk
                rw [if_pos rfl, HXs.out]
                exact HF.out.2.2.2.1
              · rw [if_neg hjk]
                exact HF.out.2.2.2.2 j (by omega)
            · rw [getD_set _ _ _ _ _ hkL, if_neg (by omega)]
              exact HRest.out j (by omega)
          case measure => simp [intOf]; omega
      · obtain rfl : k = s.sps.length := by omega
        have c1' := hrow.cell (j := 1) (u := .slice q s.sps.length m) rfl
        have HBel := Lib.hid hbel
        have HO := Lib.hid hown
        have HDone := Lib.hid hdone
        clear hrow hbel hown hdone hrest
        go_wp2
        first | (refine bodyPost_ret (results_tmp2 rfl _ _ _) rfl ?_) | go_ret
        rw [ho]
        exact ⟨Keeps.of_below HBel.out (Nat.le_refl _), _, L, rfl, hL, by rw [hL]; exact HO.out, fun i hi => HDone.out i (by omega)⟩
end Go.Proofs.Ytopombnehmfmcaa
