import Derived.Test.YtopombnehmfmcaaDiV
/-
  Contract of package diary's reader: a call begins.
-/
namespace Go.Proofs.Ytopombnehmfmcaa
set_option maxRecDepth 100000
set_option linter.unusedSimpArgs false
set_option linter.unusedVariables false
open Go.ChangeShapes Go.WideShapes Go.ChangeAt Go.RowKit

set_option maxHeartbeats 8000000 in
theorem rdBegin (W0 w : World) (R : Nat) (s : Rd) (sv : Value) (place : Nat) (e : DEv) (k : Nat) (h : RdAt W0 w R s sv) (hsl : s.sps.length ≤ 1000000) (hst : s.step = e.step) (hn : e.res.n = e.res.ls.length) (hk : e.who = (k : Int)) (h16 : k < 16) (hl : s.ws.length = 16)
    (hb : (s.ws.getD k default).begun ≤ 1000000) (hp : place ≤ 1000000) (hc : e.call.At W0) :
    Calls Try.prog 34 #[.pointer (some ⟨R, 0, none⟩), .int .i64 (place : Int), e.val] w fun v w' =>
      match s.begin place e with
      | some s' => v = .returned (.bool true) ∧ ∃ sv', RdAt W0 w' R s' sv'
      | none => v = .returned (.bool false) ∧ Below W0.heap.size w w' := by
  have hk0 : e.who.toNat = k := by omega
  have hz := fun W => diIsZero e.res W hn
  have h0 := h.row.cell (j := 0) (u := .int .i64 s.step) rfl
  have h1 := h.row.cell (j := 1) (u := sv) rfl
  unfold Rd.begin Rd.wk
  rw [hk0]
  obtain ⟨x, hx⟩ : ∃ x, s.ws.getD k default = x := ⟨_, rfl⟩
  have hx' : s.ws[k]? = some x := by
    rw [List.getD_eq_getElem?_getD] at hx
    rw [List.getElem?_eq_getElem (by omega)] at hx ⊢
    simpa using hx
  rw [hx] at hb ⊢
  have c (j : Nat) (hj : j < 3) : (rdCells s.step sv s.ws)[2 + (k * 3 + j)]? = [Value.int .i64 (x.begun : Int), .bool x.opn, .int .i64 (x.last : Int)][j]? := by
    rw [Nat.add_comm 2, rdCells, List.getElem?_cons_succ, List.getElem?_cons_succ]
    exact flat_at 3 _ (fun _ => rfl) s.ws k j x hx' hj
  have c0 := h.row.cell (c 0 (by omega))
  have c1 := h.row.cell (c 1 (by omega))
  have c2 := h.row.cell (c 2 (by omega))
  obtain ⟨begun, opn, last⟩ := x
  obtain ⟨step, who, nth, ends, ⟨kind, task, p, n, cc, vs⟩, ⟨code, v, q, m, d, ls⟩⟩ := e
  simp only at hn hk hst
  subst hk
  subst hn
  simp only [DEv.val, DCall.At, DRes.At, DRes.val] at hz hc ⊢
  obtain ⟨V0, hV0⟩ : ∃ V0, w.alloc (.cells #[.int .i64 step, .int .i64 (k : Int), .int .i64 nth, .bool ends, .int .i64 kind, .int .u64 task, .slice p n cc, .int .i64 code, .int .u64 v, .slice q ls.length d] 33) = V0 := ⟨_, rfl⟩
  have HB : Hid (Box V0 w.heap.size #[.int .i64 step, .int .i64 (k : Int), .int .i64 nth, .bool ends, .int .i64 kind, .int .u64 task, .slice p n cc, .int .i64 code, .int .u64 v, .slice q ls.length d]) := Lib.hid (by rw [← hV0]; exact Box.new _ _ _)
  have HK : Hid (Keeps [] w V0) := Lib.hid (by rw [← hV0]; exact (Keeps.refl _ _).alloc _)
  have lR := h.row.lt
  have d0 := (HK.out.cell (p := ⟨R, 2 + (k * 3 + 0), none⟩) lR (by simp)).trans c0
  have d1 := (HK.out.cell (p := ⟨R, 2 + (k * 3 + 1), none⟩) lR (by simp)).trans c1
  have d2 := (HK.out.cell (p := ⟨R, 2 + (k * 3 + 2), none⟩) lR (by simp)).trans c2
  have e1 := (HK.out.cell (p := ⟨R, 1, none⟩) lR (by simp)).trans h1
  rw [← Nat.add_assoc] at d1 d2
  rw [Nat.add_zero] at d0
  have hbel := h.bel.size
  have KB : Hid (Below W0.heap.size w V0) := Lib.hid (HK.out.below hbel (by simp))
  have HH := Lib.hid (h.keeps HK.out)
  have HZ := Lib.hid hz
  have HCc := Lib.hid c
  clear c c0 c1 c2 h0 h1 hz h
  have cx := HB.out.cells
  have HC := Lib.hid hc
  clear hc
  cases opn with
  | true =>
    simp only [true_or, if_true]
    go_enter Try.func34, Try.ntmps34
    go_wp2
    go_quiet (fail)
    go_wp2
    go_quiet (fail)
    go_wp2
    go_ret
    exact ⟨rfl, by first | exact belowD (belowD KB.out) | exact belowD KB.out⟩
  | false =>
    by_cases h2 : nth = (begun : Int)
    · have hzz := HZ
      cases h3 : DRes.zero ⟨code, v, q, ls.length, d, ls⟩ with
      | false =>
        rw [if_pos (by simp [h3])]
        rw [h3] at HZ
        subst h2
        have hnn : ((begun : Int) != (begun : Int)) = false := by simp
        go_enter Try.func34, Try.ntmps34
        go_wp2
        go_quiet (fail)
        go_wp2
        refine wp_region_mid 16 (by kernel_rfl) (by kernel_rfl) ?_
        simp only [List.take_succ_cons, List.take_zero, List.drop_succ_cons, List.drop_zero]
        repeat still_step
        refine wpStill_nil ?_
        go_wp2_with fail
        refine (HZ.out _).mono ?_
        rintro e w1 ⟨rfl, k1⟩
        go_wp2
        show wpStill _ _ _ _ _ _
        repeat still_step
        refine wpStill_nil ?_
        have KB1 := Lib.hid (KB.out.trans (k1.undrewN.below (Nat.le_trans hbel HK.out.size) (by simp)))
        clear k1
        go_wp2
        go_ret
        exact ⟨rfl, by first | exact KB1.out | exact belowD KB1.out⟩
      | true =>
        rw [if_neg (by simp [h3, h2])]
        rw [h3] at HZ
        subst h2
        have hnn : ((begun : Int) != (begun : Int)) = false := by simp
        go_enter Try.func34, Try.ntmps34
        go_wp2
        go_quiet (fail)
        go_wp2
        refine wp_region_mid 16 (by kernel_rfl) (by kernel_rfl) ?_
        simp only [List.take_succ_cons, List.take_zero, List.drop_succ_cons, List.drop_zero]
        repeat still_step
        refine wpStill_nil ?_
        go_wp2_with fail
        refine (HZ.out _).mono ?_
        rintro e w1 ⟨rfl, k1⟩
        have h1 := HH.out.keeps k1.undrewN
        have lR1 := h1.row.lt
        have g1 := h1.row.cell (j := 1) (u := sv) rfl
        have g2 := h1.row.cell (j := 2 + (k * 3 + 0)) (u := .int .i64 (begun : Int)) (HCc.out 0 (by omega))
        have f2 := h1.row.frozen (2 + k * 3)
        have f3 := h1.row.frozen (2 + k * 3 + 1)
        have f4 := h1.row.frozen (2 + k * 3 + 2)
        have g3 := h1.row.cell (j := 2 + (k * 3 + 1)) (u := .bool false) (HCc.out 1 (by omega))
        have g4 := h1.row.cell (j := 2 + (k * 3 + 2)) (u := .int .i64 (last : Int)) (HCc.out 2 (by omega))
        rw [← Nat.add_assoc] at g3 g4
        rw [Nat.add_zero] at g2
        have HH1 := Lib.hid h1
        have HB1 := Lib.hid (HB.out.keeps k1.undrewN (by simp))
        have HNR : Hid (w.heap.size ≠ R) := Lib.hid (by omega)
        clear h1 k1
        obtain ⟨sp, sc, hsv⟩ := (Sl.of_owns HH1.out.own).len
        subst hsv
        have hwr : IntKind.i64.wrap ((begun : Int) + 1) = (begun : Int) + 1 := IntWalk.i64_in _ (by omega)
        go_wp2
        show wpStill _ _ _ _ _ _
        repeat still_step
        refine wpStill_nil ?_
        go_wp2
        go_still_tail 13, (by kernel_rfl)
        change wpList _ _ _ _ _ w1.drew
        go_wp2_with fail
        obtain ⟨W2, hW2⟩ : ∃ W2, (((w1.setCell ⟨R, 2 + k * 3, none⟩ (.int .i64 ((begun : Int) + 1))).setCell ⟨R, 2 + k * 3 + 1, none⟩ (.bool true)).setCell ⟨R, 2 + k * 3 + 2, none⟩ (.int .i64 (s.sps.length : Int))).drew = W2 := ⟨_, rfl⟩
        rw [hW2]
        have k2 : Keeps [R] w1 W2 := by rw [← hW2]; exact ((((Keeps.refl [R] w1).put (by simp) _ _).put (by simp) _ _).put (by simp) _ _).drew
        have r2 : Row W2 R 51 (rdCells s.step (.slice sp s.sps.length sc) (s.ws.set k ⟨begun + 1, true, s.sps.length⟩)) := by
          have hset := rwCells_set s.ws k ⟨begun, false, last⟩ ⟨begun + 1, true, s.sps.length⟩ hx'
          have hr := ((HH1.out.row.set (2 + k * 3) (.int .i64 ((begun : Int) + 1))).set (2 + k * 3 + 1) (.bool true)).set (2 + k * 3 + 2) (.int .i64 (s.sps.length : Int))
          rw [Nat.add_comm 2 (k * 3)] at hr hW2
          have hr2 := hr.keeps ((Keeps.refl [] _).drew) (by simp)
          rw [hW2] at hr2
          have e : (((rdCells s.step (.slice sp s.sps.length sc) s.ws).set (k * 3 + 2) (.int .i64 ((begun : Int) + 1))).set (k * 3 + 2 + 1) (.bool true)).set (k * 3 + 2 + 2) (.int .i64 (s.sps.length : Int)) = rdCells s.step (.slice sp s.sps.length sc) (s.ws.set k ⟨begun + 1, true, s.sps.length⟩) := by
            unfold rdCells
            rw [← hset]
            rfl
          rw [e] at hr2
          exact hr2
        have hapart := HH1.out.apart
        have own2 : W2.ownsRow W0.heap.size 41 10 (.slice sp s.sps.length sc) s.sps.length (spCells s.sps) := diOwnsKeeps HH1.out.own k2 (fun g hg hm => by rw [List.mem_singleton] at hm; subst hm; exact hapart hg)
        have bel2 : Below W0.heap.size W0 W2 := HH1.out.bel.trans (k2.below HH1.out.bel.size (fun x hx => by rw [List.mem_singleton] at hx; subst hx; exact HH1.out.new))
        have lR2 := r2.lt
        have hRno : R ∉ (Value.slice sp s.sps.length sc).ownBlock.toList := fun hm => hapart (by simpa using hm)
        have t1 := r2.cell (j := 1) (u := .slice sp s.sps.length sc) rfl
        have t1f := r2.frozen 1
        have bx := (HB1.out.keeps k2 (by simpa using HNR.out)).cells
        have hlA : W0.heap.size ≤ W2.heap.size := bel2.size
        have kA0 : Keeps [] W2 (W2.alloc (.cells #[.int .i64 (k : Int), .int .i64 (begun : Int), .int .i64 (place : Int), .int .i64 (-1), .int .i64 kind, .int .u64 task, .slice p n cc, .int .i64 0, .int .u64 0, .slice none 0 0] 41)).drew := ((Keeps.refl [] W2).alloc _).drew
        have hvA := (kA0.cell (p := ⟨R, 1, none⟩) lR2 (by simp)).trans t1
        have hfA := (kA0.frozen (p := ⟨R, 1, none⟩) lR2 (by simp)).trans t1f
        have hLit : ∀ j u, [Value.int .i64 (k : Int), .int .i64 (begun : Int), .int .i64 (place : Int), .int .i64 (-1), .int .i64 kind, .int .u64 task, .slice p n cc, .int .i64 0, .int .u64 0, .slice none 0 0][j]? = some u → (W2.alloc (.cells #[.int .i64 (k : Int), .int .i64 (begun : Int), .int .i64 (place : Int), .int .i64 (-1), .int .i64 kind, .int .u64 task, .slice p n cc, .int .i64 0, .int .u64 0, .slice none 0 0] 41)).drew.cell? ⟨W2.heap.size, j, none⟩ = some u := fun j u hu => by
          show (W2.alloc (.cells #[.int .i64 (k : Int), .int .i64 (begun : Int), .int .i64 (place : Int), .int .i64 (-1), .int .i64 kind, .int .u64 task, .slice p n cc, .int .i64 0, .int .u64 0, .slice none 0 0] 41)).cell? ⟨W2.heap.size, j, none⟩ = some u
          rw [World.cell?_alloc_at _ _ _ _ rfl, ← Array.getElem?_toList]; exact hu
        have HOwnA : Hid ((W2.alloc (.cells #[.int .i64 (k : Int), .int .i64 (begun : Int), .int .i64 (place : Int), .int .i64 (-1), .int .i64 kind, .int .u64 task, .slice p n cc, .int .i64 0, .int .u64 0, .slice none 0 0] 41)).drew.ownsRow W0.heap.size 41 10 (.slice sp s.sps.length sc) s.sps.length (spCells s.sps)) := Lib.hid (diOwnsKeeps own2 kA0 (by simp))
        have HR2 := Lib.hid r2
        have HBel2 := Lib.hid bel2
        have HSpl := Lib.hid (spCells_snoc s.sps ⟨(k : Int), (begun : Int), place, -1, ⟨kind, task, p, n, cc, vs⟩, DRes.none⟩)
        have HNew := Lib.hid HH1.out.new
        have hat := HH1.out.at_
        clear own2 r2 bel2 k2 t1f g1 g2 g3 g4 f2 f3 f4 hW2 HH HZ HB HB1 HK KB d0 d1 d2 e1 HCc cx
        go_region_law (first | (refine step_append_fresh (by rfl) _ _ 34 (by rfl) W0.heap.size 41 _ 10 112 Try.underlying34 elemSp _ s.sps.length (spCells s.sps) (by rfl) HOwnA.out _ [.int .i64 (k : Int), .int .i64 (begun : Int), .int .i64 (place : Int), .int .i64 (-1), .int .i64 kind, .int .u64 task, .slice p n cc, .int .i64 0, .int .u64 0, .slice none 0 0] (by rfl) rfl (by simp [Value.oneCell']) (fun j u hu => hLit j u hu) (by omega) (by simp; omega) ?_; intro v10 w10 own10 k10 f10' ne10; have hv10 := (k10.cell (p := ⟨R, 1, none⟩) (by simp; omega) hRno).trans hvA; have hf10 := (k10.frozen (p := ⟨R, 1, none⟩) (by simp; omega) hRno).trans hfA; obtain ⟨p10, c10, rfl⟩ := (Sl.of_owns own10).len))
        all_goals
          have hpnew : (Value.slice p10 (s.sps.length + 1) c10).ownBlock ≠ some R := fun hg => by
            rcases f10' R hg with h | h
            · exact hapart h
            · simp at h; omega
          have kA := (kA0.nil (S := (Value.slice sp s.sps.length sc).ownBlock.toList)).trans k10
          have hold : ∀ g ∈ (Value.slice sp s.sps.length sc).ownBlock.toList, W0.heap.size ≤ g := fun g hg => (HOwnA.out.lt g (by simpa using hg)).1
          have kW := (Keeps.refl [R] w10).put (by simp : R ∈ [R]) 1 (.slice p10 (s.sps.length + 1) c10)
          have hR5 := (HR2.out.keeps kA hRno).set 1 (.slice p10 (s.sps.length + 1) c10)
          have own5 := diOwnsKeeps own10 kW (fun g hg hm => by rw [List.mem_singleton] at hm; subst hm; exact hpnew hg)
          have bel5 := (HBel2.out.trans (kA.below HBel2.out.size hold)).trans (kW.below (Nat.le_trans HBel2.out.size kA.size) (fun g hg => by rw [List.mem_singleton] at hg; subst hg; exact HNew.out))
          obtain ⟨W5, hW5⟩ : ∃ W5, w10.setCell ⟨R, 1, none⟩ (.slice p10 (s.sps.length + 1) c10) = W5 := ⟨_, rfl⟩
          rw [hW5] at hR5 own5 bel5 ⊢
          have own6 : W5.ownsRow W0.heap.size 41 10 (.slice p10 (s.sps.length + 1) c10) (s.sps ++ [(⟨(k : Int), (begun : Int), place, -1, ⟨kind, task, p, n, cc, vs⟩, DRes.none⟩ : DSp)]).length (spCells (s.sps ++ [⟨(k : Int), (begun : Int), place, -1, ⟨kind, task, p, n, cc, vs⟩, DRes.none⟩])) := by
            rw [HSpl.out, List.length_append, List.length_singleton]
            exact own5
          have hfin : RdAt W0 W5 R ⟨s.step, s.sps ++ [⟨(k : Int), (begun : Int), place, -1, ⟨kind, task, p, n, cc, vs⟩, DRes.none⟩], s.ws.set k ⟨begun + 1, true, s.sps.length⟩⟩ (.slice p10 (s.sps.length + 1) c10) :=
            ⟨bel5, hR5, own6, HNew.out, hpnew, fun x hx => by
              rcases List.mem_append.1 hx with hx | hx
              · exact hat x hx
              · rw [List.mem_singleton] at hx; subst hx; exact ⟨HC.out, DRes.none_at W0⟩⟩
          have HF := Lib.hid hfin
          clear hfin own6 own5 hR5 bel5 kA kW hold own10 k10 f10' ne10 hv10 hf10 hvA hfA hLit kA0 HOwnA HR2 t1 hpnew
          go_wp2
          go_ret
          rw [← hst]
          exact ⟨rfl, _, HF.out⟩
    · have hnn : (nth != (begun : Int)) = true := by simp [h2]
      rw [if_pos (by simp [h2])]
      have H2 := Lib.hid h2
      clear h2
      go_enter Try.func34, Try.ntmps34
      go_wp2
      go_quiet (fail)
      go_wp2
      go_quiet (fail)
      go_wp2
      go_ret
      exact ⟨rfl, by first | exact belowD (belowD KB.out) | exact belowD KB.out⟩
end Go.Proofs.Ytopombnehmfmcaa
