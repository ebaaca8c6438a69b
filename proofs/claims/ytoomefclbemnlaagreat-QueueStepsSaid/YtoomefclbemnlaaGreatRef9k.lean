/-
  Give of the document's frame of a queue, where a frame of the arena's is made.
-/
import Derived.Test.YtoomefclbemnlaaGreatRef9g
import Derived.Test.YtoomefclbemnlaaGreatRef6
import Derived.Test.YtoomefclbemnlaaGreatQuZ
import Derived.Deep.RegionLaw
namespace Go.Proofs.YtoomefclbemnlaaGreat
set_option maxRecDepth 100000
set_option linter.unusedSimpArgs false
set_option linter.unusedVariables false
open Go.ChangeShapes Go.WideShapes Go.ChangeAt Go.RowKit

theorem refArJ.alloc {q : Nat} {w : World} {a : ArS} {o : Obj} (h : refArJ q w [q] a) : refArJ q (w.alloc o) [q] a := ⟨h.1, h.2.1.keeps ((Keeps.refl [] _).alloc _) (by simp), h.2.2⟩
theorem refArJ.did {q p : Nat} {w w' : World} {a : ArS} (h : refArJ q w [q] a) (hk : Keeps [p] w w') (hn : q ≠ p) : refArJ q w' [q] a := ⟨h.1, h.2.1.keeps hk (by simpa using hn), h.2.2⟩
section
variable {p : Nat} {w : World} {lv nv : Value}
set_option maxHeartbeats 3200000 in
theorem rq_t6w (s : QuS) (v : Int) (h : Row w p 85 (quCells s lv nv (.pointer none))) (ho : s.over = none) (hp : s.puts = false) (hs : s.step = 6) (hHU : M.U s.h) (hr : quRight s.at_ s.n) :
    Calls Tryz.prog 41 #[.pointer (some ⟨p, 0, none⟩), .int .u64 v, .bool true] w fun e w' => e = .returned (.tuple #[]) ∧ ∃ z, Row w' p 85 (quCells { s with inn := true } lv nv (.pointer (some ⟨z, 0, none⟩))) ∧ refArJ z w' [z] (arPut (s.at_ + 2) s.n (quNode s.h)) ∧ Keeps [p] w w' ∧ w.heap.size ≤ z := by
  obtain ⟨at_, n, puts, l, nodes, k, step, sub, hh, t, x, vv, code, inn, over⟩ := s
  simp only at *
  subst ho hp hs
  have HR := Lib.hid h
  have hplt := h.lt
  have c0 := h.cell (j := 0) rfl
  have f0 := h.frozen 0
  have c1 := h.cell (j := 1) rfl
  have f1 := h.frozen 1
  have c2 := h.cell (j := 2) rfl
  have f2 := h.frozen 2
  have c6 := h.cell (j := 6) rfl
  have f6 := h.frozen 6
  have c7 := h.cell (j := 7) rfl
  have f7 := h.frozen 7
  have c8 := h.cell (j := 8) rfl
  have f8 := h.frozen 8
  have c13 := h.cell (j := 13) rfl
  have f13 := h.frozen 13
  have c14 := h.cell (j := 14) rfl
  have f14 := h.frozen 14
  simp only [Option.isSome_none] at c14
  have HNH := Lib.hid (fun W => refNodeOf_any hh W hHU)
  obtain ⟨qh, hqh⟩ : ∃ q, quNode hh = q := ⟨_, rfl⟩
  rw [hqh] at HNH ⊢
  obtain ⟨r1, r2, r3, r4⟩ := hr
  have wa : IntKind.i64.wrap (at_ + 2) = at_ + 2 := IntWalk.i64_in _ (by omega)
  clear h hHU hqh
  go_enter Tryz.func41, Tryz.ntmps41
  go_wp2_with (first
        | (go_at_call 128; refine (HNH.out _).mono ?_; rintro e w' ⟨rfl, rfl⟩)
        | (go_at_call 85; go_in))
  have HQ : Hid (∀ (W : World) (sv : Value), Row W p 85 (quCells ⟨at_, n, false, l, nodes, k, 6, sub, hh, t, x, vv, code, true, none⟩ lv nv sv) → W.cell? ⟨p, 0, none⟩ = some (.int .i64 at_) ∧ W.cell? ⟨p, 1, none⟩ = some (.int .i64 n) ∧ W.cell? ⟨p, 8, none⟩ = some (.int .u64 hh)) := Lib.hid fun W sv h => ⟨h.cell (j := 0) rfl, h.cell (j := 1) rfl, h.cell (j := 8) rfl⟩
  have hd := Did.fin (p := p) (Did.set (i := 13) (v := .bool true) (Did.refl (w := w))) HR.out rfl
  have hr0 : Row (w.setCell ⟨p, 13, none⟩ (.bool true)) p 85 (quCells ⟨at_, n, false, l, nodes, k, 6, sub, hh, t, x, vv, code, true, none⟩ lv nv (.pointer none)) := hd.1
  obtain ⟨W1, hW1⟩ : ∃ W1, w.setCell ⟨p, 13, none⟩ (.bool true) = W1 := ⟨_, rfl⟩
  rw [hW1] at hr0 hd
  have hsz : W1.heap.size = w.heap.size := by rw [← hW1]; simp [World.setCell]
  have HR1 := Lib.hid hr0
  have HK1 := Lib.hid hd.2
  have d0 := hr0.cell (j := 0) (u := .int .i64 at_) rfl
  have d1 := hr0.cell (j := 1) (u := .int .i64 n) rfl
  have d8 := hr0.cell (j := 8) (u := .int .u64 hh) rfl
  rw [hW1]
  clear hd hr0 hW1
  go_region_held3 (fun w' => w'.cell? ⟨p, 0, none⟩ = some (.int .i64 at_) ∧ w'.cell? ⟨p, 1, none⟩ = some (.int .i64 n) ∧ w'.cell? ⟨p, 8, none⟩ = some (.int .u64 hh))
    (first
      | exact HQ.out _ _ (hr3.set 7 _)
      | exact HQ.out _ _ hr3
      | exact ⟨d0, d1, d8⟩
      | fail)
    (first
      | (go_at_call 128; refine (HNH.out _).mono ?_; rintro e w' ⟨rfl, rfl⟩)
      | (go_at_call 135; refine (refPut_any _ _ _ _).mono ?_; rintro e w3 ⟨z, rfl, jz, kz', hz'⟩; have kz := kz'.undrew; have hz : W1.heap.size ≤ z := hz'; have hr3 := HR1.out.keeps kz (by simp); have d7 := hr3.cell (j := 7) (u := .pointer none) rfl; have e7 := hr3.frozen 7; clear kz' hz')
      | fail)
  have hpz : z ≠ p := by omega
  have hzw : w.heap.size ≤ z := by omega
  have HR3 : Hid (Row (w3.setCell ⟨p, 7, none⟩ (.pointer (some ⟨z, 0, none⟩))) p 85 (quCells ⟨at_, n, false, l, nodes, k, 6, sub, hh, t, x, vv, code, true, none⟩ lv nv (.pointer (some ⟨z, 0, none⟩)))) := Lib.hid (hr3.set 7 _)
  have HJ3 := Lib.hid (jz.did (w' := w3.setCell ⟨p, 7, none⟩ (.pointer (some ⟨z, 0, none⟩))) ((Keeps.refl [p] w3).set (by simp) _ _) hpz)
  have HK3 : Hid (Keeps [p] w (w3.setCell ⟨p, 7, none⟩ (.pointer (some ⟨z, 0, none⟩)))) := Lib.hid ((HK1.out.trans (kz.nil (S := [p]))).set (by simp) _ _)
  clear hr3 jz kz d7 e7 hpz HR1 HK1 HQ
  repeat
    fail_if_success (with_reducible refine ⟨rfl, ?_⟩)
    first
      | (with_reducible show bodyPost _ _ _ _ _ _; first | go_end0 | refine bodyPost_ret (results_none rfl _ _ _) rfl ?_)
      | go_wp2
  exact ⟨rfl, z, HR3.out, HJ3.out, HK3.out, hzw⟩
set_option maxHeartbeats 3200000 in
theorem refBack_put (s : QuS) (sv : Value) (nb nc : Nat) (y : Int) (h : Row w p 85 (quCells s lv (.slice (some ⟨nb, 0, none⟩) s.nodes.length nc) sv)) (hy : w.cell? ⟨nb, s.k, none⟩ = some (.int .i64 y)) (hnb : nb < w.heap.size ∧ nb ≠ p) (hk : s.k < s.nodes.length) (hr : quRight s.at_ s.n) (hk3 : s.k ≤ 300) :
    Calls Tryz.prog 131 #[.pointer (some ⟨p, 0, none⟩)] w fun e w' => e = .returned (.tuple #[]) ∧ ∃ z, Row w' p 85 (quCells { s with k := s.k + 1 } lv (.slice (some ⟨nb, 0, none⟩) s.nodes.length nc) (.pointer (some ⟨z, 0, none⟩))) ∧ refArJ z w' [z] (arPut (s.at_ + 2) s.n y) ∧ Keeps [p] w w' ∧ w.heap.size ≤ z := by
  obtain ⟨at_, n, puts, l, nodes, k, step, sub, hh, t, x, vv, code, inn, over⟩ := s
  simp only at *
  have HR := Lib.hid h
  have hplt := h.lt
  have c0 := h.cell (j := 0) rfl
  have f0 := h.frozen 0
  have c1 := h.cell (j := 1) rfl
  have f1 := h.frozen 1
  have c4 := h.cell (j := 4) rfl
  have f4 := h.frozen 4
  have c5 := h.cell (j := 5) rfl
  have f5 := h.frozen 5
  have c7 := h.cell (j := 7) rfl
  have f7 := h.frozen 7
  obtain ⟨r1, r2, r3, r4⟩ := hr
  have wa : IntKind.i64.wrap (at_ + 2) = at_ + 2 := IntWalk.i64_in _ (by omega)
  have ik : (k : Int) < (nodes.length : Int) := by omega
  have dk : ((k : Int) == (nodes.length : Int)) = false := by simp; omega
  have HQ : Hid (∀ (W : World) (sv : Value), Row W p 85 (quCells ⟨at_, n, puts, l, nodes, k, step, sub, hh, t, x, vv, code, inn, over⟩ lv (.slice (some ⟨nb, 0, none⟩) nodes.length nc) sv) → W.cell? ⟨p, 0, none⟩ = some (.int .i64 at_) ∧ W.cell? ⟨p, 1, none⟩ = some (.int .i64 n) ∧ W.cell? ⟨p, 4, none⟩ = some (.slice (some ⟨nb, 0, none⟩) nodes.length nc) ∧ W.cell? ⟨p, 5, none⟩ = some (.int .i64 (k : Int))) := Lib.hid fun W sv h => ⟨h.cell (j := 0) rfl, h.cell (j := 1) rfl, h.cell (j := 4) rfl, h.cell (j := 5) rfl⟩
  clear h
  go_enter Tryz.func131, Tryz.ntmps131
  go_wp2
  go_quiet (fail)
  go_wp2
  generalize hV : World.drewN _ _ = W1
  have kV : Keeps [] w W1 := by rw [← hV]; exact (Keeps.refl _ _).drewN
  have hr0 := HR.out.keeps kV (by simp)
  have HR1 := Lib.hid hr0
  have HK1 := Lib.hid kV
  have hs1 : w.heap.size ≤ W1.heap.size := kV.size
  have hnb1 : nb < W1.heap.size := by omega
  obtain ⟨d0, d1, d4, d5⟩ := HQ.out _ _ hr0
  have dy : W1.cell? ⟨nb, k, none⟩ = some (.int .i64 y) := (kV.cell (p := ⟨nb, k, none⟩) hnb.1 (by simp)).trans hy
  clear kV hr0 hV c0 c1 c4 c5 c7 f0 f1 f4 f5 f7 hy
  go_region_held3 (fun w' => w'.cell? ⟨p, 0, none⟩ = some (.int .i64 at_) ∧ w'.cell? ⟨p, 1, none⟩ = some (.int .i64 n) ∧ w'.cell? ⟨p, 4, none⟩ = some (.slice (some ⟨nb, 0, none⟩) nodes.length nc) ∧ w'.cell? ⟨p, 5, none⟩ = some (.int .i64 (k : Int)) ∧ w'.cell? ⟨nb, k, none⟩ = some (.int .i64 y))
    (first
      | (obtain ⟨x0, x1, x4, x5⟩ := HQ.out _ _ (hr3.set 7 (.pointer (some ⟨z, 0, none⟩))); exact ⟨x0, x1, x4, x5, (((Keeps.refl [p] w3).set (by simp) 7 (.pointer (some ⟨z, 0, none⟩))).cell (p := ⟨nb, k, none⟩) hnb3 (by simpa using hnb.2)).trans dy3⟩)
      | (obtain ⟨x0, x1, x4, x5⟩ := HQ.out _ _ hr3; exact ⟨x0, x1, x4, x5, dy3⟩)
      | exact ⟨d0, d1, d4, d5, dy⟩
      | fail)
    (first
      | (go_at_call 135; refine (refPut_any _ _ _ _).mono ?_; rintro e w3 ⟨z, rfl, jz, kz', hz'⟩; have kz := kz'.undrew; have hz : W1.heap.size ≤ z := hz'; have hr3 := HR1.out.keeps kz (by simp); have d7 := hr3.cell (j := 7) (u := sv) rfl; have e7 := hr3.frozen 7; have dy3 : w3.cell? ⟨nb, k, none⟩ = some (.int .i64 y) := (kz.cell (p := ⟨nb, k, none⟩) hnb1 (by simp)).trans dy; have hnb3 : nb < w3.heap.size := Nat.lt_of_lt_of_le hnb1 kz.size; clear kz' hz')
      | fail)
  have hpz : z ≠ p := by omega
  have hzw : w.heap.size ≤ z := by omega
  have HR3 := Lib.hid (hr3.set 7 (.pointer (some ⟨z, 0, none⟩)))
  have HJ3 := Lib.hid ((jz.did (w' := w3.setCell ⟨p, 7, none⟩ (.pointer (some ⟨z, 0, none⟩))) ((Keeps.refl [p] w3).set (by simp) _ _) hpz).did (w' := (w3.setCell ⟨p, 7, none⟩ (.pointer (some ⟨z, 0, none⟩))).setCell ⟨p, 5, none⟩ (.int .i64 ((k : Int) + 1))) ((Keeps.refl [p] _).set (by simp) _ _) hpz)
  have HK3 : Hid (Keeps [p] w ((w3.setCell ⟨p, 7, none⟩ (.pointer (some ⟨z, 0, none⟩))).setCell ⟨p, 5, none⟩ (.int .i64 ((k : Int) + 1)))) := Lib.hid ((((HK1.out.trans kz).nil (S := [p])).set (by simp) _ _).set (by simp) _ _)
  have g5 := HR3.out.cell (j := 5) (u := .int .i64 (k : Int)) rfl
  have h5 := HR3.out.frozen 5
  clear hr3 jz kz d7 e7 hpz HR1 HK1 HQ dy3 d0 d1 d4 d5 dy
  repeat
    fail_if_success (with_reducible refine ⟨rfl, ?_⟩)
    first
      | (with_reducible show bodyPost _ _ _ _ _ _; first | go_end0 | refine bodyPost_ret (results_none rfl _ _ _) rfl ?_)
      | go_wp2
  exact ⟨rfl, z, HR3.out.set 5 (.int .i64 ((k : Int) + 1)), HJ3.out, HK3.out, hzw⟩
end
end Go.Proofs.YtoomefclbemnlaaGreat

/-
  Give of the document's frame of a queue: nodes are put back.
-/
namespace Go.Proofs.YtoomefclbemnlaaGreat
set_option maxRecDepth 100000
set_option linter.unusedSimpArgs false
set_option linter.unusedVariables false
open Go.ChangeShapes Go.WideShapes Go.ChangeAt Go.RowKit

section
variable {p q : Nat} {w : World} {lv : Value}
set_option maxHeartbeats 3200000 in
theorem rq_left_p_back (s : QuS) (a : ArS) (v rc rv : Int) (won : Bool) (nb nc : Nat) (y : Int) (h : Row w p 85 (quCells s lv (.slice (some ⟨nb, 0, none⟩) s.nodes.length nc) (.pointer (some ⟨q, 0, none⟩)))) (hj : refArJ q w [q] a) (hpq : p ≠ q) (ho : s.over = none) (ha : a.over = none) (hU : M.U v) (hg : (arenaM.give a v won).over = some ⟨rc, rv, []⟩)
    (hy : w.cell? ⟨nb, s.k, none⟩ = some (.int .i64 y)) (hnb : nb < w.heap.size ∧ nb ≠ p ∧ nb ≠ q) (hk : s.k < s.nodes.length) (hr : quRight s.at_ s.n) (hk3 : s.k ≤ 300) (hp : s.puts = true) (hs : s.step = 10) :
    Calls Tryz.prog 41 #[.pointer (some ⟨p, 0, none⟩), .int .u64 v, .bool won] w fun e w' => e = .returned (.tuple #[]) ∧ ∃ z, Row w' p 85 (quCells ({ s with k := s.k + 1 }) lv (.slice (some ⟨nb, 0, none⟩) s.nodes.length nc) (.pointer (some ⟨z, 0, none⟩))) ∧ refArJ z w' [z] (arPut (s.at_ + 2) s.n y) ∧ Keeps [p, q] w w' ∧ w.heap.size ≤ z := by
  have HG := Lib.hid (refAr_give q a w [q] v won hj hU)
  obtain ⟨at_, n, puts, l, nodes, k, step, sub, hh, t, x, vv, code, inn, over⟩ := s
  simp only at *
  subst ho
  subst hp hs
  have HR := Lib.hid h
  have HB := Lib.hid (fun W (h1 : Row W p 85 (quCells ⟨at_, n, true, l, nodes, k, 10, sub, hh, t, x, vv, code, inn, none⟩ lv (.slice (some ⟨nb, 0, none⟩) nodes.length nc) (.pointer none))) (h2 : W.cell? ⟨nb, k, none⟩ = some (.int .i64 y)) (h3 : nb < W.heap.size ∧ nb ≠ p) => refBack_put (p := p) (w := W) (lv := lv) ⟨at_, n, true, l, nodes, k, 10, sub, hh, t, x, vv, code, inn, none⟩ (.pointer none) nb nc y h1 h2 h3 hk hr hk3)
  have c7 := h.cell (j := 7) rfl
  have c14 := h.cell (j := 14) rfl
  simp only [Option.isSome_none] at c14
  obtain ⟨a', ha'⟩ : ∃ a', arenaM.give a v won = a' := ⟨_, rfl⟩
  rw [ha'] at hg HG
  have hra : (arenaM.res a).isSome = false := by show a.over.isSome = false; rw [ha]; rfl
  rw [hra] at HG
  have HY := Lib.hid hy
  clear h hj hU ha' hra hy hr
  go_enter Tryz.func41, Tryz.ntmps41
  go_wp2_with fail
  refine HG.out.mono ?_
  rintro e w1 ⟨rfl, S', j1, k1, -⟩
  have hS : S' = [q] := j1.1
  subst hS
  simp only [Bool.false_eq_true, if_false] at k1
  have hr1 := HR.out.keeps k1 (by simp; exact hpq)
  have HO := refAr_over q a' w1 [q] j1
  rw [show arenaM.res a' = some ⟨rc, rv, []⟩ from hg] at HO
  have HO := Lib.hid HO
  have HK1 := Lib.hid k1
  have HR1 := Lib.hid hr1
  have d7 := hr1.cell (j := 7) rfl
  clear j1 k1 hr1 c7 c14
  go_wp2_with fail
  refine HO.out.mono ?_
  rintro e w2 ⟨oq, on, oc, rfl, k2, -⟩
  have hk2 := HK1.out.trans (k2.nil (S := [q]))
  have HK2 := Lib.hid hk2
  have HR2 := Lib.hid (HR1.out.keeps k2 (by simp))
  have hbs : p < w2.heap.size := HR2.out.lt
  have hsz2 : w.heap.size ≤ w2.heap.size := hk2.size
  have hnb2 : nb < w2.heap.size := by omega
  have HY2 := Lib.hid ((hk2.cell (p := ⟨nb, k, none⟩) hnb.1 (by simpa using hnb.2.2)).trans HY.out)
  have c0 := HR2.out.cell (j := 0) rfl
  have f0 := HR2.out.frozen 0
  have c1 := HR2.out.cell (j := 1) rfl
  have f1 := HR2.out.frozen 1
  have c2 := HR2.out.cell (j := 2) rfl
  have f2 := HR2.out.frozen 2
  have c3 := HR2.out.cell (j := 3) rfl
  have f3 := HR2.out.frozen 3
  have c4 := HR2.out.cell (j := 4) rfl
  have f4 := HR2.out.frozen 4
  have c5 := HR2.out.cell (j := 5) rfl
  have f5 := HR2.out.frozen 5
  have c6 := HR2.out.cell (j := 6) rfl
  have f6 := HR2.out.frozen 6
  have c7 := HR2.out.cell (j := 7) rfl
  have f7 := HR2.out.frozen 7
  have c8 := HR2.out.cell (j := 8) rfl
  have f8 := HR2.out.frozen 8
  have c9 := HR2.out.cell (j := 9) rfl
  have f9 := HR2.out.frozen 9
  have c10 := HR2.out.cell (j := 10) rfl
  have f10 := HR2.out.frozen 10
  have c11 := HR2.out.cell (j := 11) rfl
  have f11 := HR2.out.frozen 11
  have c12 := HR2.out.cell (j := 12) rfl
  have f12 := HR2.out.frozen 12
  have c13 := HR2.out.cell (j := 13) rfl
  have f13 := HR2.out.frozen 13
  have c14 := HR2.out.cell (j := 14) rfl
  have f14 := HR2.out.frozen 14
  have c15 := HR2.out.cell (j := 15) rfl
  have f15 := HR2.out.frozen 15
  have c16 := HR2.out.cell (j := 16) rfl
  have f16 := HR2.out.frozen 16
  have c17 := HR2.out.cell (j := 17) rfl
  have f17 := HR2.out.frozen 17
  simp only [Option.isSome_none, Option.getD_none] at c14 c15 c16
  clear k2 d7 hk2
  repeat
    fail_if_success (with_reducible refine ⟨rfl, ?_⟩)
    first
      | (with_reducible show bodyPost _ _ _ _ _ _; first | go_end0 | refine bodyPost_ret (results_none rfl _ _ _) rfl ?_)
      | go_wp2_with (first
        | (go_at_call 131; refine (HB.out _ (by apply Did.row (hr := HR2.out); (· repeat (first | with_reducible apply Did.set | with_reducible apply Did.drew | with_reducible apply Did.drewN | with_reducible apply Did.alloc | with_reducible exact Did.refl)); (· kernel_rfl)) (by apply Did.keepCell (p := p) (hlt := hnb2) (hn := hnb.2.1) (hv := HY2.out); repeat (first | with_reducible apply Did.set | with_reducible apply Did.drew | with_reducible apply Did.drewN | with_reducible apply Did.alloc | with_reducible exact Did.refl)) ⟨Nat.lt_of_lt_of_le hnb2 (by apply Did.size (p := p); repeat (first | with_reducible apply Did.set | with_reducible apply Did.drew | with_reducible apply Did.drewN | with_reducible apply Did.alloc | with_reducible exact Did.refl)), hnb.2.1⟩).mono ?_; rintro e w3 ⟨rfl, z, hr3, jz, k3, hz⟩; have hz9 : w.heap.size ≤ z := Nat.le_trans hsz2 (Nat.le_trans (by apply Did.size (p := p); repeat (first | with_reducible apply Did.set | with_reducible apply Did.drew | with_reducible apply Did.drewN | with_reducible apply Did.alloc | with_reducible exact Did.refl)) hz); have hk9 := (HK2.out.mono (T := [p, q]) (by simp)).trans ((show Keeps [p] w2 w3 from Keeps.trans (by apply Did.keeps; repeat (first | with_reducible apply Did.set | with_reducible apply Did.drew | with_reducible apply Did.drewN | with_reducible apply Did.alloc | with_reducible exact Did.refl)) k3).mono (T := [p, q]) (by simp)))
        | (go_at_call 83; go_in))
  exact ⟨rfl, z, hr3, jz, hk9, hz9⟩
set_option maxHeartbeats 3200000 in
theorem rq_left_p_noneback (s : QuS) (a : ArS) (v rc rv : Int) (won : Bool) (nb nc : Nat) (y : Int) (h : Row w p 85 (quCells s lv (.slice (some ⟨nb, 0, none⟩) s.nodes.length nc) (.pointer (some ⟨q, 0, none⟩)))) (hj : refArJ q w [q] a) (hpq : p ≠ q) (ho : s.over = none) (ha : a.over = none) (hU : M.U v) (hg : (arenaM.give a v won).over = some ⟨rc, rv, []⟩)
    (hy : w.cell? ⟨nb, s.k, none⟩ = some (.int .i64 y)) (hnb : nb < w.heap.size ∧ nb ≠ p ∧ nb ≠ q) (hk : s.k < s.nodes.length) (hr : quRight s.at_ s.n) (hk3 : s.k ≤ 300) (hp : s.puts = true) (hs : s.step = 1) (hc : rc ≠ 0) :
    Calls Tryz.prog 41 #[.pointer (some ⟨p, 0, none⟩), .int .u64 v, .bool won] w fun e w' => e = .returned (.tuple #[]) ∧ ∃ z, Row w' p 85 (quCells ({ s with code := rc, step := 10, k := s.k + 1 }) lv (.slice (some ⟨nb, 0, none⟩) s.nodes.length nc) (.pointer (some ⟨z, 0, none⟩))) ∧ refArJ z w' [z] (arPut (s.at_ + 2) s.n y) ∧ Keeps [p, q] w w' ∧ w.heap.size ≤ z := by
  have HG := Lib.hid (refAr_give q a w [q] v won hj hU)
  obtain ⟨at_, n, puts, l, nodes, k, step, sub, hh, t, x, vv, code, inn, over⟩ := s
  simp only at *
  subst ho
  subst hp hs
  have dc : (rc != 0) = true := by simpa using hc
  have HR := Lib.hid h
  have HB := Lib.hid (fun W (h1 : Row W p 85 (quCells ⟨at_, n, true, l, nodes, k, 10, sub, hh, t, x, vv, rc, inn, none⟩ lv (.slice (some ⟨nb, 0, none⟩) nodes.length nc) (.pointer none))) (h2 : W.cell? ⟨nb, k, none⟩ = some (.int .i64 y)) (h3 : nb < W.heap.size ∧ nb ≠ p) => refBack_put (p := p) (w := W) (lv := lv) ⟨at_, n, true, l, nodes, k, 10, sub, hh, t, x, vv, rc, inn, none⟩ (.pointer none) nb nc y h1 h2 h3 hk hr hk3)
  have c7 := h.cell (j := 7) rfl
  have c14 := h.cell (j := 14) rfl
  simp only [Option.isSome_none] at c14
  obtain ⟨a', ha'⟩ : ∃ a', arenaM.give a v won = a' := ⟨_, rfl⟩
  rw [ha'] at hg HG
  have hra : (arenaM.res a).isSome = false := by show a.over.isSome = false; rw [ha]; rfl
  rw [hra] at HG
  have HY := Lib.hid hy
  clear h hj hU ha' hra hy hr
  go_enter Tryz.func41, Tryz.ntmps41
  go_wp2_with fail
  refine HG.out.mono ?_
  rintro e w1 ⟨rfl, S', j1, k1, -⟩
  have hS : S' = [q] := j1.1
  subst hS
  simp only [Bool.false_eq_true, if_false] at k1
  have hr1 := HR.out.keeps k1 (by simp; exact hpq)
  have HO := refAr_over q a' w1 [q] j1
  rw [show arenaM.res a' = some ⟨rc, rv, []⟩ from hg] at HO
  have HO := Lib.hid HO
  have HK1 := Lib.hid k1
  have HR1 := Lib.hid hr1
  have d7 := hr1.cell (j := 7) rfl
  clear j1 k1 hr1 c7 c14
  go_wp2_with fail
  refine HO.out.mono ?_
  rintro e w2 ⟨oq, on, oc, rfl, k2, -⟩
  have hk2 := HK1.out.trans (k2.nil (S := [q]))
  have HK2 := Lib.hid hk2
  have HR2 := Lib.hid (HR1.out.keeps k2 (by simp))
  have hbs : p < w2.heap.size := HR2.out.lt
  have hsz2 : w.heap.size ≤ w2.heap.size := hk2.size
  have hnb2 : nb < w2.heap.size := by omega
  have HY2 := Lib.hid ((hk2.cell (p := ⟨nb, k, none⟩) hnb.1 (by simpa using hnb.2.2)).trans HY.out)
  have c0 := HR2.out.cell (j := 0) rfl
  have f0 := HR2.out.frozen 0
  have c1 := HR2.out.cell (j := 1) rfl
  have f1 := HR2.out.frozen 1
  have c2 := HR2.out.cell (j := 2) rfl
  have f2 := HR2.out.frozen 2
  have c3 := HR2.out.cell (j := 3) rfl
  have f3 := HR2.out.frozen 3
  have c4 := HR2.out.cell (j := 4) rfl
  have f4 := HR2.out.frozen 4
  have c5 := HR2.out.cell (j := 5) rfl
  have f5 := HR2.out.frozen 5
  have c6 := HR2.out.cell (j := 6) rfl
  have f6 := HR2.out.frozen 6
  have c7 := HR2.out.cell (j := 7) rfl
  have f7 := HR2.out.frozen 7
  have c8 := HR2.out.cell (j := 8) rfl
  have f8 := HR2.out.frozen 8
  have c9 := HR2.out.cell (j := 9) rfl
  have f9 := HR2.out.frozen 9
  have c10 := HR2.out.cell (j := 10) rfl
  have f10 := HR2.out.frozen 10
  have c11 := HR2.out.cell (j := 11) rfl
  have f11 := HR2.out.frozen 11
  have c12 := HR2.out.cell (j := 12) rfl
  have f12 := HR2.out.frozen 12
  have c13 := HR2.out.cell (j := 13) rfl
  have f13 := HR2.out.frozen 13
  have c14 := HR2.out.cell (j := 14) rfl
  have f14 := HR2.out.frozen 14
  have c15 := HR2.out.cell (j := 15) rfl
  have f15 := HR2.out.frozen 15
  have c16 := HR2.out.cell (j := 16) rfl
  have f16 := HR2.out.frozen 16
  have c17 := HR2.out.cell (j := 17) rfl
  have f17 := HR2.out.frozen 17
  simp only [Option.isSome_none, Option.getD_none] at c14 c15 c16
  clear k2 d7 hk2
  repeat
    fail_if_success (with_reducible refine ⟨rfl, ?_⟩)
    first
      | (with_reducible show bodyPost _ _ _ _ _ _; first | go_end0 | refine bodyPost_ret (results_none rfl _ _ _) rfl ?_)
      | go_wp2_with (first
        | (go_at_call 131; refine (HB.out _ (by apply Did.row (hr := HR2.out); (· repeat (first | with_reducible apply Did.set | with_reducible apply Did.drew | with_reducible apply Did.drewN | with_reducible apply Did.alloc | with_reducible exact Did.refl)); (· kernel_rfl)) (by apply Did.keepCell (p := p) (hlt := hnb2) (hn := hnb.2.1) (hv := HY2.out); repeat (first | with_reducible apply Did.set | with_reducible apply Did.drew | with_reducible apply Did.drewN | with_reducible apply Did.alloc | with_reducible exact Did.refl)) ⟨Nat.lt_of_lt_of_le hnb2 (by apply Did.size (p := p); repeat (first | with_reducible apply Did.set | with_reducible apply Did.drew | with_reducible apply Did.drewN | with_reducible apply Did.alloc | with_reducible exact Did.refl)), hnb.2.1⟩).mono ?_; rintro e w3 ⟨rfl, z, hr3, jz, k3, hz⟩; have hz9 : w.heap.size ≤ z := Nat.le_trans hsz2 (Nat.le_trans (by apply Did.size (p := p); repeat (first | with_reducible apply Did.set | with_reducible apply Did.drew | with_reducible apply Did.drewN | with_reducible apply Did.alloc | with_reducible exact Did.refl)) hz); have hk9 := (HK2.out.mono (T := [p, q]) (by simp)).trans ((show Keeps [p] w2 w3 from Keeps.trans (by apply Did.keeps; repeat (first | with_reducible apply Did.set | with_reducible apply Did.drew | with_reducible apply Did.drewN | with_reducible apply Did.alloc | with_reducible exact Did.refl)) k3).mono (T := [p, q]) (by simp)))
        | (go_at_call 83; go_in))
  exact ⟨rfl, z, hr3, jz, hk9, hz9⟩
end
end Go.Proofs.YtoomefclbemnlaaGreat

/-
  Give of the document's frame of a queue: a node is had.
-/
namespace Go.Proofs.YtoomefclbemnlaaGreat
set_option maxRecDepth 100000
set_option linter.unusedSimpArgs false
set_option linter.unusedVariables false
open Go.ChangeShapes Go.WideShapes Go.ChangeAt Go.RowKit

section
variable {p : Nat} {w : World} {lv nv : Value}
set_option maxHeartbeats 3200000 in
theorem refLeft_last (s : QuS) (rv : Int) (sv : Value) (rq : Option Addr) (rn rc : Nat) (base : Nat) (h : Row w p 85 (quCells s lv nv sv)) (ho : s.over = none)
    (hown : w.ownsRow base 3 1 nv s.nodes.length (ints .i64 s.nodes)) (hb : p < base ∧ base ≤ w.heap.size) (hL : ∃ lq lc, lv = .slice lq s.l.length lc) (hrv : 0 ≤ rv ∧ rv ≤ 4096) (hnl : s.nodes.length ≤ 300) (hlast : ¬ s.nodes.length + 1 < s.l.length) (hp : s.puts = true) (hs : s.step = 1) :
    Calls Tryz.prog 83 #[.pointer (some ⟨p, 0, none⟩), .agg #[.int .i64 0, .int .u64 rv, .slice rq rn rc]] w fun e w' => e = .returned (.tuple #[]) ∧ ∃ nv', Row w' p 85 (quCells { s with nodes := s.nodes ++ [rv], step := 20 } lv nv' (.pointer none)) ∧ w'.ownsRow base 3 1 nv' (s.nodes.length + 1) (ints .i64 (s.nodes ++ [rv])) ∧ Keeps (p :: nv.ownBlock.toList) w w' ∧ (∀ g, nv'.ownBlock = some g → nv.ownBlock = some g ∨ w.heap.size ≤ g) := by
  obtain ⟨lq, lc, rfl⟩ := hL
  obtain ⟨at_, n, puts, l, nodes, k, step, sub, hh, t, x, vv, code, inn, over⟩ := s
  simp only at *
  subst ho hp hs
  obtain ⟨nq, nc, hnv⟩ := (Sl.of_owns hown).len
  subst hnv
  have c7 := h.cell (j := 7) rfl
  have f7 := h.frozen 7
  have hplt := h.lt
  have hd := Did.fin (p := p) (Did.alloc (o := .cells #[.int .i64 0, .int .u64 rv, .slice rq rn rc] 56) (Did.set (i := 7) (v := .pointer none) (Did.refl (w := w)))) h rfl
  obtain ⟨W1, hW1⟩ : ∃ W1, (w.setCell ⟨p, 7, none⟩ (.pointer none)).alloc (.cells #[.int .i64 0, .int .u64 rv, .slice rq rn rc] 56) = W1 := ⟨_, rfl⟩
  rw [hW1] at hd
  have hp1 : Row W1 p 85 (quCells ⟨at_, n, true, l, nodes, k, 1, sub, hh, t, x, vv, code, inn, none⟩ (.slice lq l.length lc) (.slice nq nodes.length nc) (.pointer none)) := hd.1
  have hb1 : Box W1 w.heap.size #[.int .i64 0, .int .u64 rv, .slice rq rn rc] := by rw [← hW1]; have := Box.new (w.setCell ⟨p, 7, none⟩ (.pointer none)) #[.int .i64 0, .int .u64 rv, .slice rq rn rc] 56; simpa [World.setCell] using this
  have hpno : p ∉ (Value.slice nq nodes.length nc).ownBlock.toList := fun hm => by have := (hown.lt p (by simpa using hm)).1; omega
  have hown1 := owns_keeps hown hd.2 (fun g hg hm => hpno (by simp at hm; subst hm; simpa using hg))
  have c0 := hb1.cells 0
  have c1 := hb1.cells 1
  simp at c0 c1
  have d0 := hp1.cell (j := 0) rfl
  have d1 := hp1.cell (j := 1) rfl
  have d2 := hp1.cell (j := 2) rfl
  have d3 := hp1.cell (j := 3) rfl
  have d4 := hp1.cell (j := 4) rfl
  have d6 := hp1.cell (j := 6) rfl
  have f4 := hp1.frozen 4
  have q1 : ((0 : Int) != 0) = false := by simp
  have yw : IntKind.i64.wrap rv = rv := IntWalk.i64_in _ (by omega)
  have hvA : (W1.alloc (.cells #[.int .i64 rv] 3)).drew.cell? ⟨p, 4, none⟩ = some (.slice nq nodes.length nc) := (((Keeps.refl [] W1).alloc (.cells #[.int .i64 rv] 3)).cell (p := ⟨p, 4, none⟩) hp1.lt (by simp)).trans d4
  have hfA : (W1.alloc (.cells #[.int .i64 rv] 3)).drew.frozen? ⟨p, 4, none⟩ = false := (((Keeps.refl [] W1).alloc (.cells #[.int .i64 rv] 3)).frozen (p := ⟨p, 4, none⟩) hp1.lt (by simp)).trans f4
  have hLit : ∀ j u, [Value.int .i64 rv][j]? = some u → (W1.alloc (.cells #[.int .i64 rv] 3)).drew.cell? ⟨W1.heap.size, j, none⟩ = some u := fun j u hu => by
    show (W1.alloc (.cells #[.int .i64 rv] 3)).cell? ⟨W1.heap.size, j, none⟩ = some u
    rw [World.cell?_alloc_at _ _ _ _ rfl, ← Array.getElem?_toList]; exact hu
  have HOwnA : Hid ((W1.alloc (.cells #[.int .i64 rv] 3)).drew.ownsRow base 3 1 (.slice nq nodes.length nc) nodes.length (ints .i64 nodes)) := Lib.hid (owns_keeps hown1 (((Keeps.refl [] W1).alloc (.cells #[.int .i64 rv] 3)).drew) (by simp))
  have hp1lt := hp1.lt
  have HP1 := Lib.hid hp1
  have HK1 := Lib.hid hd.2
  have HI : Hid (ints .i64 (nodes ++ [rv]) = ints .i64 nodes ++ [.int .i64 rv]) := Lib.hid (by simp [ints])
  have hs1 := hd.2.size
  clear h hp1 hd hb1 hown hown1
  go_enter Tryz.func83, Tryz.ntmps83
  have dl : decide (((nodes.length : Int) + 1) < (l.length : Int)) = false := decide_eq_false (by omega)
  go_wp2_with fail
  go_region_law (first | (refine step_append_fresh (by rfl) _ _ 78 (by rfl) base 3 _ 1 8 Tryz.underlying78 elemInt' _ nodes.length (ints .i64 nodes) (by rfl) HOwnA.out _ [.int .i64 rv] (by rfl) rfl (by simp [Value.oneCell']) (fun j u hu => hLit j u hu) (by omega) (by simp; omega) ?_; intro v10 w10 own10 k10 f10' ne10; have hv10 := (k10.cell (p := ⟨p, 4, none⟩) (by simp; omega) hpno).trans hvA; have hf10 := (k10.frozen (p := ⟨p, 4, none⟩) (by simp; omega) hpno).trans hfA; obtain ⟨p10, c10, rfl⟩ := (Sl.of_owns own10).len))
  all_goals
    have hpnew : ∀ g, (Value.slice p10 (nodes.length + 1) c10).ownBlock = some g → g ≠ p := fun g hg => by
      rcases f10' g hg with h | h
      · exact fun e => hpno (by rw [← e]; simpa using h)
      · have : g ≥ (W1.alloc (.cells #[.int .i64 rv] 3)).drew.heap.size := h
        simp at this
        omega
    have kA : Keeps (Value.slice nq nodes.length nc).ownBlock.toList W1 w10 := ((((Keeps.refl [] W1).alloc (.cells #[.int .i64 rv] 3)).drew).nil).trans k10
    have hrA := ((HP1.out.keeps (((Keeps.refl [] W1).alloc (.cells #[.int .i64 rv] 3)).drew) (by simp)).keeps k10 hpno).set 4 (.slice p10 (nodes.length + 1) c10)
    obtain ⟨W5, hW5⟩ : ∃ W5, w10.setCell ⟨p, 4, none⟩ (.slice p10 (nodes.length + 1) c10) = W5 := ⟨_, rfl⟩
    rw [hW5] at hrA
    have hr5 : Row W5 p 85 (quCells ⟨at_, n, true, l, nodes ++ [rv], k, 1, sub, hh, t, x, vv, code, inn, none⟩ (.slice lq l.length lc) (.slice p10 (nodes.length + 1) c10) (.pointer none)) := hrA
    have k5 : Keeps [p] w10 W5 := by rw [← hW5]; exact (Keeps.refl _ _).set (by simp) _ _
    have own5 : W5.ownsRow base 3 1 (.slice p10 (nodes.length + 1) c10) (nodes.length + 1) (ints .i64 (nodes ++ [rv])) := by
      rw [HI.out]
      exact owns_keeps own10 k5 (fun g hg => by simpa using hpnew g hg)
    have HK5 : Hid (Keeps (p :: (Value.slice nq nodes.length nc).ownBlock.toList) w W5) := Lib.hid (((HK1.out.mono (by simp)).trans (kA.mono (fun x hx _ => List.mem_cons_of_mem _ hx))).trans (k5.mono (by simp)))
    have HO5 := Lib.hid own5
    have HR5 := Lib.hid hr5
    have g3 := hr5.cell (j := 3) rfl
    have g4 := hr5.cell (j := 4) rfl
    have g6 := hr5.cell (j := 6) rfl
    have e6 := hr5.frozen 6
    have g0 := hr5.cell (j := 0) rfl
    have g1 := hr5.cell (j := 1) rfl
    have g7 := hr5.cell (j := 7) rfl
    have e7 := hr5.frozen 7
    have HPN := Lib.hid hpnew
    have HFr : Hid (∀ g, (Value.slice p10 (nodes.length + 1) c10).ownBlock = some g → (Value.slice nq nodes.length nc).ownBlock = some g ∨ w.heap.size ≤ g) := Lib.hid (fun g hg => (f10' g hg).imp_right fun h => by
      have h2 : g ≥ (W1.alloc (.cells #[.int .i64 rv] 3)).drew.heap.size := h
      simp at h2
      omega)
    have h5p := hr5.lt
    clear own10 k10 f10' ne10 hv10 hf10 hvA hfA hLit kA hrA own5 k5 d0 d1 d2 d3 d4 d6 f4 c0 c1 hpnew hr5
    go_wp2
    go_region
    go_wp2
    first | go_end0 | refine bodyPost_ret (results_none rfl _ _ _) rfl ?_
    have kZ : Keeps [p] W5 (W5.setCell ⟨p, 6, none⟩ (.int .i64 20)).drew := ((Keeps.refl [p] _).set (by simp) _ _).drew
    refine ⟨rfl, .slice p10 (nodes.length + 1) c10, ?_, ?_, ?_, HFr.out⟩
    · exact (HR5.out.set 6 (.int .i64 20)).keeps (Keeps.refl [] _).drew (by simp)
    · exact owns_keeps HO5.out kZ (fun g hg => by simpa using HPN.out g hg)
    · exact HK5.out.trans (kZ.mono (by simp))
set_option maxHeartbeats 3200000 in
theorem refLeft_more (s : QuS) (rv : Int) (sv : Value) (rq : Option Addr) (rn rc : Nat) (base : Nat) (h : Row w p 85 (quCells s lv nv sv)) (ho : s.over = none)
    (hown : w.ownsRow base 3 1 nv s.nodes.length (ints .i64 s.nodes)) (hb : p < base ∧ base ≤ w.heap.size) (hL : ∃ lq lc, lv = .slice lq s.l.length lc) (hrv : 0 ≤ rv ∧ rv ≤ 4096) (hnl : s.nodes.length ≤ 300) (hlast : s.nodes.length + 1 < s.l.length) (hr : quRight s.at_ s.n) (hp : s.puts = true) (hs : s.step = 1) :
    Calls Tryz.prog 83 #[.pointer (some ⟨p, 0, none⟩), .agg #[.int .i64 0, .int .u64 rv, .slice rq rn rc]] w fun e w' => e = .returned (.tuple #[]) ∧ ∃ nv' z, Row w' p 85 (quCells { s with nodes := s.nodes ++ [rv] } lv nv' (.pointer (some ⟨z, 0, none⟩))) ∧ refArJ z w' [z] (arTake (s.at_ + 2) s.n) ∧ w'.ownsRow base 3 1 nv' (s.nodes.length + 1) (ints .i64 (s.nodes ++ [rv])) ∧ nv'.ownBlock ≠ some z ∧ Keeps (p :: nv.ownBlock.toList) w w' ∧ w.heap.size ≤ z ∧ (∀ g, nv'.ownBlock = some g → nv.ownBlock = some g ∨ w.heap.size ≤ g) := by
  obtain ⟨lq, lc, rfl⟩ := hL
  obtain ⟨at_, n, puts, l, nodes, k, step, sub, hh, t, x, vv, code, inn, over⟩ := s
  simp only at *
  subst ho hp hs
  obtain ⟨nq, nc, hnv⟩ := (Sl.of_owns hown).len
  subst hnv
  have c7 := h.cell (j := 7) rfl
  have f7 := h.frozen 7
  have hplt := h.lt
  have hd := Did.fin (p := p) (Did.alloc (o := .cells #[.int .i64 0, .int .u64 rv, .slice rq rn rc] 56) (Did.set (i := 7) (v := .pointer none) (Did.refl (w := w)))) h rfl
  obtain ⟨W1, hW1⟩ : ∃ W1, (w.setCell ⟨p, 7, none⟩ (.pointer none)).alloc (.cells #[.int .i64 0, .int .u64 rv, .slice rq rn rc] 56) = W1 := ⟨_, rfl⟩
  rw [hW1] at hd
  have hp1 : Row W1 p 85 (quCells ⟨at_, n, true, l, nodes, k, 1, sub, hh, t, x, vv, code, inn, none⟩ (.slice lq l.length lc) (.slice nq nodes.length nc) (.pointer none)) := hd.1
  have hb1 : Box W1 w.heap.size #[.int .i64 0, .int .u64 rv, .slice rq rn rc] := by rw [← hW1]; have := Box.new (w.setCell ⟨p, 7, none⟩ (.pointer none)) #[.int .i64 0, .int .u64 rv, .slice rq rn rc] 56; simpa [World.setCell] using this
  have hpno : p ∉ (Value.slice nq nodes.length nc).ownBlock.toList := fun hm => by have := (hown.lt p (by simpa using hm)).1; omega
  have hown1 := owns_keeps hown hd.2 (fun g hg hm => hpno (by simp at hm; subst hm; simpa using hg))
  have c0 := hb1.cells 0
  have c1 := hb1.cells 1
  simp at c0 c1
  have d0 := hp1.cell (j := 0) rfl
  have d1 := hp1.cell (j := 1) rfl
  have d2 := hp1.cell (j := 2) rfl
  have d3 := hp1.cell (j := 3) rfl
  have d4 := hp1.cell (j := 4) rfl
  have d6 := hp1.cell (j := 6) rfl
  have f4 := hp1.frozen 4
  have q1 : ((0 : Int) != 0) = false := by simp
  have yw : IntKind.i64.wrap rv = rv := IntWalk.i64_in _ (by omega)
  have hvA : (W1.alloc (.cells #[.int .i64 rv] 3)).drew.cell? ⟨p, 4, none⟩ = some (.slice nq nodes.length nc) := (((Keeps.refl [] W1).alloc (.cells #[.int .i64 rv] 3)).cell (p := ⟨p, 4, none⟩) hp1.lt (by simp)).trans d4
  have hfA : (W1.alloc (.cells #[.int .i64 rv] 3)).drew.frozen? ⟨p, 4, none⟩ = false := (((Keeps.refl [] W1).alloc (.cells #[.int .i64 rv] 3)).frozen (p := ⟨p, 4, none⟩) hp1.lt (by simp)).trans f4
  have hLit : ∀ j u, [Value.int .i64 rv][j]? = some u → (W1.alloc (.cells #[.int .i64 rv] 3)).drew.cell? ⟨W1.heap.size, j, none⟩ = some u := fun j u hu => by
    show (W1.alloc (.cells #[.int .i64 rv] 3)).cell? ⟨W1.heap.size, j, none⟩ = some u
    rw [World.cell?_alloc_at _ _ _ _ rfl, ← Array.getElem?_toList]; exact hu
  have HOwnA : Hid ((W1.alloc (.cells #[.int .i64 rv] 3)).drew.ownsRow base 3 1 (.slice nq nodes.length nc) nodes.length (ints .i64 nodes)) := Lib.hid (owns_keeps hown1 (((Keeps.refl [] W1).alloc (.cells #[.int .i64 rv] 3)).drew) (by simp))
  have hp1lt := hp1.lt
  have HP1 := Lib.hid hp1
  have HK1 := Lib.hid hd.2
  have HI : Hid (ints .i64 (nodes ++ [rv]) = ints .i64 nodes ++ [.int .i64 rv]) := Lib.hid (by simp [ints])
  have hs1 := hd.2.size
  clear h hp1 hd hb1 hown hown1
  go_enter Tryz.func83, Tryz.ntmps83
  have dl : decide (((nodes.length : Int) + 1) < (l.length : Int)) = true := decide_eq_true (by omega)
  obtain ⟨r1, r2, r3, r4⟩ := hr
  have wa : IntKind.i64.wrap (at_ + 2) = at_ + 2 := IntWalk.i64_in _ (by omega)
  go_wp2_with fail
  go_region_law (first | (refine step_append_fresh (by rfl) _ _ 78 (by rfl) base 3 _ 1 8 Tryz.underlying78 elemInt' _ nodes.length (ints .i64 nodes) (by rfl) HOwnA.out _ [.int .i64 rv] (by rfl) rfl (by simp [Value.oneCell']) (fun j u hu => hLit j u hu) (by omega) (by simp; omega) ?_; intro v10 w10 own10 k10 f10' ne10; have hv10 := (k10.cell (p := ⟨p, 4, none⟩) (by simp; omega) hpno).trans hvA; have hf10 := (k10.frozen (p := ⟨p, 4, none⟩) (by simp; omega) hpno).trans hfA; obtain ⟨p10, c10, rfl⟩ := (Sl.of_owns own10).len))
  all_goals
    have hpnew : ∀ g, (Value.slice p10 (nodes.length + 1) c10).ownBlock = some g → g ≠ p := fun g hg => by
      rcases f10' g hg with h | h
      · exact fun e => hpno (by rw [← e]; simpa using h)
      · have : g ≥ (W1.alloc (.cells #[.int .i64 rv] 3)).drew.heap.size := h
        simp at this
        omega
    have kA : Keeps (Value.slice nq nodes.length nc).ownBlock.toList W1 w10 := ((((Keeps.refl [] W1).alloc (.cells #[.int .i64 rv] 3)).drew).nil).trans k10
    have hrA := ((HP1.out.keeps (((Keeps.refl [] W1).alloc (.cells #[.int .i64 rv] 3)).drew) (by simp)).keeps k10 hpno).set 4 (.slice p10 (nodes.length + 1) c10)
    obtain ⟨W5, hW5⟩ : ∃ W5, w10.setCell ⟨p, 4, none⟩ (.slice p10 (nodes.length + 1) c10) = W5 := ⟨_, rfl⟩
    rw [hW5] at hrA
    have hr5 : Row W5 p 85 (quCells ⟨at_, n, true, l, nodes ++ [rv], k, 1, sub, hh, t, x, vv, code, inn, none⟩ (.slice lq l.length lc) (.slice p10 (nodes.length + 1) c10) (.pointer none)) := hrA
    have k5 : Keeps [p] w10 W5 := by rw [← hW5]; exact (Keeps.refl _ _).set (by simp) _ _
    have own5 : W5.ownsRow base 3 1 (.slice p10 (nodes.length + 1) c10) (nodes.length + 1) (ints .i64 (nodes ++ [rv])) := by
      rw [HI.out]
      exact owns_keeps own10 k5 (fun g hg => by simpa using hpnew g hg)
    have HK5 : Hid (Keeps (p :: (Value.slice nq nodes.length nc).ownBlock.toList) w W5) := Lib.hid (((HK1.out.mono (by simp)).trans (kA.mono (fun x hx _ => List.mem_cons_of_mem _ hx))).trans (k5.mono (by simp)))
    have HO5 := Lib.hid own5
    have HR5 := Lib.hid hr5
    have g3 := hr5.cell (j := 3) rfl
    have g4 := hr5.cell (j := 4) rfl
    have g6 := hr5.cell (j := 6) rfl
    have e6 := hr5.frozen 6
    have g0 := hr5.cell (j := 0) rfl
    have g1 := hr5.cell (j := 1) rfl
    have g7 := hr5.cell (j := 7) rfl
    have e7 := hr5.frozen 7
    have HPN := Lib.hid hpnew
    have HFr : Hid (∀ g, (Value.slice p10 (nodes.length + 1) c10).ownBlock = some g → (Value.slice nq nodes.length nc).ownBlock = some g ∨ w.heap.size ≤ g) := Lib.hid (fun g hg => (f10' g hg).imp_right fun h => by
      have h2 : g ≥ (W1.alloc (.cells #[.int .i64 rv] 3)).drew.heap.size := h
      simp at h2
      omega)
    have h5p := hr5.lt
    clear own10 k10 f10' ne10 hv10 hf10 hvA hfA hLit kA hrA own5 k5 d0 d1 d2 d3 d4 d6 f4 c0 c1 hpnew hr5
    go_wp2
    go_region
    go_wp2_with fail
    obtain ⟨W6, hW6⟩ : ∃ W6, W5.drew = W6 := ⟨_, rfl⟩
    have k6 : Keeps [] W5 W6 := by rw [← hW6]; exact (Keeps.refl _ _).drew
    rw [hW6]
    have HQ : Hid (∀ (W : World) (sv : Value), Row W p 85 (quCells ⟨at_, n, true, l, nodes ++ [rv], k, 1, sub, hh, t, x, vv, code, inn, none⟩ (.slice lq l.length lc) (.slice p10 (nodes.length + 1) c10) sv) → W.cell? ⟨p, 0, none⟩ = some (.int .i64 at_) ∧ W.cell? ⟨p, 1, none⟩ = some (.int .i64 n)) := Lib.hid fun W sv h => ⟨h.cell (j := 0) rfl, h.cell (j := 1) rfl⟩
    have HR6 := Lib.hid (HR5.out.keeps k6 (by simp))
    have HK6 := Lib.hid (HK5.out.trans (k6.mono (by simp)))
    have HO6 := Lib.hid (owns_keeps HO5.out k6 (by simp))
    obtain ⟨d0, d1⟩ := HQ.out _ _ HR6.out
    have s6 := HK6.out.size
    clear g3 g4 g6 e6 g0 g1 g7 e7 k6 hW6
    go_region_held3 (fun w' => w'.cell? ⟨p, 0, none⟩ = some (.int .i64 at_) ∧ w'.cell? ⟨p, 1, none⟩ = some (.int .i64 n))
      (first
        | exact HQ.out _ _ (hr3.set 7 _)
        | exact HQ.out _ _ hr3
        | exact ⟨d0, d1⟩
        | fail)
      (first
        | (go_at_call 37; refine (refTake_any _ _ _).mono ?_; rintro e w3 ⟨z, rfl, jz, kz', hz'⟩; have kz := kz'.undrew; have hz : W6.heap.size ≤ z := hz'; have hr3 := HR6.out.keeps kz (by simp); have d7 := hr3.cell (j := 7) (u := .pointer none) rfl; have e7 := hr3.frozen 7; clear kz' hz')
        | fail)
    have hpz : z ≠ p := by have := HR6.out.lt; omega
    have kS : Keeps [p] w3 (w3.setCell ⟨p, 7, none⟩ (.pointer (some ⟨z, 0, none⟩))) := (Keeps.refl [p] w3).set (by simp) _ _
    have HR3 : Hid (Row (w3.setCell ⟨p, 7, none⟩ (.pointer (some ⟨z, 0, none⟩))) p 85 (quCells ⟨at_, n, true, l, nodes ++ [rv], k, 1, sub, hh, t, x, vv, code, inn, none⟩ (.slice lq l.length lc) (.slice p10 (nodes.length + 1) c10) (.pointer (some ⟨z, 0, none⟩)))) := Lib.hid (hr3.set 7 _)
    have HJ3 := Lib.hid (jz.did kS hpz)
    have HK3 := Lib.hid ((HK6.out.trans (kz.mono (by simp))).trans (kS.mono (by simp)))
    have HO3 := Lib.hid (owns_keeps (owns_keeps HO6.out kz (by simp)) kS (fun g hg => by simpa using HPN.out g hg))
    have HNZ : Hid ((Value.slice p10 (nodes.length + 1) c10).ownBlock ≠ some z) := Lib.hid (fun h => by have := (HO6.out.lt z h).2; omega)
    have hzw : w.heap.size ≤ z := by omega
    clear hr3 jz kz d7 e7 hpz kS HQ d0 d1
    go_wp2
    first | go_end0 | refine bodyPost_ret (results_none rfl _ _ _) rfl ?_
    exact ⟨rfl, _, z, HR3.out, HJ3.out, HO3.out, HNZ.out, HK3.out, hzw, HFr.out⟩
end
end Go.Proofs.YtoomefclbemnlaaGreat

/-
  Give of the document's frame of a queue, where it was in the arena and had a node.
-/
namespace Go.Proofs.YtoomefclbemnlaaGreat
set_option maxRecDepth 100000
set_option linter.unusedSimpArgs false
set_option linter.unusedVariables false
open Go.ChangeShapes Go.WideShapes Go.ChangeAt Go.RowKit

section
variable {p q : Nat} {w : World} {lv nv : Value}
set_option maxHeartbeats 3200000 in
theorem rq_left_p_last (s : QuS) (a : ArS) (v rv : Int) (won : Bool) (base : Nat) (h : Row w p 85 (quCells s lv nv (.pointer (some ⟨q, 0, none⟩)))) (hj : refArJ q w [q] a) (hpq : p ≠ q) (ho : s.over = none) (ha : a.over = none) (hU : M.U v) (hg : (arenaM.give a v won).over = some ⟨0, rv, []⟩)
    (hown : w.ownsRow base 3 1 nv s.nodes.length (ints .i64 s.nodes)) (hb : p < base ∧ base ≤ w.heap.size) (hnq : nv.ownBlock ≠ some q) (hL : ∃ lq lc, lv = .slice lq s.l.length lc) (hrv : 0 ≤ rv ∧ rv ≤ 4096) (hnl : s.nodes.length ≤ 300) (hlast : ¬ s.nodes.length + 1 < s.l.length) (hp : s.puts = true) (hs : s.step = 1) :
    Calls Tryz.prog 41 #[.pointer (some ⟨p, 0, none⟩), .int .u64 v, .bool won] w fun e w' => e = .returned (.tuple #[]) ∧ ∃ nv', Row w' p 85 (quCells { s with nodes := s.nodes ++ [rv], step := 20 } lv nv' (.pointer none)) ∧ w'.ownsRow base 3 1 nv' (s.nodes.length + 1) (ints .i64 (s.nodes ++ [rv])) ∧ Keeps (p :: q :: nv.ownBlock.toList) w w' ∧ (∀ g, nv'.ownBlock = some g → nv.ownBlock = some g ∨ w.heap.size ≤ g) := by
  have HG := Lib.hid (refAr_give q a w [q] v won hj hU)
  have HR := Lib.hid h
  have HO9 := Lib.hid hown
  have HLeft := Lib.hid (fun W rq rn rc h1 h2 h3 => refLeft_last (p := p) (w := W) (lv := lv) (nv := nv) s rv (.pointer (some ⟨q, 0, none⟩)) rq rn rc base h1 ho h2 h3 hL hrv hnl hlast hp hs)
  have c7 := h.cell (j := 7) rfl
  have c14 := h.cell (j := 14) (u := .bool false) (by simp [quCells, ho])
  obtain ⟨a', ha'⟩ : ∃ a', arenaM.give a v won = a' := ⟨_, rfl⟩
  rw [ha'] at hg HG
  have hra : (arenaM.res a).isSome = false := by show a.over.isSome = false; rw [ha]; rfl
  rw [hra] at HG
  clear h hj hU ha' hra hown hL hrv hnl hlast hp hs ho ha
  go_enter Tryz.func41, Tryz.ntmps41
  go_wp2_with fail
  refine HG.out.mono ?_
  rintro e w1 ⟨rfl, S', j1, k1, -⟩
  have hS : S' = [q] := j1.1
  subst hS
  simp only [Bool.false_eq_true, if_false] at k1
  have hr1 := HR.out.keeps k1 (by simp; exact hpq)
  have ho1 := owns_keeps HO9.out k1 (by intro g hg hm; simp at hm; subst hm; exact hnq hg)
  have HO := refAr_over q a' w1 [q] j1
  rw [show arenaM.res a' = some ⟨0, rv, []⟩ from hg] at HO
  have HO := Lib.hid HO
  have HR1 := Lib.hid hr1
  have HO1 := Lib.hid ho1
  have HK1 := Lib.hid k1
  have d7 := hr1.cell (j := 7) rfl
  have s1 := k1.size
  clear j1 k1 hr1 c7 c14 ho1 hg
  go_wp2_with fail
  refine HO.out.mono ?_
  rintro e w2 ⟨oq, on, oc, rfl, k2, -⟩
  have kb : Keeps [] w2 (w2.alloc (.cells #[.int .i64 0, .int .u64 rv, .slice oq on oc] 56)) := (Keeps.refl _ _).alloc _
  obtain ⟨w2b, hw2b⟩ : ∃ W, w2.alloc (.cells #[.int .i64 0, .int .u64 rv, .slice oq on oc] 56) = W := ⟨_, rfl⟩
  rw [hw2b] at kb
  have HR2 := Lib.hid ((HR1.out.keeps k2 (by simp)).keeps kb (by simp))
  have HO2 := Lib.hid (owns_keeps (owns_keeps HO1.out k2 (by simp)) kb (by simp))
  have HK2 := Lib.hid (HK1.out.trans ((k2.trans kb).nil (S := [q])))
  have s2 := (k2.trans kb).size
  have rr : Box w2b w2.heap.size #[.int .i64 0, .int .u64 rv, .slice oq on oc] := by rw [← hw2b]; exact Box.new _ _ _
  have x0 := rr.cells 0
  have x1 := rr.cells 1
  have x2 := rr.cells 2
  simp at x0 x1 x2
  clear k2 d7 kb rr
  go_wp2_with fail
  refine (HLeft.out w2b oq on oc HR2.out HO2.out ⟨hb.1, by omega⟩).mono ?_
  rintro e w3 ⟨rfl, nv', h3, o3, k3, fr⟩
  have HP := Lib.hid (⟨h3, o3, (HK2.out.mono (T := p :: q :: nv.ownBlock.toList) (by simp)).trans (k3.mono (by intro x hx _; simp at hx ⊢; rcases hx with h | h; exact .inl h; exact .inr (.inr h))), fun g hg => (fr g hg).imp_right fun h => Nat.le_trans HK2.out.size h⟩ : _ ∧ _ ∧ _ ∧ _)
  clear h3 o3 k3 fr
  go_wp2
  first | go_end0 | refine bodyPost_ret (results_none rfl _ _ _) rfl ?_
  exact ⟨rfl, nv', HP.out⟩
set_option maxHeartbeats 3200000 in
theorem rq_left_p_more (s : QuS) (a : ArS) (v rv : Int) (won : Bool) (base : Nat) (h : Row w p 85 (quCells s lv nv (.pointer (some ⟨q, 0, none⟩)))) (hj : refArJ q w [q] a) (hpq : p ≠ q) (ho : s.over = none) (ha : a.over = none) (hU : M.U v) (hg : (arenaM.give a v won).over = some ⟨0, rv, []⟩)
    (hown : w.ownsRow base 3 1 nv s.nodes.length (ints .i64 s.nodes)) (hb : p < base ∧ base ≤ w.heap.size) (hnq : nv.ownBlock ≠ some q) (hL : ∃ lq lc, lv = .slice lq s.l.length lc) (hrv : 0 ≤ rv ∧ rv ≤ 4096) (hnl : s.nodes.length ≤ 300) (hlast : s.nodes.length + 1 < s.l.length) (hrr : quRight s.at_ s.n) (hp : s.puts = true) (hs : s.step = 1) :
    Calls Tryz.prog 41 #[.pointer (some ⟨p, 0, none⟩), .int .u64 v, .bool won] w fun e w' => e = .returned (.tuple #[]) ∧ ∃ nv' z, Row w' p 85 (quCells { s with nodes := s.nodes ++ [rv] } lv nv' (.pointer (some ⟨z, 0, none⟩))) ∧ refArJ z w' [z] (arTake (s.at_ + 2) s.n) ∧ w'.ownsRow base 3 1 nv' (s.nodes.length + 1) (ints .i64 (s.nodes ++ [rv])) ∧ nv'.ownBlock ≠ some z ∧ Keeps (p :: q :: nv.ownBlock.toList) w w' ∧ w.heap.size ≤ z ∧ (∀ g, nv'.ownBlock = some g → nv.ownBlock = some g ∨ w.heap.size ≤ g) := by
  have HG := Lib.hid (refAr_give q a w [q] v won hj hU)
  have HR := Lib.hid h
  have HO9 := Lib.hid hown
  have HLeft := Lib.hid (fun W rq rn rc h1 h2 h3 => refLeft_more (p := p) (w := W) (lv := lv) (nv := nv) s rv (.pointer (some ⟨q, 0, none⟩)) rq rn rc base h1 ho h2 h3 hL hrv hnl hlast hrr hp hs)
  have c7 := h.cell (j := 7) rfl
  have c14 := h.cell (j := 14) (u := .bool false) (by simp [quCells, ho])
  obtain ⟨a', ha'⟩ : ∃ a', arenaM.give a v won = a' := ⟨_, rfl⟩
  rw [ha'] at hg HG
  have hra : (arenaM.res a).isSome = false := by show a.over.isSome = false; rw [ha]; rfl
  rw [hra] at HG
  clear h hj hU ha' hra hown hL hrv hnl hlast hp hs ho ha
  go_enter Tryz.func41, Tryz.ntmps41
  go_wp2_with fail
  refine HG.out.mono ?_
  rintro e w1 ⟨rfl, S', j1, k1, -⟩
  have hS : S' = [q] := j1.1
  subst hS
  simp only [Bool.false_eq_true, if_false] at k1
  have hr1 := HR.out.keeps k1 (by simp; exact hpq)
  have ho1 := owns_keeps HO9.out k1 (by intro g hg hm; simp at hm; subst hm; exact hnq hg)
  have HO := refAr_over q a' w1 [q] j1
  rw [show arenaM.res a' = some ⟨0, rv, []⟩ from hg] at HO
  have HO := Lib.hid HO
  have HR1 := Lib.hid hr1
  have HO1 := Lib.hid ho1
  have HK1 := Lib.hid k1
  have d7 := hr1.cell (j := 7) rfl
  have s1 := k1.size
  clear j1 k1 hr1 c7 c14 ho1 hg
  go_wp2_with fail
  refine HO.out.mono ?_
  rintro e w2 ⟨oq, on, oc, rfl, k2, -⟩
  have kb : Keeps [] w2 (w2.alloc (.cells #[.int .i64 0, .int .u64 rv, .slice oq on oc] 56)) := (Keeps.refl _ _).alloc _
  obtain ⟨w2b, hw2b⟩ : ∃ W, w2.alloc (.cells #[.int .i64 0, .int .u64 rv, .slice oq on oc] 56) = W := ⟨_, rfl⟩
  rw [hw2b] at kb
  have HR2 := Lib.hid ((HR1.out.keeps k2 (by simp)).keeps kb (by simp))
  have HO2 := Lib.hid (owns_keeps (owns_keeps HO1.out k2 (by simp)) kb (by simp))
  have HK2 := Lib.hid (HK1.out.trans ((k2.trans kb).nil (S := [q])))
  have s2 := (k2.trans kb).size
  have rr : Box w2b w2.heap.size #[.int .i64 0, .int .u64 rv, .slice oq on oc] := by rw [← hw2b]; exact Box.new _ _ _
  have x0 := rr.cells 0
  have x1 := rr.cells 1
  have x2 := rr.cells 2
  simp at x0 x1 x2
  clear k2 d7 kb rr
  go_wp2_with fail
  refine (HLeft.out w2b oq on oc HR2.out HO2.out ⟨hb.1, by omega⟩).mono ?_
  rintro e w3 ⟨rfl, nv', z, h3, j3, o3, n3, k3, z3, fr⟩
  have HP := Lib.hid (⟨h3, j3, o3, n3, (HK2.out.mono (T := p :: q :: nv.ownBlock.toList) (by simp)).trans (k3.mono (by intro x hx _; simp at hx ⊢; rcases hx with h | h; exact .inl h; exact .inr (.inr h))), Nat.le_trans HK2.out.size z3, fun g hg => (fr g hg).imp_right fun h => Nat.le_trans HK2.out.size h⟩ : _ ∧ _ ∧ _ ∧ _ ∧ _ ∧ _ ∧ _)
  clear h3 j3 o3 n3 k3 z3 fr
  go_wp2
  first | go_end0 | refine bodyPost_ret (results_none rfl _ _ _) rfl ?_
  exact ⟨rfl, nv', z, HP.out⟩
end
end Go.Proofs.YtoomefclbemnlaaGreat
