/-
  Contracts: what a queue's Put does that puts nodes back; what the functions of its Take do.
-/
import Derived.Test.YtoomefclbemnlaaGreatQuZ
namespace Go.Proofs.YtoomefclbemnlaaGreat
set_option maxRecDepth 100000
set_option linter.unusedSimpArgs false
set_option linter.unusedVariables false
open Go.ChangeShapes Go.WideShapes Go.ChangeAt Go.RowKit

set_option maxHeartbeats 1600000 in
theorem quPutBackEnd (m p : Nat) (at_ n ec en nd nx : Int) (lk ac tv : Value) (dn cd : Int) (nq : Option Addr) (nc : Nat) (e : TypeId) (s : WSt) (w : World) (hw : Wk w m s) (hp : Row w p e (quPCells m at_ n ec en nd nx lk ac tv (.slice nq 0 nc) dn cd)) (hpm : p ≠ m) (ho : s.over = false) (hu : 0 < s.under) :
    Calls Tryz.prog 118 #[.pointer (some ⟨p, 0, none⟩)] w fun e' w' => e' = .returned (.tuple #[]) ∧ QuEnds m p s w cd 0 w' := by
  obtain ⟨h0, h1, h2, h3, h4, h5, h6, h7, h8, h9, h10, h11, h12⟩ := quP_cells hp _ [] (Keeps.refl _ _) (by simp)
  have HB := Lib.hid (wBreak m s cd w.drew (hw.keeps ((Keeps.refl [] _).drew) (by simp)) ho (.inl hu))
  have hplt := hp.lt
  have hc0 := h0
  clear hp hw ho hu
  go_enter Tryz.func118, Tryz.ntmps118
  go_wp2
  go_still_tail 9, (by kernel_rfl)
  change wpList _ _ _ _ _ w.drew
  go_wp2_with fail
  refine HB.out.mono ?_
  rintro e2 w2 ⟨rfl, l', a, b, c⟩
  have HP : Hid (_ ∧ _ ∧ _) := Lib.hid ⟨a, b, c.undrew⟩
  clear a b c
  go_wp2
  first | go_end0 | refine bodyPost_ret (results_none rfl _ _ _) rfl ?_
  exact ⟨rfl, l', HP.out.1, HP.out.2.1, HP.out.2.2.mono (by simp), (HP.out.2.2.cell (p := ⟨p, 0, none⟩) hplt (by simpa using hpm)).trans hc0⟩

set_option maxHeartbeats 1600000 in
theorem quPutBackMore (m p : Nat) (at_ n ec en nd nx : Int) (lk ac tv : Value) (dn cd : Int) (nb no nc j : Nat) (e : TypeId) (s : WSt) (w : World) (node : Int) (hw : Wk w m s) (hp : Row w p e (quPCells m at_ n ec en nd nx lk ac tv (.slice (some ⟨nb, no, none⟩) (j + 1) nc) dn cd)) (hpm : p ≠ m) (ho : s.over = false) (hs : s.sub = none) (hout : ∃ q i c, s.outer = .slice q i c) (hr : quRight at_ n)
    (x0 : w.cell? ⟨nb, no, none⟩ = some (.int .i64 node)) (n0 : 1 ≤ node) (n1 : node ≤ n) (hj : j ≤ 1000000) (hcap : j + 1 ≤ nc) :
    Calls Tryz.prog 118 #[.pointer (some ⟨p, 0, none⟩)] w fun e' w' => e' = .returned (.tuple #[]) ∧ ∃ o, (j = 0 ∨ o = no + 1) ∧ QuInto m p e s w (arPut (at_ + 2) n node) 148 (quPCells m at_ n ec en nd nx lk ac tv (.slice (some ⟨nb, o, none⟩) j (nc - 1)) dn cd) w' := by
  have hov : (arPut (at_ + 2) n node).over = none := by simp [arPut, hr.ar, n0, n1]
  obtain ⟨h0, h1, h2, h3, h4, h5, h6, h7, h8, h9, h10, h11, h12⟩ := quP_cells hp _ [] (Keeps.refl _ _) (by simp)
  have f10 := hp.frozen 10
  obtain ⟨o, ho1, ho2⟩ : ∃ o, (j = 0 ∨ o = no + 1) ∧ (if nc = 1 then o = no else o = no + 1) := by
    by_cases h : nc = 1
    · exact ⟨no, .inl (by omega), by simp [h]⟩
    · exact ⟨no + 1, .inr rfl, by simp [h]⟩
  obtain ⟨W1, hW1⟩ : ∃ W1, w.setCell ⟨p, 10, none⟩ (.slice (some ⟨nb, o, none⟩) j (nc - 1)) = W1 := ⟨_, rfl⟩
  have hk1 : Keeps [p] w W1 := by rw [← hW1]; exact (Keeps.refl _ _).set (by simp) _ _
  have hp1 : Row W1 p e (quPCells m at_ n ec en nd nx lk ac tv (.slice (some ⟨nb, o, none⟩) j (nc - 1)) dn cd) := by rw [← hW1]; exact hp.set 10 _
  have hw1 := hw.keeps hk1 (by simpa using Ne.symm hpm)
  have HX := Lib.hid (fun W S (kS : Keeps S W1 W) (hpS : p ∉ S) => show W.cell? ⟨p, 0, none⟩ = some (.pointer (some ⟨m, 0, none⟩)) ∧ W.cell? ⟨p, 1, none⟩ = some (.int .i64 at_) ∧ W.cell? ⟨p, 2, none⟩ = some (.int .i64 n) from by
    obtain ⟨q0, q1, q2, -⟩ := quP_cells hp1 W S kS hpS
    exact ⟨q0, q1, q2⟩)
  obtain ⟨g0, g1, g2⟩ := HX.out W1 [] (Keeps.refl _ _) (by simp)
  have HE := Lib.hid (fun Wa W2 W U b k1 hI k2 hU kW => quGoIn m p b e s W1 Wa W2 W U (arPut (at_ + 2) n node) 148 _ hw1 hp1 hpm ho hs hout hov k1 hI k2 hU kW)
  have HK1 := Lib.hid (hk1.mono (T := [m, p]) (by simp))
  have HO := Lib.hid ho1
  clear hp hw ho hs hov hp1 hw1 hk1 ho1 hcap
  by_cases hnc : nc = 1
  · subst hnc
    simp only [if_true] at ho2
    subst ho2
    go_enter Tryz.func118, Tryz.ntmps118
    go_wp2
    go_region_held3 (fun w' => w'.cell? ⟨p, 0, none⟩ = some (.pointer (some ⟨m, 0, none⟩)) ∧ w'.cell? ⟨p, 1, none⟩ = some (.int .i64 at_) ∧ w'.cell? ⟨p, 2, none⟩ = some (.int .i64 n))
      (first
        | exact ⟨hkC.1, hkC.2.1, hkC.2.2.1⟩
        | exact HX.out _ _ hkB (by simp)
        | exact HX.out _ _ hkA (by simp)
        | exact ⟨by assumption, by assumption, by assumption⟩
        | fail)
      (first
        | (go_at_call 6; refine (quArena_any at_ n _ hr).mono ?_; rintro e2 w2 ⟨rfl, k2⟩; have hkA : Keeps [] W1 w2 := k2.undrew; clear k2)
        | (go_at_call 147; refine (put_made (at_ + 2) n node _).mono ?_; rintro e3 w3 ⟨b, U, rfl, hI, k3, hU⟩; have hkB : Keeps [] W1 w3 := hkA.trans k3)
        | (go_at_call 72; refine (HE.out _ _ _ _ _ hkA hI k3 hU (Keeps.refl _ _)).mono ?_; rintro e4 w4 ⟨rfl, hQ⟩; have hkC := hQ.cells)
        | fail)
    all_goals (first | go_end0 | refine bodyPost_ret (results_none rfl _ _ _) rfl ?_)
    all_goals exact ⟨rfl, _, HO.out, hQ.from HK1.out⟩
  · simp only [if_neg hnc] at ho2
    subst ho2
    have hnc' : (nc = 1) = False := by simpa using hnc
    go_enter Tryz.func118, Tryz.ntmps118
    go_wp2
    go_region_held3 (fun w' => w'.cell? ⟨p, 0, none⟩ = some (.pointer (some ⟨m, 0, none⟩)) ∧ w'.cell? ⟨p, 1, none⟩ = some (.int .i64 at_) ∧ w'.cell? ⟨p, 2, none⟩ = some (.int .i64 n))
      (first
        | exact ⟨hkC.1, hkC.2.1, hkC.2.2.1⟩
        | exact HX.out _ _ hkB (by simp)
        | exact HX.out _ _ hkA (by simp)
        | exact ⟨by assumption, by assumption, by assumption⟩
        | fail)
      (first
        | (go_at_call 6; refine (quArena_any at_ n _ hr).mono ?_; rintro e2 w2 ⟨rfl, k2⟩; have hkA : Keeps [] W1 w2 := k2.undrew; clear k2)
        | (go_at_call 147; refine (put_made (at_ + 2) n node _).mono ?_; rintro e3 w3 ⟨b, U, rfl, hI, k3, hU⟩; have hkB : Keeps [] W1 w3 := hkA.trans k3)
        | (go_at_call 72; refine (HE.out _ _ _ _ _ hkA hI k3 hU (Keeps.refl _ _)).mono ?_; rintro e4 w4 ⟨rfl, hQ⟩; have hkC := hQ.cells)
        | fail)
    all_goals (first | go_end0 | refine bodyPost_ret (results_none rfl _ _ _) rfl ?_)
    all_goals exact ⟨rfl, _, .inr rfl, hQ.from HK1.out⟩
end Go.Proofs.YtoomefclbemnlaaGreat

/-
  Contracts: what the functions of a queue's Take do.
-/
namespace Go.Proofs.YtoomefclbemnlaaGreat
set_option maxRecDepth 100000
set_option linter.unusedSimpArgs false
set_option linter.unusedVariables false
open Go.ChangeShapes Go.WideShapes Go.ChangeAt Go.RowKit

set_option maxHeartbeats 1600000 in
theorem quLoadTail (m p : Nat) (at_ n ec en nd nx : Int) (lk ac : Value) (tl tk : Int) (e : TypeId) (s : WSt) (w : World) (hw : Wk w m s) (hp : Row w p e (quTCells m at_ n ec en nd nx lk ac tl tk)) (hpm : p ≠ m) (ho : s.over = false) (hs : s.sub = none) (a0 : 0 ≤ at_) (a1 : at_ < 65536) :
    Calls Tryz.prog 43 #[.pointer (some ⟨p, 0, none⟩)] w fun e' w' => e' = .returned (.tuple #[]) ∧ QuAsks m p e s w ⟨1, at_ + 1, 0, 0⟩ 86 (quTCells m at_ n ec en nd nx lk ac tl tk) w' := by
  obtain ⟨h0, h1, h2, h3, h4, h5, h6, h7, h8, h9, h10⟩ := quT_cells hp _ [] (Keeps.refl _ _) (by simp)
  have HS := Lib.hid (quT_cells hp)
  have HX := Lib.hid (fun W S (kS : Keeps S w W) (hpS : p ∉ S) => show W.cell? ⟨p, 0, none⟩ = some (.pointer (some ⟨m, 0, none⟩)) ∧ W.cell? ⟨p, 1, none⟩ = some (.int .i64 at_) ∧ W.cell? ⟨p, 2, none⟩ = some (.int .i64 n) from by
    obtain ⟨q0, q1, q2, -⟩ := quT_cells hp W S kS hpS
    exact ⟨q0, q1, q2⟩)
  have HE := Lib.hid (fun W (h : Wk W m s) c0 => quLoad_any m p (at_ + 1) (.func 86) #[.pointer (some ⟨p, 0, none⟩)] #[] s W h c0 ho hs)
  have HW := Lib.hid hw
  have HP1 := Lib.hid hp
  clear hp hw ho hs
  go_enter Tryz.func43, Tryz.ntmps43
  go_wp2
  go_region_held3 (fun w' => w'.cell? ⟨p, 0, none⟩ = some (.pointer (some ⟨m, 0, none⟩)) ∧ w'.cell? ⟨p, 1, none⟩ = some (.int .i64 at_) ∧ w'.cell? ⟨p, 2, none⟩ = some (.int .i64 n))
    (first
      | exact HX.out _ _ hk3 (by simpa using hpm)
      | exact HX.out _ _ hk2 (by simp)
      | exact ⟨by assumption, by assumption, by assumption⟩
      | fail)
    (first
      | (go_at_call 31; refine (quTail_any at_ n _ a0 a1).mono ?_; rintro e2 w2 ⟨rfl, k2⟩; have hk2 : Keeps [] w w2 := k2.undrew; clear k2)
      | (go_at_call 64; refine (HE.out _ (HW.out.keeps hk2 (by simp)) (HS.out _ _ hk2 (by simp)).1).mono ?_; rintro e2 w3 ⟨rfl, hw3, k3⟩; have hk3 : Keeps [m] w w3 := (hk2.mono (by simp)).trans k3; clear k3)
      | fail)
  all_goals (first | go_end0 | refine bodyPost_ret (results_none rfl _ _ _) rfl ?_)
  all_goals exact ⟨rfl, hw3, HP1.out.keeps hk3 (by simpa using hpm), hk3.mono (by simp)⟩

set_option maxHeartbeats 1600000 in
theorem quReadTail (m p : Nat) (at_ n ec en nd nx : Int) (lk ac : Value) (tl tk : Int) (e : TypeId) (s : WSt) (w : World) (v : Int) (won : Bool) (hw : Wk w m s) (hp : Row w p e (quTCells m at_ n ec en nd nx lk ac tl tk)) (hpm : p ≠ m) (ho : s.over = false) (hs : s.sub = none) (hr : quRight at_ n) (i0 : 0 ≤ nd) (i1 : nd ≤ 4294967296) :
    Calls Tryz.prog 86 #[.pointer (some ⟨p, 0, none⟩), .int .u64 v, .bool won] w fun e' w' => e' = .returned (.tuple #[]) ∧ QuAsks m p e s w ⟨1, quNext at_ n nd, 0, 0⟩ 65 (quTCells m at_ n ec en nd nx lk ac v tk) w' := by
  obtain ⟨h0, h1, h2, h3, h4, h5, h6, h7, h8, h9, h10⟩ := quT_cells hp _ [] (Keeps.refl _ _) (by simp)
  have f9 := hp.frozen 9
  have HE := Lib.hid (quLoadNext m p at_ n ec en nd nx lk ac [.int .u64 v, .int .u64 tk] e s _ (hw.keeps ((Keeps.refl [p] w).setCell (p := ⟨p, 9, none⟩) (fun _ => by simp) (.int .u64 v)) (by simpa using Ne.symm hpm)) (hp.set 9 (.int .u64 v)) hpm ho hs hr i0 i1)
  clear hp hw ho hs
  go_enter Tryz.func86, Tryz.ntmps86
  go_wp2_with fail
  refine HE.out.mono ?_
  rintro e3 w3 ⟨rfl, hq⟩
  have HQ := Lib.hid hq
  clear hq
  go_wp2
  first | go_end0 | refine bodyPost_ret (results_none rfl _ _ _) rfl ?_
  exact ⟨rfl, HQ.out.from ((Keeps.refl [m, p] w).setCell (p := ⟨p, 9, none⟩) (fun _ => by simp) _)⟩

set_option maxHeartbeats 1600000 in
/-- Nothing is in it. -/
theorem quChooseEmpty (m p : Nat) (at_ n ec en nd nx : Int) (lk ac : Value) (tl tk : Int) (e : TypeId) (s : WSt) (w : World) (hw : Wk w m s) (hp : Row w p e (quTCells m at_ n ec en nd nx lk ac tl tk)) (hpm : p ≠ m) (ho : s.over = false) (hu : 0 < s.under) (hx : quNode nx = 0) (ht : quNode tl = nd) (hU : M.U nx) (hUt : M.U tl) :
    Calls Tryz.prog 44 #[.pointer (some ⟨p, 0, none⟩)] w fun e' w' => e' = .returned (.tuple #[]) ∧ QuEnds m p s w 5 0 w' := by
  obtain ⟨h0, h1, h2, h3, h4, h5, h6, h7, h8, h9, h10⟩ := quT_cells hp _ [] (Keeps.refl _ _) (by simp)
  have HC := Lib.hid (quT_cells hp)
  have HP1 := Lib.hid hp
  have hplt := hp.lt
  have hc0 := h0
  have bx : (quNode nx == 0) = true := by simpa using hx
  have bt : (quNode tl == nd) = true := by simpa using ht
  have HB := Lib.hid (fun W (k : Keeps [] w W) => wBreak m s 5 W (hw.keeps k (by simp)) ho (.inl hu))
  clear hp hw ho hu hx ht
  go_enter Tryz.func44, Tryz.ntmps44
  go_wp2
  go_quiet ((go_at_call 66; exact qs (nodeOf_any _ _ (by assumption))))
  go_wp2_with fail
  generalize hV : World.drewN _ _ = V
  have kV : Keeps [] w V := by rw [← hV]; exact Keeps.of_drewN _ _
  obtain ⟨c0, c1, c2, c3, c4, c5, c6, c7, c8, c9, c10⟩ := HC.out V [] kV (by simp)
  clear hV h0 h1 h2 h3 h4 h5 h6 h7 h8 h9 h10
  go_wp2_with fail
  refine (HB.out _ kV).mono ?_
  rintro e2 w2 ⟨rfl, l', a, b, c⟩
  have HP : Hid (_ ∧ _ ∧ _) := Lib.hid ⟨a, owns_base b kV.size, kV.nil.trans c⟩
  clear a b c
  go_wp2
  first | go_end0 | refine bodyPost_ret (results_none rfl _ _ _) rfl ?_
  exact ⟨rfl, l', HP.out.1, HP.out.2.1, HP.out.2.2.mono (by simp), (HP.out.2.2.cell (p := ⟨p, 0, none⟩) hplt (by simpa using hpm)).trans hc0⟩

set_option maxHeartbeats 1600000 in
/-- Its next isn't there, though the tail stands elsewhere. -/
theorem quChooseAgain (m p : Nat) (at_ n ec en nd nx : Int) (lk ac : Value) (tl tk : Int) (e : TypeId) (s : WSt) (w : World) (hw : Wk w m s) (hp : Row w p e (quTCells m at_ n ec en nd nx lk ac tl tk)) (hpm : p ≠ m) (ho : s.over = false) (hs : s.sub = none) (hx : quNode nx = 0) (ht : quNode tl ≠ nd) (hU : M.U nx) (hUt : M.U tl) :
    Calls Tryz.prog 44 #[.pointer (some ⟨p, 0, none⟩)] w fun e' w' => e' = .returned (.tuple #[]) ∧ QuAsks m p e s w ⟨1, ec, 0, 0⟩ 89 (quTCells m at_ n ec en nd nx lk ac tl tk) w' := by
  obtain ⟨h0, h1, h2, h3, h4, h5, h6, h7, h8, h9, h10⟩ := quT_cells hp _ [] (Keeps.refl _ _) (by simp)
  have HC := Lib.hid (quT_cells hp)
  have HP1 := Lib.hid hp
  have bx : (quNode nx == 0) = true := by simpa using hx
  have bt : (quNode tl == nd) = false := by simpa using ht
  have HB := Lib.hid (fun W (k : Keeps [] w W) => quBegin m p at_ n ec en nd nx lk ac [.int .u64 tl, .int .u64 tk] e s W (hw.keeps k (by simp)) (hp.keeps k (by simp)) hpm ho hs)
  clear hp hw ho hs hx ht
  go_enter Tryz.func44, Tryz.ntmps44
  go_wp2
  go_quiet ((go_at_call 66; exact qs (nodeOf_any _ _ (by assumption))))
  go_wp2_with fail
  generalize hV : World.drewN _ _ = V
  have kV : Keeps [] w V := by rw [← hV]; exact Keeps.of_drewN _ _
  obtain ⟨c0, c1, c2, c3, c4, c5, c6, c7, c8, c9, c10⟩ := HC.out V [] kV (by simp)
  clear hV h0 h1 h2 h3 h4 h5 h6 h7 h8 h9 h10
  go_wp2_with fail
  refine (HB.out _ kV).mono ?_
  rintro e2 w2 ⟨rfl, hq⟩
  have HQ := Lib.hid (hq.from (kV.mono (by simp)))
  clear hq
  go_wp2
  first | go_end0 | refine bodyPost_ret (results_none rfl _ _ _) rfl ?_
  exact ⟨rfl, HQ.out⟩

set_option maxHeartbeats 1600000 in
/-- The tail stayed behind. -/
theorem quChooseMove (m p : Nat) (at_ n ec en nd nx : Int) (lk ac : Value) (tl tk : Int) (e : TypeId) (s : WSt) (w : World) (hw : Wk w m s) (hp : Row w p e (quTCells m at_ n ec en nd nx lk ac tl tk)) (hpm : p ≠ m) (ho : s.over = false) (hs : s.sub = none) (hx : quNode nx ≠ 0) (hn : ¬ quWrong n nx) (ht : quNode tl = nd) (a0 : 0 ≤ at_) (a1 : at_ < 65536) (hU : M.U nx) (hUt : M.U tl) :
    Calls Tryz.prog 44 #[.pointer (some ⟨p, 0, none⟩)] w fun e' w' => e' = .returned (.tuple #[]) ∧ QuAsks m p e s w ⟨3, at_ + 1, tl, arNext tl (quNode nx)⟩ 106 (quTCells m at_ n ec en nd nx lk ac tl tk) w' := by
  obtain ⟨h0, h1, h2, h3, h4, h5, h6, h7, h8, h9, h10⟩ := quT_cells hp _ [] (Keeps.refl _ _) (by simp)
  have HC := Lib.hid (quT_cells hp)
  have HP1 := Lib.hid hp
  have bx : (quNode nx == 0) = false := by simpa using hx
  have bt : (quNode tl == nd) = true := by simpa using ht
  have HB := Lib.hid (fun W (k : Keeps [] w W) => quMoveTail m p at_ n ec en nd nx lk ac [.int .u64 tl, .int .u64 tk] e s W tl (hw.keeps k (by simp)) (hp.keeps k (by simp)) hpm ho hs hU hUt hn a0 a1)
  clear hp hw ho hs hx ht hn
  go_enter Tryz.func44, Tryz.ntmps44
  go_wp2
  go_quiet ((go_at_call 66; exact qs (nodeOf_any _ _ (by assumption))))
  go_wp2_with fail
  generalize hV : World.drewN _ _ = V
  have kV : Keeps [] w V := by rw [← hV]; exact Keeps.of_drewN _ _
  obtain ⟨c0, c1, c2, c3, c4, c5, c6, c7, c8, c9, c10⟩ := HC.out V [] kV (by simp)
  clear hV h0 h1 h2 h3 h4 h5 h6 h7 h8 h9 h10
  go_wp2
  go_still_tail 7, (by kernel_rfl)
  change wpList _ _ _ _ _ V.drew
  go_wp2_with fail
  replace kV : Keeps [] w V.drew := kV.drew
  refine (HB.out _ kV).mono ?_
  rintro e2 w2 ⟨rfl, hq⟩
  have HQ := Lib.hid (hq.from (kV.mono (by simp)))
  clear hq
  go_wp2
  first | go_end0 | refine bodyPost_ret (results_none rfl _ _ _) rfl ?_
  exact ⟨rfl, HQ.out⟩

set_option maxHeartbeats 1600000 in
/-- The tail stayed behind, and its next is none. -/
theorem quChooseMoveBad (m p : Nat) (at_ n ec en nd nx : Int) (lk ac : Value) (tl tk : Int) (e : TypeId) (s : WSt) (w : World) (hw : Wk w m s) (hp : Row w p e (quTCells m at_ n ec en nd nx lk ac tl tk)) (hpm : p ≠ m) (ho : s.over = false) (hu : 0 < s.under) (hx : quNode nx ≠ 0) (hn : quWrong n nx) (ht : quNode tl = nd) (hU : M.U nx) (hUt : M.U tl) :
    Calls Tryz.prog 44 #[.pointer (some ⟨p, 0, none⟩)] w fun e' w' => e' = .returned (.tuple #[]) ∧ QuEnds m p s w 9 0 w' := by
  obtain ⟨h0, h1, h2, h3, h4, h5, h6, h7, h8, h9, h10⟩ := quT_cells hp _ [] (Keeps.refl _ _) (by simp)
  have HC := Lib.hid (quT_cells hp)
  have HP1 := Lib.hid hp
  have bx : (quNode nx == 0) = false := by simpa using hx
  have bt : (quNode tl == nd) = true := by simpa using ht
  have HB := Lib.hid (fun W (k : Keeps [] w W) => quMoveTailBad m p at_ n ec en nd nx lk ac [.int .u64 tl, .int .u64 tk] e s W tl (hw.keeps k (by simp)) (hp.keeps k (by simp)) hpm ho hu hU hn)
  clear hp hw ho hu hx ht hn
  go_enter Tryz.func44, Tryz.ntmps44
  go_wp2
  go_quiet ((go_at_call 66; exact qs (nodeOf_any _ _ (by assumption))))
  go_wp2_with fail
  generalize hV : World.drewN _ _ = V
  have kV : Keeps [] w V := by rw [← hV]; exact Keeps.of_drewN _ _
  obtain ⟨c0, c1, c2, c3, c4, c5, c6, c7, c8, c9, c10⟩ := HC.out V [] kV (by simp)
  clear hV h0 h1 h2 h3 h4 h5 h6 h7 h8 h9 h10
  go_wp2
  go_still_tail 7, (by kernel_rfl)
  change wpList _ _ _ _ _ V.drew
  go_wp2_with fail
  replace kV : Keeps [] w V.drew := kV.drew
  refine (HB.out _ kV).mono ?_
  rintro e2 w2 ⟨rfl, hq⟩
  have HQ := Lib.hid (hq.from (kV.mono (by simp)))
  clear hq
  go_wp2
  first | go_end0 | refine bodyPost_ret (results_none rfl _ _ _) rfl ?_
  exact ⟨rfl, HQ.out⟩

set_option maxHeartbeats 1600000 in
/-- The next is none. -/
theorem quChooseBad (m p : Nat) (at_ n ec en nd nx : Int) (lk ac : Value) (tl tk : Int) (e : TypeId) (s : WSt) (w : World) (hw : Wk w m s) (hp : Row w p e (quTCells m at_ n ec en nd nx lk ac tl tk)) (hpm : p ≠ m) (ho : s.over = false) (hu : 0 < s.under) (hx : quNode nx ≠ 0) (hn : quWrong n nx) (ht : quNode tl ≠ nd) (hU : M.U nx) (hUt : M.U tl) :
    Calls Tryz.prog 44 #[.pointer (some ⟨p, 0, none⟩)] w fun e' w' => e' = .returned (.tuple #[]) ∧ QuEnds m p s w 9 0 w' := by
  obtain ⟨h0, h1, h2, h3, h4, h5, h6, h7, h8, h9, h10⟩ := quT_cells hp _ [] (Keeps.refl _ _) (by simp)
  have HC := Lib.hid (quT_cells hp)
  have HP1 := Lib.hid hp
  have bx : (quNode nx == 0) = false := by simpa using hx
  have bt : (quNode tl == nd) = false := by simpa using ht
  have hn' : ¬ (1 ≤ quNode nx ∧ quNode nx ≤ n) := by unfold quWrong at hn; omega
  have HB := Lib.hid (fun W (k : Keeps [] w W) => quBrokenYes m p at_ n ec en nd nx lk ac [.int .u64 tl, .int .u64 tk] e s W (quNode nx) (hw.keeps k (by simp)) (hp.keeps k (by simp)) hpm ho hu hn')
  clear hp hw ho hu hx ht hn hn'
  go_enter Tryz.func44, Tryz.ntmps44
  go_wp2
  go_quiet ((go_at_call 66; exact qs (nodeOf_any _ _ (by assumption))))
  go_wp2_with fail
  generalize hV : World.drewN _ _ = V
  have kV : Keeps [] w V := by rw [← hV]; exact Keeps.of_drewN _ _
  obtain ⟨c0, c1, c2, c3, c4, c5, c6, c7, c8, c9, c10⟩ := HC.out V [] kV (by simp)
  clear hV h0 h1 h2 h3 h4 h5 h6 h7 h8 h9 h10
  go_wp2_with fail
  refine (HB.out _ kV).mono ?_
  rintro e2 w2 ⟨rfl, hq⟩
  have HQ := Lib.hid (hq.from (kV.mono (by simp)))
  clear hq
  go_wp2
  first | go_end0 | refine bodyPost_ret (results_none rfl _ _ _) rfl ?_
  exact ⟨rfl, HQ.out⟩

set_option maxHeartbeats 1600000 in
/-- There is one. -/
theorem quChooseTask (m p : Nat) (at_ n ec en nd nx : Int) (lk ac : Value) (tl tk : Int) (e : TypeId) (s : WSt) (w : World) (hw : Wk w m s) (hp : Row w p e (quTCells m at_ n ec en nd nx lk ac tl tk)) (hpm : p ≠ m) (ho : s.over = false) (hs : s.sub = none) (hx : quNode nx ≠ 0) (hn : ¬ quWrong n nx) (ht : quNode tl ≠ nd) (hr : quRight at_ n) (hU : M.U nx) (hUt : M.U tl) :
    Calls Tryz.prog 44 #[.pointer (some ⟨p, 0, none⟩)] w fun e' w' => e' = .returned (.tuple #[]) ∧ QuAsks m p e s w ⟨1, quTask at_ n (quNode nx), 0, 0⟩ 88 (quTCells m at_ n ec en nd nx lk ac tl tk) w' := by
  obtain ⟨h0, h1, h2, h3, h4, h5, h6, h7, h8, h9, h10⟩ := quT_cells hp _ [] (Keeps.refl _ _) (by simp)
  have HC := Lib.hid (quT_cells hp)
  have HP1 := Lib.hid hp
  have bx : (quNode nx == 0) = false := by simpa using hx
  have bt : (quNode tl == nd) = false := by simpa using ht
  have hn' : 1 ≤ quNode nx ∧ quNode nx ≤ n := by unfold quWrong at hn; omega
  have i0 := (quNode_nn nx).1
  have i1 : quNode nx ≤ 4294967296 := by have := (quNode_nn nx).2; omega
  have HB := Lib.hid (fun W (k : Keeps [] w W) => quBrokenNo m p at_ n ec en nd nx lk ac [.int .u64 tl, .int .u64 tk] e W (quNode nx) (hp.keeps k (by simp)) hn')
  have HE := Lib.hid (fun W (k : Keeps [] w W) c0 => quLoad_any m p (quTask at_ n (quNode nx)) (.func 88) #[.pointer (some ⟨p, 0, none⟩)] #[] s W (hw.keeps k (by simp)) c0 ho hs)
  clear hp hw ho hs hx ht hn hn'
  go_enter Tryz.func44, Tryz.ntmps44
  go_wp2
  go_quiet ((go_at_call 66; exact qs (nodeOf_any _ _ (by assumption))))
  go_wp2_with fail
  generalize hV : World.drewN _ _ = V
  have kV : Keeps [] w V := by rw [← hV]; exact Keeps.of_drewN _ _
  obtain ⟨c0, c1, c2, c3, c4, c5, c6, c7, c8, c9, c10⟩ := HC.out V [] kV (by simp)
  clear hV h0 h1 h2 h3 h4 h5 h6 h7 h8 h9 h10
  go_wp2_with fail
  refine (HB.out _ kV).mono ?_
  rintro e2 w2 ⟨rfl, k2⟩
  have kW : Keeps [] w w2 := kV.trans k2
  obtain ⟨d0, d1, d2, d3, d4, d5, d6, d7, d8, d9, d10⟩ := HC.out w2 [] kW (by simp)
  have HX := Lib.hid (fun W S (kS : Keeps S w2 W) (hpS : p ∉ S) => show W.cell? ⟨p, 0, none⟩ = some (.pointer (some ⟨m, 0, none⟩)) ∧ W.cell? ⟨p, 1, none⟩ = some (.int .i64 at_) ∧ W.cell? ⟨p, 2, none⟩ = some (.int .i64 n) from by
    obtain ⟨q0, q1, q2, -⟩ := HC.out W S ((kW.mono (by simp)).trans kS) hpS
    exact ⟨q0, q1, q2⟩)
  clear k2 kV
  go_wp2
  go_region_held3 (fun w' => w'.cell? ⟨p, 0, none⟩ = some (.pointer (some ⟨m, 0, none⟩)) ∧ w'.cell? ⟨p, 1, none⟩ = some (.int .i64 at_) ∧ w'.cell? ⟨p, 2, none⟩ = some (.int .i64 n))
    (first
      | exact HX.out _ _ hk3 (by simpa using hpm)
      | exact HX.out _ _ hk2 (by simp)
      | exact ⟨by assumption, by assumption, by assumption⟩
      | fail)
    (first
      | (go_at_call 49; refine (quTask_any at_ n (quNode nx) _ hr i0 i1).mono ?_; rintro e3 w3 ⟨rfl, k3⟩; have hk2 : Keeps [] w2 w3 := k3.undrew; clear k3)
      | (go_at_call 64; refine (HE.out _ (kW.trans hk2) (HX.out _ _ hk2 (by simp)).1).mono ?_; rintro e3 w4 ⟨rfl, hw3, k4⟩; have hk3 : Keeps [m] w2 w4 := (hk2.mono (by simp)).trans k4; clear k4)
      | fail)
  all_goals (first | go_end0 | refine bodyPost_ret (results_none rfl _ _ _) rfl ?_)
  all_goals exact ⟨rfl, hw3, HP1.out.keeps ((kW.mono (by simp)).trans hk3) (by simpa using hpm), ((kW.mono (by simp)).trans hk3).mono (by simp)⟩

end Go.Proofs.YtoomefclbemnlaaGreat

/-
  Contracts: what the functions of a queue's Take do from its Cas on.
-/
namespace Go.Proofs.YtoomefclbemnlaaGreat
set_option maxRecDepth 100000
set_option linter.unusedSimpArgs false
set_option linter.unusedVariables false
open Go.ChangeShapes Go.WideShapes Go.ChangeAt Go.RowKit

set_option maxHeartbeats 1600000 in
theorem quClaim (m p : Nat) (at_ n ec en nd nx : Int) (lk ac : Value) (tl tk : Int) (e : TypeId) (s : WSt) (w : World) (v : Int) (won : Bool) (hw : Wk w m s) (hp : Row w p e (quTCells m at_ n ec en nd nx lk ac tl tk)) (hpm : p ≠ m) (ho : s.over = false) (hs : s.sub = none) (hU : M.U nx) (hUe : M.U en) :
    Calls Tryz.prog 88 #[.pointer (some ⟨p, 0, none⟩), .int .u64 v, .bool won] w fun e' w' => e' = .returned (.tuple #[]) ∧ QuAsks m p e s w ⟨3, at_, en, arNext en (quNode nx)⟩ 137 (quTCells m at_ n ec en nd nx lk ac tl v) w' := by
  have oc := hp.cell (j := 10) rfl
  have oz := hp.frozen 10
  obtain ⟨W1, hW1⟩ : ∃ W1, w.setCell ⟨p, 10, none⟩ (.int .u64 v) = W1 := ⟨_, rfl⟩
  have hk1 : Keeps [p] w W1 := by rw [← hW1]; exact (Keeps.refl _ _).set (by simp) _ _
  have hp1 : Row W1 p e (quTCells m at_ n ec en nd nx lk ac tl v) := by rw [← hW1]; exact hp.set 10 _
  have HS := Lib.hid (quT_cells hp1)
  have HX := Lib.hid (fun W S (kS : Keeps S W1 W) (hpS : p ∉ S) => show W.cell? ⟨p, 0, none⟩ = some (.pointer (some ⟨m, 0, none⟩)) ∧ W.cell? ⟨p, 1, none⟩ = some (.int .i64 at_) ∧ W.cell? ⟨p, 4, none⟩ = some (.int .u64 en) ∧ W.cell? ⟨p, 6, none⟩ = some (.int .u64 nx) from by
    obtain ⟨q0, q1, q2, q3, q4, q5, q6, -⟩ := quT_cells hp1 W S kS hpS
    exact ⟨q0, q1, q4, q6⟩)
  obtain ⟨h0, h1, h4, h6⟩ := HX.out _ [] (Keeps.refl _ _) (by simp)
  have HW := Lib.hid (hw.keeps hk1 (by simpa using Ne.symm hpm))
  have HP1 := Lib.hid hp1
  have HK1 := Lib.hid hk1
  have HE := Lib.hid (fun W (h : Wk W m s) (hl : p < W.heap.size) c0 => quRaise_any m p at_ en (quNode nx) (.func 137) #[.pointer (some ⟨p, 0, none⟩)] #[] s W h hpm hl c0 ho hs hUe (quNode_nn nx).1 (quNode_nn nx).2)
  clear hp hp1 hk1 hw ho hs
  go_enter Tryz.func88, Tryz.ntmps88
  go_wp2
  go_region_held3 (fun w' => w'.cell? ⟨p, 0, none⟩ = some (.pointer (some ⟨m, 0, none⟩)) ∧ w'.cell? ⟨p, 1, none⟩ = some (.int .i64 at_) ∧ w'.cell? ⟨p, 4, none⟩ = some (.int .u64 en) ∧ w'.cell? ⟨p, 6, none⟩ = some (.int .u64 nx))
    (first
      | exact HX.out _ _ hk3 (by simpa using hpm)
      | exact ⟨by assumption, by assumption, by assumption, by assumption⟩
      | fail)
    (first
      | (go_at_call 66; refine (nodeOf_any nx _ hU).mono ?_; rintro e1 w1 ⟨rfl, rfl⟩)
      | (go_at_call 68; refine (HE.out _ (HW.out.keeps ((Keeps.refl [] _).drew) (by simp)) HP1.out.lt (HX.out _ [] ((Keeps.refl [] _).drew) (by simp)).1).mono ?_; rintro e2 w3 ⟨rfl, hw3, k3⟩; have hk3 : Keeps [m] W1 w3 := k3.undrew; clear k3)
      | fail)
  all_goals (first | go_end0 | refine bodyPost_ret (results_none rfl _ _ _) rfl ?_)
  all_goals exact ⟨rfl, hw3, HP1.out.keeps hk3 (by simpa using hpm), (HK1.out.mono (by simp)).trans (hk3.mono (by simp))⟩

set_option maxHeartbeats 1600000 in
theorem quClaimedNo (m p : Nat) (at_ n ec en nd nx : Int) (lk ac : Value) (tl tk : Int) (e : TypeId) (s : WSt) (w : World) (v : Int) (hw : Wk w m s) (hp : Row w p e (quTCells m at_ n ec en nd nx lk ac tl tk)) (hpm : p ≠ m) (ho : s.over = false) (hs : s.sub = none) :
    Calls Tryz.prog 137 #[.pointer (some ⟨p, 0, none⟩), .int .u64 v, .bool false] w fun e' w' => e' = .returned (.tuple #[]) ∧ QuAsks m p e s w ⟨1, ec, 0, 0⟩ 89 (quTCells m at_ n ec en nd nx lk ac tl tk) w' := by
  obtain ⟨h0, -⟩ := quT_cells hp _ [] (Keeps.refl _ _) (by simp)
  have HB := Lib.hid (quBegin m p at_ n ec en nd nx lk ac [.int .u64 tl, .int .u64 tk] e s w hw hp hpm ho hs)
  clear hp hw ho hs
  go_enter Tryz.func137, Tryz.ntmps137
  go_wp2_with fail
  refine HB.out.mono ?_
  rintro e2 w2 ⟨rfl, hq⟩
  have HQ := Lib.hid hq
  clear hq
  go_wp2
  first | go_end0 | refine bodyPost_ret (results_none rfl _ _ _) rfl ?_
  exact ⟨rfl, HQ.out⟩

/-- It holds tk, and goes into the arena. -/
def QuHolds (m p : Nat) (e : TypeId) (s : WSt) (w : World) (tk : Int) (t : ArS) (F : FuncId) (cs : List Value) (w' : World) : Prop :=
  ∃ w1 tv ov g o b, w1.ownsRow w.heap.size 49 1 tv 1 [.int .u64 tk] ∧ quWatch w1 m p g o b ov ∧ (w.heap.size ≤ g ∧ w.heap.size ≤ o ∧ w.heap.size ≤ b) ∧ b ≠ o ∧ (∀ x, tv.ownBlock = some x → x ≠ g ∧ x ≠ o ∧ x ≠ b) ∧ Keeps [m] w w1 ∧ QuInto m p e { s with tasks := tv, outer := ov } w1 t F cs w'

set_option maxHeartbeats 1600000 in
theorem quClaimed (m p : Nat) (at_ n ec en nd nx : Int) (lk ac : Value) (tl tk : Int) (e : TypeId) (s : WSt) (w : World) (v : Int) (hw : Wk w m s) (hp : Row w p e (quTCells m at_ n ec en nd nx lk ac tl tk)) (hpm : p ≠ m) (ho : s.over = false) (hs : s.sub = none) (hout : s.outer = .slice none 0 0) (hr : quRight at_ n) (n0 : 1 ≤ nd) (n1 : nd ≤ n) :
    Calls Tryz.prog 137 #[.pointer (some ⟨p, 0, none⟩), .int .u64 v, .bool true] w fun e' w' => e' = .returned (.tuple #[]) ∧ QuHolds m p e s w tk (arPut (at_ + 2) n nd) 154 (quTCells m at_ n ec en nd nx lk ac tl tk) w' := by
  have hov : (arPut (at_ + 2) n nd).over = none := by simp [arPut, hr.ar, n0, n1]
  have hplt := hp.lt
  have hmlt := hw.lt
  have HX := Lib.hid (fun W S (kS : Keeps S w W) (hpS : p ∉ S) => show W.cell? ⟨p, 0, none⟩ = some (.pointer (some ⟨m, 0, none⟩)) ∧ W.cell? ⟨p, 1, none⟩ = some (.int .i64 at_) ∧ W.cell? ⟨p, 2, none⟩ = some (.int .i64 n) ∧ W.cell? ⟨p, 5, none⟩ = some (.int .i64 nd) ∧ W.cell? ⟨p, 10, none⟩ = some (.int .u64 tk) from by
    obtain ⟨q0, q1, q2, q3, q4, q5, q6, q7, q8, q9, q10⟩ := quT_cells hp W S kS hpS
    exact ⟨q0, q1, q2, q5, q10⟩)
  obtain ⟨h0, h1, h2, h5, h10⟩ := HX.out _ [] (Keeps.refl _ _) (by simp)
  have kL : Keeps [] w (w.alloc (.cells #[.int .u64 tk] 49)).drew := ((Keeps.refl [] w).alloc _).drew
  have hL : Sl (w.alloc (.cells #[.int .u64 tk] 49)).drew 1 (.slice (some ⟨w.heap.size, 0, none⟩) 1 1) 1 (ints .u64 [tk]) := ((Row.new w #[.int .u64 tk] 49).keeps ((Keeps.refl [] _).drew) (by simp)).sl (n := 1) (cap := 1) rfl
  have HH := Lib.hid (quHold_any m p 1 _ [tk] s _ (hw.keeps kL (by simp)) (HX.out _ _ kL (by simp)).1 (Nat.lt_of_lt_of_le hplt kL.size) hpm ho hout hL (by omega))
  have HP1 := Lib.hid hp
  have HE := Lib.hid (fun w1 tv ov (hw1 : Wk w1 m { s with tasks := tv, outer := ov }) (hk : Keeps [m] w w1) (hov' : ∃ q i c, ov = .slice q i c) Wa W2 W U b k1 hI k2 hU kW => quGoIn m p b e { s with tasks := tv, outer := ov } w1 Wa W2 W U (arPut (at_ + 2) n nd) 154 _ hw1 (hp.keeps hk (by simpa using hpm)) hpm ho hs hov' hov k1 hI k2 hU kW)
  clear hp hw ho hs hov hout hL
  go_enter Tryz.func137, Tryz.ntmps137
  go_wp2
  go_region_held3 (fun w' => w'.cell? ⟨p, 0, none⟩ = some (.pointer (some ⟨m, 0, none⟩)) ∧ w'.cell? ⟨p, 1, none⟩ = some (.int .i64 at_) ∧ w'.cell? ⟨p, 2, none⟩ = some (.int .i64 n) ∧ w'.cell? ⟨p, 5, none⟩ = some (.int .i64 nd) ∧ w'.cell? ⟨p, 10, none⟩ = some (.int .u64 tk))
    (first
      | exact ⟨by assumption, by assumption, by assumption, by assumption, by assumption⟩
      | exact HX.out _ _ hk3 (by simpa using hpm)
      | exact HX.out _ _ kL (by simp)
      | fail)
    (first
      | (go_at_call 34; refine HH.out.mono ?_; rintro e2 w3 ⟨rfl, tv, ov, g, o, b, hw3, ht3, hwt3, hnew, hbo, hdis, k3⟩; have hk3 : Keeps [m] w w3 := (kL.mono (by simp)).trans k3; clear k3)
      | fail)
  all_goals
    have HW3 := Lib.hid hw3
    have kz := kL.size
    have HQ3 : Hid (_ ∧ _ ∧ _ ∧ _ ∧ _ ∧ _) := Lib.hid ⟨owns_base ht3 kz, hwt3, (⟨Nat.le_trans kz hnew.1, Nat.le_trans kz hnew.2.1, Nat.le_trans kz hnew.2.2⟩ : w.heap.size ≤ g ∧ w.heap.size ≤ o ∧ w.heap.size ≤ b), hbo, hdis, hk3⟩
    have hov' : ∃ q i c, ov = .slice q i c := by obtain ⟨cap, h⟩ := hwt3.ov_; exact ⟨_, _, _, h⟩
    obtain ⟨c0, c1, c2, c5, c10⟩ := HX.out w3 _ hk3 (by simpa using hpm)
    have HX3 := Lib.hid (fun W S (kS : Keeps S w3 W) (hpS : p ∉ m :: S) => HX.out W (m :: S) ((hk3.mono (by simp)).trans (kS.mono (fun k hk _ => List.mem_cons_of_mem _ hk))) hpS)
    have HE3 := Lib.hid (fun Wa W2 W U b k1 hI k2 hU kW => HE.out w3 tv ov HW3.out hk3 hov' Wa W2 W U b k1 hI k2 hU kW)
    clear hw3 ht3 hwt3 hnew hbo hdis hk3 hov'
    go_wp2_with fail
    go_region_held3 (fun w' => w'.cell? ⟨p, 0, none⟩ = some (.pointer (some ⟨m, 0, none⟩)) ∧ w'.cell? ⟨p, 1, none⟩ = some (.int .i64 at_) ∧ w'.cell? ⟨p, 2, none⟩ = some (.int .i64 n) ∧ w'.cell? ⟨p, 5, none⟩ = some (.int .i64 nd))
      (first
        | exact ⟨hkC.1, hkC.2.1, hkC.2.2.1, hkC.2.2.2.2⟩
        | exact (fun q => (⟨q.1, q.2.1, q.2.2.1, q.2.2.2.1⟩ : _ ∧ _ ∧ _ ∧ _)) (HX3.out _ _ hkB (by simpa using hpm))
        | exact (fun q => (⟨q.1, q.2.1, q.2.2.1, q.2.2.2.1⟩ : _ ∧ _ ∧ _ ∧ _)) (HX3.out _ _ hkA (by simpa using hpm))
        | exact ⟨by assumption, by assumption, by assumption, by assumption⟩
        | fail)
      (first
        | (go_at_call 6; refine (quArena_any at_ n _ hr).mono ?_; rintro e2 w2 ⟨rfl, k2⟩; have hkA : Keeps [] w3 w2 := k2.undrew; clear k2)
        | (go_at_call 147; refine (put_made (at_ + 2) n nd _).mono ?_; rintro e3 w4 ⟨b', U, rfl, hI, k3, hU⟩; have hkB : Keeps [] w3 w4 := hkA.trans k3)
        | (go_at_call 72; refine (HE3.out _ _ _ _ _ hkA hI k3 hU (Keeps.refl _ _)).mono ?_; rintro e4 w5 ⟨rfl, hQ⟩; have hkC := hQ.cells)
        | fail)
  all_goals (first | go_end0 | refine bodyPost_ret (results_none rfl _ _ _) rfl ?_)
  all_goals exact ⟨rfl, w3, tv, ov, g, o, b, HQ3.out.1, HQ3.out.2.1, HQ3.out.2.2.1, HQ3.out.2.2.2.1, HQ3.out.2.2.2.2.1, HQ3.out.2.2.2.2.2, hQ⟩

set_option maxHeartbeats 1600000 in
theorem quTakeFinish (m p : Nat) (at_ n ec en nd nx : Int) (lk ac : Value) (tl tk : Int) (e : TypeId) (s : WSt) (w : World) (code rv : Int) (rq : Option Addr) (rn rc : Nat) (hw : Wk w m s) (hp : Row w p e (quTCells m at_ n ec en nd nx lk ac tl tk)) (hpm : p ≠ m) (ho : s.over = false) (hu : 0 < s.under) :
    Calls Tryz.prog 154 #[.pointer (some ⟨p, 0, none⟩), .agg #[.int .i64 code, .int .u64 rv, .slice rq rn rc]] w fun e' w' => e' = .returned (.tuple #[]) ∧ QuEnds m p s w code (if code = 0 then tk else 0) w' := by
  obtain ⟨W1, hW1⟩ : ∃ W1, w.alloc (.cells #[.int .i64 code, .int .u64 rv, .slice rq rn rc] 56) = W1 := ⟨_, rfl⟩
  have hb : Box W1 w.heap.size #[.int .i64 code, .int .u64 rv, .slice rq rn rc] := by rw [← hW1]; exact Box.new _ _ _
  have k1 : Keeps [] w W1 := by rw [← hW1]; exact (Keeps.refl _ _).alloc _
  have hp1 := hp.keeps k1 (by simp)
  have hw1 := hw.keeps k1 (by simp)
  obtain ⟨h0, h1, h2, h3, h4, h5, h6, h7, h8, h9, h10⟩ := quT_cells hp1 _ [] (Keeps.refl _ _) (by simp)
  have c0 := hb.cells 0
  have c1 := hb.cells 1
  have HK1 := Lib.hid k1
  have hplt := hp.lt
  have hc0 := (quT_cells hp _ [] (Keeps.refl _ _) (by simp)).1
  by_cases hc : code = 0
  · subst hc
    have q1 : ((0 : Int) != 0) = false := by simp
    have HB := Lib.hid (wEnd m s 0 tk (.slice none 0 0) 0 [] W1.drew (hw1.keeps ((Keeps.refl [] _).drew) (by simp)) ho (.inl hu) ⟨rfl, .inl ⟨_, _, rfl, rfl⟩⟩ (fun g hg => by cases hg) (by omega))
    clear hp hw ho hu hp1 hw1 hb k1
    go_enter Tryz.func154, Tryz.ntmps154
    go_wp2
    go_still_tail 10, (by kernel_rfl)
    change wpList _ _ _ _ _ W1.drew
    go_wp2_with fail
    refine HB.out.mono ?_
    rintro e2 w2 ⟨rfl, l', a, b, c⟩
    have HP : Hid (_ ∧ _ ∧ _) := Lib.hid ⟨a, owns_base b HK1.out.size, HK1.out.nil.trans c.undrew⟩
    clear a b c
    go_wp2
    first | go_end0 | refine bodyPost_ret (results_none rfl _ _ _) rfl ?_
    exact ⟨rfl, l', HP.out.1, HP.out.2.1, HP.out.2.2.mono (by simp), (HP.out.2.2.cell (p := ⟨p, 0, none⟩) hplt (by simpa using hpm)).trans hc0⟩
  · have q1 : (code != 0) = true := by simpa using hc
    rw [if_neg hc]
    have HB := Lib.hid (wBreak m s code W1.drew (hw1.keeps ((Keeps.refl [] _).drew) (by simp)) ho (.inl hu))
    clear hp hw ho hu hp1 hw1 hb k1 hc
    go_enter Tryz.func154, Tryz.ntmps154
    go_wp2
    go_still_tail 7, (by kernel_rfl)
    change wpList _ _ _ _ _ W1.drew
    go_wp2_with fail
    refine HB.out.mono ?_
    rintro e2 w2 ⟨rfl, l', a, b, c⟩
    have HP : Hid (_ ∧ _ ∧ _) := Lib.hid ⟨a, owns_base b HK1.out.size, HK1.out.nil.trans c.undrew⟩
    clear a b c
    go_wp2
    first | go_end0 | refine bodyPost_ret (results_none rfl _ _ _) rfl ?_
    exact ⟨rfl, l', HP.out.1, HP.out.2.1, HP.out.2.2.mono (by simp), (HP.out.2.2.cell (p := ⟨p, 0, none⟩) hplt (by simpa using hpm)).trans hc0⟩
end Go.Proofs.YtoomefclbemnlaaGreat
