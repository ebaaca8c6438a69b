/-
  Contracts: what the functions of a queue's Put do (written in part by wip/tools/qugen.py).
-/
import Derived.Test.YtoomefclbemnlaaGreatQuV
namespace Go.Proofs.YtoomefclbemnlaaGreat
set_option maxRecDepth 100000
set_option linter.unusedSimpArgs false
set_option linter.unusedVariables false
open Go.ChangeShapes Go.WideShapes Go.ChangeAt Go.RowKit

set_option maxHeartbeats 1600000 in
theorem quFill (m p : Nat) (at_ n ec en nd nx : Int) (lk ac : Value) (cd : Int) (tb to tl tc nb no nl nc k : Nat) (e : TypeId) (s : WSt) (w : World) (node task : Int) (hw : Wk w m s) (hp : Row w p e (quPCells m at_ n ec en nd nx lk ac (.slice (some ⟨tb, to, none⟩) tl tc) (.slice (some ⟨nb, no, none⟩) nl nc) ((k : Nat) : Int) cd)) (hpm : p ≠ m) (ho : s.over = false) (hs : s.sub = none) (hr : quRight at_ n) (i0 : 0 ≤ node) (i1 : node ≤ 4294967296) (kn : k < nl) (kt : k < tl) (nl0 : nl ≤ 1000000) (tl0 : tl ≤ 1000000) (x0 : w.cell? ⟨nb, no + k, none⟩ = some (.int .i64 node)) (lx0 : nb < w.heap.size) (px0 : p ≠ nb) (mx0 : m ≠ nb) (x1 : w.cell? ⟨tb, to + k, none⟩ = some (.int .u64 task)) (lx1 : tb < w.heap.size) (px1 : p ≠ tb) (mx1 : m ≠ tb) :
    Calls Tryz.prog 119 #[.pointer (some ⟨p, 0, none⟩)] w fun e' w' => e' = .returned (.tuple #[]) ∧ QuAsks m p e s w ⟨2, quTask at_ n node, task, 0⟩ 150 (quPCells m at_ n ec en nd nx lk ac (.slice (some ⟨tb, to, none⟩) tl tc) (.slice (some ⟨nb, no, none⟩) nl nc) ((k : Nat) : Int) cd) w' := by
  have hplt := hp.lt
  have hp1 := hp
  have hk1 : Keeps [p] w w := Keeps.refl _ _
  have hkV : Keeps [] w w := Keeps.refl _ _
  have HW : Hid (Wk w m s) := Lib.hid (hw.keeps hk1 (by simpa using Ne.symm hpm))
  have HS := Lib.hid (quP_cells hp1)
  have HK1 := Lib.hid hk1
  have HP1 := Lib.hid hp1
  obtain ⟨h0, h1, h2, h3, h4, h5, h6, h7, h8, h9, h10, h11, h12⟩ := HS.out _ [] (Keeps.refl _ _) (by simp)
  have HE := Lib.hid (fun W (h : Wk W m s) (hl : p < W.heap.size) c0 => quStore_any m p (quTask at_ n node) task (.func 150) #[.pointer (some ⟨p, 0, none⟩)] #[] s W h c0 ho hs)
  have HSX := Lib.hid (fun W S (kS : Keeps S w W) (hpS : p ∉ S) (x0_ : nb ∉ S) (x1_ : tb ∉ S) => show W.cell? ⟨p, 0, none⟩ = some (.pointer (some ⟨m, 0, none⟩)) ∧ W.cell? ⟨p, 1, none⟩ = some (.int .i64 (at_)) ∧ W.cell? ⟨p, 2, none⟩ = some (.int .i64 (n)) ∧ W.cell? ⟨p, 3, none⟩ = some (.int .i64 (ec)) ∧ W.cell? ⟨p, 4, none⟩ = some (.int .u64 (en)) ∧ W.cell? ⟨p, 5, none⟩ = some (.int .i64 (nd)) ∧ W.cell? ⟨p, 6, none⟩ = some (.int .u64 (nx)) ∧ W.cell? ⟨p, 7, none⟩ = some (lk) ∧ W.cell? ⟨p, 8, none⟩ = some (ac) ∧ W.cell? ⟨p, 9, none⟩ = some (.slice (some ⟨tb, to, none⟩) tl tc) ∧ W.cell? ⟨p, 10, none⟩ = some (.slice (some ⟨nb, no, none⟩) nl nc) ∧ W.cell? ⟨p, 11, none⟩ = some (.int .i64 ((k : Nat) : Int)) ∧ W.cell? ⟨p, 12, none⟩ = some (.int .i64 (cd)) ∧ W.cell? ⟨nb, no + k, none⟩ = some (.int .i64 node) ∧ W.cell? ⟨tb, to + k, none⟩ = some (.int .u64 task) from by
    obtain ⟨q0, q1, q2, q3, q4, q5, q6, q7, q8, q9, q10, q11, q12⟩ := HS.out W S kS hpS
    exact ⟨q0, q1, q2, q3, q4, q5, q6, q7, q8, q9, q10, q11, q12, (kS.cell (by first | exact lx0 | (have := hk1.size; omega)) x0_).trans x0, (kS.cell (by first | exact lx1 | (have := hk1.size; omega)) x1_).trans x1⟩)
  clear hw hp ho hs hp1 hk1
  go_enter Tryz.func119, Tryz.ntmps119
  go_wp2
  go_region_held3 (fun w' => w'.cell? ⟨p, 0, none⟩ = some (.pointer (some ⟨m, 0, none⟩)) ∧ w'.cell? ⟨p, 1, none⟩ = some (.int .i64 (at_)) ∧ w'.cell? ⟨p, 2, none⟩ = some (.int .i64 (n)) ∧ w'.cell? ⟨p, 3, none⟩ = some (.int .i64 (ec)) ∧ w'.cell? ⟨p, 4, none⟩ = some (.int .u64 (en)) ∧ w'.cell? ⟨p, 5, none⟩ = some (.int .i64 (nd)) ∧ w'.cell? ⟨p, 6, none⟩ = some (.int .u64 (nx)) ∧ w'.cell? ⟨p, 7, none⟩ = some (lk) ∧ w'.cell? ⟨p, 8, none⟩ = some (ac) ∧ w'.cell? ⟨p, 9, none⟩ = some (.slice (some ⟨tb, to, none⟩) tl tc) ∧ w'.cell? ⟨p, 10, none⟩ = some (.slice (some ⟨nb, no, none⟩) nl nc) ∧ w'.cell? ⟨p, 11, none⟩ = some (.int .i64 ((k : Nat) : Int)) ∧ w'.cell? ⟨p, 12, none⟩ = some (.int .i64 (cd)) ∧ w'.cell? ⟨nb, no + k, none⟩ = some (.int .i64 node) ∧ w'.cell? ⟨tb, to + k, none⟩ = some (.int .u64 task))
    (first
      | exact HSX.out _ _ hk3 (by simpa using hpm) (by simpa using Ne.symm mx0) (by simpa using Ne.symm mx1)
      | exact HSX.out _ _ hk2 (by simp) (by simp) (by simp)
      | exact ⟨by assumption, by assumption, by assumption, by assumption, by assumption, by assumption, by assumption, by assumption, by assumption, by assumption, by assumption, by assumption, by assumption, by assumption, by assumption⟩
      | fail)
    (first
      | (go_at_call 49; refine (quTask_any at_ n node _ hr i0 i1).mono ?_; rintro e2 w2 ⟨rfl, k2⟩; have hk2 : Keeps [] w w2 := hkV.trans k2.undrew; clear k2)
      | (go_at_call 149; refine (HE.out _ (HW.out.keeps hk2 (by simp)) (Nat.lt_of_lt_of_le HP1.out.lt hk2.size) (HS.out _ _ hk2 (by simp)).1).mono ?_; rintro e2 w3 ⟨rfl, hw3, k3⟩; have hk3 : Keeps [m] w w3 := (hk2.mono (by simp)).trans k3; clear k3)
      | fail)
  all_goals (first | go_end0 | refine bodyPost_ret (results_none rfl _ _ _) rfl ?_)
  all_goals exact ⟨rfl, hw3, HP1.out.keeps hk3 (by simpa using hpm), (HK1.out.mono (by simp)).trans (hk3.mono (by simp))⟩


set_option maxHeartbeats 1600000 in
theorem quFilled (m p : Nat) (at_ n ec en nd nx : Int) (lk ac tv : Value) (cd : Int) (nb no nl nc k : Nat) (e : TypeId) (s : WSt) (w : World) (v : Int) (won : Bool) (node : Int) (hw : Wk w m s) (hp : Row w p e (quPCells m at_ n ec en nd nx lk ac tv (.slice (some ⟨nb, no, none⟩) nl nc) ((k : Nat) : Int) cd)) (hpm : p ≠ m) (ho : s.over = false) (hs : s.sub = none) (hr : quRight at_ n) (i0 : 0 ≤ node) (i1 : node ≤ 4294967296) (kn : k < nl) (nl0 : nl ≤ 1000000) (x0 : w.cell? ⟨nb, no + k, none⟩ = some (.int .i64 node)) (lx0 : nb < w.heap.size) (px0 : p ≠ nb) (mx0 : m ≠ nb) :
    Calls Tryz.prog 150 #[.pointer (some ⟨p, 0, none⟩), .int .u64 v, .bool won] w fun e' w' => e' = .returned (.tuple #[]) ∧ QuAsks m p e s w ⟨1, quNext at_ n node, 0, 0⟩ 166 (quPCells m at_ n ec en nd nx lk ac tv (.slice (some ⟨nb, no, none⟩) nl nc) ((k : Nat) : Int) cd) w' := by
  have hplt := hp.lt
  have hp1 := hp
  have hk1 : Keeps [p] w w := Keeps.refl _ _
  have hkV : Keeps [] w w := Keeps.refl _ _
  have HW : Hid (Wk w m s) := Lib.hid (hw.keeps hk1 (by simpa using Ne.symm hpm))
  have HS := Lib.hid (quP_cells hp1)
  have HK1 := Lib.hid hk1
  have HP1 := Lib.hid hp1
  obtain ⟨h0, h1, h2, h3, h4, h5, h6, h7, h8, h9, h10, h11, h12⟩ := HS.out _ [] (Keeps.refl _ _) (by simp)
  have HE := Lib.hid (fun W (h : Wk W m s) (hl : p < W.heap.size) c0 => quLoad_any m p (quNext at_ n node) (.func 166) #[.pointer (some ⟨p, 0, none⟩)] #[] s W h c0 ho hs)
  have HSX := Lib.hid (fun W S (kS : Keeps S w W) (hpS : p ∉ S) (x0_ : nb ∉ S) => show W.cell? ⟨p, 0, none⟩ = some (.pointer (some ⟨m, 0, none⟩)) ∧ W.cell? ⟨p, 1, none⟩ = some (.int .i64 (at_)) ∧ W.cell? ⟨p, 2, none⟩ = some (.int .i64 (n)) ∧ W.cell? ⟨p, 3, none⟩ = some (.int .i64 (ec)) ∧ W.cell? ⟨p, 4, none⟩ = some (.int .u64 (en)) ∧ W.cell? ⟨p, 5, none⟩ = some (.int .i64 (nd)) ∧ W.cell? ⟨p, 6, none⟩ = some (.int .u64 (nx)) ∧ W.cell? ⟨p, 7, none⟩ = some (lk) ∧ W.cell? ⟨p, 8, none⟩ = some (ac) ∧ W.cell? ⟨p, 9, none⟩ = some (tv) ∧ W.cell? ⟨p, 10, none⟩ = some (.slice (some ⟨nb, no, none⟩) nl nc) ∧ W.cell? ⟨p, 11, none⟩ = some (.int .i64 ((k : Nat) : Int)) ∧ W.cell? ⟨p, 12, none⟩ = some (.int .i64 (cd)) ∧ W.cell? ⟨nb, no + k, none⟩ = some (.int .i64 node) from by
    obtain ⟨q0, q1, q2, q3, q4, q5, q6, q7, q8, q9, q10, q11, q12⟩ := HS.out W S kS hpS
    exact ⟨q0, q1, q2, q3, q4, q5, q6, q7, q8, q9, q10, q11, q12, (kS.cell (by first | exact lx0 | (have := hk1.size; omega)) x0_).trans x0⟩)
  clear hw hp ho hs hp1 hk1
  go_enter Tryz.func150, Tryz.ntmps150
  go_wp2
  go_region_held3 (fun w' => w'.cell? ⟨p, 0, none⟩ = some (.pointer (some ⟨m, 0, none⟩)) ∧ w'.cell? ⟨p, 1, none⟩ = some (.int .i64 (at_)) ∧ w'.cell? ⟨p, 2, none⟩ = some (.int .i64 (n)) ∧ w'.cell? ⟨p, 3, none⟩ = some (.int .i64 (ec)) ∧ w'.cell? ⟨p, 4, none⟩ = some (.int .u64 (en)) ∧ w'.cell? ⟨p, 5, none⟩ = some (.int .i64 (nd)) ∧ w'.cell? ⟨p, 6, none⟩ = some (.int .u64 (nx)) ∧ w'.cell? ⟨p, 7, none⟩ = some (lk) ∧ w'.cell? ⟨p, 8, none⟩ = some (ac) ∧ w'.cell? ⟨p, 9, none⟩ = some (tv) ∧ w'.cell? ⟨p, 10, none⟩ = some (.slice (some ⟨nb, no, none⟩) nl nc) ∧ w'.cell? ⟨p, 11, none⟩ = some (.int .i64 ((k : Nat) : Int)) ∧ w'.cell? ⟨p, 12, none⟩ = some (.int .i64 (cd)) ∧ w'.cell? ⟨nb, no + k, none⟩ = some (.int .i64 node))
    (first
      | exact HSX.out _ _ hk3 (by simpa using hpm) (by simpa using Ne.symm mx0)
      | exact HSX.out _ _ hk2 (by simp) (by simp)
      | exact ⟨by assumption, by assumption, by assumption, by assumption, by assumption, by assumption, by assumption, by assumption, by assumption, by assumption, by assumption, by assumption, by assumption, by assumption⟩
      | fail)
    (first
      | (go_at_call 50; refine (quNext_any at_ n node _ hr i0 i1).mono ?_; rintro e2 w2 ⟨rfl, k2⟩; have hk2 : Keeps [] w w2 := hkV.trans k2.undrew; clear k2)
      | (go_at_call 64; refine (HE.out _ (HW.out.keeps hk2 (by simp)) (Nat.lt_of_lt_of_le HP1.out.lt hk2.size) (HS.out _ _ hk2 (by simp)).1).mono ?_; rintro e2 w3 ⟨rfl, hw3, k3⟩; have hk3 : Keeps [m] w w3 := (hk2.mono (by simp)).trans k3; clear k3)
      | fail)
  all_goals (first | go_end0 | refine bodyPost_ret (results_none rfl _ _ _) rfl ?_)
  all_goals exact ⟨rfl, hw3, HP1.out.keeps hk3 (by simpa using hpm), (HK1.out.mono (by simp)).trans (hk3.mono (by simp))⟩


set_option maxHeartbeats 1600000 in
theorem quChainMore (m p : Nat) (at_ n ec en nd nx : Int) (lk ac tv : Value) (cd : Int) (nb no nl nc k : Nat) (e : TypeId) (s : WSt) (w : World) (v : Int) (won : Bool) (node node2 : Int) (hw : Wk w m s) (hp : Row w p e (quPCells m at_ n ec en nd nx lk ac tv (.slice (some ⟨nb, no, none⟩) nl nc) (k : Int) cd)) (hpm : p ≠ m) (ho : s.over = false) (hs : s.sub = none)
    (hr : quRight at_ n) (hU : M.U v) (i0 : 0 ≤ node) (i1 : node ≤ 4096) (r0 : 0 ≤ node2) (r1 : node2 < 4294967296) (kn : k + 1 < nl) (nl0 : nl ≤ 1000000) (x0 : w.cell? ⟨nb, no + k, none⟩ = some (.int .i64 node)) (x1 : w.cell? ⟨nb, no + (k + 1), none⟩ = some (.int .i64 node2)) (lx : nb < w.heap.size) (px : p ≠ nb) (mx : m ≠ nb) :
    Calls Tryz.prog 166 #[.pointer (some ⟨p, 0, none⟩), .int .u64 v, .bool won] w fun e' w' => e' = .returned (.tuple #[]) ∧ QuAsks m p e s w ⟨2, quNext at_ n node, arNext v node2, 0⟩ 169 (quPCells m at_ n ec en nd nx lk ac tv (.slice (some ⟨nb, no, none⟩) nl nc) ((k + 1 : Nat) : Int) cd) w' := by
  obtain ⟨W1, hW1⟩ : ∃ W1, w.drew.setCell ⟨p, 11, none⟩ (.int .i64 ((k : Int) + 1)) = W1 := ⟨_, rfl⟩
  have k0 : Keeps [] w w.drew := (Keeps.refl _ _).drew
  have hp0 := hp.keeps k0 (by simp)
  have hp1 : Row W1 p e (quPCells m at_ n ec en nd nx lk ac tv (.slice (some ⟨nb, no, none⟩) nl nc) ((k : Int) + 1) cd) := by rw [← hW1]; exact hp0.set 11 _
  have hk1 : Keeps [p] w W1 := by rw [← hW1]; exact ((Keeps.refl [p] w).drew).setCell (fun _ => by simp) _
  obtain ⟨b0, b1, b2, b3, b4, b5, b6, b7, b8, b9, b10, b11, b12⟩ := quP_cells hp _ [] (Keeps.refl _ _) (by simp)
  have oz := hp0.frozen 11
  have HS := Lib.hid (quP_cells hp1)
  have HW := Lib.hid (hw.keeps hk1 (by simpa using Ne.symm hpm))
  have HP1 := Lib.hid hp1
  have HK1 := Lib.hid hk1
  have y0 := (hk1.cell lx (by simpa using Ne.symm px)).trans x0
  have y1 := (hk1.cell lx (by simpa using Ne.symm px)).trans x1
  have HR := Lib.hid (fun W => raised_any v node2 W hU r0 r1)
  have HE := Lib.hid (fun W (h : Wk W m s) c0 => quStore_any m p (quNext at_ n node) (arNext v node2) (.func 169) #[.pointer (some ⟨p, 0, none⟩)] #[] s W h c0 ho hs)
  obtain ⟨h0, h1, h2, h3, h4, h5, h6, h7, h8, h9, h10, h11, h12⟩ := HS.out _ [] (Keeps.refl _ _) (by simp)
  have kn' : (k : Int) + 1 < (nl : Int) := by omega
  have kn2 : k < nl := by omega
  have q1 : (((k : Int) + 1)).toNat = k + 1 := by omega
  have q2 : decide ((k : Int) + 1 < (nl : Int)) = true := decide_eq_true kn'
  have i2 : node ≤ 4294967296 := by omega
  clear hp hp0 hp1 hk1 hw ho hs hU k0 kn
  go_enter Tryz.func166, Tryz.ntmps166
  go_wp2
  go_region
  go_wp2
  go_region
  go_wp2
  go_region
  go_wp2
  go_region_held3 (fun w' => w'.cell? ⟨p, 0, none⟩ = some (.pointer (some ⟨m, 0, none⟩)) ∧ w'.cell? ⟨p, 1, none⟩ = some (.int .i64 at_) ∧ w'.cell? ⟨p, 2, none⟩ = some (.int .i64 n))
    (first
      | exact hk3
      | exact hk2'
      | exact ⟨by assumption, by assumption, by assumption⟩
      | fail)
    (first
      | (go_at_call 107; refine (HR.out _).mono ?_; rintro e1 w1 ⟨rfl, rfl⟩)
      | (go_at_call 50; refine (quNext_any at_ n node _ hr i0 i2).mono ?_; rintro e2 w2 ⟨rfl, k2⟩; have hk2 : Keeps [] W1 w2 := k2.undrew.undrew.undrew; clear k2; have hk2' := (fun q => (⟨q.1, q.2.1, q.2.2.1⟩ : _ ∧ _ ∧ _)) (HS.out w2 [] hk2 (by simp)))
      | (go_at_call 149; refine (HE.out _ (HW.out.keeps hk2 (by simp)) (HS.out _ _ hk2 (by simp)).1).mono ?_; rintro e2 w3 ⟨rfl, hw3, k3⟩; have hkk : Keeps [m] W1 w3 := (hk2.mono (by simp)).trans k3; clear k3; have hk3 := (fun q => (⟨q.1, q.2.1, q.2.2.1⟩ : _ ∧ _ ∧ _)) (HS.out w3 [m] hkk (by simpa using hpm)))
      | fail)
  all_goals (first | go_end0 | refine bodyPost_ret (results_none rfl _ _ _) rfl ?_)
  all_goals exact ⟨rfl, hw3, by rw [show ((k + 1 : Nat) : Int) = (k : Int) + 1 by omega]; exact HP1.out.keeps hkk (by simpa using hpm), (HK1.out.mono (by simp)).trans (hkk.mono (by simp))⟩

set_option maxHeartbeats 1600000 in
theorem quChainLast (m p : Nat) (at_ n ec en nd nx : Int) (lk ac tv : Value) (cd : Int) (nb no nl nc k : Nat) (e : TypeId) (s : WSt) (w : World) (v : Int) (won : Bool) (node : Int) (hw : Wk w m s) (hp : Row w p e (quPCells m at_ n ec en nd nx lk ac tv (.slice (some ⟨nb, no, none⟩) nl nc) (k : Int) cd)) (hpm : p ≠ m) (ho : s.over = false) (hs : s.sub = none)
    (hr : quRight at_ n) (hU : M.U v) (i0 : 0 ≤ node) (i1 : node ≤ 4096) (kn : k + 1 = nl) (nl0 : nl ≤ 1000000) (x0 : w.cell? ⟨nb, no + k, none⟩ = some (.int .i64 node)) (lx : nb < w.heap.size) (px : p ≠ nb) (mx : m ≠ nb) :
    Calls Tryz.prog 166 #[.pointer (some ⟨p, 0, none⟩), .int .u64 v, .bool won] w fun e' w' => e' = .returned (.tuple #[]) ∧ QuAsks m p e s w ⟨2, quNext at_ n node, arNext v 0, 0⟩ 169 (quPCells m at_ n ec en nd nx lk ac tv (.slice (some ⟨nb, no, none⟩) nl nc) ((k + 1 : Nat) : Int) cd) w' := by
  obtain ⟨W1, hW1⟩ : ∃ W1, w.drew.setCell ⟨p, 11, none⟩ (.int .i64 ((k : Int) + 1)) = W1 := ⟨_, rfl⟩
  have k0 : Keeps [] w w.drew := (Keeps.refl _ _).drew
  have hp0 := hp.keeps k0 (by simp)
  have hp1 : Row W1 p e (quPCells m at_ n ec en nd nx lk ac tv (.slice (some ⟨nb, no, none⟩) nl nc) ((k : Int) + 1) cd) := by rw [← hW1]; exact hp0.set 11 _
  have hk1 : Keeps [p] w W1 := by rw [← hW1]; exact ((Keeps.refl [p] w).drew).setCell (fun _ => by simp) _
  obtain ⟨b0, b1, b2, b3, b4, b5, b6, b7, b8, b9, b10, b11, b12⟩ := quP_cells hp _ [] (Keeps.refl _ _) (by simp)
  have oz := hp0.frozen 11
  have HS := Lib.hid (quP_cells hp1)
  have HW := Lib.hid (hw.keeps hk1 (by simpa using Ne.symm hpm))
  have HP1 := Lib.hid hp1
  have HK1 := Lib.hid hk1
  have y0 := (hk1.cell lx (by simpa using Ne.symm px)).trans x0
  have HR := Lib.hid (fun W => raised_any v 0 W hU (by decide) (by decide))
  have HE := Lib.hid (fun W (h : Wk W m s) c0 => quStore_any m p (quNext at_ n node) (arNext v 0) (.func 169) #[.pointer (some ⟨p, 0, none⟩)] #[] s W h c0 ho hs)
  obtain ⟨h0, h1, h2, h3, h4, h5, h6, h7, h8, h9, h10, h11, h12⟩ := HS.out _ [] (Keeps.refl _ _) (by simp)
  have kn2 : k < nl := by omega
  have q2 : decide ((k : Int) + 1 < (nl : Int)) = false := decide_eq_false (by omega)
  have i2 : node ≤ 4294967296 := by omega
  clear hp hp0 hp1 hk1 hw ho hs hU k0 kn
  go_enter Tryz.func166, Tryz.ntmps166
  go_wp2
  go_region
  go_wp2
  go_region
  go_wp2
  go_region_held3 (fun w' => w'.cell? ⟨p, 0, none⟩ = some (.pointer (some ⟨m, 0, none⟩)) ∧ w'.cell? ⟨p, 1, none⟩ = some (.int .i64 at_) ∧ w'.cell? ⟨p, 2, none⟩ = some (.int .i64 n))
    (first
      | exact hk3
      | exact hk2'
      | exact ⟨by assumption, by assumption, by assumption⟩
      | fail)
    (first
      | (go_at_call 107; refine (HR.out _).mono ?_; rintro e1 w1 ⟨rfl, rfl⟩)
      | (go_at_call 50; refine (quNext_any at_ n node _ hr i0 i2).mono ?_; rintro e2 w2 ⟨rfl, k2⟩; have hk2 : Keeps [] W1 w2 := k2.undrew.undrew; clear k2; have hk2' := (fun q => (⟨q.1, q.2.1, q.2.2.1⟩ : _ ∧ _ ∧ _)) (HS.out w2 [] hk2 (by simp)))
      | (go_at_call 149; refine (HE.out _ (HW.out.keeps hk2 (by simp)) (HS.out _ _ hk2 (by simp)).1).mono ?_; rintro e2 w3 ⟨rfl, hw3, k3⟩; have hkk : Keeps [m] W1 w3 := (hk2.mono (by simp)).trans k3; clear k3; have hk3 := (fun q => (⟨q.1, q.2.1, q.2.2.1⟩ : _ ∧ _ ∧ _)) (HS.out w3 [m] hkk (by simpa using hpm)))
      | fail)
  all_goals (first | go_end0 | refine bodyPost_ret (results_none rfl _ _ _) rfl ?_)
  all_goals exact ⟨rfl, hw3, by rw [show ((k + 1 : Nat) : Int) = (k : Int) + 1 by omega]; exact HP1.out.keeps hkk (by simpa using hpm), (HK1.out.mono (by simp)).trans (hkk.mono (by simp))⟩

set_option maxHeartbeats 1600000 in
theorem quChainedMore (m p : Nat) (at_ n ec en nd nx : Int) (lk ac tv : Value) (cd : Int) (nb no nl nc k : Nat) (e : TypeId) (w : World) (v : Int) (won : Bool) (Q : World → Prop) (hp : Row w p e (quPCells m at_ n ec en nd nx lk ac tv (.slice (some ⟨nb, no, none⟩) nl nc) (k : Int) cd)) (kn : k < nl) (nl0 : nl ≤ 1000000)
    (hF : ∀ W, Keeps [] w W → Calls Tryz.prog 119 #[.pointer (some ⟨p, 0, none⟩)] W fun e' w' => e' = .returned (.tuple #[]) ∧ Q w') :
    Calls Tryz.prog 169 #[.pointer (some ⟨p, 0, none⟩), .int .u64 v, .bool won] w fun e' w' => e' = .returned (.tuple #[]) ∧ Q w' := by
  obtain ⟨h0, h1, h2, h3, h4, h5, h6, h7, h8, h9, h10, h11, h12⟩ := quP_cells hp _ [] (Keeps.refl _ _) (by simp)
  have HF := Lib.hid hF
  have q1 : decide ((k : Int) < (nl : Int)) = true := decide_eq_true (by omega)
  clear hp hF
  go_enter Tryz.func169, Tryz.ntmps169
  go_wp2
  go_region
  go_wp2_with fail
  refine (HF.out _ ((Keeps.refl [] w).drew)).mono ?_
  rintro e3 w3 ⟨rfl, hq⟩
  have HQ := Lib.hid hq
  clear hq
  go_wp2
  first | go_end0 | refine bodyPost_ret (results_none rfl _ _ _) rfl ?_
  exact ⟨rfl, HQ.out⟩

set_option maxHeartbeats 1600000 in
theorem quChainedDone (m p : Nat) (at_ n ec en nd nx : Int) (lk ac tv : Value) (cd : Int) (nb no nl nc k : Nat) (e : TypeId) (w : World) (v : Int) (won : Bool) (Q : World → Prop) (hp : Row w p e (quPCells m at_ n ec en nd nx lk ac tv (.slice (some ⟨nb, no, none⟩) nl nc) (k : Int) cd)) (kn : ¬ k < nl) (nl0 : nl ≤ 1000000)
    (hF : ∀ W, Keeps [] w W → Calls Tryz.prog 45 #[.pointer (some ⟨p, 0, none⟩)] W fun e' w' => e' = .returned (.tuple #[]) ∧ Q w') :
    Calls Tryz.prog 169 #[.pointer (some ⟨p, 0, none⟩), .int .u64 v, .bool won] w fun e' w' => e' = .returned (.tuple #[]) ∧ Q w' := by
  obtain ⟨h0, h1, h2, h3, h4, h5, h6, h7, h8, h9, h10, h11, h12⟩ := quP_cells hp _ [] (Keeps.refl _ _) (by simp)
  have HF := Lib.hid hF
  have q1 : decide ((k : Int) < (nl : Int)) = false := decide_eq_false (by omega)
  clear hp hF
  go_enter Tryz.func169, Tryz.ntmps169
  go_wp2
  go_region
  go_wp2_with fail
  refine (HF.out _ ((Keeps.refl [] w).drew)).mono ?_
  rintro e3 w3 ⟨rfl, hq⟩
  have HQ := Lib.hid hq
  clear hq
  go_wp2
  first | go_end0 | refine bodyPost_ret (results_none rfl _ _ _) rfl ?_
  exact ⟨rfl, HQ.out⟩

set_option maxHeartbeats 1600000 in
theorem quLinkMove (m p : Nat) (at_ n ec en nd nx : Int) (lk ac tv nv : Value) (dn cd : Int) (e : TypeId) (w : World) (Q : World → Prop) (hp : Row w p e (quPCells m at_ n ec en nd nx lk ac tv nv dn cd)) (hU : M.U nx) (hz : quNode nx ≠ 0)
    (hF : ∀ W, Keeps [] w W → Calls Tryz.prog 67 #[.pointer (some ⟨p, 0, none⟩), .int .u64 en] W fun e' w' => e' = .returned (.tuple #[]) ∧ Q w') :
    Calls Tryz.prog 33 #[.pointer (some ⟨p, 0, none⟩)] w fun e' w' => e' = .returned (.tuple #[]) ∧ Q w' := by
  obtain ⟨h0, h1, h2, h3, h4, h5, h6, h7, h8, h9, h10, h11, h12⟩ := quP_cells hp _ [] (Keeps.refl _ _) (by simp)
  have HF := Lib.hid hF
  have HN := Lib.hid (fun W => nodeOf_any nx W hU)
  have q1 : (quNode nx != 0) = true := by simpa using hz
  clear hz hU
  clear hp hF
  go_enter Tryz.func33, Tryz.ntmps33
  go_wp2_with (go_at_call 66; refine (HN.out _).mono ?_; rintro e1 w1 ⟨rfl, rfl⟩)
  go_still_tail 8, (by kernel_rfl)
  change wpList _ _ _ _ _ w.drew
  go_wp2_with fail
  refine (HF.out _ ((Keeps.refl [] w).drew)).mono ?_
  rintro e3 w3 ⟨rfl, hq⟩
  have HQ := Lib.hid hq
  clear hq
  go_wp2
  first | go_end0 | refine bodyPost_ret (results_none rfl _ _ _) rfl ?_
  exact ⟨rfl, HQ.out⟩

set_option maxHeartbeats 1600000 in
theorem quLinkedNo (m p : Nat) (at_ n ec en nd nx : Int) (lk ac tv nv : Value) (dn cd : Int) (e : TypeId) (w : World) (v : Int) (Q : World → Prop) (hp : Row w p e (quPCells m at_ n ec en nd nx lk ac tv nv dn cd)) 
    (hF : ∀ W, Keeps [] w W → Calls Tryz.prog 45 #[.pointer (some ⟨p, 0, none⟩)] W fun e' w' => e' = .returned (.tuple #[]) ∧ Q w') :
    Calls Tryz.prog 69 #[.pointer (some ⟨p, 0, none⟩), .int .u64 v, .bool false] w fun e' w' => e' = .returned (.tuple #[]) ∧ Q w' := by
  obtain ⟨h0, h1, h2, h3, h4, h5, h6, h7, h8, h9, h10, h11, h12⟩ := quP_cells hp _ [] (Keeps.refl _ _) (by simp)
  have HF := Lib.hid hF
  clear hp hF
  go_enter Tryz.func69, Tryz.ntmps69
  go_wp2_with fail
  refine (HF.out _ (Keeps.refl [] w)).mono ?_
  rintro e3 w3 ⟨rfl, hq⟩
  have HQ := Lib.hid hq
  clear hq
  go_wp2
  first | go_end0 | refine bodyPost_ret (results_none rfl _ _ _) rfl ?_
  exact ⟨rfl, HQ.out⟩

set_option maxHeartbeats 1600000 in
theorem quIsBack (m p : Nat) (at_ n ec en nd nx : Int) (lk ac tv nv : Value) (dn cd : Int) (e : TypeId) (w : World) (code rv : Int) (rq : Option Addr) (rn rc : Nat) (Q : World → Prop) (hp : Row w p e (quPCells m at_ n ec en nd nx lk ac tv nv dn cd)) 
    (hF : ∀ W, Keeps [] w W → Calls Tryz.prog 118 #[.pointer (some ⟨p, 0, none⟩)] W fun e' w' => e' = .returned (.tuple #[]) ∧ Q w') :
    Calls Tryz.prog 148 #[.pointer (some ⟨p, 0, none⟩), .agg #[.int .i64 code, .int .u64 rv, .slice rq rn rc]] w fun e' w' => e' = .returned (.tuple #[]) ∧ Q w' := by
  obtain ⟨h0, h1, h2, h3, h4, h5, h6, h7, h8, h9, h10, h11, h12⟩ := quP_cells hp _ [] (Keeps.refl _ _) (by simp)
  have HF := Lib.hid hF
  clear hp hF
  go_enter Tryz.func148, Tryz.ntmps148
  go_wp2_with fail
  refine (HF.out _ ((Keeps.refl [] w).alloc _)).mono ?_
  rintro e3 w3 ⟨rfl, hq⟩
  have HQ := Lib.hid hq
  clear hq
  go_wp2
  first | go_end0 | refine bodyPost_ret (results_none rfl _ _ _) rfl ?_
  exact ⟨rfl, HQ.out⟩

set_option maxHeartbeats 1600000 in
theorem quPutFinish (m p : Nat) (at_ n ec en nd nx : Int) (lk ac tv nv : Value) (dn cd : Int) (e : TypeId) (s : WSt) (w : World) (v : Int) (won : Bool) (hw : Wk w m s) (hp : Row w p e (quPCells m at_ n ec en nd nx lk ac tv nv dn cd)) (hpm : p ≠ m) (ho : s.over = false) (hu : 0 < s.under) :
    Calls Tryz.prog 108 #[.pointer (some ⟨p, 0, none⟩), .int .u64 v, .bool won] w fun e' w' => e' = .returned (.tuple #[]) ∧ QuEnds m p s w 0 0 w' := by
  obtain ⟨h0, h1, h2, h3, h4, h5, h6, h7, h8, h9, h10, h11, h12⟩ := quP_cells hp _ [] (Keeps.refl _ _) (by simp)
  have HE := Lib.hid (wEnd m s 0 0 (.slice none 0 0) 0 [] w hw ho (.inl hu) ⟨rfl, .inl ⟨_, _, rfl, rfl⟩⟩ (fun g hg => by cases hg) (by omega))
  have hplt := hp.lt
  have hc0 := h0
  clear hp hw ho hu
  go_enter Tryz.func108, Tryz.ntmps108
  go_wp2_with fail
  refine HE.out.mono ?_
  rintro e3 w3 ⟨rfl, l', a, b, c⟩
  have HQ : Hid (_ ∧ _ ∧ _) := Lib.hid ⟨a, b, c⟩
  clear a b c
  go_wp2
  first | go_end0 | refine bodyPost_ret (results_none rfl _ _ _) rfl ?_
  exact ⟨rfl, l', HQ.out.1, HQ.out.2.1, HQ.out.2.2.mono (by simp), (HQ.out.2.2.cell (p := ⟨p, 0, none⟩) hplt (by simpa using hpm)).trans hc0⟩
end Go.Proofs.YtoomefclbemnlaaGreat
