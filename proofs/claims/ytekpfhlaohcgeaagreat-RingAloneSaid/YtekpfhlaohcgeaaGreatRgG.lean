/-
  Contracts: what the functions of a ring's stealing do (written by wip/tools/rggen.py).
-/
import Derived.Test.YtekpfhlaohcgeaaGreatRgV
import Derived.Test.YtekpfhlaohcgeaaGreatRgU
import Derived.IntWalk
namespace Go.Proofs.YtekpfhlaohcgeaaGreat
set_option maxRecDepth 100000
set_option linter.unusedSimpArgs false
set_option linter.unusedVariables false
open Go.ChangeShapes Go.WideShapes Go.ChangeAt Go.RowKit

theorem rg_cells_steal {m p : Nat} {at_ size hd sl fi tl : Int} {tat u n : Int} {lk tr tk : Value} {e : TypeId} {w : World} (h : Row w p e (rgCells m at_ size hd sl fi tl lk tr tk [.int .i64 tat, .int .i64 size, .int .u32 u, .int .i64 n])) : ∀ W S, Keeps S w W → p ∉ S →
    W.cell? ⟨p, 0, none⟩ = some (.pointer (some ⟨m, 0, none⟩)) ∧ W.cell? ⟨p, 1, none⟩ = some (.int .i64 at_) ∧ W.cell? ⟨p, 2, none⟩ = some (.int .i64 size) ∧ W.cell? ⟨p, 3, none⟩ = some (.int .u64 hd) ∧ W.cell? ⟨p, 4, none⟩ = some (.int .u32 sl) ∧ W.cell? ⟨p, 5, none⟩ = some (.int .u32 fi) ∧ W.cell? ⟨p, 6, none⟩ = some (.int .u32 tl) ∧ W.cell? ⟨p, 7, none⟩ = some lk ∧ W.cell? ⟨p, 8, none⟩ = some tr ∧ W.cell? ⟨p, 9, none⟩ = some tk ∧ W.cell? ⟨p, 10, none⟩ = some (.int .i64 tat) ∧ W.cell? ⟨p, 11, none⟩ = some (.int .i64 size) ∧ W.cell? ⟨p, 12, none⟩ = some (.int .u32 u) ∧ W.cell? ⟨p, 13, none⟩ = some (.int .i64 n) := by
  intro W S hk hp
  have h := h.keeps hk hp
  exact ⟨h.cell (j := 0) rfl, h.cell (j := 1) rfl, h.cell (j := 2) rfl, h.cell (j := 3) rfl, h.cell (j := 4) rfl, h.cell (j := 5) rfl, h.cell (j := 6) rfl, h.cell (j := 7) rfl, h.cell (j := 8) rfl, h.cell (j := 9) rfl, h.cell (j := 10) rfl, h.cell (j := 11) rfl, h.cell (j := 12) rfl, h.cell (j := 13) rfl⟩

set_option maxHeartbeats 1600000 in
theorem rgReadEnd (m p : Nat) (at_ size hd sl fi tl : Int) (tat u n : Int) (lk tr tk : Value) (v : Int) (won : Bool) (e : TypeId) (s : WSt) (w : World) (hw : Wk w m s) (hp : Row w p e (rgCells m at_ size hd sl fi tl lk tr tk [.int .i64 tat, .int .i64 size, .int .u32 u, .int .i64 n])) (hpm : p ≠ m) (ho : s.over = false) (hs : s.sub = none) (hv : M.U v) :
    Calls Tryz.prog 57 #[.pointer (some ⟨p, 0, none⟩), .int .u64 v, .bool won] w fun e' w' => e' = .returned (.tuple #[]) ∧ RgAsks m p e s w ⟨1, tat, 0, 0⟩ 100 (rgCells m at_ size hd sl fi tl lk tr tk [.int .i64 tat, .int .i64 size, .int .u32 (rgLo v), .int .i64 n]) w' := by
  have HP := Lib.hid hp
  have HS := Lib.hid (rg_cells_steal hp)
  have HW := Lib.hid hw
  obtain ⟨h0, h1, h2, h3, h4, h5, h6, h7, h8, h9, h10, h11, h12, h13⟩ := HS.out _ [] (Keeps.refl _ _) (by simp)
  have HSp : Hid (∀ W, Calls Tryz.prog 59 #[.int .u64 v] W fun e w' => e = .returned (.tuple #[.int .u32 (rgHi v), .int .u32 (rgLo v)]) ∧ W = w') := Lib.hid (fun W => split_any v W hv.nn hv)
  have HE := Lib.hid (fun W (h : Wk W m s) c0 => rgLoad_any m p tat (.func 100) #[.pointer (some ⟨p, 0, none⟩)] #[] s W h c0 ho hs)
  have f12 := hp.frozen 12
  obtain ⟨W4, hW4⟩ : ∃ W4, w.setCell ⟨p, 12, none⟩ (.int .u32 (rgLo v)) = W4 := ⟨_, rfl⟩
  have k4 : Keeps [p] w W4 := by rw [← hW4]; exact (Keeps.refl [p] w).setCell (fun _ => by simp) _
  have hp4 : Row W4 p e (rgCells m at_ size hd sl fi tl lk tr tk [.int .i64 tat, .int .i64 size, .int .u32 (rgLo v), .int .i64 n]) := by rw [← hW4]; exact hp.set 12 _
  have HP4 := Lib.hid hp4
  have HC4 := Lib.hid (rg_cells_steal hp4)
  have HW4 : Hid (Wk W4 m s) := Lib.hid (hw.keeps k4 (by simpa using Ne.symm hpm))
  have HK4 := Lib.hid k4
  obtain ⟨g0, g1, g2, g3, g4, g5, g6, g7, g8, g9, g10, g11, g12, g13⟩ := HC4.out _ [] (Keeps.refl _ _) (by simp)
  clear k4 hp4
  clear hw hp ho hs
  go_enter Tryz.func57, Tryz.ntmps57
  go_wp2_with (go_at_call 59; refine (HSp.out _).mono ?_; rintro e1 w1 ⟨rfl, rfl⟩)
  go_still_tail 10, (by kernel_rfl)
  change wpList _ _ _ _ _ (W4).drew
  go_wp2_with fail
  refine (HE.out W4.drew (HW4.out.keeps ((Keeps.refl [] W4).drew) (by simp)) (HC4.out _ _ ((Keeps.refl [] W4).drew) (by simp)).1).mono ?_
  rintro e4 w4 ⟨rfl, hw4, k4⟩
  have HQ := Lib.hid (⟨hw4, k4⟩ : _ ∧ Keeps [m] W4.drew w4)
  clear hw4 k4
  go_wp2
  first | go_end0 | refine bodyPost_ret (results_none rfl _ _ _) rfl ?_
  exact ⟨rfl, HQ.out.1, HP4.out.keeps HQ.out.2.undrew (by simpa using hpm), (HK4.out.mono (by simp)).trans (HQ.out.2.undrew.mono (by simp))⟩

set_option maxHeartbeats 1600000 in
theorem rgReadRoomNo (m p : Nat) (at_ size hd sl fi tl : Int) (tat u n : Int) (lk tr tk : Value) (v : Int) (won : Bool) (e : TypeId) (s : WSt) (w : World) (hw : Wk w m s) (hp : Row w p e (rgCells m at_ size hd sl fi tl lk tr tk [.int .i64 tat, .int .i64 size, .int .u32 u, .int .i64 n])) (hpm : p ≠ m) (ho : s.over = false) (hs : s.sub = none) (hr1 : 2 ≤ size ∧ size ≤ 256) (hv : M.U v)(u0 : 0 ≤ u ∧ u < 4294967296)(hA : size / 2 < M.aheadI u (rgHi v)) (hu : 0 < s.under) :
    Calls Tryz.prog 100 #[.pointer (some ⟨p, 0, none⟩), .int .u64 v, .bool won] w fun e' w' => e' = .returned (.tuple #[]) ∧ RgEnds m p s w 4 0 [] w' := by
  have HP := Lib.hid hp
  have HS := Lib.hid (rg_cells_steal hp)
  have HW := Lib.hid hw
  obtain ⟨h0, h1, h2, h3, h4, h5, h6, h7, h8, h9, h10, h11, h12, h13⟩ := HS.out _ [] (Keeps.refl _ _) (by simp)
  have HSp : Hid (∀ W, Calls Tryz.prog 59 #[.int .u64 v] W fun e w' => e = .returned (.tuple #[.int .u32 (rgHi v), .int .u32 (rgLo v)]) ∧ W = w') := Lib.hid (fun W => split_any v W hv.nn hv)
  have HH := Lib.hid (fun W => rgHalf_any at_ size W hr1.1 hr1.2)
  have hhv := rgHi_range hv
  have HA := Lib.hid (fun W => ahead_any u (rgHi v) W u0.1 u0.2 hhv.1 hhv.2)
  have HE := Lib.hid (fun W h => wBreak m s 4 W h ho (.inl hu))
  have dA : decide (size / 2 < M.aheadI u (rgHi v)) = true := decide_eq_true hA
  clear hw hp ho hs
  go_enter Tryz.func100, Tryz.ntmps100
  go_wp2_with (go_at_call 59; refine (HSp.out _).mono ?_; rintro e1 w1 ⟨rfl, rfl⟩)
  have hkV : Keeps [] w w := Keeps.refl _ _
  go_region_held3 (fun w' => w'.cell? ⟨p, 0, none⟩ = some (.pointer (some ⟨m, 0, none⟩)) ∧ w'.cell? ⟨p, 1, none⟩ = some (.int .i64 at_) ∧ w'.cell? ⟨p, 2, none⟩ = some (.int .i64 size) ∧ w'.cell? ⟨p, 3, none⟩ = some (.int .u64 hd) ∧ w'.cell? ⟨p, 4, none⟩ = some (.int .u32 sl) ∧ w'.cell? ⟨p, 5, none⟩ = some (.int .u32 fi) ∧ w'.cell? ⟨p, 6, none⟩ = some (.int .u32 tl) ∧ w'.cell? ⟨p, 7, none⟩ = some lk ∧ w'.cell? ⟨p, 8, none⟩ = some tr ∧ w'.cell? ⟨p, 9, none⟩ = some tk ∧ w'.cell? ⟨p, 10, none⟩ = some (.int .i64 tat) ∧ w'.cell? ⟨p, 11, none⟩ = some (.int .i64 size) ∧ w'.cell? ⟨p, 12, none⟩ = some (.int .u32 u) ∧ w'.cell? ⟨p, 13, none⟩ = some (.int .i64 n))
    (first
      | exact HS.out _ _ hk4 (by simpa using hpm)
      | exact HS.out _ _ hk3 (by simp)
      | exact HS.out _ _ hk2 (by simp)
      | exact ⟨by assumption, by assumption, by assumption, by assumption, by assumption, by assumption, by assumption, by assumption, by assumption, by assumption, by assumption, by assumption, by assumption, by assumption⟩
      | fail)
    (first
      | (go_at_call 61; refine (HA.out _).mono ?_; rintro e1 w1 ⟨rfl, rfl⟩)
      | (go_at_call 81; refine (HH.out _).mono ?_; rintro e2 w2 ⟨rfl, k⟩; have hk2 : Keeps [] w w2 := hkV.trans k.undrew; clear k)
      | fail)
  all_goals go_wp2_with fail
  all_goals (
    refine (HE.out _ (HW.out.keeps hk2 (by simp))).mono ?_
    rintro e2 w3 ⟨rfl, l', hw3, ho3, k3⟩
    have HQ := Lib.hid (show RgEnds m p s w 4 0 [] w3 from ⟨l', hw3, owns_base ho3 (hk2).size, (hk2).nil.trans (k3.mono (by simp)), (HS.out _ [m] ((hk2).nil.trans k3) (by simpa using hpm)).1⟩)
    clear hw3 ho3 k3
    go_wp2
    first | go_end0 | refine bodyPost_ret (results_none rfl _ _ _) rfl ?_
    exact ⟨rfl, HQ.out⟩)

set_option maxHeartbeats 1600000 in
theorem rgReadRoom (m p : Nat) (at_ size hd sl fi tl : Int) (tat u n : Int) (lk tr tk : Value) (v : Int) (won : Bool) (e : TypeId) (s : WSt) (w : World) (hw : Wk w m s) (hp : Row w p e (rgCells m at_ size hd sl fi tl lk tr tk [.int .i64 tat, .int .i64 size, .int .u32 u, .int .i64 n])) (hpm : p ≠ m) (ho : s.over = false) (hs : s.sub = none) (hr1 : 2 ≤ size ∧ size ≤ 256) (hv : M.U v)(u0 : 0 ≤ u ∧ u < 4294967296)(hA : ¬ size / 2 < M.aheadI u (rgHi v)) :
    Calls Tryz.prog 100 #[.pointer (some ⟨p, 0, none⟩), .int .u64 v, .bool won] w fun e' w' => e' = .returned (.tuple #[]) ∧ RgAsks m p e s w ⟨1, at_, 0, 0⟩ 89 (rgCells m at_ size hd sl fi tl lk tr tk [.int .i64 tat, .int .i64 size, .int .u32 u, .int .i64 n]) w' := by
  have HP := Lib.hid hp
  have HS := Lib.hid (rg_cells_steal hp)
  have HW := Lib.hid hw
  obtain ⟨h0, h1, h2, h3, h4, h5, h6, h7, h8, h9, h10, h11, h12, h13⟩ := HS.out _ [] (Keeps.refl _ _) (by simp)
  have HSp : Hid (∀ W, Calls Tryz.prog 59 #[.int .u64 v] W fun e w' => e = .returned (.tuple #[.int .u32 (rgHi v), .int .u32 (rgLo v)]) ∧ W = w') := Lib.hid (fun W => split_any v W hv.nn hv)
  have HH := Lib.hid (fun W => rgHalf_any at_ size W hr1.1 hr1.2)
  have hhv := rgHi_range hv
  have HA := Lib.hid (fun W => ahead_any u (rgHi v) W u0.1 u0.2 hhv.1 hhv.2)
  have HE := Lib.hid (fun W h h' => rgBegin_any m p at_ size hd sl fi tl lk tr tk [.int .i64 tat, .int .i64 size, .int .u32 u, .int .i64 n] e s W h h' hpm ho hs)
  have dA : decide (size / 2 < M.aheadI u (rgHi v)) = false := decide_eq_false hA
  clear hw hp ho hs
  go_enter Tryz.func100, Tryz.ntmps100
  go_wp2_with (go_at_call 59; refine (HSp.out _).mono ?_; rintro e1 w1 ⟨rfl, rfl⟩)
  have hkV : Keeps [] w w := Keeps.refl _ _
  go_region_held3 (fun w' => w'.cell? ⟨p, 0, none⟩ = some (.pointer (some ⟨m, 0, none⟩)) ∧ w'.cell? ⟨p, 1, none⟩ = some (.int .i64 at_) ∧ w'.cell? ⟨p, 2, none⟩ = some (.int .i64 size) ∧ w'.cell? ⟨p, 3, none⟩ = some (.int .u64 hd) ∧ w'.cell? ⟨p, 4, none⟩ = some (.int .u32 sl) ∧ w'.cell? ⟨p, 5, none⟩ = some (.int .u32 fi) ∧ w'.cell? ⟨p, 6, none⟩ = some (.int .u32 tl) ∧ w'.cell? ⟨p, 7, none⟩ = some lk ∧ w'.cell? ⟨p, 8, none⟩ = some tr ∧ w'.cell? ⟨p, 9, none⟩ = some tk ∧ w'.cell? ⟨p, 10, none⟩ = some (.int .i64 tat) ∧ w'.cell? ⟨p, 11, none⟩ = some (.int .i64 size) ∧ w'.cell? ⟨p, 12, none⟩ = some (.int .u32 u) ∧ w'.cell? ⟨p, 13, none⟩ = some (.int .i64 n))
    (first
      | exact HS.out _ _ hk4 (by simpa using hpm)
      | exact HS.out _ _ hk3 (by simp)
      | exact HS.out _ _ hk2 (by simp)
      | exact ⟨by assumption, by assumption, by assumption, by assumption, by assumption, by assumption, by assumption, by assumption, by assumption, by assumption, by assumption, by assumption, by assumption, by assumption⟩
      | fail)
    (first
      | (go_at_call 61; refine (HA.out _).mono ?_; rintro e1 w1 ⟨rfl, rfl⟩)
      | (go_at_call 81; refine (HH.out _).mono ?_; rintro e2 w2 ⟨rfl, k⟩; have hk2 : Keeps [] w w2 := hkV.trans k.undrew; clear k)
      | fail)
  all_goals go_wp2_with fail
  all_goals (
    refine (HE.out _ (HW.out.keeps hk2 (by simp)) (HP.out.keeps hk2 (by simp))).mono ?_
    rintro e5 w5 ⟨rfl, hQ⟩
    have HQ := Lib.hid (hQ.from ((hk2).mono (by simp)))
    clear hQ
    go_wp2
    first | go_end0 | refine bodyPost_ret (results_none rfl _ _ _) rfl ?_
    exact ⟨rfl, HQ.out⟩)

set_option maxHeartbeats 1600000 in
theorem rgClaimBusy (m p : Nat) (at_ size hd sl fi tl : Int) (tat u n : Int) (lk tr tk : Value)  (e : TypeId) (s : WSt) (w : World) (hw : Wk w m s) (hp : Row w p e (rgCells m at_ size hd sl fi tl lk tr tk [.int .i64 tat, .int .i64 size, .int .u32 u, .int .i64 n])) (hpm : p ≠ m) (ho : s.over = false) (hs : s.sub = none) (t0 : 0 ≤ tl ∧ tl < 4294967296) (s0 : 0 ≤ sl ∧ sl < 4294967296) (f0 : 0 ≤ fi ∧ fi < 4294967296)(hne : sl ≠ fi) (hu : 0 < s.under) :
    Calls Tryz.prog 53 #[.pointer (some ⟨p, 0, none⟩)] w fun e' w' => e' = .returned (.tuple #[]) ∧ RgEnds m p s w 8 0 [] w' := by
  have HP := Lib.hid hp
  have HS := Lib.hid (rg_cells_steal hp)
  have HW := Lib.hid hw
  obtain ⟨h0, h1, h2, h3, h4, h5, h6, h7, h8, h9, h10, h11, h12, h13⟩ := HS.out _ [] (Keeps.refl _ _) (by simp)
  have HE := Lib.hid (fun W h => wBreak m s 8 W h ho (.inl hu))
  have dB : (sl == fi) = false := beq_eq_false_iff_ne.2 hne
  clear hw hp ho hs
  go_enter Tryz.func53, Tryz.ntmps53
  go_wp2
  go_quiet ((go_at_call 61; exact qs (ahead_any _ _ _ t0.1 t0.2 f0.1 f0.2)))
  go_wp2_with fail
  generalize hV : World.drewN _ _ = W2
  have hkV : Keeps [] w W2 := by rw [← hV]; exact (Keeps.refl _ _).drewN
  obtain ⟨c0, c1, c2, c3, c4, c5, c6, c7, c8, c9, c10, c11, c12, c13⟩ := HS.out W2 [] hkV (by simp)
  clear hV
  go_wp2
  go_quiet (fail)
  go_wp2_with fail
  generalize hV : World.drewN _ _ = W3
  have hkV3 : Keeps [] w W3 := by rw [← hV]; exact hkV.drewN
  clear hV
  refine (HE.out W3 (HW.out.keeps hkV3 (by simp))).mono ?_
  rintro e2 w3 ⟨rfl, l', hw3, ho3, k3⟩
  have HQ := Lib.hid (show RgEnds m p s w 8 0 [] w3 from ⟨l', hw3, owns_base ho3 (hkV3).size, (hkV3).nil.trans (k3.mono (by simp)), (HS.out _ [m] ((hkV3).nil.trans k3) (by simpa using hpm)).1⟩)
  clear hw3 ho3 k3
  go_wp2
  first | go_end0 | refine bodyPost_ret (results_none rfl _ _ _) rfl ?_
  exact ⟨rfl, HQ.out⟩

set_option maxHeartbeats 1600000 in
theorem rgClaimAgain (m p : Nat) (at_ size hd fi tl : Int) (tat u n : Int) (lk tr tk : Value)  (e : TypeId) (s : WSt) (w : World) (hw : Wk w m s) (hp : Row w p e (rgCells m at_ size hd fi fi tl lk tr tk [.int .i64 tat, .int .i64 size, .int .u32 u, .int .i64 n])) (hpm : p ≠ m) (ho : s.over = false) (hs : s.sub = none) (t0 : 0 ≤ tl ∧ tl < 4294967296) (s0 : 0 ≤ fi ∧ fi < 4294967296) (f0 : 0 ≤ fi ∧ fi < 4294967296)(hA : size < M.aheadI tl fi) :
    Calls Tryz.prog 53 #[.pointer (some ⟨p, 0, none⟩)] w fun e' w' => e' = .returned (.tuple #[]) ∧ RgAsks m p e s w ⟨1, at_, 0, 0⟩ 89 (rgCells m at_ size hd fi fi tl lk tr tk [.int .i64 tat, .int .i64 size, .int .u32 u, .int .i64 n]) w' := by
  have HP := Lib.hid hp
  have HS := Lib.hid (rg_cells_steal hp)
  have HW := Lib.hid hw
  obtain ⟨h0, h1, h2, h3, h4, h5, h6, h7, h8, h9, h10, h11, h12, h13⟩ := HS.out _ [] (Keeps.refl _ _) (by simp)
  have HE := Lib.hid (fun W h h' => rgBegin_any m p at_ size hd fi fi tl lk tr tk [.int .i64 tat, .int .i64 size, .int .u32 u, .int .i64 n] e s W h h' hpm ho hs)
  have dA : decide (size < M.aheadI tl fi) = true := decide_eq_true hA
  clear hw hp ho hs
  go_enter Tryz.func53, Tryz.ntmps53
  go_wp2
  go_quiet ((go_at_call 61; exact qs (ahead_any _ _ _ t0.1 t0.2 f0.1 f0.2)))
  go_wp2_with fail
  generalize hV : World.drewN _ _ = W2
  have hkV : Keeps [] w W2 := by rw [← hV]; exact (Keeps.refl _ _).drewN
  obtain ⟨c0, c1, c2, c3, c4, c5, c6, c7, c8, c9, c10, c11, c12, c13⟩ := HS.out W2 [] hkV (by simp)
  clear hV
  go_wp2
  go_quiet (fail)
  generalize hV : World.drewN _ _ = W3
  have hkV3 : Keeps [] w W3 := by rw [← hV]; exact hkV.drewN
  clear hV
  obtain ⟨d0, d1, d2, d3, d4, d5, d6, d7, d8, d9, d10, d11, d12, d13⟩ := HS.out W3 [] hkV3 (by simp)
  go_wp2_with fail
  refine (HE.out W3 (HW.out.keeps hkV3 (by simp)) (HP.out.keeps hkV3 (by simp))).mono ?_
  rintro e5 w5 ⟨rfl, hQ⟩
  have HQ := Lib.hid (hQ.from ((hkV3).mono (by simp)))
  clear hQ
  go_wp2
  first | go_end0 | refine bodyPost_ret (results_none rfl _ _ _) rfl ?_
  exact ⟨rfl, HQ.out⟩

set_option maxHeartbeats 1600000 in
theorem rgClaimNone (m p : Nat) (at_ size hd fi tl : Int) (tat u n : Int) (lk tr tk : Value)  (e : TypeId) (s : WSt) (w : World) (hw : Wk w m s) (hp : Row w p e (rgCells m at_ size hd fi fi tl lk tr tk [.int .i64 tat, .int .i64 size, .int .u32 u, .int .i64 n])) (hpm : p ≠ m) (ho : s.over = false) (hs : s.sub = none) (t0 : 0 ≤ tl ∧ tl < 4294967296) (s0 : 0 ≤ fi ∧ fi < 4294967296) (f0 : 0 ≤ fi ∧ fi < 4294967296)(hA : M.aheadI tl fi < 1) (hsz : 1 ≤ size) (hu : 0 < s.under) :
    Calls Tryz.prog 53 #[.pointer (some ⟨p, 0, none⟩)] w fun e' w' => e' = .returned (.tuple #[]) ∧ RgEnds m p s w 5 0 [] w' := by
  have HP := Lib.hid hp
  have HS := Lib.hid (rg_cells_steal hp)
  have HW := Lib.hid hw
  obtain ⟨h0, h1, h2, h3, h4, h5, h6, h7, h8, h9, h10, h11, h12, h13⟩ := HS.out _ [] (Keeps.refl _ _) (by simp)
  have HE := Lib.hid (fun W h => wBreak m s 5 W h ho (.inl hu))
  have dA : decide (size < M.aheadI tl fi) = false := decide_eq_false (by omega)
  have dC : decide (rgCount (M.aheadI tl fi) < 1) = true := decide_eq_true (rgCount_less hA)
  obtain ⟨hw1, hw2⟩ := rgCount_wrap (M.aheadI tl fi) (M.ahead_lo tl fi) (M.ahead_hi tl fi)
  clear hw hp ho hs
  go_enter Tryz.func53, Tryz.ntmps53
  go_wp2
  go_quiet ((go_at_call 61; exact qs (ahead_any _ _ _ t0.1 t0.2 f0.1 f0.2)))
  go_wp2_with fail
  generalize hV : World.drewN _ _ = W2
  have hkV : Keeps [] w W2 := by rw [← hV]; exact (Keeps.refl _ _).drewN
  obtain ⟨c0, c1, c2, c3, c4, c5, c6, c7, c8, c9, c10, c11, c12, c13⟩ := HS.out W2 [] hkV (by simp)
  clear hV
  go_wp2
  go_quiet (fail)
  generalize hV : World.drewN _ _ = W3
  have hkV3 : Keeps [] w W3 := by rw [← hV]; exact hkV.drewN
  clear hV
  obtain ⟨d0, d1, d2, d3, d4, d5, d6, d7, d8, d9, d10, d11, d12, d13⟩ := HS.out W3 [] hkV3 (by simp)
  have hp3 := HP.out.keeps hkV3 (by simp)
  have f13 := hp3.frozen 13
  obtain ⟨W4, hW4⟩ : ∃ W4, W3.setCell ⟨p, 13, none⟩ (.int .i64 (rgCount (M.aheadI tl fi))) = W4 := ⟨_, rfl⟩
  have k4 : Keeps [p] W3 W4 := by rw [← hW4]; exact (Keeps.refl [p] W3).setCell (fun _ => by simp) _
  have hp4 : Row W4 p e (rgCells m at_ size hd fi fi tl lk tr tk [.int .i64 tat, .int .i64 size, .int .u32 u, .int .i64 (rgCount (M.aheadI tl fi))]) := by rw [← hW4]; exact hp3.set 13 _
  have HP4 := Lib.hid hp4
  have HC4 := Lib.hid (rg_cells_steal hp4)
  have HW4 : Hid (Wk W4 m s) := Lib.hid ((HW.out.keeps hkV3 (by simp)).keeps k4 (by simpa using Ne.symm hpm))
  have HK4 : Hid (Keeps [m, p] w W4) := Lib.hid (hkV3.nil.trans (k4.mono (by simp)))
  obtain ⟨g0, g1, g2, g3, g4, g5, g6, g7, g8, g9, g10, g11, g12, g13⟩ := HC4.out _ [] (Keeps.refl _ _) (by simp)
  clear k4 hp4 hp3
  go_wp2_with fail
  clear hW4
  refine (HE.out W4 HW4.out).mono ?_
  rintro e2 w3 ⟨rfl, l', hw3, ho3, k3⟩
  have HQ := Lib.hid (show RgEnds m p s w 5 0 [] w3 from ⟨l', hw3, owns_base ho3 HK4.out.size, HK4.out.trans (k3.mono (by simp)), (HC4.out _ [m] k3 (by simpa using hpm)).1⟩)
  clear hw3 ho3 k3
  go_wp2
  first | go_end0 | refine bodyPost_ret (results_none rfl _ _ _) rfl ?_
  exact ⟨rfl, HQ.out⟩

set_option maxHeartbeats 1600000 in
theorem rgClaimTurn (m p : Nat) (at_ size hd fi tl : Int) (tat u n : Int) (lk tr tk : Value)  (e : TypeId) (s : WSt) (w : World) (hw : Wk w m s) (hp : Row w p e (rgCells m at_ size hd fi fi tl lk tr tk [.int .i64 tat, .int .i64 size, .int .u32 u, .int .i64 n])) (hpm : p ≠ m) (ho : s.over = false) (hs : s.sub = none) (t0 : 0 ≤ tl ∧ tl < 4294967296) (s0 : 0 ≤ fi ∧ fi < 4294967296) (f0 : 0 ≤ fi ∧ fi < 4294967296)(hA : 1 ≤ M.aheadI tl fi) (hB : M.aheadI tl fi ≤ size) (hs2 : size ≤ 256) :
    Calls Tryz.prog 53 #[.pointer (some ⟨p, 0, none⟩)] w fun e' w' => e' = .returned (.tuple #[]) ∧ RgAsks m p e s w ⟨3, at_, hd, rgPair fi (rgAdd fi (rgCount (M.aheadI tl fi)))⟩ 112 (rgCells m at_ size hd fi fi tl lk tr tk [.int .i64 tat, .int .i64 size, .int .u32 u, .int .i64 (rgCount (M.aheadI tl fi))]) w' := by
  have HP := Lib.hid hp
  have HS := Lib.hid (rg_cells_steal hp)
  have HW := Lib.hid hw
  obtain ⟨h0, h1, h2, h3, h4, h5, h6, h7, h8, h9, h10, h11, h12, h13⟩ := HS.out _ [] (Keeps.refl _ _) (by simp)
  have HE := Lib.hid (fun W (h : Wk W m s) h2 => rgTurn_any m p at_ size hd fi fi tl lk tr tk [.int .i64 tat, .int .i64 size, .int .u32 u, .int .i64 (rgCount (M.aheadI tl fi))] e fi (rgAdd fi (rgCount (M.aheadI tl fi))) s W h h2 hpm ho hs s0 (rgAdd_range _ _))
  have dA : decide (size < M.aheadI tl fi) = false := decide_eq_false (by omega)
  have hc1 : 1 ≤ rgCount (M.aheadI tl fi) ∧ rgCount (M.aheadI tl fi) ≤ 256 := by rw [rgCount_small hA]; omega
  have dC : decide (rgCount (M.aheadI tl fi) < 1) = false := decide_eq_false (by omega)
  have hw3 : IntKind.u32.wrap (rgCount (M.aheadI tl fi)) = rgCount (M.aheadI tl fi) := by show rgCount (M.aheadI tl fi) % 4294967296 = _; omega
  have hw4 : IntKind.u32.wrap (fi + rgCount (M.aheadI tl fi)) = rgAdd fi (rgCount (M.aheadI tl fi)) := rfl
  obtain ⟨hw1, hw2⟩ := rgCount_wrap (M.aheadI tl fi) (M.ahead_lo tl fi) (M.ahead_hi tl fi)
  clear hA hB hc1
  clear hw hp ho hs
  go_enter Tryz.func53, Tryz.ntmps53
  go_wp2
  go_quiet ((go_at_call 61; exact qs (ahead_any _ _ _ t0.1 t0.2 f0.1 f0.2)))
  go_wp2_with fail
  generalize hV : World.drewN _ _ = W2
  have hkV : Keeps [] w W2 := by rw [← hV]; exact (Keeps.refl _ _).drewN
  obtain ⟨c0, c1, c2, c3, c4, c5, c6, c7, c8, c9, c10, c11, c12, c13⟩ := HS.out W2 [] hkV (by simp)
  clear hV
  go_wp2
  go_quiet (fail)
  generalize hV : World.drewN _ _ = W3
  have hkV3 : Keeps [] w W3 := by rw [← hV]; exact hkV.drewN
  clear hV
  obtain ⟨d0, d1, d2, d3, d4, d5, d6, d7, d8, d9, d10, d11, d12, d13⟩ := HS.out W3 [] hkV3 (by simp)
  have hp3 := HP.out.keeps hkV3 (by simp)
  have f13 := hp3.frozen 13
  obtain ⟨W4, hW4⟩ : ∃ W4, W3.setCell ⟨p, 13, none⟩ (.int .i64 (rgCount (M.aheadI tl fi))) = W4 := ⟨_, rfl⟩
  have k4 : Keeps [p] W3 W4 := by rw [← hW4]; exact (Keeps.refl [p] W3).setCell (fun _ => by simp) _
  have hp4 : Row W4 p e (rgCells m at_ size hd fi fi tl lk tr tk [.int .i64 tat, .int .i64 size, .int .u32 u, .int .i64 (rgCount (M.aheadI tl fi))]) := by rw [← hW4]; exact hp3.set 13 _
  have HP4 := Lib.hid hp4
  have HC4 := Lib.hid (rg_cells_steal hp4)
  have HW4 : Hid (Wk W4 m s) := Lib.hid ((HW.out.keeps hkV3 (by simp)).keeps k4 (by simpa using Ne.symm hpm))
  have HK4 : Hid (Keeps [m, p] w W4) := Lib.hid (hkV3.nil.trans (k4.mono (by simp)))
  obtain ⟨g0, g1, g2, g3, g4, g5, g6, g7, g8, g9, g10, g11, g12, g13⟩ := HC4.out _ [] (Keeps.refl _ _) (by simp)
  clear k4 hp4 hp3
  go_wp2_with fail
  clear hW4
  go_still_tail 19, (by kernel_rfl)
  change wpList _ _ _ _ _ (W4).drew
  go_wp2_with fail
  refine (HE.out W4.drew (HW4.out.keeps (Keeps.refl [] W4).drew (by simp)) (HP4.out.keeps (Keeps.refl [] W4).drew (by simp))).mono ?_
  rintro e5 w5 ⟨rfl, hQ⟩
  have HQ := Lib.hid (hQ.from HK4.out.drew)
  clear hQ
  go_wp2
  first | go_end0 | refine bodyPost_ret (results_none rfl _ _ _) rfl ?_
  exact ⟨rfl, HQ.out⟩

set_option maxHeartbeats 1600000 in
theorem rgStealNext (m p : Nat) (at_ size hd sl fi tl : Int) (tat u n : Int) (lk tr : Value) (q : Option Addr) (nt ct : Nat) (e : TypeId) (s : WSt) (w : World) (hw : Wk w m s) (hp : Row w p e (rgCells m at_ size hd sl fi tl lk tr (.slice q nt ct) [.int .i64 tat, .int .i64 size, .int .u32 u, .int .i64 n])) (hpm : p ≠ m) (ho : s.over = false) (hs : s.sub = none) (hr : dqRight at_ size)(f0 : 0 ≤ fi ∧ fi < 4294967296)(hn : nt < 4294967296) :
    Calls Tryz.prog 54 #[.pointer (some ⟨p, 0, none⟩)] w fun e' w' => e' = .returned (.tuple #[]) ∧ RgAsks m p e s w ⟨1, dqSlot at_ size (rgAdd fi (nt : Int)), 0, 0⟩ 98 (rgCells m at_ size hd sl fi tl lk tr (.slice q nt ct) [.int .i64 tat, .int .i64 size, .int .u32 u, .int .i64 n]) w' := by
  have HP := Lib.hid hp
  have HS := Lib.hid (rg_cells_steal hp)
  have HW := Lib.hid hw
  obtain ⟨h0, h1, h2, h3, h4, h5, h6, h7, h8, h9, h10, h11, h12, h13⟩ := HS.out _ [] (Keeps.refl _ _) (by simp)
  have HE := Lib.hid (fun W (h : Wk W m s) c0 => rgLoad_any m p (dqSlot at_ size (rgAdd fi (nt : Int))) (.func 98) #[.pointer (some ⟨p, 0, none⟩)] #[] s W h c0 ho hs)
  have HSl := Lib.hid (fun W => rgSlot_any at_ size (rgAdd fi (nt : Int)) W hr (rgAdd_range _ _))
  have HB := Lib.hid (fun W h => rgBehind_any m p nt ct at_ size hd sl fi tl lk tr q [.int .i64 tat, .int .i64 size, .int .u32 u, .int .i64 n] e W h hn)
  clear hw hp ho hs
  go_enter Tryz.func54, Tryz.ntmps54
  have hkV : Keeps [] w w := Keeps.refl _ _
  go_wp2
  go_region_held3 (fun w' => w'.cell? ⟨p, 0, none⟩ = some (.pointer (some ⟨m, 0, none⟩)) ∧ w'.cell? ⟨p, 1, none⟩ = some (.int .i64 at_) ∧ w'.cell? ⟨p, 2, none⟩ = some (.int .i64 size) ∧ w'.cell? ⟨p, 3, none⟩ = some (.int .u64 hd) ∧ w'.cell? ⟨p, 4, none⟩ = some (.int .u32 sl) ∧ w'.cell? ⟨p, 5, none⟩ = some (.int .u32 fi) ∧ w'.cell? ⟨p, 6, none⟩ = some (.int .u32 tl) ∧ w'.cell? ⟨p, 7, none⟩ = some lk ∧ w'.cell? ⟨p, 8, none⟩ = some tr ∧ w'.cell? ⟨p, 9, none⟩ = some (.slice q nt ct) ∧ w'.cell? ⟨p, 10, none⟩ = some (.int .i64 tat) ∧ w'.cell? ⟨p, 11, none⟩ = some (.int .i64 size) ∧ w'.cell? ⟨p, 12, none⟩ = some (.int .u32 u) ∧ w'.cell? ⟨p, 13, none⟩ = some (.int .i64 n))
    (first
      | exact HS.out _ _ hk4 (by simpa using hpm)
      | exact HS.out _ _ hk3 (by simp)
      | exact HS.out _ _ hk2 (by simp)
      | exact ⟨by assumption, by assumption, by assumption, by assumption, by assumption, by assumption, by assumption, by assumption, by assumption, by assumption, by assumption, by assumption, by assumption, by assumption⟩
      | fail)
    (first
      | (go_at_call 83; refine (HB.out _ (HP.out.keeps ((Keeps.refl [] w).drew) (by simp))).mono ?_; rintro e2 w2 ⟨rfl, k⟩; have hk2 : Keeps [] w w2 := hkV.trans k.undrew; clear k)
      | (go_at_call 62; refine (HSl.out _).mono ?_; rintro e2 w3 ⟨rfl, k⟩; have hk3 : Keeps [] w w3 := hk2.trans k; clear k)
      | (go_at_call 55; refine (HE.out _ (HW.out.keeps hk3 (by simp)) (HS.out _ _ hk3 (by simp)).1).mono ?_; rintro e4 w4 ⟨rfl, hw4, k4⟩; have hk4 : Keeps [m] w w4 := (hk3.mono (by simp)).trans k4; clear k4)
      | fail)
  all_goals (try go_wp2)
  all_goals (first | go_end0 | refine bodyPost_ret (results_none rfl _ _ _) rfl ?_)
  all_goals exact ⟨rfl, hw4, HP.out.keeps hk4 (by simpa using hpm), hk4.mono (by simp)⟩

set_option maxHeartbeats 1600000 in
theorem rgStealLaid (m p : Nat) (at_ size hd sl fi tl : Int) (tat u n : Int) (lk tr : Value) (q : Option Addr) (nt ct : Nat) (v : Int) (won : Bool) (e : TypeId) (s : WSt) (w : World) (hw : Wk w m s) (hp : Row w p e (rgCells m at_ size hd sl fi tl lk tr (.slice q nt ct) [.int .i64 tat, .int .i64 size, .int .u32 u, .int .i64 n])) (hpm : p ≠ m) (ho : s.over = false) (hs : s.sub = none) (hr : dqRight at_ size)(f0 : 0 ≤ fi ∧ fi < 4294967296)(hn : nt < 4294967296) :
    Calls Tryz.prog 127 #[.pointer (some ⟨p, 0, none⟩), .int .u64 v, .bool won] w fun e' w' => e' = .returned (.tuple #[]) ∧ RgAsks m p e s w ⟨1, dqSlot at_ size (rgAdd fi (nt : Int)), 0, 0⟩ 98 (rgCells m at_ size hd sl fi tl lk tr (.slice q nt ct) [.int .i64 tat, .int .i64 size, .int .u32 u, .int .i64 n]) w' := by
  have HP := Lib.hid hp
  have HS := Lib.hid (rg_cells_steal hp)
  have HW := Lib.hid hw
  obtain ⟨h0, h1, h2, h3, h4, h5, h6, h7, h8, h9, h10, h11, h12, h13⟩ := HS.out _ [] (Keeps.refl _ _) (by simp)
  have HE := Lib.hid (rgStealNext m p at_ size hd sl fi tl tat u n lk tr q nt ct e s w hw hp hpm ho hs hr f0 hn)
  clear hw hp ho hs
  go_enter Tryz.func127, Tryz.ntmps127
  go_wp2_with fail
  refine HE.out.mono ?_
  rintro e5 w5 ⟨rfl, hQ⟩
  have HQ := Lib.hid hQ
  clear hQ
  go_wp2
  first | go_end0 | refine bodyPost_ret (results_none rfl _ _ _) rfl ?_
  exact ⟨rfl, HQ.out⟩

set_option maxHeartbeats 1600000 in
theorem rgRelease (m p : Nat) (at_ size hd sl fi tl : Int) (tat u n : Int) (lk tr tk : Value) (v : Int) (won : Bool) (e : TypeId) (s : WSt) (w : World) (hw : Wk w m s) (hp : Row w p e (rgCells m at_ size hd sl fi tl lk tr tk [.int .i64 tat, .int .i64 size, .int .u32 u, .int .i64 n])) (hpm : p ≠ m) (ho : s.over = false) (hs : s.sub = none) (hv : M.U v) :
    Calls Tryz.prog 128 #[.pointer (some ⟨p, 0, none⟩), .int .u64 v, .bool won] w fun e' w' => e' = .returned (.tuple #[]) ∧ RgAsks m p e s w ⟨3, at_, v, rgPair (rgLo v) (rgLo v)⟩ 134 (rgCells m at_ size hd sl fi tl lk tr tk [.int .i64 tat, .int .i64 size, .int .u32 u, .int .i64 n]) w' := by
  have HP := Lib.hid hp
  have HS := Lib.hid (rg_cells_steal hp)
  have HW := Lib.hid hw
  obtain ⟨h0, h1, h2, h3, h4, h5, h6, h7, h8, h9, h10, h11, h12, h13⟩ := HS.out _ [] (Keeps.refl _ _) (by simp)
  have HSp : Hid (∀ W, Calls Tryz.prog 59 #[.int .u64 v] W fun e w' => e = .returned (.tuple #[.int .u32 (rgHi v), .int .u32 (rgLo v)]) ∧ W = w') := Lib.hid (fun W => split_any v W hv.nn hv)
  have HE := Lib.hid (fun W h => wAsk m s ⟨3, at_, v, rgPair (rgLo v) (rgLo v)⟩ (.func 134) #[.pointer (some ⟨p, 0, none⟩)] #[] W h hs ho)
  have hlv := rgLo_range v
  have HPr := Lib.hid (fun W => pair_any (rgLo v) (rgLo v) W hlv.1 hlv.2 hlv.1 hlv.2)
  clear hw hp ho hs
  go_enter Tryz.func128, Tryz.ntmps128
  go_wp2_with (go_at_call 59; refine (HSp.out _).mono ?_; rintro e1 w1 ⟨rfl, rfl⟩)
  go_region_held3 (fun w' => w'.cell? ⟨p, 0, none⟩ = some (.pointer (some ⟨m, 0, none⟩)) ∧ w'.cell? ⟨p, 1, none⟩ = some (.int .i64 at_) ∧ w'.cell? ⟨p, 2, none⟩ = some (.int .i64 size) ∧ w'.cell? ⟨p, 3, none⟩ = some (.int .u64 hd) ∧ w'.cell? ⟨p, 4, none⟩ = some (.int .u32 sl) ∧ w'.cell? ⟨p, 5, none⟩ = some (.int .u32 fi) ∧ w'.cell? ⟨p, 6, none⟩ = some (.int .u32 tl) ∧ w'.cell? ⟨p, 7, none⟩ = some lk ∧ w'.cell? ⟨p, 8, none⟩ = some tr ∧ w'.cell? ⟨p, 9, none⟩ = some tk ∧ w'.cell? ⟨p, 10, none⟩ = some (.int .i64 tat) ∧ w'.cell? ⟨p, 11, none⟩ = some (.int .i64 size) ∧ w'.cell? ⟨p, 12, none⟩ = some (.int .u32 u) ∧ w'.cell? ⟨p, 13, none⟩ = some (.int .i64 n))
    (first
      | exact HS.out _ _ hk4 (by simpa using hpm)
      | exact HS.out _ _ hk3 (by simp)
      | exact HS.out _ _ hk2 (by simp)
      | exact ⟨by assumption, by assumption, by assumption, by assumption, by assumption, by assumption, by assumption, by assumption, by assumption, by assumption, by assumption, by assumption, by assumption, by assumption⟩
      | fail)
    (first
      | (go_at_call 111; refine (HPr.out _).mono ?_; rintro e2 w2 ⟨rfl, rfl⟩)
      | (go_at_call 99; refine (HE.out _ (HW.out.keeps ((Keeps.refl [] w).drew) (by simp))).mono ?_; rintro e4 w4 ⟨rfl, hw4, k4⟩; have hk4 : Keeps [m] w w4 := k4.undrew; clear k4)
      | fail)
  all_goals (try go_wp2)
  all_goals (first | go_end0 | refine bodyPost_ret (results_none rfl _ _ _) rfl ?_)
  all_goals exact ⟨rfl, hw4, HP.out.keeps hk4 (by simpa using hpm), hk4.mono (by simp)⟩

set_option maxHeartbeats 1600000 in
theorem rgReleasedLost (m p : Nat) (at_ size hd sl fi tl : Int) (tat u n : Int) (lk tr tk : Value) (v : Int) (e : TypeId) (s : WSt) (w : World) (hw : Wk w m s) (hp : Row w p e (rgCells m at_ size hd sl fi tl lk tr tk [.int .i64 tat, .int .i64 size, .int .u32 u, .int .i64 n])) (hpm : p ≠ m) (ho : s.over = false) (hs : s.sub = none) (hv : M.U v) :
    Calls Tryz.prog 134 #[.pointer (some ⟨p, 0, none⟩), .int .u64 v, .bool false] w fun e' w' => e' = .returned (.tuple #[]) ∧ RgAsks m p e s w ⟨3, at_, v, rgPair (rgLo v) (rgLo v)⟩ 134 (rgCells m at_ size hd sl fi tl lk tr tk [.int .i64 tat, .int .i64 size, .int .u32 u, .int .i64 n]) w' := by
  have HP := Lib.hid hp
  have HS := Lib.hid (rg_cells_steal hp)
  have HW := Lib.hid hw
  obtain ⟨h0, h1, h2, h3, h4, h5, h6, h7, h8, h9, h10, h11, h12, h13⟩ := HS.out _ [] (Keeps.refl _ _) (by simp)
  have HE := Lib.hid (rgRelease m p at_ size hd sl fi tl tat u n lk tr tk v false e s w hw hp hpm ho hs hv)
  clear hw hp ho hs
  go_enter Tryz.func134, Tryz.ntmps134
  go_wp2_with fail
  refine HE.out.mono ?_
  rintro e5 w5 ⟨rfl, hQ⟩
  have HQ := Lib.hid hQ
  clear hQ
  go_wp2
  first | go_end0 | refine bodyPost_ret (results_none rfl _ _ _) rfl ?_
  exact ⟨rfl, HQ.out⟩
end Go.Proofs.YtekpfhlaohcgeaaGreat
