/-
  Contracts: what the functions of a ring's pushing and popping do (written by wip/tools/rggen.py).
-/
import Derived.Test.YtekpfhlaohcgeaaGreatRgV
import Derived.Test.YtekpfhlaohcgeaaGreatRgU
import Derived.IntWalk
namespace Go.Proofs.YtekpfhlaohcgeaaGreat
set_option maxRecDepth 100000
set_option linter.unusedSimpArgs false
set_option linter.unusedVariables false
open Go.ChangeShapes Go.WideShapes Go.ChangeAt Go.RowKit

theorem rg_cells_push {m p : Nat} {at_ size hd sl fi tl : Int} {task : Int} {lk tr tk : Value} {e : TypeId} {w : World} (h : Row w p e (rgCells m at_ size hd sl fi tl lk tr tk [.int .u64 task])) : ∀ W S, Keeps S w W → p ∉ S →
    W.cell? ⟨p, 0, none⟩ = some (.pointer (some ⟨m, 0, none⟩)) ∧ W.cell? ⟨p, 1, none⟩ = some (.int .i64 at_) ∧ W.cell? ⟨p, 2, none⟩ = some (.int .i64 size) ∧ W.cell? ⟨p, 3, none⟩ = some (.int .u64 hd) ∧ W.cell? ⟨p, 4, none⟩ = some (.int .u32 sl) ∧ W.cell? ⟨p, 5, none⟩ = some (.int .u32 fi) ∧ W.cell? ⟨p, 6, none⟩ = some (.int .u32 tl) ∧ W.cell? ⟨p, 7, none⟩ = some lk ∧ W.cell? ⟨p, 8, none⟩ = some tr ∧ W.cell? ⟨p, 9, none⟩ = some tk ∧ W.cell? ⟨p, 10, none⟩ = some (.int .u64 task) := by
  intro W S hk hp
  have h := h.keeps hk hp
  exact ⟨h.cell (j := 0) rfl, h.cell (j := 1) rfl, h.cell (j := 2) rfl, h.cell (j := 3) rfl, h.cell (j := 4) rfl, h.cell (j := 5) rfl, h.cell (j := 6) rfl, h.cell (j := 7) rfl, h.cell (j := 8) rfl, h.cell (j := 9) rfl, h.cell (j := 10) rfl⟩
theorem rg_cells_pop {m p : Nat} {at_ size hd sl fi tl : Int}  {lk tr tk : Value} {e : TypeId} {w : World} (h : Row w p e (rgCells m at_ size hd sl fi tl lk tr tk [])) : ∀ W S, Keeps S w W → p ∉ S →
    W.cell? ⟨p, 0, none⟩ = some (.pointer (some ⟨m, 0, none⟩)) ∧ W.cell? ⟨p, 1, none⟩ = some (.int .i64 at_) ∧ W.cell? ⟨p, 2, none⟩ = some (.int .i64 size) ∧ W.cell? ⟨p, 3, none⟩ = some (.int .u64 hd) ∧ W.cell? ⟨p, 4, none⟩ = some (.int .u32 sl) ∧ W.cell? ⟨p, 5, none⟩ = some (.int .u32 fi) ∧ W.cell? ⟨p, 6, none⟩ = some (.int .u32 tl) ∧ W.cell? ⟨p, 7, none⟩ = some lk ∧ W.cell? ⟨p, 8, none⟩ = some tr ∧ W.cell? ⟨p, 9, none⟩ = some tk := by
  intro W S hk hp
  have h := h.keeps hk hp
  exact ⟨h.cell (j := 0) rfl, h.cell (j := 1) rfl, h.cell (j := 2) rfl, h.cell (j := 3) rfl, h.cell (j := 4) rfl, h.cell (j := 5) rfl, h.cell (j := 6) rfl, h.cell (j := 7) rfl, h.cell (j := 8) rfl, h.cell (j := 9) rfl⟩

set_option maxHeartbeats 1600000 in
theorem rgPushRoom (m p : Nat) (at_ size hd sl fi tl : Int) (task : Int) (lk tr tk : Value)  (e : TypeId) (s : WSt) (w : World) (hw : Wk w m s) (hp : Row w p e (rgCells m at_ size hd sl fi tl lk tr tk [.int .u64 task])) (hpm : p ≠ m) (ho : s.over = false) (hs : s.sub = none) (hr : dqRight at_ size)(t0 : 0 ≤ tl ∧ tl < 4294967296) (s0 : 0 ≤ sl ∧ sl < 4294967296) (f0 : 0 ≤ fi ∧ fi < 4294967296)(hA : M.aheadI tl sl < size) :
    Calls Tryz.prog 39 #[.pointer (some ⟨p, 0, none⟩)] w fun e' w' => e' = .returned (.tuple #[]) ∧ RgAsks m p e s w ⟨2, dqSlot at_ size tl, task, 0⟩ 80 (rgCells m at_ size hd sl fi tl lk tr tk [.int .u64 task]) w' := by
  have HP := Lib.hid hp
  have HS := Lib.hid (rg_cells_push hp)
  have HW := Lib.hid hw
  obtain ⟨h0, h1, h2, h3, h4, h5, h6, h7, h8, h9, h10⟩ := HS.out _ [] (Keeps.refl _ _) (by simp)
  have HE := Lib.hid (fun W (h : Wk W m s) c0 => rgStore_any m p (dqSlot at_ size tl) task (.func 80) #[.pointer (some ⟨p, 0, none⟩)] #[] s W h c0 ho hs)
  have HSl := Lib.hid (fun W => rgSlot_any at_ size tl W hr t0)
  have dA : decide (M.aheadI tl sl < size) = true := decide_eq_true hA
  clear hw hp ho hs
  go_enter Tryz.func39, Tryz.ntmps39
  go_wp2
  go_quiet ((go_at_call 61; exact qs (ahead_any _ _ _ t0.1 t0.2 s0.1 s0.2)))
  go_wp2_with fail
  generalize hV : World.drewN _ _ = W2
  have hkV : Keeps [] w W2 := by rw [← hV]; exact (Keeps.refl _ _).drewN
  obtain ⟨c0, c1, c2, c3, c4, c5, c6, c7, c8, c9, c10⟩ := HS.out W2 [] hkV (by simp)
  clear hV
  go_region_held3 (fun w' => w'.cell? ⟨p, 0, none⟩ = some (.pointer (some ⟨m, 0, none⟩)) ∧ w'.cell? ⟨p, 1, none⟩ = some (.int .i64 at_) ∧ w'.cell? ⟨p, 2, none⟩ = some (.int .i64 size) ∧ w'.cell? ⟨p, 3, none⟩ = some (.int .u64 hd) ∧ w'.cell? ⟨p, 4, none⟩ = some (.int .u32 sl) ∧ w'.cell? ⟨p, 5, none⟩ = some (.int .u32 fi) ∧ w'.cell? ⟨p, 6, none⟩ = some (.int .u32 tl) ∧ w'.cell? ⟨p, 7, none⟩ = some lk ∧ w'.cell? ⟨p, 8, none⟩ = some tr ∧ w'.cell? ⟨p, 9, none⟩ = some tk ∧ w'.cell? ⟨p, 10, none⟩ = some (.int .u64 task))
    (first
      | exact HS.out _ _ hk4 (by simpa using hpm)
      | exact HS.out _ _ hk3 (by simp)
      | exact HS.out _ _ hk2 (by simp)
      | exact ⟨by assumption, by assumption, by assumption, by assumption, by assumption, by assumption, by assumption, by assumption, by assumption, by assumption, by assumption⟩
      | fail)
    (first
      | (go_at_call 62; refine (HSl.out _).mono ?_; rintro e2 w2 ⟨rfl, k⟩; have hk2 : Keeps [] w w2 := hkV.trans k.undrew; clear k)
      | (go_at_call 79; refine (HE.out _ (HW.out.keeps hk2 (by simp)) (HS.out _ _ hk2 (by simp)).1).mono ?_; rintro e4 w4 ⟨rfl, hw4, k4⟩; have hk4 : Keeps [m] w w4 := (hk2.mono (by simp)).trans k4; clear k4)
      | fail)
  all_goals (try go_wp2)
  all_goals (first | go_end0 | refine bodyPost_ret (results_none rfl _ _ _) rfl ?_)
  all_goals exact ⟨rfl, hw4, HP.out.keeps hk4 (by simpa using hpm), hk4.mono (by simp)⟩

set_option maxHeartbeats 1600000 in
theorem rgPushBusy (m p : Nat) (at_ size hd sl fi tl : Int) (task : Int) (lk tr tk : Value)  (e : TypeId) (s : WSt) (w : World) (hw : Wk w m s) (hp : Row w p e (rgCells m at_ size hd sl fi tl lk tr tk [.int .u64 task])) (hpm : p ≠ m) (ho : s.over = false) (hs : s.sub = none) (t0 : 0 ≤ tl ∧ tl < 4294967296) (s0 : 0 ≤ sl ∧ sl < 4294967296) (f0 : 0 ≤ fi ∧ fi < 4294967296)(hA : ¬ M.aheadI tl sl < size) (hne : sl ≠ fi) (hu : 0 < s.under) :
    Calls Tryz.prog 39 #[.pointer (some ⟨p, 0, none⟩)] w fun e' w' => e' = .returned (.tuple #[]) ∧ RgEnds m p s w 8 0 [] w' := by
  have HP := Lib.hid hp
  have HS := Lib.hid (rg_cells_push hp)
  have HW := Lib.hid hw
  obtain ⟨h0, h1, h2, h3, h4, h5, h6, h7, h8, h9, h10⟩ := HS.out _ [] (Keeps.refl _ _) (by simp)
  have HE := Lib.hid (fun W h => wBreak m s 8 W h ho (.inl hu))
  have dA : decide (M.aheadI tl sl < size) = false := decide_eq_false hA
  have dB : (sl == fi) = false := beq_eq_false_iff_ne.2 hne
  clear hw hp ho hs
  go_enter Tryz.func39, Tryz.ntmps39
  go_wp2
  go_quiet ((go_at_call 61; exact qs (ahead_any _ _ _ t0.1 t0.2 s0.1 s0.2)))
  go_wp2_with fail
  generalize hV : World.drewN _ _ = W2
  have hkV : Keeps [] w W2 := by rw [← hV]; exact (Keeps.refl _ _).drewN
  obtain ⟨c0, c1, c2, c3, c4, c5, c6, c7, c8, c9, c10⟩ := HS.out W2 [] hkV (by simp)
  clear hV
  go_wp2
  go_quiet (fail)
  go_wp2_with fail
  generalize hV : World.drewN _ _ = W3
  have hkV3 : Keeps [] w W3 := by rw [← hV]; exact hkV.drewN
  clear hV
  refine (HE.out W3 (HW.out.keeps hkV3 (by simp))).mono ?_
  rintro e2 w3 ⟨rfl, l', hw3, ho3, k3⟩
  have HQ := Lib.hid (show RgEnds m p s w 8 0 [] w3 from ⟨l', hw3, owns_base ho3 hkV3.size, hkV3.nil.trans (k3.mono (by simp)), (HS.out _ [m] (hkV3.nil.trans k3) (by simpa using hpm)).1⟩)
  clear hw3 ho3 k3
  go_wp2
  (first | go_end0 | refine bodyPost_ret (results_none rfl _ _ _) rfl ?_)
  exact ⟨rfl, HQ.out⟩

set_option maxHeartbeats 1600000 in
theorem rgPushTurn (m p : Nat) (at_ size hd fi tl : Int) (task : Int) (lk tr tk : Value)  (e : TypeId) (s : WSt) (w : World) (hw : Wk w m s) (hp : Row w p e (rgCells m at_ size hd fi fi tl lk tr tk [.int .u64 task])) (hpm : p ≠ m) (ho : s.over = false) (hs : s.sub = none) (hr : dqRight at_ size)(t0 : 0 ≤ tl ∧ tl < 4294967296) (s0 : 0 ≤ fi ∧ fi < 4294967296) (f0 : 0 ≤ fi ∧ fi < 4294967296)(hA : ¬ M.aheadI tl fi < size) :
    Calls Tryz.prog 39 #[.pointer (some ⟨p, 0, none⟩)] w fun e' w' => e' = .returned (.tuple #[]) ∧ RgAsks m p e s w ⟨3, at_, hd, rgPair (rgAdd fi (size / 2)) (rgAdd fi (size / 2))⟩ 112 (rgCells m at_ size hd fi fi tl lk tr tk [.int .u64 task]) w' := by
  have HP := Lib.hid hp
  have HS := Lib.hid (rg_cells_push hp)
  have HW := Lib.hid hw
  obtain ⟨h0, h1, h2, h3, h4, h5, h6, h7, h8, h9, h10⟩ := HS.out _ [] (Keeps.refl _ _) (by simp)
  have hr1 : 2 ≤ size ∧ size ≤ 256 := by have := hr.1; omega
  have a0 : 0 ≤ at_ := hr.2.1
  have a1 : at_ < 65536 := by have := hr.2.2; omega
  have HE := Lib.hid (fun W (h : Wk W m s) h2 => rgTurn_any m p at_ size hd fi fi tl lk tr tk [.int .u64 task] e (rgAdd fi (size / 2)) (rgAdd fi (size / 2)) s W h h2 hpm ho hs (rgAdd_range _ _) (rgAdd_range _ _))
  have HH := Lib.hid (fun W => rgHalf_any at_ size W hr1.1 hr1.2)
  have hw1 : IntKind.u32.wrap (size / 2) = size / 2 := by show size / 2 % 4294967296 = size / 2; omega
  have hw2 : IntKind.u32.wrap (fi + size / 2) = rgAdd fi (size / 2) := rfl
  have dA : decide (M.aheadI tl fi < size) = false := decide_eq_false hA
  clear hw hp ho hs
  go_enter Tryz.func39, Tryz.ntmps39
  go_wp2
  go_quiet ((go_at_call 61; exact qs (ahead_any _ _ _ t0.1 t0.2 s0.1 s0.2)))
  go_wp2_with fail
  generalize hV : World.drewN _ _ = W2
  have hkV : Keeps [] w W2 := by rw [← hV]; exact (Keeps.refl _ _).drewN
  obtain ⟨c0, c1, c2, c3, c4, c5, c6, c7, c8, c9, c10⟩ := HS.out W2 [] hkV (by simp)
  clear hV
  go_wp2
  go_quiet (fail)
  go_wp2_with fail
  generalize hV : World.drewN _ _ = W3
  have hkV3 : Keeps [] w W3 := by rw [← hV]; exact hkV.drewN
  clear hV
  obtain ⟨d0, d1, d2, d3, d4, d5, d6, d7, d8, d9, d10⟩ := HS.out W3 [] hkV3 (by simp)
  go_region_held3 (fun w' => w'.cell? ⟨p, 0, none⟩ = some (.pointer (some ⟨m, 0, none⟩)) ∧ w'.cell? ⟨p, 1, none⟩ = some (.int .i64 at_) ∧ w'.cell? ⟨p, 2, none⟩ = some (.int .i64 size) ∧ w'.cell? ⟨p, 3, none⟩ = some (.int .u64 hd) ∧ w'.cell? ⟨p, 4, none⟩ = some (.int .u32 fi) ∧ w'.cell? ⟨p, 5, none⟩ = some (.int .u32 fi) ∧ w'.cell? ⟨p, 6, none⟩ = some (.int .u32 tl) ∧ w'.cell? ⟨p, 7, none⟩ = some lk ∧ w'.cell? ⟨p, 8, none⟩ = some tr ∧ w'.cell? ⟨p, 9, none⟩ = some tk ∧ w'.cell? ⟨p, 10, none⟩ = some (.int .u64 task))
    (first
      | exact HS.out _ _ hk4 (by simpa using hpm)
      | exact HS.out _ _ hk3 (by simp)
      | exact HS.out _ _ hk2 (by simp)
      | exact ⟨by assumption, by assumption, by assumption, by assumption, by assumption, by assumption, by assumption, by assumption, by assumption, by assumption, by assumption⟩
      | fail)
    (first
      | (go_at_call 81; refine (HH.out _).mono ?_; rintro e2 w2 ⟨rfl, k⟩; have hk2 : Keeps [] w w2 := hkV3.trans k.undrew; clear k)
      | fail)
  all_goals go_wp2_with fail
  all_goals (refine (HE.out _ (HW.out.keeps hk2 (by simp)) (HP.out.keeps hk2 (by simp))).mono ?_; rintro e5 w5 ⟨rfl, hQ⟩; have HQ := Lib.hid (hQ.from (hk2.mono (by simp))); clear hQ; go_wp2)
  all_goals (first | go_end0 | refine bodyPost_ret (results_none rfl _ _ _) rfl ?_)
  all_goals exact ⟨rfl, HQ.out⟩

set_option maxHeartbeats 1600000 in
theorem rgPushLaid (m p : Nat) (at_ size hd sl fi tl : Int) (task : Int) (lk tr tk : Value) (v : Int) (won : Bool) (e : TypeId) (s : WSt) (w : World) (hw : Wk w m s) (hp : Row w p e (rgCells m at_ size hd sl fi tl lk tr tk [.int .u64 task])) (hpm : p ≠ m) (ho : s.over = false) (hs : s.sub = none) (hr : dqRight at_ size)(t0 : 0 ≤ tl ∧ tl < 4294967296) :
    Calls Tryz.prog 80 #[.pointer (some ⟨p, 0, none⟩), .int .u64 v, .bool won] w fun e' w' => e' = .returned (.tuple #[]) ∧ RgAsks m p e s w ⟨2, at_ + 1, rgAdd tl 1, 0⟩ 110 (rgCells m at_ size hd sl fi tl lk tr tk [.int .u64 task]) w' := by
  have HP := Lib.hid hp
  have HS := Lib.hid (rg_cells_push hp)
  have HW := Lib.hid hw
  obtain ⟨h0, h1, h2, h3, h4, h5, h6, h7, h8, h9, h10⟩ := HS.out _ [] (Keeps.refl _ _) (by simp)
  have hr1 : 2 ≤ size ∧ size ≤ 256 := by have := hr.1; omega
  have a0 : 0 ≤ at_ := hr.2.1
  have a1 : at_ < 65536 := by have := hr.2.2; omega
  have HE := Lib.hid (fun W (h : Wk W m s) c0 => rgStore_any m p (at_ + 1) (rgAdd tl 1) (.func 110) #[.pointer (some ⟨p, 0, none⟩)] #[] s W h c0 ho hs)
  have HTl := Lib.hid (fun W => rgTail_any at_ size W a0 a1)
  have hwr : IntKind.u64.wrap (IntKind.u32.wrap (tl + 1)) = rgAdd tl 1 := by show ((tl + 1) % 4294967296) % 18446744073709551616 = (tl + 1) % 4294967296; omega
  clear hw hp ho hs
  go_enter Tryz.func80, Tryz.ntmps80
  have hkV : Keeps [] w w := Keeps.refl _ _
  go_wp2
  go_region_held3 (fun w' => w'.cell? ⟨p, 0, none⟩ = some (.pointer (some ⟨m, 0, none⟩)) ∧ w'.cell? ⟨p, 1, none⟩ = some (.int .i64 at_) ∧ w'.cell? ⟨p, 2, none⟩ = some (.int .i64 size) ∧ w'.cell? ⟨p, 3, none⟩ = some (.int .u64 hd) ∧ w'.cell? ⟨p, 4, none⟩ = some (.int .u32 sl) ∧ w'.cell? ⟨p, 5, none⟩ = some (.int .u32 fi) ∧ w'.cell? ⟨p, 6, none⟩ = some (.int .u32 tl) ∧ w'.cell? ⟨p, 7, none⟩ = some lk ∧ w'.cell? ⟨p, 8, none⟩ = some tr ∧ w'.cell? ⟨p, 9, none⟩ = some tk ∧ w'.cell? ⟨p, 10, none⟩ = some (.int .u64 task))
    (first
      | exact HS.out _ _ hk4 (by simpa using hpm)
      | exact HS.out _ _ hk3 (by simp)
      | exact HS.out _ _ hk2 (by simp)
      | exact ⟨by assumption, by assumption, by assumption, by assumption, by assumption, by assumption, by assumption, by assumption, by assumption, by assumption, by assumption⟩
      | fail)
    (first
      | (go_at_call 56; refine (HTl.out _).mono ?_; rintro e2 w2 ⟨rfl, k⟩; have hk2 : Keeps [] w w2 := hkV.trans k.undrew; clear k)
      | (go_at_call 79; refine (HE.out _ (HW.out.keeps hk2 (by simp)) (HS.out _ _ hk2 (by simp)).1).mono ?_; rintro e4 w4 ⟨rfl, hw4, k4⟩; have hk4 : Keeps [m] w w4 := (hk2.mono (by simp)).trans k4; clear k4)
      | fail)
  all_goals (try go_wp2)
  all_goals (first | go_end0 | refine bodyPost_ret (results_none rfl _ _ _) rfl ?_)
  all_goals exact ⟨rfl, hw4, HP.out.keeps hk4 (by simpa using hpm), hk4.mono (by simp)⟩

set_option maxHeartbeats 1600000 in
theorem rgPushFinish (m p : Nat) (at_ size hd sl fi tl : Int) (task : Int) (lk tr tk : Value) (v : Int) (won : Bool) (e : TypeId) (s : WSt) (w : World) (hw : Wk w m s) (hp : Row w p e (rgCells m at_ size hd sl fi tl lk tr tk [.int .u64 task])) (hpm : p ≠ m) (ho : s.over = false) (hs : s.sub = none) (hu : 0 < s.under) :
    Calls Tryz.prog 110 #[.pointer (some ⟨p, 0, none⟩), .int .u64 v, .bool won] w fun e' w' => e' = .returned (.tuple #[]) ∧ RgEnds m p s w 0 0 [] w' := by
  have HP := Lib.hid hp
  have HS := Lib.hid (rg_cells_push hp)
  have HW := Lib.hid hw
  obtain ⟨h0, h1, h2, h3, h4, h5, h6, h7, h8, h9, h10⟩ := HS.out _ [] (Keeps.refl _ _) (by simp)
  have HE := Lib.hid (fun W (h : Wk W m s) => wEnd m s 0 0 (.slice none 0 0) 0 [] W h ho (.inl hu) ⟨rfl, .inl ⟨_, _, rfl, rfl⟩⟩ (fun g hg => by cases hg) (by omega))
  clear hw hp ho hs
  go_enter Tryz.func110, Tryz.ntmps110
  go_wp2_with fail
  refine (HE.out w HW.out).mono ?_
  rintro e2 w3 ⟨rfl, l', hw3, ho3, k3⟩
  have HQ := Lib.hid (show RgEnds m p s w 0 0 [] w3 from ⟨l', hw3, ho3, k3.mono (by simp), (HS.out _ [m] k3 (by simpa using hpm)).1⟩)
  clear hw3 ho3 k3
  go_wp2
  (first | go_end0 | refine bodyPost_ret (results_none rfl _ _ _) rfl ?_)
  exact ⟨rfl, HQ.out⟩

set_option maxHeartbeats 1600000 in
theorem rgPushNext (m p : Nat) (at_ size hd sl fi tl : Int) (task : Int) (lk tr : Value) (q : Option Addr) (nt ct : Nat) (e : TypeId) (s : WSt) (w : World) (hw : Wk w m s) (hp : Row w p e (rgCells m at_ size hd sl fi tl lk tr (.slice q nt ct) [.int .u64 task])) (hpm : p ≠ m) (ho : s.over = false) (hs : s.sub = none) (hr : dqRight at_ size)(f0 : 0 ≤ fi ∧ fi < 4294967296)(hn : nt < 4294967296) :
    Calls Tryz.prog 40 #[.pointer (some ⟨p, 0, none⟩)] w fun e' w' => e' = .returned (.tuple #[]) ∧ RgAsks m p e s w ⟨1, dqSlot at_ size (rgAdd fi (nt : Int)), 0, 0⟩ 84 (rgCells m at_ size hd sl fi tl lk tr (.slice q nt ct) [.int .u64 task]) w' := by
  have HP := Lib.hid hp
  have HS := Lib.hid (rg_cells_push hp)
  have HW := Lib.hid hw
  obtain ⟨h0, h1, h2, h3, h4, h5, h6, h7, h8, h9, h10⟩ := HS.out _ [] (Keeps.refl _ _) (by simp)
  have HE := Lib.hid (fun W (h : Wk W m s) c0 => rgLoad_any m p (dqSlot at_ size (rgAdd fi (nt : Int))) (.func 84) #[.pointer (some ⟨p, 0, none⟩)] #[] s W h c0 ho hs)
  have HSl := Lib.hid (fun W => rgSlot_any at_ size (rgAdd fi (nt : Int)) W hr (rgAdd_range _ _))
  have HB := Lib.hid (fun W h => rgBehind_any m p nt ct at_ size hd sl fi tl lk tr q [.int .u64 task] e W h hn)
  clear hw hp ho hs
  go_enter Tryz.func40, Tryz.ntmps40
  have hkV : Keeps [] w w := Keeps.refl _ _
  go_wp2
  go_region_held3 (fun w' => w'.cell? ⟨p, 0, none⟩ = some (.pointer (some ⟨m, 0, none⟩)) ∧ w'.cell? ⟨p, 1, none⟩ = some (.int .i64 at_) ∧ w'.cell? ⟨p, 2, none⟩ = some (.int .i64 size) ∧ w'.cell? ⟨p, 3, none⟩ = some (.int .u64 hd) ∧ w'.cell? ⟨p, 4, none⟩ = some (.int .u32 sl) ∧ w'.cell? ⟨p, 5, none⟩ = some (.int .u32 fi) ∧ w'.cell? ⟨p, 6, none⟩ = some (.int .u32 tl) ∧ w'.cell? ⟨p, 7, none⟩ = some lk ∧ w'.cell? ⟨p, 8, none⟩ = some tr ∧ w'.cell? ⟨p, 9, none⟩ = some (.slice q nt ct) ∧ w'.cell? ⟨p, 10, none⟩ = some (.int .u64 task))
    (first
      | exact HS.out _ _ hk4 (by simpa using hpm)
      | exact HS.out _ _ hk3 (by simp)
      | exact HS.out _ _ hk2 (by simp)
      | exact ⟨by assumption, by assumption, by assumption, by assumption, by assumption, by assumption, by assumption, by assumption, by assumption, by assumption, by assumption⟩
      | fail)
    (first
      | (go_at_call 83; refine (HB.out _ (HP.out.keeps ((Keeps.refl [] w).drew) (by simp))).mono ?_; rintro e2 w2 ⟨rfl, k⟩; have hk2 : Keeps [] w w2 := hkV.trans k.undrew; clear k)
      | (go_at_call 62; refine (HSl.out _).mono ?_; rintro e2 w3 ⟨rfl, k⟩; have hk3 : Keeps [] w w3 := hk2.trans k; clear k)
      | (go_at_call 55; refine (HE.out _ (HW.out.keeps hk3 (by simp)) (HS.out _ _ hk3 (by simp)).1).mono ?_; rintro e4 w4 ⟨rfl, hw4, k4⟩; have hk4 : Keeps [m] w w4 := (hk3.mono (by simp)).trans k4; clear k4)
      | fail)
  all_goals (try go_wp2)
  all_goals (first | go_end0 | refine bodyPost_ret (results_none rfl _ _ _) rfl ?_)
  all_goals exact ⟨rfl, hw4, HP.out.keeps hk4 (by simpa using hpm), hk4.mono (by simp)⟩

set_option maxHeartbeats 1600000 in
theorem rgPopNone (m p : Nat) (at_ size hd sl fi tl : Int)  (lk tr tk : Value)  (e : TypeId) (s : WSt) (w : World) (hw : Wk w m s) (hp : Row w p e (rgCells m at_ size hd sl fi tl lk tr tk [])) (hpm : p ≠ m) (ho : s.over = false) (hs : s.sub = none) (t0 : 0 ≤ tl ∧ tl < 4294967296) (s0 : 0 ≤ sl ∧ sl < 4294967296) (f0 : 0 ≤ fi ∧ fi < 4294967296)(hA : M.aheadI tl fi < 1) (hu : 0 < s.under) :
    Calls Tryz.prog 49 #[.pointer (some ⟨p, 0, none⟩)] w fun e' w' => e' = .returned (.tuple #[]) ∧ RgEnds m p s w 5 0 [] w' := by
  have HP := Lib.hid hp
  have HS := Lib.hid (rg_cells_pop hp)
  have HW := Lib.hid hw
  obtain ⟨h0, h1, h2, h3, h4, h5, h6, h7, h8, h9⟩ := HS.out _ [] (Keeps.refl _ _) (by simp)
  have HE := Lib.hid (fun W h => wBreak m s 5 W h ho (.inl hu))
  have dA : decide (M.aheadI tl fi < 1) = true := decide_eq_true hA
  clear hw hp ho hs
  go_enter Tryz.func49, Tryz.ntmps49
  go_wp2
  go_quiet ((go_at_call 61; exact qs (ahead_any _ _ _ t0.1 t0.2 f0.1 f0.2)))
  go_wp2_with fail
  generalize hV : World.drewN _ _ = W2
  have hkV : Keeps [] w W2 := by rw [← hV]; exact (Keeps.refl _ _).drewN
  obtain ⟨c0, c1, c2, c3, c4, c5, c6, c7, c8, c9⟩ := HS.out W2 [] hkV (by simp)
  clear hV
  go_wp2_with fail
  refine (HE.out W2 (HW.out.keeps hkV (by simp))).mono ?_
  rintro e2 w3 ⟨rfl, l', hw3, ho3, k3⟩
  have HQ := Lib.hid (show RgEnds m p s w 5 0 [] w3 from ⟨l', hw3, owns_base ho3 (hkV).size, (hkV).nil.trans (k3.mono (by simp)), (HS.out _ [m] ((hkV).nil.trans k3) (by simpa using hpm)).1⟩)
  clear hw3 ho3 k3
  go_wp2
  first | go_end0 | refine bodyPost_ret (results_none rfl _ _ _) rfl ?_
  exact ⟨rfl, HQ.out⟩

set_option maxHeartbeats 1600000 in
theorem rgPopTurn (m p : Nat) (at_ size hd sl fi tl : Int)  (lk tr tk : Value)  (e : TypeId) (s : WSt) (w : World) (hw : Wk w m s) (hp : Row w p e (rgCells m at_ size hd sl fi tl lk tr tk [])) (hpm : p ≠ m) (ho : s.over = false) (hs : s.sub = none) (t0 : 0 ≤ tl ∧ tl < 4294967296) (s0 : 0 ≤ sl ∧ sl < 4294967296) (f0 : 0 ≤ fi ∧ fi < 4294967296)(hA : ¬ M.aheadI tl fi < 1) (hne : sl ≠ fi) :
    Calls Tryz.prog 49 #[.pointer (some ⟨p, 0, none⟩)] w fun e' w' => e' = .returned (.tuple #[]) ∧ RgAsks m p e s w ⟨3, at_, hd, rgPair sl (rgAdd fi 1)⟩ 112 (rgCells m at_ size hd sl fi tl lk tr tk []) w' := by
  have HP := Lib.hid hp
  have HS := Lib.hid (rg_cells_pop hp)
  have HW := Lib.hid hw
  obtain ⟨h0, h1, h2, h3, h4, h5, h6, h7, h8, h9⟩ := HS.out _ [] (Keeps.refl _ _) (by simp)
  have HE := Lib.hid (fun W (h : Wk W m s) h2 => rgTurn_any m p at_ size hd sl fi tl lk tr tk [] e sl (rgAdd fi 1) s W h h2 hpm ho hs s0 (rgAdd_range _ _))
  have dA : decide (M.aheadI tl fi < 1) = false := decide_eq_false hA
  have dB : (sl == fi) = false := beq_eq_false_iff_ne.2 hne
  have hw2 : IntKind.u32.wrap (fi + 1) = rgAdd fi 1 := rfl
  clear hw hp ho hs
  go_enter Tryz.func49, Tryz.ntmps49
  go_wp2
  go_quiet ((go_at_call 61; exact qs (ahead_any _ _ _ t0.1 t0.2 f0.1 f0.2)))
  go_wp2_with fail
  generalize hV : World.drewN _ _ = W2
  have hkV : Keeps [] w W2 := by rw [← hV]; exact (Keeps.refl _ _).drewN
  obtain ⟨c0, c1, c2, c3, c4, c5, c6, c7, c8, c9⟩ := HS.out W2 [] hkV (by simp)
  clear hV
  go_wp2_with fail
  go_still_tail 10, (by kernel_rfl)
  change wpList _ _ _ _ _ (W2).drew
  go_wp2_with fail
  refine (HE.out W2.drew (HW.out.keeps hkV.drew (by simp)) (HP.out.keeps hkV.drew (by simp))).mono ?_
  rintro e5 w5 ⟨rfl, hQ⟩
  have HQ := Lib.hid (hQ.from ((hkV.drew).mono (by simp)))
  clear hQ
  go_wp2
  first | go_end0 | refine bodyPost_ret (results_none rfl _ _ _) rfl ?_
  exact ⟨rfl, HQ.out⟩

set_option maxHeartbeats 1600000 in
theorem rgPopTurnAll (m p : Nat) (at_ size hd fi tl : Int)  (lk tr tk : Value)  (e : TypeId) (s : WSt) (w : World) (hw : Wk w m s) (hp : Row w p e (rgCells m at_ size hd fi fi tl lk tr tk [])) (hpm : p ≠ m) (ho : s.over = false) (hs : s.sub = none) (t0 : 0 ≤ tl ∧ tl < 4294967296) (s0 : 0 ≤ fi ∧ fi < 4294967296) (f0 : 0 ≤ fi ∧ fi < 4294967296)(hA : ¬ M.aheadI tl fi < 1) :
    Calls Tryz.prog 49 #[.pointer (some ⟨p, 0, none⟩)] w fun e' w' => e' = .returned (.tuple #[]) ∧ RgAsks m p e s w ⟨3, at_, hd, rgPair (rgAdd fi 1) (rgAdd fi 1)⟩ 112 (rgCells m at_ size hd fi fi tl lk tr tk []) w' := by
  have HP := Lib.hid hp
  have HS := Lib.hid (rg_cells_pop hp)
  have HW := Lib.hid hw
  obtain ⟨h0, h1, h2, h3, h4, h5, h6, h7, h8, h9⟩ := HS.out _ [] (Keeps.refl _ _) (by simp)
  have HE := Lib.hid (fun W (h : Wk W m s) h2 => rgTurn_any m p at_ size hd fi fi tl lk tr tk [] e (rgAdd fi 1) (rgAdd fi 1) s W h h2 hpm ho hs (rgAdd_range _ _) (rgAdd_range _ _))
  have dA : decide (M.aheadI tl fi < 1) = false := decide_eq_false hA
  have hw2 : IntKind.u32.wrap (fi + 1) = rgAdd fi 1 := rfl
  clear hw hp ho hs
  go_enter Tryz.func49, Tryz.ntmps49
  go_wp2
  go_quiet ((go_at_call 61; exact qs (ahead_any _ _ _ t0.1 t0.2 f0.1 f0.2)))
  go_wp2_with fail
  generalize hV : World.drewN _ _ = W2
  have hkV : Keeps [] w W2 := by rw [← hV]; exact (Keeps.refl _ _).drewN
  obtain ⟨c0, c1, c2, c3, c4, c5, c6, c7, c8, c9⟩ := HS.out W2 [] hkV (by simp)
  clear hV
  go_wp2_with fail
  go_still_tail 10, (by kernel_rfl)
  change wpList _ _ _ _ _ (W2).drew
  go_wp2_with fail
  refine (HE.out W2.drew (HW.out.keeps hkV.drew (by simp)) (HP.out.keeps hkV.drew (by simp))).mono ?_
  rintro e5 w5 ⟨rfl, hQ⟩
  have HQ := Lib.hid (hQ.from ((hkV.drew).mono (by simp)))
  clear hQ
  go_wp2
  first | go_end0 | refine bodyPost_ret (results_none rfl _ _ _) rfl ?_
  exact ⟨rfl, HQ.out⟩

set_option maxHeartbeats 1600000 in
theorem rgPopFirst (m p : Nat) (at_ size hd sl fi tl : Int)  (lk tr tk : Value)  (e : TypeId) (s : WSt) (w : World) (hw : Wk w m s) (hp : Row w p e (rgCells m at_ size hd sl fi tl lk tr tk [])) (hpm : p ≠ m) (ho : s.over = false) (hs : s.sub = none) (hr : dqRight at_ size)(f0 : 0 ≤ fi ∧ fi < 4294967296) :
    Calls Tryz.prog 50 #[.pointer (some ⟨p, 0, none⟩)] w fun e' w' => e' = .returned (.tuple #[]) ∧ RgAsks m p e s w ⟨1, dqSlot at_ size fi, 0, 0⟩ 96 (rgCells m at_ size hd sl fi tl lk tr tk []) w' := by
  have HP := Lib.hid hp
  have HS := Lib.hid (rg_cells_pop hp)
  have HW := Lib.hid hw
  obtain ⟨h0, h1, h2, h3, h4, h5, h6, h7, h8, h9⟩ := HS.out _ [] (Keeps.refl _ _) (by simp)
  have HE := Lib.hid (fun W (h : Wk W m s) c0 => rgLoad_any m p (dqSlot at_ size fi) (.func 96) #[.pointer (some ⟨p, 0, none⟩)] #[] s W h c0 ho hs)
  have HSl := Lib.hid (fun W => rgSlot_any at_ size fi W hr f0)
  clear hw hp ho hs
  go_enter Tryz.func50, Tryz.ntmps50
  have hkV : Keeps [] w w := Keeps.refl _ _
  go_wp2
  go_region_held3 (fun w' => w'.cell? ⟨p, 0, none⟩ = some (.pointer (some ⟨m, 0, none⟩)) ∧ w'.cell? ⟨p, 1, none⟩ = some (.int .i64 at_) ∧ w'.cell? ⟨p, 2, none⟩ = some (.int .i64 size) ∧ w'.cell? ⟨p, 3, none⟩ = some (.int .u64 hd) ∧ w'.cell? ⟨p, 4, none⟩ = some (.int .u32 sl) ∧ w'.cell? ⟨p, 5, none⟩ = some (.int .u32 fi) ∧ w'.cell? ⟨p, 6, none⟩ = some (.int .u32 tl) ∧ w'.cell? ⟨p, 7, none⟩ = some lk ∧ w'.cell? ⟨p, 8, none⟩ = some tr ∧ w'.cell? ⟨p, 9, none⟩ = some tk)
    (first
      | exact HS.out _ _ hk4 (by simpa using hpm)
      | exact HS.out _ _ hk3 (by simp)
      | exact HS.out _ _ hk2 (by simp)
      | exact ⟨by assumption, by assumption, by assumption, by assumption, by assumption, by assumption, by assumption, by assumption, by assumption, by assumption⟩
      | fail)
    (first
      | (go_at_call 62; refine (HSl.out _).mono ?_; rintro e2 w2 ⟨rfl, k⟩; have hk2 : Keeps [] w w2 := hkV.trans k.undrew; clear k)
      | (go_at_call 55; refine (HE.out _ (HW.out.keeps hk2 (by simp)) (HS.out _ _ hk2 (by simp)).1).mono ?_; rintro e4 w4 ⟨rfl, hw4, k4⟩; have hk4 : Keeps [m] w w4 := (hk2.mono (by simp)).trans k4; clear k4)
      | fail)
  all_goals (try go_wp2)
  all_goals (first | go_end0 | refine bodyPost_ret (results_none rfl _ _ _) rfl ?_)
  all_goals exact ⟨rfl, hw4, HP.out.keeps hk4 (by simpa using hpm), hk4.mono (by simp)⟩

set_option maxHeartbeats 1600000 in
theorem rgPopFinish (m p : Nat) (at_ size hd sl fi tl : Int)  (lk tr tk : Value) (v : Int) (won : Bool) (e : TypeId) (s : WSt) (w : World) (hw : Wk w m s) (hp : Row w p e (rgCells m at_ size hd sl fi tl lk tr tk [])) (hpm : p ≠ m) (ho : s.over = false) (hs : s.sub = none) (hu : 0 < s.under) :
    Calls Tryz.prog 96 #[.pointer (some ⟨p, 0, none⟩), .int .u64 v, .bool won] w fun e' w' => e' = .returned (.tuple #[]) ∧ RgEnds m p s w 0 v [] w' := by
  have HP := Lib.hid hp
  have HS := Lib.hid (rg_cells_pop hp)
  have HW := Lib.hid hw
  obtain ⟨h0, h1, h2, h3, h4, h5, h6, h7, h8, h9⟩ := HS.out _ [] (Keeps.refl _ _) (by simp)
  have HE := Lib.hid (fun W (h : Wk W m s) => wEnd m s 0 v (.slice none 0 0) 0 [] W h ho (.inl hu) ⟨rfl, .inl ⟨_, _, rfl, rfl⟩⟩ (fun g hg => by cases hg) (by omega))
  clear hw hp ho hs
  go_enter Tryz.func96, Tryz.ntmps96
  go_wp2_with fail
  refine (HE.out w HW.out).mono ?_
  rintro e2 w3 ⟨rfl, l', hw3, ho3, k3⟩
  have HQ := Lib.hid (show RgEnds m p s w 0 v [] w3 from ⟨l', hw3, ho3, k3.mono (by simp), (HS.out _ [m] k3 (by simpa using hpm)).1⟩)
  clear hw3 ho3 k3
  go_wp2
  first | go_end0 | refine bodyPost_ret (results_none rfl _ _ _) rfl ?_
  exact ⟨rfl, HQ.out⟩
end Go.Proofs.YtekpfhlaohcgeaaGreat
