import Derived.Test.YtjbgkaleickknaaGreatRgW
import Derived.IntWalk
/-
  Contracts: what the functions of a ring's pushing and popping do (written by wip/tools/rggen.py).
-/
namespace Go.Proofs.YtjbgkaleickknaaGreat
set_option maxRecDepth 100000
set_option linter.unusedSimpArgs false
set_option linter.unusedVariables false
open Go.ChangeShapes Go.WideShapes Go.ChangeAt Go.RowKit

theorem rg_cells_push {m p : Nat} {at_ size hd sl fi tl : Int} {task : Int} {lk tr tk : Value} {e : TypeId} {w : World} (h : Row w p e (rgCells m at_ size hd sl fi tl lk tr tk [.int .u64 task])) : ∀ W S, Keeps S w W → p ∉ S →
    W.cell? ⟨p, 0, none⟩ = some (.pointer (some ⟨m, 0, none⟩)) ∧ W.cell? ⟨p, 1, none⟩ = some (.int .i64 at_) ∧ W.cell? ⟨p, 2, none⟩ = some (.int .i64 size) ∧ W.cell? ⟨p, 3, none⟩ = some (.int .u64 hd) ∧ W.cell? ⟨p, 4, none⟩ = some (.int .u32 sl) ∧ W.cell? ⟨p, 5, none⟩ = some (.int .u32 fi) ∧ W.cell? ⟨p, 6, none⟩ = some (.int .u32 tl) ∧ W.cell? ⟨p, 7, none⟩ = some lk ∧ W.cell? ⟨p, 8, none⟩ = some tr ∧ W.cell? ⟨p, 9, none⟩ = some tk ∧ W.cell? ⟨p, 10, none⟩ = some (.int .u64 task) := by
  intro W S hk hp
  have h := h.keeps hk hp
  exact ⟨h.cell (j := 0) rfl, h.cell (j := 1) rfl, h.cell (j := 2) rfl, h.cell (j := 3) rfl, h.cell (j := 4) rfl, h.cell (j := 5) rfl, h.cell (j := 6) rfl, h.cell (j := 7) rfl, h.cell (j := 8) rfl, h.cell (j := 9) rfl, h.cell (j := 10) rfl⟩
theorem rg_cells_pop {m p : Nat} {at_ size hd sl fi tl : Int}  {lk tr tk : Value} {e : TypeId} {w : World} (h : Row w p e (rgCells m at_ size hd sl fi tl lk tr tk [])) : ∀ W S, Keeps S w W → p ∉ S →
    W.cell? ⟨p, 0, none⟩ = some (.pointer (some ⟨m, 0, none⟩)) ∧ W.cell? ⟨p, 1, none⟩ = some (.int .i64 at_) ∧ W.cell? ⟨p, 2, none⟩ = some (.int .i64 size) ∧ W.cell? ⟨p, 3, none⟩ = some (.int .u64 hd) ∧ W.cell? ⟨p, 4, none⟩ = some (.int .u32 sl) ∧ W.cell? ⟨p, 5, none⟩ = some (.int .u32 fi) ∧ W.cell? ⟨p, 6, none⟩ = some (.int .u32 tl) ∧ W.cell? ⟨p, 7, none⟩ = some lk ∧ W.cell? ⟨p, 8, none⟩ = some tr ∧ W.cell? ⟨p, 9, none⟩ = some tk := by
  intro W S hk hp
  have h := h.keeps hk hp
  exact ⟨h.cell (j := 0) rfl, h.cell (j := 1) rfl, h.cell (j := 2) rfl, h.cell (j := 3) rfl, h.cell (j := 4) rfl, h.cell (j := 5) rfl, h.cell (j := 6) rfl, h.cell (j := 7) rfl, h.cell (j := 8) rfl, h.cell (j := 9) rfl⟩

set_option maxHeartbeats 1600000 in
theorem rgPushRoom (m p : Nat) (at_ size hd sl fi tl : Int) (task : Int) (lk tr tk : Value)  (e : TypeId) (s : WSt) (w : World) (hw : Wk w m s) (hp : Row w p e (rgCells m at_ size hd sl fi tl lk tr tk [.int .u64 task])) (hpm : p ≠ m) (ho : s.over = false) (hs : s.sub = none) (hr : dqRight at_ size)(t0 : 0 ≤ tl ∧ tl < 4294967296) (s0 : 0 ≤ sl ∧ sl < 4294967296) (f0 : 0 ≤ fi ∧ fi < 4294967296)(hA : M.aheadI tl sl < size) :
    Calls Tryz.prog 36 #[.pointer (some ⟨p, 0, none⟩)] w fun e' w' => e' = .returned (.tuple #[]) ∧ RgAsks m p e s w ⟨2, dqSlot at_ size tl, task, 0⟩ 60 (rgCells m at_ size hd sl fi tl lk tr tk [.int .u64 task]) w' := by
  have HP := Lib.hid hp
  have HS := Lib.hid (rg_cells_push hp)
  have HW := Lib.hid hw
  obtain ⟨h0, h1, h2, h3, h4, h5, h6, h7, h8, h9, h10⟩ := HS.out _ [] (Keeps.refl _ _) (by simp)
  have HE := Lib.hid (fun W (h : Wk W m s) c0 => rgStore_any m p (dqSlot at_ size tl) task (.func 60) #[.pointer (some ⟨p, 0, none⟩)] #[] s W h c0 ho hs)
  have HSl := Lib.hid (fun W => rgSlot_any at_ size tl W hr t0)
  have dA : decide (M.aheadI tl sl < size) = true := decide_eq_true hA
  clear hw hp ho hs
  go_enter Tryz.func36, Tryz.ntmps36
  go_wp2
  go_quiet ((go_at_call 31; exact qs (ahead_any _ _ _ t0.1 t0.2 s0.1 s0.2)))
  go_wp2_with fail
  generalize hV : World.drewN _ _ = W2
  have hkV : Keeps [] w W2 := by rw [← hV]; exact (Keeps.refl _ _).drewN
  obtain ⟨c0, c1, c2, c3, c4, c5, c6, c7, c8, c9, c10⟩ := HS.out W2 [] hkV (by simp)
  clear hV
  go_region_held3 (fun w' => w'.cell? ⟨p, 0, none⟩ = some (.pointer (some ⟨m, 0, none⟩)) ∧ w'.cell? ⟨p, 1, none⟩ = some (.int .i64 at_) ∧ w'.cell? ⟨p, 2, none⟩ = some (.int .i64 size) ∧ w'.cell? ⟨p, 3, none⟩ = some (.int .u64 hd) ∧ w'.cell? ⟨p, 4, none⟩ = some (.int .u32 sl) ∧ w'.cell? ⟨p, 5, none⟩ = some (.int .u32 fi) ∧ w'.cell? ⟨p, 6, none⟩ = some (.int .u32 tl) ∧ w'.cell? ⟨p, 7, none⟩ = some lk ∧ w'.cell? ⟨p, 8, none⟩ = some tr ∧ w'.cell? ⟨p, 9, none⟩ = some tk ∧ w'.cell? ⟨p, 10, none⟩ = some (.int .u64 task))
    (first
      | exact HS.out _ _ hk4 (by simpa using hpm)
      | exact HS.out _ _ hk3 (by simp)
      | exact HS.out _ _ hk2 (by simp)
      | exact ⟨by assumption, by assumption, by assumption, by assumption, by assumption, by assumption, by assumption, by assumption, by assumption, by assumption, by assumption⟩
      | fail)
    (first
      | (go_at_call 32; refine (HSl.out _).mono ?_; rintro e2 w2 ⟨rfl, k⟩; have hk2 : Keeps [] w w2 := hkV.trans k.undrew; clear k)
      | (go_at_call 59; refine (HE.out _ (HW.out.keeps hk2 (by simp)) (HS.out _ _ hk2 (by simp)).1).mono ?_; rintro e4 w4 ⟨rfl, hw4, k4⟩; have hk4 : Keeps [m] w w4 := (hk2.mono (by simp)).trans k4; clear k4)
      | fail)
  all_goals (try go_wp2)
  all_goals (first | go_end0 | refine bodyPost_ret (results_none rfl _ _ _) rfl ?_)
  all_goals exact ⟨rfl, hw4, HP.out.keeps hk4 (by simpa using hpm), hk4.mono (by simp)⟩

set_option maxHeartbeats 1600000 in
theorem rgPushBusy (m p : Nat) (at_ size hd sl fi tl : Int) (task : Int) (lk tr tk : Value)  (e : TypeId) (s : WSt) (w : World) (hw : Wk w m s) (hp : Row w p e (rgCells m at_ size hd sl fi tl lk tr tk [.int .u64 task])) (hpm : p ≠ m) (ho : s.over = false) (hs : s.sub = none) (t0 : 0 ≤ tl ∧ tl < 4294967296) (s0 : 0 ≤ sl ∧ sl < 4294967296) (f0 : 0 ≤ fi ∧ fi < 4294967296)(hA : ¬ M.aheadI tl sl < size) (hne : sl ≠ fi) (hu : 0 < s.under) :
    Calls Tryz.prog 36 #[.pointer (some ⟨p, 0, none⟩)] w fun e' w' => e' = .returned (.tuple #[]) ∧ RgEnds m p s w 8 0 [] w' := by
  have HP := Lib.hid hp
  have HS := Lib.hid (rg_cells_push hp)
  have HW := Lib.hid hw
  obtain ⟨h0, h1, h2, h3, h4, h5, h6, h7, h8, h9, h10⟩ := HS.out _ [] (Keeps.refl _ _) (by simp)
  have HE := Lib.hid (fun W h => wBreak m s 8 W h ho (.inl hu))
  have dA : decide (M.aheadI tl sl < size) = false := decide_eq_false hA
  have dB : (sl == fi) = false := beq_eq_false_iff_ne.2 hne
  clear hw hp ho hs
  go_enter Tryz.func36, Tryz.ntmps36
  go_wp2
  go_quiet ((go_at_call 31; exact qs (ahead_any _ _ _ t0.1 t0.2 s0.1 s0.2)))
  go_wp2_with fail
  generalize hV : World.drewN _ _ = W2
  have hkV : Keeps [] w W2 := by rw [← hV]; exact (Keeps.refl _ _).drewN
  obtain ⟨c0, c1, c2, c3, c4, c5, c6, c7, c8, c9, c10⟩ := HS.out W2 [] hkV (by simp)
  clear hV
  go_wp2
  go_quiet (fail)
  go_wp2_with fail
  generalize hV : World.drewN _ _ = W3
  have hkV3 : Keeps [] w W3 := by rw [← hV]; exact hkV.drewN
  clear hV
  refine (HE.out W3 (HW.out.keeps hkV3 (by simp))).mono ?_
  rintro e2 w3 ⟨rfl, l', hw3, ho3, k3⟩
  have HQ := Lib.hid (show RgEnds m p s w 8 0 [] w3 from ⟨l', hw3, owns_base ho3 hkV3.size, hkV3.nil.trans (k3.mono (by simp)), (HS.out _ [m] (hkV3.nil.trans k3) (by simpa using hpm)).1⟩)
  clear hw3 ho3 k3
  go_wp2
  (first | go_end0 | refine bodyPost_ret (results_none rfl _ _ _) rfl ?_)
  exact ⟨rfl, HQ.out⟩

set_option maxHeartbeats 1600000 in
theorem rgPushTurn (m p : Nat) (at_ size hd fi tl : Int) (task : Int) (lk tr tk : Value)  (e : TypeId) (s : WSt) (w : World) (hw : Wk w m s) (hp : Row w p e (rgCells m at_ size hd fi fi tl lk tr tk [.int .u64 task])) (hpm : p ≠ m) (ho : s.over = false) (hs : s.sub = none) (hr : dqRight at_ size)(t0 : 0 ≤ tl ∧ tl < 4294967296) (s0 : 0 ≤ fi ∧ fi < 4294967296) (f0 : 0 ≤ fi ∧ fi < 4294967296)(hA : ¬ M.aheadI tl fi < size) :
    Calls Tryz.prog 36 #[.pointer (some ⟨p, 0, none⟩)] w fun e' w' => e' = .returned (.tuple #[]) ∧ RgAsks m p e s w ⟨3, at_, hd, rgPair (rgAdd fi (size / 2)) (rgAdd fi (size / 2))⟩ 84 (rgCells m at_ size hd fi fi tl lk tr tk [.int .u64 task]) w' := by
  have HP := Lib.hid hp
  have HS := Lib.hid (rg_cells_push hp)
  have HW := Lib.hid hw
  obtain ⟨h0, h1, h2, h3, h4, h5, h6, h7, h8, h9, h10⟩ := HS.out _ [] (Keeps.refl _ _) (by simp)
  have hr1 : 2 ≤ size ∧ size ≤ 256 := by have := hr.1; omega
  have a0 : 0 ≤ at_ := hr.2.1
  have a1 : at_ < 65536 := by have := hr.2.2; omega
  have HE := Lib.hid (fun W (h : Wk W m s) h2 => rgTurn_any m p at_ size hd fi fi tl lk tr tk [.int .u64 task] e (rgAdd fi (size / 2)) (rgAdd fi (size / 2)) s W h h2 hpm ho hs (rgAdd_range _ _) (rgAdd_range _ _))
  have HH := Lib.hid (fun W => rgHalf_any at_ size W hr1.1 hr1.2)
  have hw1 : IntKind.u32.wrap (size / 2) = size / 2 := by show size / 2 % 4294967296 = size / 2; omega
  have hw2 : IntKind.u32.wrap (fi + size / 2) = rgAdd fi (size / 2) := rfl
  have dA : decide (M.aheadI tl fi < size) = false := decide_eq_false hA
  clear hw hp ho hs
  go_enter Tryz.func36, Tryz.ntmps36
  go_wp2
  go_quiet ((go_at_call 31; exact qs (ahead_any _ _ _ t0.1 t0.2 s0.1 s0.2)))
  go_wp2_with fail
  generalize hV : World.drewN _ _ = W2
  have hkV : Keeps [] w W2 := by rw [← hV]; exact (Keeps.refl _ _).drewN
  obtain ⟨c0, c1, c2, c3, c4, c5, c6, c7, c8, c9, c10⟩ := HS.out W2 [] hkV (by simp)
  clear hV
  go_wp2
  go_quiet (fail)
  go_wp2_with fail
  generalize hV : World.drewN _ _ = W3
  have hkV3 : Keeps [] w W3 := by rw [← hV]; exact hkV.drewN
  clear hV
  obtain ⟨d0, d1, d2, d3, d4, d5, d6, d7, d8, d9, d10⟩ := HS.out W3 [] hkV3 (by simp)
  go_region_held3 (fun w' => w'.cell? ⟨p, 0, none⟩ = some (.pointer (some ⟨m, 0, none⟩)) ∧ w'.cell? ⟨p, 1, none⟩ = some (.int .i64 at_) ∧ w'.cell? ⟨p, 2, none⟩ = some (.int .i64 size) ∧ w'.cell? ⟨p, 3, none⟩ = some (.int .u64 hd) ∧ w'.cell? ⟨p, 4, none⟩ = some (.int .u32 fi) ∧ w'.cell? ⟨p, 5, none⟩ = some (.int .u32 fi) ∧ w'.cell? ⟨p, 6, none⟩ = some (.int .u32 tl) ∧ w'.cell? ⟨p, 7, none⟩ = some lk ∧ w'.cell? ⟨p, 8, none⟩ = some tr ∧ w'.cell? ⟨p, 9, none⟩ = some tk ∧ w'.cell? ⟨p, 10, none⟩ = some (.int .u64 task))
    (first
      | exact HS.out _ _ hk4 (by simpa using hpm)
      | exact HS.out _ _ hk3 (by simp)
      | exact HS.out _ _ hk2 (by simp)
      | exact ⟨by assumption, by assumption, by assumption, by assumption, by assumption, by assumption, by assumption, by assumption, by assumption, by assumption, by assumption⟩
      | fail)
    (first
      | (go_at_call 61; refine (HH.out _).mono ?_; rintro e2 w2 ⟨rfl, k⟩; have hk2 : Keeps [] w w2 := hkV3.trans k.undrew; clear k)
      | fail)
  all_goals go_wp2_with fail
  all_goals (refine (HE.out _ (HW.out.keeps hk2 (by simp)) (HP.out.keeps hk2 (by simp))).mono ?_; rintro e5 w5 ⟨rfl, hQ⟩; have HQ := Lib.hid (hQ.from (hk2.mono (by simp))); clear hQ; go_wp2)
  all_goals (first | go_end0 | refine bodyPost_ret (results_none rfl _ _ _) rfl ?_)
  all_goals exact ⟨rfl, HQ.out⟩

set_option maxHeartbeats 1600000 in
theorem rgPushLaid (m p : Nat) (at_ size hd sl fi tl : Int) (task : Int) (lk tr tk : Value) (v : Int) (won : Bool) (e : TypeId) (s : WSt) (w : World) (hw : Wk w m s) (hp : Row w p e (rgCells m at_ size hd sl fi tl lk tr tk [.int .u64 task])) (hpm : p ≠ m) (ho : s.over = false) (hs : s.sub = none) (hr : dqRight at_ size)(t0 : 0 ≤ tl ∧ tl < 4294967296) :
    Calls Tryz.prog 60 #[.pointer (some ⟨p, 0, none⟩), .int .u64 v, .bool won] w fun e' w' => e' = .returned (.tuple #[]) ∧ RgAsks m p e s w ⟨2, at_ + 1, rgAdd tl 1, 0⟩ 82 (rgCells m at_ size hd sl fi tl lk tr tk [.int .u64 task]) w' := by
  have HP := Lib.hid hp
  have HS := Lib.hid (rg_cells_push hp)
  have HW := Lib.hid hw
  obtain ⟨h0, h1, h2, h3, h4, h5, h6, h7, h8, h9, h10⟩ := HS.out _ [] (Keeps.refl _ _) (by simp)
  have hr1 : 2 ≤ size ∧ size ≤ 256 := by have := hr.1; omega
  have a0 : 0 ≤ at_ := hr.2.1
  have a1 : at_ < 65536 := by have := hr.2.2; omega
  have HE := Lib.hid (fun W (h : Wk W m s) c0 => rgStore_any m p (at_ + 1) (rgAdd tl 1) (.func 82) #[.pointer (some ⟨p, 0, none⟩)] #[] s W h c0 ho hs)
  have HTl := Lib.hid (fun W => rgTail_any at_ size W a0 a1)
  have hwr : IntKind.u64.wrap (IntKind.u32.wrap (tl + 1)) = rgAdd tl 1 := by show ((tl + 1) % 4294967296) % 18446744073709551616 = (tl + 1) % 4294967296; omega
  clear hw hp ho hs
  go_enter Tryz.func60, Tryz.ntmps60
  have hkV : Keeps [] w w := Keeps.refl _ _
  go_wp2
  go_region_held3 (fun w' => w'.cell? ⟨p, 0, none⟩ = some (.pointer (some ⟨m, 0, none⟩)) ∧ w'.cell? ⟨p, 1, none⟩ = some (.int .i64 at_) ∧ w'.cell? ⟨p, 2, none⟩ = some (.int .i64 size) ∧ w'.cell? ⟨p, 3, none⟩ = some (.int .u64 hd) ∧ w'.cell? ⟨p, 4, none⟩ = some (.int .u32 sl) ∧ w'.cell? ⟨p, 5, none⟩ = some (.int .u32 fi) ∧ w'.cell? ⟨p, 6, none⟩ = some (.int .u32 tl) ∧ w'.cell? ⟨p, 7, none⟩ = some lk ∧ w'.cell? ⟨p, 8, none⟩ = some tr ∧ w'.cell? ⟨p, 9, none⟩ = some tk ∧ w'.cell? ⟨p, 10, none⟩ = some (.int .u64 task))
    (first
      | exact HS.out _ _ hk4 (by simpa using hpm)
      | exact HS.out _ _ hk3 (by simp)
      | exact HS.out _ _ hk2 (by simp)
      | exact ⟨by assumption, by assumption, by assumption, by assumption, by assumption, by assumption, by assumption, by assumption, by assumption, by assumption, by assumption⟩
      | fail)
    (first
      | (go_at_call 30; refine (HTl.out _).mono ?_; rintro e2 w2 ⟨rfl, k⟩; have hk2 : Keeps [] w w2 := hkV.trans k.undrew; clear k)
      | (go_at_call 59; refine (HE.out _ (HW.out.keeps hk2 (by simp)) (HS.out _ _ hk2 (by simp)).1).mono ?_; rintro e4 w4 ⟨rfl, hw4, k4⟩; have hk4 : Keeps [m] w w4 := (hk2.mono (by simp)).trans k4; clear k4)
      | fail)
  all_goals (try go_wp2)
  all_goals (first | go_end0 | refine bodyPost_ret (results_none rfl _ _ _) rfl ?_)
  all_goals exact ⟨rfl, hw4, HP.out.keeps hk4 (by simpa using hpm), hk4.mono (by simp)⟩

set_option maxHeartbeats 1600000 in
theorem rgPushFinish (m p : Nat) (at_ size hd sl fi tl : Int) (task : Int) (lk tr tk : Value) (v : Int) (won : Bool) (e : TypeId) (s : WSt) (w : World) (hw : Wk w m s) (hp : Row w p e (rgCells m at_ size hd sl fi tl lk tr tk [.int .u64 task])) (hpm : p ≠ m) (ho : s.over = false) (hs : s.sub = none) (hu : 0 < s.under) :
    Calls Tryz.prog 82 #[.pointer (some ⟨p, 0, none⟩), .int .u64 v, .bool won] w fun e' w' => e' = .returned (.tuple #[]) ∧ RgEnds m p s w 0 0 [] w' := by
  have HP := Lib.hid hp
  have HS := Lib.hid (rg_cells_push hp)
  have HW := Lib.hid hw
  obtain ⟨h0, h1, h2, h3, h4, h5, h6, h7, h8, h9, h10⟩ := HS.out _ [] (Keeps.refl _ _) (by simp)
  have HE := Lib.hid (fun W (h : Wk W m s) => wEnd m s 0 0 (.slice none 0 0) 0 [] W h ho (.inl hu) ⟨rfl, .inl ⟨_, _, rfl, rfl⟩⟩ (fun g hg => by cases hg) (by omega))
  clear hw hp ho hs
  go_enter Tryz.func82, Tryz.ntmps82
  go_wp2_with fail
  refine (HE.out w HW.out).mono ?_
  rintro e2 w3 ⟨rfl, l', hw3, ho3, k3⟩
  have HQ := Lib.hid (show RgEnds m p s w 0 0 [] w3 from ⟨l', hw3, ho3, k3.mono (by simp), (HS.out _ [m] k3 (by simpa using hpm)).1⟩)
  clear hw3 ho3 k3
  go_wp2
  (first | go_end0 | refine bodyPost_ret (results_none rfl _ _ _) rfl ?_)
  exact ⟨rfl, HQ.out⟩

set_option maxHeartbeats 1600000 in
theorem rgPushNext (m p : Nat) (at_ size hd sl fi tl : Int) (task : Int) (lk tr : Value) (q : Option Addr) (nt ct : Nat) (e : TypeId) (s : WSt) (w : World) (hw : Wk w m s) (hp : Row w p e (rgCells m at_ size hd sl fi tl lk tr (.slice q nt ct) [.int .u64 task])) (hpm : p ≠ m) (ho : s.over = false) (hs : s.sub = none) (hr : dqRight at_ size)(f0 : 0 ≤ fi ∧ fi < 4294967296)(hn : nt < 4294967296) :
    Calls Tryz.prog 37 #[.pointer (some ⟨p, 0, none⟩)] w fun e' w' => e' = .returned (.tuple #[]) ∧ RgAsks m p e s w ⟨1, dqSlot at_ size (rgAdd fi (nt : Int)), 0, 0⟩ 64 (rgCells m at_ size hd sl fi tl lk tr (.slice q nt ct) [.int .u64 task]) w' := by
  have HP := Lib.hid hp
  have HS := Lib.hid (rg_cells_push hp)
  have HW := Lib.hid hw
  obtain ⟨h0, h1, h2, h3, h4, h5, h6, h7, h8, h9, h10⟩ := HS.out _ [] (Keeps.refl _ _) (by simp)
  have HE := Lib.hid (fun W (h : Wk W m s) c0 => rgLoad_any m p (dqSlot at_ size (rgAdd fi (nt : Int))) (.func 64) #[.pointer (some ⟨p, 0, none⟩)] #[] s W h c0 ho hs)
  have HSl := Lib.hid (fun W => rgSlot_any at_ size (rgAdd fi (nt : Int)) W hr (rgAdd_range _ _))
  have HB := Lib.hid (fun W h => rgBehind_any m p nt ct at_ size hd sl fi tl lk tr q [.int .u64 task] e W h hn)
  clear hw hp ho hs
  go_enter Tryz.func37, Tryz.ntmps37
  have hkV : Keeps [] w w := Keeps.refl _ _
  go_wp2
  go_region_held3 (fun w' => w'.cell? ⟨p, 0, none⟩ = some (.pointer (some ⟨m, 0, none⟩)) ∧ w'.cell? ⟨p, 1, none⟩ = some (.int .i64 at_) ∧ w'.cell? ⟨p, 2, none⟩ = some (.int .i64 size) ∧ w'.cell? ⟨p, 3, none⟩ = some (.int .u64 hd) ∧ w'.cell? ⟨p, 4, none⟩ = some (.int .u32 sl) ∧ w'.cell? ⟨p, 5, none⟩ = some (.int .u32 fi) ∧ w'.cell? ⟨p, 6, none⟩ = some (.int .u32 tl) ∧ w'.cell? ⟨p, 7, none⟩ = some lk ∧ w'.cell? ⟨p, 8, none⟩ = some tr ∧ w'.cell? ⟨p, 9, none⟩ = some (.slice q nt ct) ∧ w'.cell? ⟨p, 10, none⟩ = some (.int .u64 task))
    (first
      | exact HS.out _ _ hk4 (by simpa using hpm)
      | exact HS.out _ _ hk3 (by simp)
      | exact HS.out _ _ hk2 (by simp)
      | exact ⟨by assumption, by assumption, by assumption, by assumption, by assumption, by assumption, by assumption, by assumption, by assumption, by assumption, by assumption⟩
      | fail)
    (first
      | (go_at_call 63; refine (HB.out _ (HP.out.keeps ((Keeps.refl [] w).drew) (by simp))).mono ?_; rintro e2 w2 ⟨rfl, k⟩; have hk2 : Keeps [] w w2 := hkV.trans k.undrew; clear k)
      | (go_at_call 32; refine (HSl.out _).mono ?_; rintro e2 w3 ⟨rfl, k⟩; have hk3 : Keeps [] w w3 := hk2.trans k; clear k)
      | (go_at_call 44; refine (HE.out _ (HW.out.keeps hk3 (by simp)) (HS.out _ _ hk3 (by simp)).1).mono ?_; rintro e4 w4 ⟨rfl, hw4, k4⟩; have hk4 : Keeps [m] w w4 := (hk3.mono (by simp)).trans k4; clear k4)
      | fail)
  all_goals (try go_wp2)
  all_goals (first | go_end0 | refine bodyPost_ret (results_none rfl _ _ _) rfl ?_)
  all_goals exact ⟨rfl, hw4, HP.out.keeps hk4 (by simpa using hpm), hk4.mono (by simp)⟩

set_option maxHeartbeats 1600000 in
theorem rgPopNone (m p : Nat) (at_ size hd sl fi tl : Int)  (lk tr tk : Value)  (e : TypeId) (s : WSt) (w : World) (hw : Wk w m s) (hp : Row w p e (rgCells m at_ size hd sl fi tl lk tr tk [])) (hpm : p ≠ m) (ho : s.over = false) (hs : s.sub = none) (t0 : 0 ≤ tl ∧ tl < 4294967296) (s0 : 0 ≤ sl ∧ sl < 4294967296) (f0 : 0 ≤ fi ∧ fi < 4294967296)(hA : M.aheadI tl fi < 1) (hu : 0 < s.under) :
    Calls Tryz.prog 47 #[.pointer (some ⟨p, 0, none⟩)] w fun e' w' => e' = .returned (.tuple #[]) ∧ RgEnds m p s w 5 0 [] w' := by
  have HP := Lib.hid hp
  have HS := Lib.hid (rg_cells_pop hp)
  have HW := Lib.hid hw
  obtain ⟨h0, h1, h2, h3, h4, h5, h6, h7, h8, h9⟩ := HS.out _ [] (Keeps.refl _ _) (by simp)
  have HE := Lib.hid (fun W h => wBreak m s 5 W h ho (.inl hu))
  have dA : decide (M.aheadI tl fi < 1) = true := decide_eq_true hA
  clear hw hp ho hs
  go_enter Tryz.func47, Tryz.ntmps47
  go_wp2
  go_quiet ((go_at_call 31; exact qs (ahead_any _ _ _ t0.1 t0.2 f0.1 f0.2)))
  go_wp2_with fail
  generalize hV : World.drewN _ _ = W2
  have hkV : Keeps [] w W2 := by rw [← hV]; exact (Keeps.refl _ _).drewN
  obtain ⟨c0, c1, c2, c3, c4, c5, c6, c7, c8, c9⟩ := HS.out W2 [] hkV (by simp)
  clear hV
  go_wp2_with fail
  refine (HE.out W2 (HW.out.keeps hkV (by simp))).mono ?_
  rintro e2 w3 ⟨rfl, l', hw3, ho3, k3⟩
  have HQ := Lib.hid (show RgEnds m p s w 5 0 [] w3 from ⟨l', hw3, owns_base ho3 (hkV).size, (hkV).nil.trans (k3.mono (by simp)), (HS.out _ [m] ((hkV).nil.trans k3) (by simpa using hpm)).1⟩)
  clear hw3 ho3 k3
  go_wp2
  first | go_end0 | refine bodyPost_ret (results_none rfl _ _ _) rfl ?_
  exact ⟨rfl, HQ.out⟩

set_option maxHeartbeats 1600000 in
theorem rgPopTurn (m p : Nat) (at_ size hd sl fi tl : Int)  (lk tr tk : Value)  (e : TypeId) (s : WSt) (w : World) (hw : Wk w m s) (hp : Row w p e (rgCells m at_ size hd sl fi tl lk tr tk [])) (hpm : p ≠ m) (ho : s.over = false) (hs : s.sub = none) (t0 : 0 ≤ tl ∧ tl < 4294967296) (s0 : 0 ≤ sl ∧ sl < 4294967296) (f0 : 0 ≤ fi ∧ fi < 4294967296)(hA : ¬ M.aheadI tl fi < 1) (hne : sl ≠ fi) :
    Calls Tryz.prog 47 #[.pointer (some ⟨p, 0, none⟩)] w fun e' w' => e' = .returned (.tuple #[]) ∧ RgAsks m p e s w ⟨3, at_, hd, rgPair sl (rgAdd fi 1)⟩ 84 (rgCells m at_ size hd sl fi tl lk tr tk []) w' := by
  have HP := Lib.hid hp
  have HS := Lib.hid (rg_cells_pop hp)
  have HW := Lib.hid hw
  obtain ⟨h0, h1, h2, h3, h4, h5, h6, h7, h8, h9⟩ := HS.out _ [] (Keeps.refl _ _) (by simp)
  have HE := Lib.hid (fun W (h : Wk W m s) h2 => rgTurn_any m p at_ size hd sl fi tl lk tr tk [] e sl (rgAdd fi 1) s W h h2 hpm ho hs s0 (rgAdd_range _ _))
  have dA : decide (M.aheadI tl fi < 1) = false := decide_eq_false hA
  have dB : (sl == fi) = false := beq_eq_false_iff_ne.2 hne
  have hw2 : IntKind.u32.wrap (fi + 1) = rgAdd fi 1 := rfl
  clear hw hp ho hs
  go_enter Tryz.func47, Tryz.ntmps47
  go_wp2
  go_quiet ((go_at_call 31; exact qs (ahead_any _ _ _ t0.1 t0.2 f0.1 f0.2)))
  go_wp2_with fail
  generalize hV : World.drewN _ _ = W2
  have hkV : Keeps [] w W2 := by rw [← hV]; exact (Keeps.refl _ _).drewN
  obtain ⟨c0, c1, c2, c3, c4, c5, c6, c7, c8, c9⟩ := HS.out W2 [] hkV (by simp)
  clear hV
  go_wp2_with fail
  go_still_tail 10, (by kernel_rfl)
  change wpList _ _ _ _ _ (W2).drew
  go_wp2_with fail
  refine (HE.out W2.drew (HW.out.keeps hkV.drew (by simp)) (HP.out.keeps hkV.drew (by simp))).mono ?_
  rintro e5 w5 ⟨rfl, hQ⟩
  have HQ := Lib.hid (hQ.from ((hkV.drew).mono (by simp)))
  clear hQ
  go_wp2
  first | go_end0 | refine bodyPost_ret (results_none rfl _ _ _) rfl ?_
  exact ⟨rfl, HQ.out⟩

set_option maxHeartbeats 1600000 in
theorem rgPopTurnAll (m p : Nat) (at_ size hd fi tl : Int)  (lk tr tk : Value)  (e : TypeId) (s : WSt) (w : World) (hw : Wk w m s) (hp : Row w p e (rgCells m at_ size hd fi fi tl lk tr tk [])) (hpm : p ≠ m) (ho : s.over = false) (hs : s.sub = none) (t0 : 0 ≤ tl ∧ tl < 4294967296) (s0 : 0 ≤ fi ∧ fi < 4294967296) (f0 : 0 ≤ fi ∧ fi < 4294967296)(hA : ¬ M.aheadI tl fi < 1) :
    Calls Tryz.prog 47 #[.pointer (some ⟨p, 0, none⟩)] w fun e' w' => e' = .returned (.tuple #[]) ∧ RgAsks m p e s w ⟨3, at_, hd, rgPair (rgAdd fi 1) (rgAdd fi 1)⟩ 84 (rgCells m at_ size hd fi fi tl lk tr tk []) w' := by
  have HP := Lib.hid hp
  have HS := Lib.hid (rg_cells_pop hp)
  have HW := Lib.hid hw
  obtain ⟨h0, h1, h2, h3, h4, h5, h6, h7, h8, h9⟩ := HS.out _ [] (Keeps.refl _ _) (by simp)
  have HE := Lib.hid (fun W (h : Wk W m s) h2 => rgTurn_any m p at_ size hd fi fi tl lk tr tk [] e (rgAdd fi 1) (rgAdd fi 1) s W h h2 hpm ho hs (rgAdd_range _ _) (rgAdd_range _ _))
  have dA : decide (M.aheadI tl fi < 1) = false := decide_eq_false hA
  have hw2 : IntKind.u32.wrap (fi + 1) = rgAdd fi 1 := rfl
  clear hw hp ho hs
  go_enter Tryz.func47, Tryz.ntmps47
  go_wp2
  go_quiet ((go_at_call 31; exact qs (ahead_any _ _ _ t0.1 t0.2 f0.1 f0.2)))
  go_wp2_with fail
  generalize hV : World.drewN _ _ = W2
  have hkV : Keeps [] w W2 := by rw [← hV]; exact (Keeps.refl _ _).drewN
  obtain ⟨c0, c1, c2, c3, c4, c5, c6, c7, c8, c9⟩ := HS.out W2 [] hkV (by simp)
  clear hV
  go_wp2_with fail
  go_still_tail 10, (by kernel_rfl)
  change wpList _ _ _ _ _ (W2).drew
  go_wp2_with fail
  refine (HE.out W2.drew (HW.out.keeps hkV.drew (by simp)) (HP.out.keeps hkV.drew (by simp))).mono ?_
  rintro e5 w5 ⟨rfl, hQ⟩
  have HQ := Lib.hid (hQ.from ((hkV.drew).mono (by simp)))
  clear hQ
  go_wp2
  first | go_end0 | refine bodyPost_ret (results_none rfl _ _ _) rfl ?_
  exact ⟨rfl, HQ.out⟩

set_option maxHeartbeats 1600000 in
theorem rgPopFirst (m p : Nat) (at_ size hd sl fi tl : Int)  (lk tr tk : Value)  (e : TypeId) (s : WSt) (w : World) (hw : Wk w m s) (hp : Row w p e (rgCells m at_ size hd sl fi tl lk tr tk [])) (hpm : p ≠ m) (ho : s.over = false) (hs : s.sub = none) (hr : dqRight at_ size)(f0 : 0 ≤ fi ∧ fi < 4294967296) :
    Calls Tryz.prog 48 #[.pointer (some ⟨p, 0, none⟩)] w fun e' w' => e' = .returned (.tuple #[]) ∧ RgAsks m p e s w ⟨1, dqSlot at_ size fi, 0, 0⟩ 73 (rgCells m at_ size hd sl fi tl lk tr tk []) w' := by
  have HP := Lib.hid hp
  have HS := Lib.hid (rg_cells_pop hp)
  have HW := Lib.hid hw
  obtain ⟨h0, h1, h2, h3, h4, h5, h6, h7, h8, h9⟩ := HS.out _ [] (Keeps.refl _ _) (by simp)
  have HE := Lib.hid (fun W (h : Wk W m s) c0 => rgLoad_any m p (dqSlot at_ size fi) (.func 73) #[.pointer (some ⟨p, 0, none⟩)] #[] s W h c0 ho hs)
  have HSl := Lib.hid (fun W => rgSlot_any at_ size fi W hr f0)
  clear hw hp ho hs
  go_enter Tryz.func48, Tryz.ntmps48
  have hkV : Keeps [] w w := Keeps.refl _ _
  go_wp2
  go_region_held3 (fun w' => w'.cell? ⟨p, 0, none⟩ = some (.pointer (some ⟨m, 0, none⟩)) ∧ w'.cell? ⟨p, 1, none⟩ = some (.int .i64 at_) ∧ w'.cell? ⟨p, 2, none⟩ = some (.int .i64 size) ∧ w'.cell? ⟨p, 3, none⟩ = some (.int .u64 hd) ∧ w'.cell? ⟨p, 4, none⟩ = some (.int .u32 sl) ∧ w'.cell? ⟨p, 5, none⟩ = some (.int .u32 fi) ∧ w'.cell? ⟨p, 6, none⟩ = some (.int .u32 tl) ∧ w'.cell? ⟨p, 7, none⟩ = some lk ∧ w'.cell? ⟨p, 8, none⟩ = some tr ∧ w'.cell? ⟨p, 9, none⟩ = some tk)
    (first
      | exact HS.out _ _ hk4 (by simpa using hpm)
      | exact HS.out _ _ hk3 (by simp)
      | exact HS.out _ _ hk2 (by simp)
      | exact ⟨by assumption, by assumption, by assumption, by assumption, by assumption, by assumption, by assumption, by assumption, by assumption, by assumption⟩
      | fail)
    (first
      | (go_at_call 32; refine (HSl.out _).mono ?_; rintro e2 w2 ⟨rfl, k⟩; have hk2 : Keeps [] w w2 := hkV.trans k.undrew; clear k)
      | (go_at_call 44; refine (HE.out _ (HW.out.keeps hk2 (by simp)) (HS.out _ _ hk2 (by simp)).1).mono ?_; rintro e4 w4 ⟨rfl, hw4, k4⟩; have hk4 : Keeps [m] w w4 := (hk2.mono (by simp)).trans k4; clear k4)
      | fail)
  all_goals (try go_wp2)
  all_goals (first | go_end0 | refine bodyPost_ret (results_none rfl _ _ _) rfl ?_)
  all_goals exact ⟨rfl, hw4, HP.out.keeps hk4 (by simpa using hpm), hk4.mono (by simp)⟩

set_option maxHeartbeats 1600000 in
theorem rgPopFinish (m p : Nat) (at_ size hd sl fi tl : Int)  (lk tr tk : Value) (v : Int) (won : Bool) (e : TypeId) (s : WSt) (w : World) (hw : Wk w m s) (hp : Row w p e (rgCells m at_ size hd sl fi tl lk tr tk [])) (hpm : p ≠ m) (ho : s.over = false) (hs : s.sub = none) (hu : 0 < s.under) :
    Calls Tryz.prog 73 #[.pointer (some ⟨p, 0, none⟩), .int .u64 v, .bool won] w fun e' w' => e' = .returned (.tuple #[]) ∧ RgEnds m p s w 0 v [] w' := by
  have HP := Lib.hid hp
  have HS := Lib.hid (rg_cells_pop hp)
  have HW := Lib.hid hw
  obtain ⟨h0, h1, h2, h3, h4, h5, h6, h7, h8, h9⟩ := HS.out _ [] (Keeps.refl _ _) (by simp)
  have HE := Lib.hid (fun W (h : Wk W m s) => wEnd m s 0 v (.slice none 0 0) 0 [] W h ho (.inl hu) ⟨rfl, .inl ⟨_, _, rfl, rfl⟩⟩ (fun g hg => by cases hg) (by omega))
  clear hw hp ho hs
  go_enter Tryz.func73, Tryz.ntmps73
  go_wp2_with fail
  refine (HE.out w HW.out).mono ?_
  rintro e2 w3 ⟨rfl, l', hw3, ho3, k3⟩
  have HQ := Lib.hid (show RgEnds m p s w 0 v [] w3 from ⟨l', hw3, ho3, k3.mono (by simp), (HS.out _ [m] k3 (by simpa using hpm)).1⟩)
  clear hw3 ho3 k3
  go_wp2
  first | go_end0 | refine bodyPost_ret (results_none rfl _ _ _) rfl ?_
  exact ⟨rfl, HQ.out⟩
end Go.Proofs.YtjbgkaleickknaaGreat

/-
  Contracts: what the functions of a ring's stealing do (written by wip/tools/rggen.py).
-/
namespace Go.Proofs.YtjbgkaleickknaaGreat
set_option maxRecDepth 100000
set_option linter.unusedSimpArgs false
set_option linter.unusedVariables false
open Go.ChangeShapes Go.WideShapes Go.ChangeAt Go.RowKit

theorem rg_cells_steal {m p : Nat} {at_ size hd sl fi tl : Int} {tat u n : Int} {lk tr tk : Value} {e : TypeId} {w : World} (h : Row w p e (rgCells m at_ size hd sl fi tl lk tr tk [.int .i64 tat, .int .i64 size, .int .u32 u, .int .i64 n])) : ∀ W S, Keeps S w W → p ∉ S →
    W.cell? ⟨p, 0, none⟩ = some (.pointer (some ⟨m, 0, none⟩)) ∧ W.cell? ⟨p, 1, none⟩ = some (.int .i64 at_) ∧ W.cell? ⟨p, 2, none⟩ = some (.int .i64 size) ∧ W.cell? ⟨p, 3, none⟩ = some (.int .u64 hd) ∧ W.cell? ⟨p, 4, none⟩ = some (.int .u32 sl) ∧ W.cell? ⟨p, 5, none⟩ = some (.int .u32 fi) ∧ W.cell? ⟨p, 6, none⟩ = some (.int .u32 tl) ∧ W.cell? ⟨p, 7, none⟩ = some lk ∧ W.cell? ⟨p, 8, none⟩ = some tr ∧ W.cell? ⟨p, 9, none⟩ = some tk ∧ W.cell? ⟨p, 10, none⟩ = some (.int .i64 tat) ∧ W.cell? ⟨p, 11, none⟩ = some (.int .i64 size) ∧ W.cell? ⟨p, 12, none⟩ = some (.int .u32 u) ∧ W.cell? ⟨p, 13, none⟩ = some (.int .i64 n) := by
  intro W S hk hp
  have h := h.keeps hk hp
  exact ⟨h.cell (j := 0) rfl, h.cell (j := 1) rfl, h.cell (j := 2) rfl, h.cell (j := 3) rfl, h.cell (j := 4) rfl, h.cell (j := 5) rfl, h.cell (j := 6) rfl, h.cell (j := 7) rfl, h.cell (j := 8) rfl, h.cell (j := 9) rfl, h.cell (j := 10) rfl, h.cell (j := 11) rfl, h.cell (j := 12) rfl, h.cell (j := 13) rfl⟩

set_option maxHeartbeats 1600000 in
theorem rgReadEnd (m p : Nat) (at_ size hd sl fi tl : Int) (tat u n : Int) (lk tr tk : Value) (v : Int) (won : Bool) (e : TypeId) (s : WSt) (w : World) (hw : Wk w m s) (hp : Row w p e (rgCells m at_ size hd sl fi tl lk tr tk [.int .i64 tat, .int .i64 size, .int .u32 u, .int .i64 n])) (hpm : p ≠ m) (ho : s.over = false) (hs : s.sub = none) (hv : M.U v) :
    Calls Tryz.prog 45 #[.pointer (some ⟨p, 0, none⟩), .int .u64 v, .bool won] w fun e' w' => e' = .returned (.tuple #[]) ∧ RgAsks m p e s w ⟨1, tat, 0, 0⟩ 72 (rgCells m at_ size hd sl fi tl lk tr tk [.int .i64 tat, .int .i64 size, .int .u32 (rgLo v), .int .i64 n]) w' := by
  have HP := Lib.hid hp
  have HS := Lib.hid (rg_cells_steal hp)
  have HW := Lib.hid hw
  obtain ⟨h0, h1, h2, h3, h4, h5, h6, h7, h8, h9, h10, h11, h12, h13⟩ := HS.out _ [] (Keeps.refl _ _) (by simp)
  have HSp : Hid (∀ W, Calls Tryz.prog 28 #[.int .u64 v] W fun e w' => e = .returned (.tuple #[.int .u32 (rgHi v), .int .u32 (rgLo v)]) ∧ W = w') := Lib.hid (fun W => split_any v W hv.nn hv)
  have HE := Lib.hid (fun W (h : Wk W m s) c0 => rgLoad_any m p tat (.func 72) #[.pointer (some ⟨p, 0, none⟩)] #[] s W h c0 ho hs)
  have f12 := hp.frozen 12
  obtain ⟨W4, hW4⟩ : ∃ W4, w.setCell ⟨p, 12, none⟩ (.int .u32 (rgLo v)) = W4 := ⟨_, rfl⟩
  have k4 : Keeps [p] w W4 := by rw [← hW4]; exact (Keeps.refl [p] w).setCell (fun _ => by simp) _
  have hp4 : Row W4 p e (rgCells m at_ size hd sl fi tl lk tr tk [.int .i64 tat, .int .i64 size, .int .u32 (rgLo v), .int .i64 n]) := by rw [← hW4]; exact hp.set 12 _
  have HP4 := Lib.hid hp4
  have HC4 := Lib.hid (rg_cells_steal hp4)
  have HW4 : Hid (Wk W4 m s) := Lib.hid (hw.keeps k4 (by simpa using Ne.symm hpm))
  have HK4 := Lib.hid k4
  obtain ⟨g0, g1, g2, g3, g4, g5, g6, g7, g8, g9, g10, g11, g12, g13⟩ := HC4.out _ [] (Keeps.refl _ _) (by simp)
  clear k4 hp4
  clear hw hp ho hs
  go_enter Tryz.func45, Tryz.ntmps45
  go_wp2_with (go_at_call 28; refine (HSp.out _).mono ?_; rintro e1 w1 ⟨rfl, rfl⟩)
  go_still_tail 10, (by kernel_rfl)
  change wpList _ _ _ _ _ (W4).drew
  go_wp2_with fail
  refine (HE.out W4.drew (HW4.out.keeps ((Keeps.refl [] W4).drew) (by simp)) (HC4.out _ _ ((Keeps.refl [] W4).drew) (by simp)).1).mono ?_
  rintro e4 w4 ⟨rfl, hw4, k4⟩
  have HQ := Lib.hid (⟨hw4, k4⟩ : _ ∧ Keeps [m] W4.drew w4)
  clear hw4 k4
  go_wp2
  first | go_end0 | refine bodyPost_ret (results_none rfl _ _ _) rfl ?_
  exact ⟨rfl, HQ.out.1, HP4.out.keeps HQ.out.2.undrew (by simpa using hpm), (HK4.out.mono (by simp)).trans (HQ.out.2.undrew.mono (by simp))⟩

set_option maxHeartbeats 1600000 in
theorem rgReadRoomNo (m p : Nat) (at_ size hd sl fi tl : Int) (tat u n : Int) (lk tr tk : Value) (v : Int) (won : Bool) (e : TypeId) (s : WSt) (w : World) (hw : Wk w m s) (hp : Row w p e (rgCells m at_ size hd sl fi tl lk tr tk [.int .i64 tat, .int .i64 size, .int .u32 u, .int .i64 n])) (hpm : p ≠ m) (ho : s.over = false) (hs : s.sub = none) (hr1 : 2 ≤ size ∧ size ≤ 256) (hv : M.U v)(u0 : 0 ≤ u ∧ u < 4294967296)(hA : size / 2 < M.aheadI u (rgHi v)) (hu : 0 < s.under) :
    Calls Tryz.prog 72 #[.pointer (some ⟨p, 0, none⟩), .int .u64 v, .bool won] w fun e' w' => e' = .returned (.tuple #[]) ∧ RgEnds m p s w 4 0 [] w' := by
  have HP := Lib.hid hp
  have HS := Lib.hid (rg_cells_steal hp)
  have HW := Lib.hid hw
  obtain ⟨h0, h1, h2, h3, h4, h5, h6, h7, h8, h9, h10, h11, h12, h13⟩ := HS.out _ [] (Keeps.refl _ _) (by simp)
  have HSp : Hid (∀ W, Calls Tryz.prog 28 #[.int .u64 v] W fun e w' => e = .returned (.tuple #[.int .u32 (rgHi v), .int .u32 (rgLo v)]) ∧ W = w') := Lib.hid (fun W => split_any v W hv.nn hv)
  have HH := Lib.hid (fun W => rgHalf_any at_ size W hr1.1 hr1.2)
  have hhv := rgHi_range hv
  have HA := Lib.hid (fun W => ahead_any u (rgHi v) W u0.1 u0.2 hhv.1 hhv.2)
  have HE := Lib.hid (fun W h => wBreak m s 4 W h ho (.inl hu))
  have dA : decide (size / 2 < M.aheadI u (rgHi v)) = true := decide_eq_true hA
  clear hw hp ho hs
  go_enter Tryz.func72, Tryz.ntmps72
  go_wp2_with (go_at_call 28; refine (HSp.out _).mono ?_; rintro e1 w1 ⟨rfl, rfl⟩)
  have hkV : Keeps [] w w := Keeps.refl _ _
  go_region_held3 (fun w' => w'.cell? ⟨p, 0, none⟩ = some (.pointer (some ⟨m, 0, none⟩)) ∧ w'.cell? ⟨p, 1, none⟩ = some (.int .i64 at_) ∧ w'.cell? ⟨p, 2, none⟩ = some (.int .i64 size) ∧ w'.cell? ⟨p, 3, none⟩ = some (.int .u64 hd) ∧ w'.cell? ⟨p, 4, none⟩ = some (.int .u32 sl) ∧ w'.cell? ⟨p, 5, none⟩ = some (.int .u32 fi) ∧ w'.cell? ⟨p, 6, none⟩ = some (.int .u32 tl) ∧ w'.cell? ⟨p, 7, none⟩ = some lk ∧ w'.cell? ⟨p, 8, none⟩ = some tr ∧ w'.cell? ⟨p, 9, none⟩ = some tk ∧ w'.cell? ⟨p, 10, none⟩ = some (.int .i64 tat) ∧ w'.cell? ⟨p, 11, none⟩ = some (.int .i64 size) ∧ w'.cell? ⟨p, 12, none⟩ = some (.int .u32 u) ∧ w'.cell? ⟨p, 13, none⟩ = some (.int .i64 n))
    (first
      | exact HS.out _ _ hk4 (by simpa using hpm)
      | exact HS.out _ _ hk3 (by simp)
      | exact HS.out _ _ hk2 (by simp)
      | exact ⟨by assumption, by assumption, by assumption, by assumption, by assumption, by assumption, by assumption, by assumption, by assumption, by assumption, by assumption, by assumption, by assumption, by assumption⟩
      | fail)
    (first
      | (go_at_call 31; refine (HA.out _).mono ?_; rintro e1 w1 ⟨rfl, rfl⟩)
      | (go_at_call 61; refine (HH.out _).mono ?_; rintro e2 w2 ⟨rfl, k⟩; have hk2 : Keeps [] w w2 := hkV.trans k.undrew; clear k)
      | fail)
  all_goals go_wp2_with fail
  all_goals (
    refine (HE.out _ (HW.out.keeps hk2 (by simp))).mono ?_
    rintro e2 w3 ⟨rfl, l', hw3, ho3, k3⟩
    have HQ := Lib.hid (show RgEnds m p s w 4 0 [] w3 from ⟨l', hw3, owns_base ho3 (hk2).size, (hk2).nil.trans (k3.mono (by simp)), (HS.out _ [m] ((hk2).nil.trans k3) (by simpa using hpm)).1⟩)
    clear hw3 ho3 k3
    go_wp2
    first | go_end0 | refine bodyPost_ret (results_none rfl _ _ _) rfl ?_
    exact ⟨rfl, HQ.out⟩)

set_option maxHeartbeats 1600000 in
theorem rgReadRoom (m p : Nat) (at_ size hd sl fi tl : Int) (tat u n : Int) (lk tr tk : Value) (v : Int) (won : Bool) (e : TypeId) (s : WSt) (w : World) (hw : Wk w m s) (hp : Row w p e (rgCells m at_ size hd sl fi tl lk tr tk [.int .i64 tat, .int .i64 size, .int .u32 u, .int .i64 n])) (hpm : p ≠ m) (ho : s.over = false) (hs : s.sub = none) (hr1 : 2 ≤ size ∧ size ≤ 256) (hv : M.U v)(u0 : 0 ≤ u ∧ u < 4294967296)(hA : ¬ size / 2 < M.aheadI u (rgHi v)) :
    Calls Tryz.prog 72 #[.pointer (some ⟨p, 0, none⟩), .int .u64 v, .bool won] w fun e' w' => e' = .returned (.tuple #[]) ∧ RgAsks m p e s w ⟨1, at_, 0, 0⟩ 69 (rgCells m at_ size hd sl fi tl lk tr tk [.int .i64 tat, .int .i64 size, .int .u32 u, .int .i64 n]) w' := by
  have HP := Lib.hid hp
  have HS := Lib.hid (rg_cells_steal hp)
  have HW := Lib.hid hw
  obtain ⟨h0, h1, h2, h3, h4, h5, h6, h7, h8, h9, h10, h11, h12, h13⟩ := HS.out _ [] (Keeps.refl _ _) (by simp)
  have HSp : Hid (∀ W, Calls Tryz.prog 28 #[.int .u64 v] W fun e w' => e = .returned (.tuple #[.int .u32 (rgHi v), .int .u32 (rgLo v)]) ∧ W = w') := Lib.hid (fun W => split_any v W hv.nn hv)
  have HH := Lib.hid (fun W => rgHalf_any at_ size W hr1.1 hr1.2)
  have hhv := rgHi_range hv
  have HA := Lib.hid (fun W => ahead_any u (rgHi v) W u0.1 u0.2 hhv.1 hhv.2)
  have HE := Lib.hid (fun W h h' => rgBegin_any m p at_ size hd sl fi tl lk tr tk [.int .i64 tat, .int .i64 size, .int .u32 u, .int .i64 n] e s W h h' hpm ho hs)
  have dA : decide (size / 2 < M.aheadI u (rgHi v)) = false := decide_eq_false hA
  clear hw hp ho hs
  go_enter Tryz.func72, Tryz.ntmps72
  go_wp2_with (go_at_call 28; refine (HSp.out _).mono ?_; rintro e1 w1 ⟨rfl, rfl⟩)
  have hkV : Keeps [] w w := Keeps.refl _ _
  go_region_held3 (fun w' => w'.cell? ⟨p, 0, none⟩ = some (.pointer (some ⟨m, 0, none⟩)) ∧ w'.cell? ⟨p, 1, none⟩ = some (.int .i64 at_) ∧ w'.cell? ⟨p, 2, none⟩ = some (.int .i64 size) ∧ w'.cell? ⟨p, 3, none⟩ = some (.int .u64 hd) ∧ w'.cell? ⟨p, 4, none⟩ = some (.int .u32 sl) ∧ w'.cell? ⟨p, 5, none⟩ = some (.int .u32 fi) ∧ w'.cell? ⟨p, 6, none⟩ = some (.int .u32 tl) ∧ w'.cell? ⟨p, 7, none⟩ = some lk ∧ w'.cell? ⟨p, 8, none⟩ = some tr ∧ w'.cell? ⟨p, 9, none⟩ = some tk ∧ w'.cell? ⟨p, 10, none⟩ = some (.int .i64 tat) ∧ w'.cell? ⟨p, 11, none⟩ = some (.int .i64 size) ∧ w'.cell? ⟨p, 12, none⟩ = some (.int .u32 u) ∧ w'.cell? ⟨p, 13, none⟩ = some (.int .i64 n))
    (first
      | exact HS.out _ _ hk4 (by simpa using hpm)
      | exact HS.out _ _ hk3 (by simp)
      | exact HS.out _ _ hk2 (by simp)
      | exact ⟨by assumption, by assumption, by assumption, by assumption, by assumption, by assumption, by assumption, by assumption, by assumption, by assumption, by assumption, by assumption, by assumption, by assumption⟩
      | fail)
    (first
      | (go_at_call 31; refine (HA.out _).mono ?_; rintro e1 w1 ⟨rfl, rfl⟩)
      | (go_at_call 61; refine (HH.out _).mono ?_; rintro e2 w2 ⟨rfl, k⟩; have hk2 : Keeps [] w w2 := hkV.trans k.undrew; clear k)
      | fail)
  all_goals go_wp2_with fail
  all_goals (
    refine (HE.out _ (HW.out.keeps hk2 (by simp)) (HP.out.keeps hk2 (by simp))).mono ?_
    rintro e5 w5 ⟨rfl, hQ⟩
    have HQ := Lib.hid (hQ.from ((hk2).mono (by simp)))
    clear hQ
    go_wp2
    first | go_end0 | refine bodyPost_ret (results_none rfl _ _ _) rfl ?_
    exact ⟨rfl, HQ.out⟩)

set_option maxHeartbeats 1600000 in
theorem rgClaimBusy (m p : Nat) (at_ size hd sl fi tl : Int) (tat u n : Int) (lk tr tk : Value)  (e : TypeId) (s : WSt) (w : World) (hw : Wk w m s) (hp : Row w p e (rgCells m at_ size hd sl fi tl lk tr tk [.int .i64 tat, .int .i64 size, .int .u32 u, .int .i64 n])) (hpm : p ≠ m) (ho : s.over = false) (hs : s.sub = none) (t0 : 0 ≤ tl ∧ tl < 4294967296) (s0 : 0 ≤ sl ∧ sl < 4294967296) (f0 : 0 ≤ fi ∧ fi < 4294967296)(hne : sl ≠ fi) (hu : 0 < s.under) :
    Calls Tryz.prog 42 #[.pointer (some ⟨p, 0, none⟩)] w fun e' w' => e' = .returned (.tuple #[]) ∧ RgEnds m p s w 8 0 [] w' := by
  have HP := Lib.hid hp
  have HS := Lib.hid (rg_cells_steal hp)
  have HW := Lib.hid hw
  obtain ⟨h0, h1, h2, h3, h4, h5, h6, h7, h8, h9, h10, h11, h12, h13⟩ := HS.out _ [] (Keeps.refl _ _) (by simp)
  have HE := Lib.hid (fun W h => wBreak m s 8 W h ho (.inl hu))
  have dB : (sl == fi) = false := beq_eq_false_iff_ne.2 hne
  clear hw hp ho hs
  go_enter Tryz.func42, Tryz.ntmps42
  go_wp2
  go_quiet ((go_at_call 31; exact qs (ahead_any _ _ _ t0.1 t0.2 f0.1 f0.2)))
  go_wp2_with fail
  generalize hV : World.drewN _ _ = W2
  have hkV : Keeps [] w W2 := by rw [← hV]; exact (Keeps.refl _ _).drewN
  obtain ⟨c0, c1, c2, c3, c4, c5, c6, c7, c8, c9, c10, c11, c12, c13⟩ := HS.out W2 [] hkV (by simp)
  clear hV
  go_wp2
  go_quiet (fail)
  go_wp2_with fail
  generalize hV : World.drewN _ _ = W3
  have hkV3 : Keeps [] w W3 := by rw [← hV]; exact hkV.drewN
  clear hV
  refine (HE.out W3 (HW.out.keeps hkV3 (by simp))).mono ?_
  rintro e2 w3 ⟨rfl, l', hw3, ho3, k3⟩
  have HQ := Lib.hid (show RgEnds m p s w 8 0 [] w3 from ⟨l', hw3, owns_base ho3 (hkV3).size, (hkV3).nil.trans (k3.mono (by simp)), (HS.out _ [m] ((hkV3).nil.trans k3) (by simpa using hpm)).1⟩)
  clear hw3 ho3 k3
  go_wp2
  first | go_end0 | refine bodyPost_ret (results_none rfl _ _ _) rfl ?_
  exact ⟨rfl, HQ.out⟩

set_option maxHeartbeats 1600000 in
theorem rgClaimAgain (m p : Nat) (at_ size hd fi tl : Int) (tat u n : Int) (lk tr tk : Value)  (e : TypeId) (s : WSt) (w : World) (hw : Wk w m s) (hp : Row w p e (rgCells m at_ size hd fi fi tl lk tr tk [.int .i64 tat, .int .i64 size, .int .u32 u, .int .i64 n])) (hpm : p ≠ m) (ho : s.over = false) (hs : s.sub = none) (t0 : 0 ≤ tl ∧ tl < 4294967296) (s0 : 0 ≤ fi ∧ fi < 4294967296) (f0 : 0 ≤ fi ∧ fi < 4294967296)(hA : size < M.aheadI tl fi) :
    Calls Tryz.prog 42 #[.pointer (some ⟨p, 0, none⟩)] w fun e' w' => e' = .returned (.tuple #[]) ∧ RgAsks m p e s w ⟨1, at_, 0, 0⟩ 69 (rgCells m at_ size hd fi fi tl lk tr tk [.int .i64 tat, .int .i64 size, .int .u32 u, .int .i64 n]) w' := by
  have HP := Lib.hid hp
  have HS := Lib.hid (rg_cells_steal hp)
  have HW := Lib.hid hw
  obtain ⟨h0, h1, h2, h3, h4, h5, h6, h7, h8, h9, h10, h11, h12, h13⟩ := HS.out _ [] (Keeps.refl _ _) (by simp)
  have HE := Lib.hid (fun W h h' => rgBegin_any m p at_ size hd fi fi tl lk tr tk [.int .i64 tat, .int .i64 size, .int .u32 u, .int .i64 n] e s W h h' hpm ho hs)
  have dA : decide (size < M.aheadI tl fi) = true := decide_eq_true hA
  clear hw hp ho hs
  go_enter Tryz.func42, Tryz.ntmps42
  go_wp2
  go_quiet ((go_at_call 31; exact qs (ahead_any _ _ _ t0.1 t0.2 f0.1 f0.2)))
  go_wp2_with fail
  generalize hV : World.drewN _ _ = W2
  have hkV : Keeps [] w W2 := by rw [← hV]; exact (Keeps.refl _ _).drewN
  obtain ⟨c0, c1, c2, c3, c4, c5, c6, c7, c8, c9, c10, c11, c12, c13⟩ := HS.out W2 [] hkV (by simp)
  clear hV
  go_wp2
  go_quiet (fail)
  generalize hV : World.drewN _ _ = W3
  have hkV3 : Keeps [] w W3 := by rw [← hV]; exact hkV.drewN
  clear hV
  obtain ⟨d0, d1, d2, d3, d4, d5, d6, d7, d8, d9, d10, d11, d12, d13⟩ := HS.out W3 [] hkV3 (by simp)
  go_wp2_with fail
  refine (HE.out W3 (HW.out.keeps hkV3 (by simp)) (HP.out.keeps hkV3 (by simp))).mono ?_
  rintro e5 w5 ⟨rfl, hQ⟩
  have HQ := Lib.hid (hQ.from ((hkV3).mono (by simp)))
  clear hQ
  go_wp2
  first | go_end0 | refine bodyPost_ret (results_none rfl _ _ _) rfl ?_
  exact ⟨rfl, HQ.out⟩

set_option maxHeartbeats 1600000 in
theorem rgClaimNone (m p : Nat) (at_ size hd fi tl : Int) (tat u n : Int) (lk tr tk : Value)  (e : TypeId) (s : WSt) (w : World) (hw : Wk w m s) (hp : Row w p e (rgCells m at_ size hd fi fi tl lk tr tk [.int .i64 tat, .int .i64 size, .int .u32 u, .int .i64 n])) (hpm : p ≠ m) (ho : s.over = false) (hs : s.sub = none) (t0 : 0 ≤ tl ∧ tl < 4294967296) (s0 : 0 ≤ fi ∧ fi < 4294967296) (f0 : 0 ≤ fi ∧ fi < 4294967296)(hA : M.aheadI tl fi < 1) (hsz : 1 ≤ size) (hu : 0 < s.under) :
    Calls Tryz.prog 42 #[.pointer (some ⟨p, 0, none⟩)] w fun e' w' => e' = .returned (.tuple #[]) ∧ RgEnds m p s w 5 0 [] w' := by
  have HP := Lib.hid hp
  have HS := Lib.hid (rg_cells_steal hp)
  have HW := Lib.hid hw
  obtain ⟨h0, h1, h2, h3, h4, h5, h6, h7, h8, h9, h10, h11, h12, h13⟩ := HS.out _ [] (Keeps.refl _ _) (by simp)
  have HE := Lib.hid (fun W h => wBreak m s 5 W h ho (.inl hu))
  have dA : decide (size < M.aheadI tl fi) = false := decide_eq_false (by omega)
  have dC : decide (rgCount (M.aheadI tl fi) < 1) = true := decide_eq_true (rgCount_less hA)
  obtain ⟨hw1, hw2⟩ := rgCount_wrap (M.aheadI tl fi) (M.ahead_lo tl fi) (M.ahead_hi tl fi)
  clear hw hp ho hs
  go_enter Tryz.func42, Tryz.ntmps42
  go_wp2
  go_quiet ((go_at_call 31; exact qs (ahead_any _ _ _ t0.1 t0.2 f0.1 f0.2)))
  go_wp2_with fail
  generalize hV : World.drewN _ _ = W2
  have hkV : Keeps [] w W2 := by rw [← hV]; exact (Keeps.refl _ _).drewN
  obtain ⟨c0, c1, c2, c3, c4, c5, c6, c7, c8, c9, c10, c11, c12, c13⟩ := HS.out W2 [] hkV (by simp)
  clear hV
  go_wp2
  go_quiet (fail)
  generalize hV : World.drewN _ _ = W3
  have hkV3 : Keeps [] w W3 := by rw [← hV]; exact hkV.drewN
  clear hV
  obtain ⟨d0, d1, d2, d3, d4, d5, d6, d7, d8, d9, d10, d11, d12, d13⟩ := HS.out W3 [] hkV3 (by simp)
  have hp3 := HP.out.keeps hkV3 (by simp)
  have f13 := hp3.frozen 13
  obtain ⟨W4, hW4⟩ : ∃ W4, W3.setCell ⟨p, 13, none⟩ (.int .i64 (rgCount (M.aheadI tl fi))) = W4 := ⟨_, rfl⟩
  have k4 : Keeps [p] W3 W4 := by rw [← hW4]; exact (Keeps.refl [p] W3).setCell (fun _ => by simp) _
  have hp4 : Row W4 p e (rgCells m at_ size hd fi fi tl lk tr tk [.int .i64 tat, .int .i64 size, .int .u32 u, .int .i64 (rgCount (M.aheadI tl fi))]) := by rw [← hW4]; exact hp3.set 13 _
  have HP4 := Lib.hid hp4
  have HC4 := Lib.hid (rg_cells_steal hp4)
  have HW4 : Hid (Wk W4 m s) := Lib.hid ((HW.out.keeps hkV3 (by simp)).keeps k4 (by simpa using Ne.symm hpm))
  have HK4 : Hid (Keeps [m, p] w W4) := Lib.hid (hkV3.nil.trans (k4.mono (by simp)))
  obtain ⟨g0, g1, g2, g3, g4, g5, g6, g7, g8, g9, g10, g11, g12, g13⟩ := HC4.out _ [] (Keeps.refl _ _) (by simp)
  clear k4 hp4 hp3
  go_wp2_with fail
  clear hW4
  refine (HE.out W4 HW4.out).mono ?_
  rintro e2 w3 ⟨rfl, l', hw3, ho3, k3⟩
  have HQ := Lib.hid (show RgEnds m p s w 5 0 [] w3 from ⟨l', hw3, owns_base ho3 HK4.out.size, HK4.out.trans (k3.mono (by simp)), (HC4.out _ [m] k3 (by simpa using hpm)).1⟩)
  clear hw3 ho3 k3
  go_wp2
  first | go_end0 | refine bodyPost_ret (results_none rfl _ _ _) rfl ?_
  exact ⟨rfl, HQ.out⟩

set_option maxHeartbeats 1600000 in
theorem rgClaimTurn (m p : Nat) (at_ size hd fi tl : Int) (tat u n : Int) (lk tr tk : Value)  (e : TypeId) (s : WSt) (w : World) (hw : Wk w m s) (hp : Row w p e (rgCells m at_ size hd fi fi tl lk tr tk [.int .i64 tat, .int .i64 size, .int .u32 u, .int .i64 n])) (hpm : p ≠ m) (ho : s.over = false) (hs : s.sub = none) (t0 : 0 ≤ tl ∧ tl < 4294967296) (s0 : 0 ≤ fi ∧ fi < 4294967296) (f0 : 0 ≤ fi ∧ fi < 4294967296)(hA : 1 ≤ M.aheadI tl fi) (hB : M.aheadI tl fi ≤ size) (hs2 : size ≤ 256) :
    Calls Tryz.prog 42 #[.pointer (some ⟨p, 0, none⟩)] w fun e' w' => e' = .returned (.tuple #[]) ∧ RgAsks m p e s w ⟨3, at_, hd, rgPair fi (rgAdd fi (rgCount (M.aheadI tl fi)))⟩ 84 (rgCells m at_ size hd fi fi tl lk tr tk [.int .i64 tat, .int .i64 size, .int .u32 u, .int .i64 (rgCount (M.aheadI tl fi))]) w' := by
  have HP := Lib.hid hp
  have HS := Lib.hid (rg_cells_steal hp)
  have HW := Lib.hid hw
  obtain ⟨h0, h1, h2, h3, h4, h5, h6, h7, h8, h9, h10, h11, h12, h13⟩ := HS.out _ [] (Keeps.refl _ _) (by simp)
  have HE := Lib.hid (fun W (h : Wk W m s) h2 => rgTurn_any m p at_ size hd fi fi tl lk tr tk [.int .i64 tat, .int .i64 size, .int .u32 u, .int .i64 (rgCount (M.aheadI tl fi))] e fi (rgAdd fi (rgCount (M.aheadI tl fi))) s W h h2 hpm ho hs s0 (rgAdd_range _ _))
  have dA : decide (size < M.aheadI tl fi) = false := decide_eq_false (by omega)
  have hc1 : 1 ≤ rgCount (M.aheadI tl fi) ∧ rgCount (M.aheadI tl fi) ≤ 256 := by rw [rgCount_small hA]; omega
  have dC : decide (rgCount (M.aheadI tl fi) < 1) = false := decide_eq_false (by omega)
  have hw3 : IntKind.u32.wrap (rgCount (M.aheadI tl fi)) = rgCount (M.aheadI tl fi) := by show rgCount (M.aheadI tl fi) % 4294967296 = _; omega
  have hw4 : IntKind.u32.wrap (fi + rgCount (M.aheadI tl fi)) = rgAdd fi (rgCount (M.aheadI tl fi)) := rfl
  obtain ⟨hw1, hw2⟩ := rgCount_wrap (M.aheadI tl fi) (M.ahead_lo tl fi) (M.ahead_hi tl fi)
  clear hA hB hc1
  clear hw hp ho hs
  go_enter Tryz.func42, Tryz.ntmps42
  go_wp2
  go_quiet ((go_at_call 31; exact qs (ahead_any _ _ _ t0.1 t0.2 f0.1 f0.2)))
  go_wp2_with fail
  generalize hV : World.drewN _ _ = W2
  have hkV : Keeps [] w W2 := by rw [← hV]; exact (Keeps.refl _ _).drewN
  obtain ⟨c0, c1, c2, c3, c4, c5, c6, c7, c8, c9, c10, c11, c12, c13⟩ := HS.out W2 [] hkV (by simp)
  clear hV
  go_wp2
  go_quiet (fail)
  generalize hV : World.drewN _ _ = W3
  have hkV3 : Keeps [] w W3 := by rw [← hV]; exact hkV.drewN
  clear hV
  obtain ⟨d0, d1, d2, d3, d4, d5, d6, d7, d8, d9, d10, d11, d12, d13⟩ := HS.out W3 [] hkV3 (by simp)
  have hp3 := HP.out.keeps hkV3 (by simp)
  have f13 := hp3.frozen 13
  obtain ⟨W4, hW4⟩ : ∃ W4, W3.setCell ⟨p, 13, none⟩ (.int .i64 (rgCount (M.aheadI tl fi))) = W4 := ⟨_, rfl⟩
  have k4 : Keeps [p] W3 W4 := by rw [← hW4]; exact (Keeps.refl [p] W3).setCell (fun _ => by simp) _
  have hp4 : Row W4 p e (rgCells m at_ size hd fi fi tl lk tr tk [.int .i64 tat, .int .i64 size, .int .u32 u, .int .i64 (rgCount (M.aheadI tl fi))]) := by rw [← hW4]; exact hp3.set 13 _
  have HP4 := Lib.hid hp4
  have HC4 := Lib.hid (rg_cells_steal hp4)
  have HW4 : Hid (Wk W4 m s) := Lib.hid ((HW.out.keeps hkV3 (by simp)).keeps k4 (by simpa using Ne.symm hpm))
  have HK4 : Hid (Keeps [m, p] w W4) := Lib.hid (hkV3.nil.trans (k4.mono (by simp)))
  obtain ⟨g0, g1, g2, g3, g4, g5, g6, g7, g8, g9, g10, g11, g12, g13⟩ := HC4.out _ [] (Keeps.refl _ _) (by simp)
  clear k4 hp4 hp3
  go_wp2_with fail
  clear hW4
  go_still_tail 19, (by kernel_rfl)
  change wpList _ _ _ _ _ (W4).drew
  go_wp2_with fail
  refine (HE.out W4.drew (HW4.out.keeps (Keeps.refl [] W4).drew (by simp)) (HP4.out.keeps (Keeps.refl [] W4).drew (by simp))).mono ?_
  rintro e5 w5 ⟨rfl, hQ⟩
  have HQ := Lib.hid (hQ.from HK4.out.drew)
  clear hQ
  go_wp2
  first | go_end0 | refine bodyPost_ret (results_none rfl _ _ _) rfl ?_
  exact ⟨rfl, HQ.out⟩

set_option maxHeartbeats 1600000 in
theorem rgStealNext (m p : Nat) (at_ size hd sl fi tl : Int) (tat u n : Int) (lk tr : Value) (q : Option Addr) (nt ct : Nat) (e : TypeId) (s : WSt) (w : World) (hw : Wk w m s) (hp : Row w p e (rgCells m at_ size hd sl fi tl lk tr (.slice q nt ct) [.int .i64 tat, .int .i64 size, .int .u32 u, .int .i64 n])) (hpm : p ≠ m) (ho : s.over = false) (hs : s.sub = none) (hr : dqRight at_ size)(f0 : 0 ≤ fi ∧ fi < 4294967296)(hn : nt < 4294967296) :
    Calls Tryz.prog 43 #[.pointer (some ⟨p, 0, none⟩)] w fun e' w' => e' = .returned (.tuple #[]) ∧ RgAsks m p e s w ⟨1, dqSlot at_ size (rgAdd fi (nt : Int)), 0, 0⟩ 70 (rgCells m at_ size hd sl fi tl lk tr (.slice q nt ct) [.int .i64 tat, .int .i64 size, .int .u32 u, .int .i64 n]) w' := by
  have HP := Lib.hid hp
  have HS := Lib.hid (rg_cells_steal hp)
  have HW := Lib.hid hw
  obtain ⟨h0, h1, h2, h3, h4, h5, h6, h7, h8, h9, h10, h11, h12, h13⟩ := HS.out _ [] (Keeps.refl _ _) (by simp)
  have HE := Lib.hid (fun W (h : Wk W m s) c0 => rgLoad_any m p (dqSlot at_ size (rgAdd fi (nt : Int))) (.func 70) #[.pointer (some ⟨p, 0, none⟩)] #[] s W h c0 ho hs)
  have HSl := Lib.hid (fun W => rgSlot_any at_ size (rgAdd fi (nt : Int)) W hr (rgAdd_range _ _))
  have HB := Lib.hid (fun W h => rgBehind_any m p nt ct at_ size hd sl fi tl lk tr q [.int .i64 tat, .int .i64 size, .int .u32 u, .int .i64 n] e W h hn)
  clear hw hp ho hs
  go_enter Tryz.func43, Tryz.ntmps43
  have hkV : Keeps [] w w := Keeps.refl _ _
  go_wp2
  go_region_held3 (fun w' => w'.cell? ⟨p, 0, none⟩ = some (.pointer (some ⟨m, 0, none⟩)) ∧ w'.cell? ⟨p, 1, none⟩ = some (.int .i64 at_) ∧ w'.cell? ⟨p, 2, none⟩ = some (.int .i64 size) ∧ w'.cell? ⟨p, 3, none⟩ = some (.int .u64 hd) ∧ w'.cell? ⟨p, 4, none⟩ = some (.int .u32 sl) ∧ w'.cell? ⟨p, 5, none⟩ = some (.int .u32 fi) ∧ w'.cell? ⟨p, 6, none⟩ = some (.int .u32 tl) ∧ w'.cell? ⟨p, 7, none⟩ = some lk ∧ w'.cell? ⟨p, 8, none⟩ = some tr ∧ w'.cell? ⟨p, 9, none⟩ = some (.slice q nt ct) ∧ w'.cell? ⟨p, 10, none⟩ = some (.int .i64 tat) ∧ w'.cell? ⟨p, 11, none⟩ = some (.int .i64 size) ∧ w'.cell? ⟨p, 12, none⟩ = some (.int .u32 u) ∧ w'.cell? ⟨p, 13, none⟩ = some (.int .i64 n))
    (first
      | exact HS.out _ _ hk4 (by simpa using hpm)
      | exact HS.out _ _ hk3 (by simp)
      | exact HS.out _ _ hk2 (by simp)
      | exact ⟨by assumption, by assumption, by assumption, by assumption, by assumption, by assumption, by assumption, by assumption, by assumption, by assumption, by assumption, by assumption, by assumption, by assumption⟩
      | fail)
    (first
      | (go_at_call 63; refine (HB.out _ (HP.out.keeps ((Keeps.refl [] w).drew) (by simp))).mono ?_; rintro e2 w2 ⟨rfl, k⟩; have hk2 : Keeps [] w w2 := hkV.trans k.undrew; clear k)
      | (go_at_call 32; refine (HSl.out _).mono ?_; rintro e2 w3 ⟨rfl, k⟩; have hk3 : Keeps [] w w3 := hk2.trans k; clear k)
      | (go_at_call 44; refine (HE.out _ (HW.out.keeps hk3 (by simp)) (HS.out _ _ hk3 (by simp)).1).mono ?_; rintro e4 w4 ⟨rfl, hw4, k4⟩; have hk4 : Keeps [m] w w4 := (hk3.mono (by simp)).trans k4; clear k4)
      | fail)
  all_goals (try go_wp2)
  all_goals (first | go_end0 | refine bodyPost_ret (results_none rfl _ _ _) rfl ?_)
  all_goals exact ⟨rfl, hw4, HP.out.keeps hk4 (by simpa using hpm), hk4.mono (by simp)⟩

set_option maxHeartbeats 1600000 in
theorem rgStealLaid (m p : Nat) (at_ size hd sl fi tl : Int) (tat u n : Int) (lk tr : Value) (q : Option Addr) (nt ct : Nat) (v : Int) (won : Bool) (e : TypeId) (s : WSt) (w : World) (hw : Wk w m s) (hp : Row w p e (rgCells m at_ size hd sl fi tl lk tr (.slice q nt ct) [.int .i64 tat, .int .i64 size, .int .u32 u, .int .i64 n])) (hpm : p ≠ m) (ho : s.over = false) (hs : s.sub = none) (hr : dqRight at_ size)(f0 : 0 ≤ fi ∧ fi < 4294967296)(hn : nt < 4294967296) :
    Calls Tryz.prog 91 #[.pointer (some ⟨p, 0, none⟩), .int .u64 v, .bool won] w fun e' w' => e' = .returned (.tuple #[]) ∧ RgAsks m p e s w ⟨1, dqSlot at_ size (rgAdd fi (nt : Int)), 0, 0⟩ 70 (rgCells m at_ size hd sl fi tl lk tr (.slice q nt ct) [.int .i64 tat, .int .i64 size, .int .u32 u, .int .i64 n]) w' := by
  have HP := Lib.hid hp
  have HS := Lib.hid (rg_cells_steal hp)
  have HW := Lib.hid hw
  obtain ⟨h0, h1, h2, h3, h4, h5, h6, h7, h8, h9, h10, h11, h12, h13⟩ := HS.out _ [] (Keeps.refl _ _) (by simp)
  have HE := Lib.hid (rgStealNext m p at_ size hd sl fi tl tat u n lk tr q nt ct e s w hw hp hpm ho hs hr f0 hn)
  clear hw hp ho hs
  go_enter Tryz.func91, Tryz.ntmps91
  go_wp2_with fail
  refine HE.out.mono ?_
  rintro e5 w5 ⟨rfl, hQ⟩
  have HQ := Lib.hid hQ
  clear hQ
  go_wp2
  first | go_end0 | refine bodyPost_ret (results_none rfl _ _ _) rfl ?_
  exact ⟨rfl, HQ.out⟩

set_option maxHeartbeats 1600000 in
theorem rgRelease (m p : Nat) (at_ size hd sl fi tl : Int) (tat u n : Int) (lk tr tk : Value) (v : Int) (won : Bool) (e : TypeId) (s : WSt) (w : World) (hw : Wk w m s) (hp : Row w p e (rgCells m at_ size hd sl fi tl lk tr tk [.int .i64 tat, .int .i64 size, .int .u32 u, .int .i64 n])) (hpm : p ≠ m) (ho : s.over = false) (hs : s.sub = none) (hv : M.U v) :
    Calls Tryz.prog 92 #[.pointer (some ⟨p, 0, none⟩), .int .u64 v, .bool won] w fun e' w' => e' = .returned (.tuple #[]) ∧ RgAsks m p e s w ⟨3, at_, v, rgPair (rgLo v) (rgLo v)⟩ 105 (rgCells m at_ size hd sl fi tl lk tr tk [.int .i64 tat, .int .i64 size, .int .u32 u, .int .i64 n]) w' := by
  have HP := Lib.hid hp
  have HS := Lib.hid (rg_cells_steal hp)
  have HW := Lib.hid hw
  obtain ⟨h0, h1, h2, h3, h4, h5, h6, h7, h8, h9, h10, h11, h12, h13⟩ := HS.out _ [] (Keeps.refl _ _) (by simp)
  have HSp : Hid (∀ W, Calls Tryz.prog 28 #[.int .u64 v] W fun e w' => e = .returned (.tuple #[.int .u32 (rgHi v), .int .u32 (rgLo v)]) ∧ W = w') := Lib.hid (fun W => split_any v W hv.nn hv)
  have HE := Lib.hid (fun W h => wAsk m s ⟨3, at_, v, rgPair (rgLo v) (rgLo v)⟩ (.func 105) #[.pointer (some ⟨p, 0, none⟩)] #[] W h hs ho)
  have hlv := rgLo_range v
  have HPr := Lib.hid (fun W => pair_any (rgLo v) (rgLo v) W hlv.1 hlv.2 hlv.1 hlv.2)
  clear hw hp ho hs
  go_enter Tryz.func92, Tryz.ntmps92
  go_wp2_with (go_at_call 28; refine (HSp.out _).mono ?_; rintro e1 w1 ⟨rfl, rfl⟩)
  go_region_held3 (fun w' => w'.cell? ⟨p, 0, none⟩ = some (.pointer (some ⟨m, 0, none⟩)) ∧ w'.cell? ⟨p, 1, none⟩ = some (.int .i64 at_) ∧ w'.cell? ⟨p, 2, none⟩ = some (.int .i64 size) ∧ w'.cell? ⟨p, 3, none⟩ = some (.int .u64 hd) ∧ w'.cell? ⟨p, 4, none⟩ = some (.int .u32 sl) ∧ w'.cell? ⟨p, 5, none⟩ = some (.int .u32 fi) ∧ w'.cell? ⟨p, 6, none⟩ = some (.int .u32 tl) ∧ w'.cell? ⟨p, 7, none⟩ = some lk ∧ w'.cell? ⟨p, 8, none⟩ = some tr ∧ w'.cell? ⟨p, 9, none⟩ = some tk ∧ w'.cell? ⟨p, 10, none⟩ = some (.int .i64 tat) ∧ w'.cell? ⟨p, 11, none⟩ = some (.int .i64 size) ∧ w'.cell? ⟨p, 12, none⟩ = some (.int .u32 u) ∧ w'.cell? ⟨p, 13, none⟩ = some (.int .i64 n))
    (first
      | exact HS.out _ _ hk4 (by simpa using hpm)
      | exact HS.out _ _ hk3 (by simp)
      | exact HS.out _ _ hk2 (by simp)
      | exact ⟨by assumption, by assumption, by assumption, by assumption, by assumption, by assumption, by assumption, by assumption, by assumption, by assumption, by assumption, by assumption, by assumption, by assumption⟩
      | fail)
    (first
      | (go_at_call 83; refine (HPr.out _).mono ?_; rintro e2 w2 ⟨rfl, rfl⟩)
      | (go_at_call 71; refine (HE.out _ (HW.out.keeps ((Keeps.refl [] w).drew) (by simp))).mono ?_; rintro e4 w4 ⟨rfl, hw4, k4⟩; have hk4 : Keeps [m] w w4 := k4.undrew; clear k4)
      | fail)
  all_goals (try go_wp2)
  all_goals (first | go_end0 | refine bodyPost_ret (results_none rfl _ _ _) rfl ?_)
  all_goals exact ⟨rfl, hw4, HP.out.keeps hk4 (by simpa using hpm), hk4.mono (by simp)⟩

set_option maxHeartbeats 1600000 in
theorem rgReleasedLost (m p : Nat) (at_ size hd sl fi tl : Int) (tat u n : Int) (lk tr tk : Value) (v : Int) (e : TypeId) (s : WSt) (w : World) (hw : Wk w m s) (hp : Row w p e (rgCells m at_ size hd sl fi tl lk tr tk [.int .i64 tat, .int .i64 size, .int .u32 u, .int .i64 n])) (hpm : p ≠ m) (ho : s.over = false) (hs : s.sub = none) (hv : M.U v) :
    Calls Tryz.prog 105 #[.pointer (some ⟨p, 0, none⟩), .int .u64 v, .bool false] w fun e' w' => e' = .returned (.tuple #[]) ∧ RgAsks m p e s w ⟨3, at_, v, rgPair (rgLo v) (rgLo v)⟩ 105 (rgCells m at_ size hd sl fi tl lk tr tk [.int .i64 tat, .int .i64 size, .int .u32 u, .int .i64 n]) w' := by
  have HP := Lib.hid hp
  have HS := Lib.hid (rg_cells_steal hp)
  have HW := Lib.hid hw
  obtain ⟨h0, h1, h2, h3, h4, h5, h6, h7, h8, h9, h10, h11, h12, h13⟩ := HS.out _ [] (Keeps.refl _ _) (by simp)
  have HE := Lib.hid (rgRelease m p at_ size hd sl fi tl tat u n lk tr tk v false e s w hw hp hpm ho hs hv)
  clear hw hp ho hs
  go_enter Tryz.func105, Tryz.ntmps105
  go_wp2_with fail
  refine HE.out.mono ?_
  rintro e5 w5 ⟨rfl, hQ⟩
  have HQ := Lib.hid hQ
  clear hQ
  go_wp2
  first | go_end0 | refine bodyPost_ret (results_none rfl _ _ _) rfl ?_
  exact ⟨rfl, HQ.out⟩
end Go.Proofs.YtjbgkaleickknaaGreat

/-
  Contracts: what the functions of a ring's stealing, behind the loads do (written by wip/tools/rggen.py).
-/
namespace Go.Proofs.YtjbgkaleickknaaGreat
set_option maxRecDepth 100000
set_option linter.unusedSimpArgs false
set_option linter.unusedVariables false
open Go.ChangeShapes Go.WideShapes Go.ChangeAt Go.RowKit

set_option maxHeartbeats 1600000 in
theorem rgReleasedMore (m p : Nat) (at_ size hd sl fi tl : Int) (tat u n : Int) (lk tr tk : Value) (v : Int) (e : TypeId) (s : WSt) (w : World) (hw : Wk w m s) (hp : Row w p e (rgCells m at_ size hd sl fi tl lk tr tk [.int .i64 tat, .int .i64 size, .int .u32 u, .int .i64 n])) (hpm : p ≠ m) (ho : s.over = false) (hs : s.sub = none) (u0 : 0 ≤ u ∧ u < 4294967296)(hn1 : 1 < n) (hn2 : n ≤ 256) (ta0 : 0 ≤ tat) (ta1 : tat < 65536) :
    Calls Tryz.prog 105 #[.pointer (some ⟨p, 0, none⟩), .int .u64 v, .bool true] w fun e' w' => e' = .returned (.tuple #[]) ∧ RgAsks m p e s w ⟨2, tat + 1, rgAdd u (n - 1), 0⟩ 109 (rgCells m at_ size hd sl fi tl lk tr tk [.int .i64 tat, .int .i64 size, .int .u32 u, .int .i64 n]) w' := by
  have HP := Lib.hid hp
  have HS := Lib.hid (rg_cells_steal hp)
  have HW := Lib.hid hw
  obtain ⟨h0, h1, h2, h3, h4, h5, h6, h7, h8, h9, h10, h11, h12, h13⟩ := HS.out _ [] (Keeps.refl _ _) (by simp)
  have HE := Lib.hid (fun W (h : Wk W m s) c0 => rgStore_any m p (tat + 1) (rgAdd u (n - 1)) (.func 109) #[.pointer (some ⟨p, 0, none⟩)] #[] s W h c0 ho hs)
  have HTl := Lib.hid (fun W => rgTail_any tat size W ta0 ta1)
  have dA : decide (1 < n) = true := decide_eq_true hn1
  have hw0 : IntKind.i64.wrap (n - 1) = n - 1 := IntWalk.i64_in _ (by omega)
  have hw1 : IntKind.u32.wrap (n - 1) = n - 1 := by show (n - 1) % 4294967296 = n - 1; omega
  have hw2 : IntKind.u64.wrap (IntKind.u32.wrap (u + (n - 1))) = rgAdd u (n - 1) := by show ((u + (n - 1)) % 4294967296) % 18446744073709551616 = (u + (n - 1)) % 4294967296; omega
  clear hw hp ho hs
  go_enter Tryz.func105, Tryz.ntmps105
  have hkV : Keeps [] w w := Keeps.refl _ _
  go_wp2_with fail
  go_region_held3 (fun w' => w'.cell? ⟨p, 0, none⟩ = some (.pointer (some ⟨m, 0, none⟩)) ∧ w'.cell? ⟨p, 1, none⟩ = some (.int .i64 at_) ∧ w'.cell? ⟨p, 2, none⟩ = some (.int .i64 size) ∧ w'.cell? ⟨p, 3, none⟩ = some (.int .u64 hd) ∧ w'.cell? ⟨p, 4, none⟩ = some (.int .u32 sl) ∧ w'.cell? ⟨p, 5, none⟩ = some (.int .u32 fi) ∧ w'.cell? ⟨p, 6, none⟩ = some (.int .u32 tl) ∧ w'.cell? ⟨p, 7, none⟩ = some lk ∧ w'.cell? ⟨p, 8, none⟩ = some tr ∧ w'.cell? ⟨p, 9, none⟩ = some tk ∧ w'.cell? ⟨p, 10, none⟩ = some (.int .i64 tat) ∧ w'.cell? ⟨p, 11, none⟩ = some (.int .i64 size) ∧ w'.cell? ⟨p, 12, none⟩ = some (.int .u32 u) ∧ w'.cell? ⟨p, 13, none⟩ = some (.int .i64 n))
    (first
      | exact HS.out _ _ hk4 (by simpa using hpm)
      | exact HS.out _ _ hk3 (by simp)
      | exact HS.out _ _ hk2 (by simp)
      | exact ⟨by assumption, by assumption, by assumption, by assumption, by assumption, by assumption, by assumption, by assumption, by assumption, by assumption, by assumption, by assumption, by assumption, by assumption⟩
      | fail)
    (first
      | (go_at_call 30; refine (HTl.out _).mono ?_; rintro e2 w2 ⟨rfl, k⟩; have hk2 : Keeps [] w w2 := hkV.trans k.undrew; clear k)
      | (go_at_call 59; refine (HE.out _ (HW.out.keeps hk2 (by simp)) (HS.out _ _ hk2 (by simp)).1).mono ?_; rintro e4 w4 ⟨rfl, hw4, k4⟩; have hk4 : Keeps [m] w w4 := (hk2.mono (by simp)).trans k4; clear k4)
      | fail)
  all_goals (try go_wp2)
  all_goals (first | go_end0 | refine bodyPost_ret (results_none rfl _ _ _) rfl ?_)
  all_goals exact ⟨rfl, hw4, HP.out.keeps hk4 (by simpa using hpm), hk4.mono (by simp)⟩

set_option maxHeartbeats 1600000 in
theorem rgFinish (m p : Nat) (at_ size hd sl fi tl : Int) (tat u n : Int) (lk tr : Value) (v : Int) (won : Bool) (q : Option Addr) (nt ct : Nat) (took : List Int) (B : Nat) (e : TypeId) (s : WSt) (w : World) (hw : Wk w m s) (hp : Row w p e (rgCells m at_ size hd sl fi tl lk tr (.slice q nt ct) [.int .i64 tat, .int .i64 size, .int .u32 u, .int .i64 n])) (hpm : p ≠ m) (ho : s.over = false) (hs : s.sub = none) (hto : w.ownsRow B 34 1 (.slice q nt ct) nt (ints .u64 took)) (hntl : took.length = nt) (hn : n = (nt : Int)) (h1 : 1 ≤ nt) (h2 : nt ≤ 256) (hu : 0 < s.under) :
    Calls Tryz.prog 109 #[.pointer (some ⟨p, 0, none⟩), .int .u64 v, .bool won] w fun e' w' => e' = .returned (.tuple #[]) ∧ RgEnds m p s w 0 (took.getD (nt - 1) 0) [] w' := by
  have HP := Lib.hid hp
  have HS := Lib.hid (rg_cells_steal hp)
  have HW := Lib.hid hw
  obtain ⟨h0, h1, h2, h3, h4, h5, h6, h7, h8, h9, h10, h11, h12, h13⟩ := HS.out _ [] (Keeps.refl _ _) (by simp)
  have HE := Lib.hid (fun W x (h : Wk W m s) => wEnd m s 0 x (.slice none 0 0) 0 [] W h ho (.inl hu) ⟨rfl, .inl ⟨_, _, rfl, rfl⟩⟩ (fun g hg => by cases hg) (by omega))
  obtain ⟨k, hk⟩ : ∃ k, nt = k + 1 := ⟨nt - 1, by omega⟩
  have HK := Lib.hid hk
  obtain ⟨g, hg⟩ : ∃ g, q = some ⟨g, 0, none⟩ := by
    rcases hto.2 with ⟨-, h⟩ | ⟨g, cap, cur, h, -⟩
    · omega
    · cases h; exact ⟨g, rfl⟩
  subst hg
  have hrow := Row.of_owns hto
  have ck : w.cell? ⟨g, k, none⟩ = some (.int .u64 (took.getD (nt - 1) 0)) := by rw [hk, Nat.add_sub_cancel]; exact hrow.cell (ints_at (by omega))
  have hkn : nt - 1 = k := by omega
  rw [hkn] at ck ⊢
  have hw0 : IntKind.i64.wrap (n - 1) = (k : Int) := by rw [show n - 1 = (k : Int) by omega]; exact IntWalk.i64_in _ (by omega)
  have i0 : (0 : Int) ≤ (k : Int) := by omega
  have i1 : (k : Int) < (nt : Int) := by omega
  have tn : ((k : Int)).toNat = k := by omega
  clear hk hkn hrow hn
  clear hw hp ho hs hto
  go_enter Tryz.func109, Tryz.ntmps109
  go_wp2_with fail
  go_still_tail 18, (by kernel_rfl)
  change wpList _ _ _ _ _ (w).drew
  go_wp2_with fail
  refine (HE.out w.drew _ (HW.out.keeps ((Keeps.refl [] w).drew) (by simp))).mono ?_
  rintro e2 w3 ⟨rfl, l', hw3, ho3, k3⟩
  have HQ := Lib.hid (show RgEnds m p s w 0 _ [] w3 from ⟨l', hw3, ho3, (k3.mono (by simp)).undrew, (HS.out _ [m] k3.undrew (by simpa using hpm)).1⟩)
  clear hw3 ho3 k3
  go_wp2
  first | go_end0 | refine bodyPost_ret (results_none rfl _ _ _) rfl ?_
  exact ⟨rfl, HQ.out⟩

set_option maxHeartbeats 1600000 in
theorem rgReleasedOne (m p : Nat) (at_ size hd sl fi tl : Int) (tat u n : Int) (lk tr : Value) (v : Int) (q : Option Addr) (nt ct : Nat) (took : List Int) (B : Nat) (e : TypeId) (s : WSt) (w : World) (hw : Wk w m s) (hp : Row w p e (rgCells m at_ size hd sl fi tl lk tr (.slice q nt ct) [.int .i64 tat, .int .i64 size, .int .u32 u, .int .i64 n])) (hpm : p ≠ m) (ho : s.over = false) (hs : s.sub = none) (hto : w.ownsRow B 34 1 (.slice q nt ct) nt (ints .u64 took)) (hntl : took.length = nt) (hn : n = (nt : Int)) (h1 : nt = 1) (hu : 0 < s.under) :
    Calls Tryz.prog 105 #[.pointer (some ⟨p, 0, none⟩), .int .u64 v, .bool true] w fun e' w' => e' = .returned (.tuple #[]) ∧ RgEnds m p s w 0 (took.getD (nt - 1) 0) [] w' := by
  have HP := Lib.hid hp
  have HS := Lib.hid (rg_cells_steal hp)
  have HW := Lib.hid hw
  obtain ⟨h0, h1, h2, h3, h4, h5, h6, h7, h8, h9, h10, h11, h12, h13⟩ := HS.out _ [] (Keeps.refl _ _) (by simp)
  have HE := Lib.hid (rgFinish m p at_ size hd sl fi tl tat u n lk tr 0 true q nt ct took B e s w hw hp hpm ho hs hto hntl hn (by omega) (by omega) hu)
  have dA : decide (1 < n) = false := decide_eq_false (by omega)
  clear hto hntl hn h1
  clear hw hp ho hs
  go_enter Tryz.func105, Tryz.ntmps105
  go_wp2_with fail
  refine HE.out.mono ?_
  rintro e5 w5 ⟨rfl, hQ⟩
  have HQ := Lib.hid hQ
  clear hQ
  go_wp2
  first | go_end0 | refine bodyPost_ret (results_none rfl _ _ _) rfl ?_
  exact ⟨rfl, HQ.out⟩
end Go.Proofs.YtjbgkaleickknaaGreat

/-
  Contracts: what the functions of a ring's loads of slots do (written by wip/tools/rggen.py).
-/
namespace Go.Proofs.YtjbgkaleickknaaGreat
set_option maxRecDepth 100000
set_option linter.unusedSimpArgs false
set_option linter.unusedVariables false
open Go.ChangeShapes Go.WideShapes Go.ChangeAt Go.RowKit

/-- It has taken, and ended. -/
def RgTookEnd (m p : Nat) (w : World) (tk : Value) (c v : Int) (us : List Int) (s : WSt) (w' : World) : Prop :=
  ∃ t l', Wk w' m { s with tasks := t, nxt := .nilFunc, after := .nilFunc, over := true, code := c, v := v, l := l' } ∧ w'.ownsRow w.heap.size 34 1 l' us.length (ints .u64 us) ∧ Keeps ([m, p] ++ tk.ownBlock.toList) w w' ∧ w'.cell? ⟨p, 0, none⟩ = some (.pointer (some ⟨m, 0, none⟩))
set_option maxHeartbeats 1600000 in
theorem rgPushLoadedMore (m p : Nat) (at_ size hd sl fi tl : Int) (task : Int) (lk tr tk : Value) (v : Int) (won : Bool) (took : List Int) (B : Nat) (e : TypeId) (s : WSt) (w : World) (hw : Wk w m s) (hp : Row w p e (rgCells m at_ size hd sl fi tl lk tr tk [.int .u64 task])) (hpm : p ≠ m) (ho : s.over = false) (hs : s.sub = none) (hr : dqRight at_ size)(f0 : 0 ≤ fi ∧ fi < 4294967296)(hto : w.ownsRow B 34 1 tk took.length (ints .u64 took)) (hB : B ≤ w.heap.size) (htp : ∀ g, tk.ownBlock = some g → g ≠ p ∧ g ≠ m)(hm : (took.length : Int) + 1 < size / 2) :
    Calls Tryz.prog 64 #[.pointer (some ⟨p, 0, none⟩), .int .u64 v, .bool won] w fun e' w' => e' = .returned (.tuple #[]) ∧ RgTook m p e B w tk (took ++ [v]) (task :: (took ++ [v])) (fun t => { s with tasks := t, x := ⟨1, dqSlot at_ size (rgAdd fi ((took.length + 1 : Nat) : Int)), 0, 0⟩, nxt := .func (.func 64) #[.pointer (some ⟨p, 0, none⟩)] #[], sub := none, after := .nilFunc }) (fun tk' => (rgCells m at_ size hd sl fi tl lk tr tk' [.int .u64 task])) w' := by
  have HP := Lib.hid hp
  have HS := Lib.hid (rg_cells_push hp)
  have HW := Lib.hid hw
  obtain ⟨h0, h1, h2, h3, h4, h5, h6, h7, h8, h9, h10⟩ := HS.out _ [] (Keeps.refl _ _) (by simp)
  have hr1 : 2 ≤ size ∧ size ≤ 256 := by have := hr.1; omega
  have a0 : 0 ≤ at_ := hr.2.1
  have a1 : at_ < 65536 := by have := hr.2.2; omega
  have HH := Lib.hid (fun W => rgHalf_any at_ size W hr1.1 hr1.2)
  have HTL := Lib.hid (show took.length ≤ 1000 by omega)
  have kL : Keeps [] w (w.alloc (.cells #[.int .u64 task] 34)).drew := ((Keeps.refl [] w).alloc _).drew
  have hlit : (w.alloc (.cells #[.int .u64 task] 34)).drew.ownsRow w.heap.size 34 1 (.slice (some ⟨w.heap.size, 0, none⟩) 1 1) [task].length (ints .u64 [task]) := World.ownsRow.drew (World.ownsRow_lit (size := 1) w #[.int .u64 task] 1 (Nat.le_refl _) (by decide) rfl)
  have HE := Lib.hid (rgTake_any m p at_ size hd sl fi tl v lk tr tk [.int .u64 task] took [task] (.slice (some ⟨w.heap.size, 0, none⟩) 1 1) B w.heap.size e s _ (hw.keeps kL (by simp)) (hp.keeps kL (by simp)) hpm (owns_keeps hto kL (by simp)) htp HTL.out hlit (by simp)
    (fun g hg => by
      simp [Value.ownBlock] at hg
      subst hg
      have h1 := hp.lt
      have h2 := hw.lt
      exact ⟨by omega, by omega, fun h => by have := (hto.lt _ h).2; omega⟩) (Nat.le_trans hB kL.size) kL.size)
  have HKL := Lib.hid kL
  obtain ⟨N, hN⟩ : ∃ N, took.length + 1 = N := ⟨_, rfl⟩
  have HN := Lib.hid hN
  clear kL hlit
  have HE2 := Lib.hid (fun t q2 c2 W (h : Wk W m { s with tasks := t }) h2 => rgPushNext m p at_ size hd sl fi tl task lk tr q2 N c2 e { s with tasks := t } W h h2 hpm ho hs hr f0 (by omega))
  have dL : decide ((N : Int) < size / 2) = true := decide_eq_true (by omega)
  rw [hN]
  have HTo := Lib.hid hto
  clear hto hN hm
  clear hw hp ho hs
  go_enter Tryz.func64, Tryz.ntmps64
  go_wp2_with fail
  go_region_held3 (fun w' => w'.cell? ⟨p, 10, none⟩ = some (.int .u64 task))
    (first
      | exact hp4.cell (j := 10) rfl
      | assumption
      | exact (HS.out _ _ (((Keeps.refl [] w).alloc _).drew) (by simp)).2.2.2.2.2.2.2.2.2.2
      | fail)
    (first
      | (go_at_call 85; refine (HE.out).mono ?_; rintro e4 w4 ⟨rfl, t, tk', hw4, hp4, ht4, hb4, hh4, k4⟩)
      | fail)
  all_goals (
    rw [HN.out] at ht4 hh4
    obtain ⟨q2, c2, rfl⟩ := (Sl.of_owns ht4).len
    have HS4 := Lib.hid (rg_cells_push hp4)
    obtain ⟨a0, a1, a2, a3, a4, a5, a6, a7, a8, a9, a10⟩ := HS4.out _ [] (Keeps.refl _ _) (by simp)
    have HP4 := Lib.hid hp4
    have HW4 := Lib.hid hw4
    have HH4 : Hid (_ ∧ _ ∧ _ ∧ _) := Lib.hid ⟨ht4, hb4, hh4, k4⟩
    clear hw4 hp4 ht4 hb4 hh4 k4
    go_wp2_with fail
    have hkV : Keeps [] w4 w4 := Keeps.refl _ _
    go_region_held3 (fun w' => w'.cell? ⟨p, 0, none⟩ = some (.pointer (some ⟨m, 0, none⟩)) ∧ w'.cell? ⟨p, 1, none⟩ = some (.int .i64 at_) ∧ w'.cell? ⟨p, 2, none⟩ = some (.int .i64 size) ∧ w'.cell? ⟨p, 3, none⟩ = some (.int .u64 hd) ∧ w'.cell? ⟨p, 4, none⟩ = some (.int .u32 sl) ∧ w'.cell? ⟨p, 5, none⟩ = some (.int .u32 fi) ∧ w'.cell? ⟨p, 6, none⟩ = some (.int .u32 tl) ∧ w'.cell? ⟨p, 7, none⟩ = some lk ∧ w'.cell? ⟨p, 8, none⟩ = some tr ∧ w'.cell? ⟨p, 9, none⟩ = some (.slice q2 N c2) ∧ w'.cell? ⟨p, 10, none⟩ = some (.int .u64 task))
      (first
        | exact HS4.out _ _ hk2 (by simp)
        | exact ⟨by assumption, by assumption, by assumption, by assumption, by assumption, by assumption, by assumption, by assumption, by assumption, by assumption, by assumption⟩
        | fail)
      (first
        | (go_at_call 61; refine (HH.out _).mono ?_; rintro e2 w5 ⟨rfl, k⟩; have hk2 : Keeps [] w4 w5 := k.undrew; clear k)
        | fail)
    all_goals (
      have HK2 := Lib.hid hk2
      go_wp2_with fail
      refine (HE2.out t q2 c2 _ (HW4.out.keeps HK2.out (by simp)) (HP4.out.keeps HK2.out (by simp))).mono ?_
      rintro e6 w6 ⟨rfl, hQ⟩
      have HQ := Lib.hid hQ
      clear hQ
      go_wp2
      first | go_end0 | refine bodyPost_ret (results_none rfl _ _ _) rfl ?_
      obtain ⟨hw6, hp6, k6⟩ := HQ.out
      obtain ⟨ht4, hb4, hh4, k4⟩ := HH4.out
      have k46 : Keeps [m, p] w4 w6 := HK2.out.nil.trans k6
      have s4 := k4.size
      have sL := HKL.out.size
      have hb6 : ∀ g, (Value.slice q2 N c2).ownBlock = some g → (tk.ownBlock = some g ∨ w.heap.size ≤ g) ∧ g ≠ p ∧ g ≠ m ∧ t.ownBlock ≠ some g := fun g hg => ⟨(hb4 g hg).1.imp_right (fun h => Nat.le_trans sL h), (hb4 g hg).2⟩
      refine ⟨rfl, t, .slice q2 N c2, hw6, hp6, ?_, hb6, ?_, ?_⟩
      · rw [List.length_append, List.length_singleton, HN.out]
        exact owns_keeps ht4 k46 (fun g hg => by have := hb6 g hg; simp; exact ⟨this.2.2.1, this.2.1⟩)
      · have h1 : (task :: (took ++ [v])).length = 1 + N := by rw [← HN.out]; simp; omega
        rw [h1]
        exact owns_base (owns_keeps hh4 k46 (fun g hg => by have := (hh4.lt g hg).1; have := HP.out.lt; have := HW.out.lt; simp; omega)) sL
      · refine (((HKL.out.nil.trans k4).mono ?_).trans (k46.mono (by simp)))
        intro k hk hl
        simp only [List.mem_append] at hk ⊢
        rcases hk with hk | hk
        · exact hk
        · have h1 := (ownBlock_toList _ _).1 hk
          simp [Value.ownBlock] at h1
          omega
))

set_option maxHeartbeats 1600000 in
theorem rgPushLoadedLast (m p : Nat) (at_ size hd sl fi tl : Int) (task : Int) (lk tr tk : Value) (v : Int) (won : Bool) (took : List Int) (B : Nat) (e : TypeId) (s : WSt) (w : World) (hw : Wk w m s) (hp : Row w p e (rgCells m at_ size hd sl fi tl lk tr tk [.int .u64 task])) (hpm : p ≠ m) (ho : s.over = false) (hs : s.sub = none) (hr : dqRight at_ size)(hto : w.ownsRow B 34 1 tk took.length (ints .u64 took)) (hB : B ≤ w.heap.size) (htp : ∀ g, tk.ownBlock = some g → g ≠ p ∧ g ≠ m)(hm : (took.length : Int) + 1 = size / 2) (hu : 0 < s.under) :
    Calls Tryz.prog 64 #[.pointer (some ⟨p, 0, none⟩), .int .u64 v, .bool won] w fun e' w' => e' = .returned (.tuple #[]) ∧ RgTookEnd m p w tk 4 0 (took ++ [v]) s w' := by
  have HP := Lib.hid hp
  have HS := Lib.hid (rg_cells_push hp)
  have HW := Lib.hid hw
  obtain ⟨h0, h1, h2, h3, h4, h5, h6, h7, h8, h9, h10⟩ := HS.out _ [] (Keeps.refl _ _) (by simp)
  have hr1 : 2 ≤ size ∧ size ≤ 256 := by have := hr.1; omega
  have a0 : 0 ≤ at_ := hr.2.1
  have a1 : at_ < 65536 := by have := hr.2.2; omega
  have HH := Lib.hid (fun W => rgHalf_any at_ size W hr1.1 hr1.2)
  have HTL := Lib.hid (show took.length ≤ 1000 by omega)
  have kL : Keeps [] w (w.alloc (.cells #[.int .u64 task] 34)).drew := ((Keeps.refl [] w).alloc _).drew
  have hlit : (w.alloc (.cells #[.int .u64 task] 34)).drew.ownsRow w.heap.size 34 1 (.slice (some ⟨w.heap.size, 0, none⟩) 1 1) [task].length (ints .u64 [task]) := World.ownsRow.drew (World.ownsRow_lit (size := 1) w #[.int .u64 task] 1 (Nat.le_refl _) (by decide) rfl)
  have HE := Lib.hid (rgTake_any m p at_ size hd sl fi tl v lk tr tk [.int .u64 task] took [task] (.slice (some ⟨w.heap.size, 0, none⟩) 1 1) B w.heap.size e s _ (hw.keeps kL (by simp)) (hp.keeps kL (by simp)) hpm (owns_keeps hto kL (by simp)) htp HTL.out hlit (by simp)
    (fun g hg => by
      simp [Value.ownBlock] at hg
      subst hg
      have h1 := hp.lt
      have h2 := hw.lt
      exact ⟨by omega, by omega, fun h => by have := (hto.lt _ h).2; omega⟩) (Nat.le_trans hB kL.size) kL.size)
  have HKL := Lib.hid kL
  obtain ⟨N, hN⟩ : ∃ N, took.length + 1 = N := ⟨_, rfl⟩
  have HN := Lib.hid hN
  clear kL hlit
  have HE2 := Lib.hid (fun t q2 c2 W (h : Wk W m { s with tasks := t }) hl hlm => wEnd m { s with tasks := t } 4 0 (.slice q2 N c2) N (took ++ [v]) W h ho (.inl hu) hl hlm (by omega))
  have dL : decide ((N : Int) < size / 2) = false := decide_eq_false (by omega)
  have HTo := Lib.hid hto
  clear hto hN hm
  clear hw hp ho hs
  go_enter Tryz.func64, Tryz.ntmps64
  go_wp2_with fail
  go_region_held3 (fun w' => w'.cell? ⟨p, 10, none⟩ = some (.int .u64 task))
    (first
      | exact hp4.cell (j := 10) rfl
      | assumption
      | exact (HS.out _ _ (((Keeps.refl [] w).alloc _).drew) (by simp)).2.2.2.2.2.2.2.2.2.2
      | fail)
    (first
      | (go_at_call 85; refine (HE.out).mono ?_; rintro e4 w4 ⟨rfl, t, tk', hw4, hp4, ht4, hb4, hh4, k4⟩)
      | fail)
  all_goals (
    rw [HN.out] at ht4 hh4
    obtain ⟨q2, c2, rfl⟩ := (Sl.of_owns ht4).len
    have HS4 := Lib.hid (rg_cells_push hp4)
    obtain ⟨a0, a1, a2, a3, a4, a5, a6, a7, a8, a9, a10⟩ := HS4.out _ [] (Keeps.refl _ _) (by simp)
    have HP4 := Lib.hid hp4
    have HW4 := Lib.hid hw4
    have HH4 : Hid (_ ∧ _ ∧ _ ∧ _) := Lib.hid ⟨ht4, hb4, hh4, k4⟩
    clear hw4 hp4 ht4 hb4 hh4 k4
    go_wp2_with fail
    have hkV : Keeps [] w4 w4 := Keeps.refl _ _
    go_region_held3 (fun w' => w'.cell? ⟨p, 0, none⟩ = some (.pointer (some ⟨m, 0, none⟩)) ∧ w'.cell? ⟨p, 1, none⟩ = some (.int .i64 at_) ∧ w'.cell? ⟨p, 2, none⟩ = some (.int .i64 size) ∧ w'.cell? ⟨p, 3, none⟩ = some (.int .u64 hd) ∧ w'.cell? ⟨p, 4, none⟩ = some (.int .u32 sl) ∧ w'.cell? ⟨p, 5, none⟩ = some (.int .u32 fi) ∧ w'.cell? ⟨p, 6, none⟩ = some (.int .u32 tl) ∧ w'.cell? ⟨p, 7, none⟩ = some lk ∧ w'.cell? ⟨p, 8, none⟩ = some tr ∧ w'.cell? ⟨p, 9, none⟩ = some (.slice q2 N c2) ∧ w'.cell? ⟨p, 10, none⟩ = some (.int .u64 task))
      (first
        | exact HS4.out _ _ hk2 (by simp)
        | exact ⟨by assumption, by assumption, by assumption, by assumption, by assumption, by assumption, by assumption, by assumption, by assumption, by assumption, by assumption⟩
        | fail)
      (first
        | (go_at_call 61; refine (HH.out _).mono ?_; rintro e2 w5 ⟨rfl, k⟩; have hk2 : Keeps [] w4 w5 := k.undrew; clear k)
        | fail)
    all_goals (
      have HK2 := Lib.hid hk2
      go_wp2_with fail
      obtain ⟨z0, z1, z2, z3, z4, z5, z6, z7, z8, z9, z10⟩ := HS4.out w5 [] HK2.out (by simp)
      go_wp2
      go_still_tail 11, (by kernel_rfl)
      change wpList _ _ _ _ _ (w5).drew
      go_wp2_with fail
      refine (HE2.out t q2 c2 w5.drew (HW4.out.keeps HK2.out.drew (by simp)) (Sl.of_owns (owns_keeps HH4.out.1 HK2.out.drew (by simp))) (fun g hg => (HH4.out.2.1 g hg).2.2.1)).mono ?_
      rintro e6 w6 ⟨rfl, l', hw6, hl6, k6⟩
      have HQ : Hid (_ ∧ _ ∧ _) := Lib.hid ⟨hw6, hl6, k6⟩
      clear hw6 hl6 k6
      go_wp2
      first | go_end0 | refine bodyPost_ret (results_none rfl _ _ _) rfl ?_
      obtain ⟨hw6, hl6, k6⟩ := HQ.out
      obtain ⟨ht4, hb4, hh4, k4⟩ := HH4.out
      have s4 := k4.size
      have sL := HKL.out.size
      refine ⟨rfl, t, l', hw6, ?_, ?_, (HS4.out _ [m] (HK2.out.nil.trans k6.undrew) (by simpa using hpm)).1⟩
      · rw [List.length_append, List.length_singleton, HN.out]
        exact owns_base hl6 (Nat.le_trans sL (Nat.le_trans s4 HK2.out.size))
      · refine ((((HKL.out.nil.trans k4).mono ?_).trans (HK2.out.nil)).trans (k6.undrew.mono (by simp)))
        intro k hk hl
        simp only [List.mem_append] at hk ⊢
        rcases hk with hk | hk
        · exact hk
        · have h1 := (ownBlock_toList _ _).1 hk
          simp [Value.ownBlock] at h1
          omega
))
end Go.Proofs.YtjbgkaleickknaaGreat

/-
  Contracts: what the functions of a ring's loads of slots (stealing) do (written by wip/tools/rggen.py).
-/
namespace Go.Proofs.YtjbgkaleickknaaGreat
set_option maxRecDepth 100000
set_option linter.unusedSimpArgs false
set_option linter.unusedVariables false
open Go.ChangeShapes Go.WideShapes Go.ChangeAt Go.RowKit

set_option maxHeartbeats 1600000 in
theorem rgStealLoadedMore (m p : Nat) (at_ size hd sl fi tl : Int) (tat u n : Int) (lk tr : Value) (v : Int) (won : Bool) (took : List Int) (B : Nat) (tq : Option Addr) (tc : Nat) (e : TypeId) (s : WSt) (w : World) (hw : Wk w m s) (hp : Row w p e (rgCells m at_ size hd sl fi tl lk tr (.slice tq took.length tc) [.int .i64 tat, .int .i64 size, .int .u32 u, .int .i64 n])) (hpm : p ≠ m) (ho : s.over = false) (hs : s.sub = none) (htr : dqRight tat size)(u0 : 0 ≤ u ∧ u < 4294967296)(hto : w.ownsRow B 34 1 (.slice tq took.length tc) took.length (ints .u64 took)) (hB : B ≤ w.heap.size) (htp : ∀ g, (Value.slice tq took.length tc).ownBlock = some g → g ≠ p ∧ g ≠ m)(hm : (took.length : Int) + 1 < n) (hn : n ≤ 256) :
    Calls Tryz.prog 70 #[.pointer (some ⟨p, 0, none⟩), .int .u64 v, .bool won] w fun e' w' => e' = .returned (.tuple #[]) ∧ RgTook m p e B w (.slice tq took.length tc) (took ++ [v]) (took ++ [v]) (fun t => { s with tasks := t, x := ⟨2, dqSlot tat size (rgAdd u (took.length : Int)), v, 0⟩, nxt := .func (.func 91) #[.pointer (some ⟨p, 0, none⟩)] #[], sub := none, after := .nilFunc }) (fun tk' => (rgCells m at_ size hd sl fi tl lk tr tk' [.int .i64 tat, .int .i64 size, .int .u32 u, .int .i64 n])) w' := by
  have HP := Lib.hid hp
  have HS := Lib.hid (rg_cells_steal hp)
  have HW := Lib.hid hw
  obtain ⟨h0, h1, h2, h3, h4, h5, h6, h7, h8, h9, h10, h11, h12, h13⟩ := HS.out _ [] (Keeps.refl _ _) (by simp)
  have HTL := Lib.hid (show took.length ≤ 1000 by omega)
  have HSl := Lib.hid (fun W => rgSlot_any tat size (rgAdd u (took.length : Int)) W htr (rgAdd_range _ _))
  have hwl : IntKind.u32.wrap (took.length : Int) = (took.length : Int) := by show (took.length : Int) % 4294967296 = _; omega
  have hwu : IntKind.u32.wrap (u + (took.length : Int)) = rgAdd u (took.length : Int) := rfl
  have HE := Lib.hid (fun W (k : Keeps [] w W) => rgTake_any m p at_ size hd sl fi tl v lk tr (.slice tq took.length tc) [.int .i64 tat, .int .i64 size, .int .u32 u, .int .i64 n] took [] (.slice none 0 0) B 0 e s W (hw.keeps k (by simp)) (hp.keeps k (by simp)) hpm (owns_keeps hto k (by simp)) htp HTL.out (World.ownsRow_nil _ _ _ _) (by simp) (fun g hg => by cases hg) (Nat.le_trans hB k.size) (Nat.zero_le _))
  obtain ⟨N, hN⟩ : ∃ N, took.length + 1 = N := ⟨_, rfl⟩
  have HN := Lib.hid hN
  have HE2 := Lib.hid (fun t W (h : Wk W m { s with tasks := t }) c0 => rgStore_any m p (dqSlot tat size (rgAdd u (took.length : Int))) v (.func 91) #[.pointer (some ⟨p, 0, none⟩)] #[] { s with tasks := t } W h c0 ho hs)
  have dL : decide ((N : Int) < n) = true := decide_eq_true (by omega)
  have HTo := Lib.hid hto
  clear hto hN hm
  clear hw hp ho hs
  go_enter Tryz.func70, Tryz.ntmps70
  go_wp2
  go_region_held3 (fun w' => w'.cell? ⟨p, 0, none⟩ = some (.pointer (some ⟨m, 0, none⟩)) ∧ w'.cell? ⟨p, 1, none⟩ = some (.int .i64 at_) ∧ w'.cell? ⟨p, 2, none⟩ = some (.int .i64 size) ∧ w'.cell? ⟨p, 3, none⟩ = some (.int .u64 hd) ∧ w'.cell? ⟨p, 4, none⟩ = some (.int .u32 sl) ∧ w'.cell? ⟨p, 5, none⟩ = some (.int .u32 fi) ∧ w'.cell? ⟨p, 6, none⟩ = some (.int .u32 tl) ∧ w'.cell? ⟨p, 7, none⟩ = some lk ∧ w'.cell? ⟨p, 8, none⟩ = some tr ∧ w'.cell? ⟨p, 9, none⟩ = some (.slice tq took.length tc) ∧ w'.cell? ⟨p, 10, none⟩ = some (.int .i64 tat) ∧ w'.cell? ⟨p, 11, none⟩ = some (.int .i64 size) ∧ w'.cell? ⟨p, 12, none⟩ = some (.int .u32 u) ∧ w'.cell? ⟨p, 13, none⟩ = some (.int .i64 n))
    (first
      | exact HS.out _ _ hk2 (by simp)
      | exact ⟨by assumption, by assumption, by assumption, by assumption, by assumption, by assumption, by assumption, by assumption, by assumption, by assumption, by assumption, by assumption, by assumption, by assumption⟩
      | fail)
    (first
      | (go_at_call 32; refine (HSl.out _).mono ?_; rintro e2 w2 ⟨rfl, k⟩; have hk2 : Keeps [] w w2 := k.undrew; clear k)
      | fail)
  all_goals (
    have HK2 := Lib.hid hk2
    clear hk2
    go_wp2_with fail
    refine (HE.out w2 HK2.out).mono ?_
    rintro e4 w4 ⟨rfl, t, tk', hw4, hp4, ht4, hb4, hh4, k4⟩
    simp only [List.length_nil, Nat.zero_add, List.nil_append] at hh4
    rw [HN.out] at ht4 hh4
    obtain ⟨q2, c2, rfl⟩ := (Sl.of_owns ht4).len
    have HS4 := Lib.hid (rg_cells_steal hp4)
    obtain ⟨a0, a1, a2, a3, a4, a5, a6, a7, a8, a9, a10, a11, a12, a13⟩ := HS4.out _ [] (Keeps.refl _ _) (by simp)
    have HP4 := Lib.hid hp4
    have HW4 := Lib.hid hw4
    have HH4 : Hid (_ ∧ _ ∧ _ ∧ _) := Lib.hid ⟨ht4, hb4, hh4, k4⟩
    clear hw4 hp4 ht4 hb4 hh4 k4
    go_wp2
    go_quiet (fail)
    generalize hV : World.drewN _ _ = W5
    have hk5 : Keeps [] w4 W5 := by rw [← hV]; exact Keeps.of_drewN _ _
    clear hV
    obtain ⟨z0, z1, z2, z3, z4, z5, z6, z7, z8, z9, z10, z11, z12, z13⟩ := HS4.out W5 [] hk5 (by simp)
    have HK5 := Lib.hid hk5
    clear hk5
    go_wp2_with fail
    refine (HE2.out t W5 (HW4.out.keeps HK5.out (by simp)) ((HS4.out _ [] HK5.out (by simp)).1)).mono ?_
    rintro e6 w6 ⟨rfl, hw6, k6⟩
    have HQ : Hid (_ ∧ _) := Lib.hid ⟨hw6, k6⟩
    clear hw6 k6
    go_wp2
    first | go_end0 | refine bodyPost_ret (results_none rfl _ _ _) rfl ?_
    obtain ⟨hw6, k6⟩ := HQ.out
    obtain ⟨ht4, hb4, hh4, k4⟩ := HH4.out
    have k46 : Keeps [m] w4 w6 := HK5.out.nil.trans k6
    have sL := HK2.out.size
    have hb6 : ∀ g, (Value.slice q2 N c2).ownBlock = some g → ((Value.slice tq took.length tc).ownBlock = some g ∨ w.heap.size ≤ g) ∧ g ≠ p ∧ g ≠ m ∧ t.ownBlock ≠ some g := fun g hg => ⟨(hb4 g hg).1.imp_right (fun h => Nat.le_trans sL h), (hb4 g hg).2⟩
    refine ⟨rfl, t, .slice q2 N c2, hw6, HP4.out.keeps k46 (by simpa using hpm), ?_, hb6, ?_, ?_⟩
    · rw [List.length_append, List.length_singleton, HN.out]
      exact owns_keeps ht4 k46 (fun g hg => by have := hb6 g hg; simp; exact this.2.2.1)
    · rw [List.length_append, List.length_singleton, HN.out]
      exact owns_base (owns_keeps hh4 k46 (fun g hg => by have := (hh4.lt g hg).1; have := HW.out.lt; simp; omega)) sL
    · refine (((HK2.out.nil.trans k4).mono ?_).trans (k46.mono (by simp)))
      intro k hk hl
      simpa [Value.ownBlock] using hk
)

set_option maxHeartbeats 1600000 in
theorem rgStealLoadedLast (m p : Nat) (at_ size hd sl fi tl : Int) (tat u n : Int) (lk tr : Value) (v : Int) (won : Bool) (took : List Int) (B : Nat) (tq : Option Addr) (tc : Nat) (e : TypeId) (s : WSt) (w : World) (hw : Wk w m s) (hp : Row w p e (rgCells m at_ size hd sl fi tl lk tr (.slice tq took.length tc) [.int .i64 tat, .int .i64 size, .int .u32 u, .int .i64 n])) (hpm : p ≠ m) (ho : s.over = false) (hs : s.sub = none) (htr : dqRight tat size)(u0 : 0 ≤ u ∧ u < 4294967296)(hto : w.ownsRow B 34 1 (.slice tq took.length tc) took.length (ints .u64 took)) (hB : B ≤ w.heap.size) (htp : ∀ g, (Value.slice tq took.length tc).ownBlock = some g → g ≠ p ∧ g ≠ m)(hm : (took.length : Int) + 1 = n) (hn : n ≤ 256) :
    Calls Tryz.prog 70 #[.pointer (some ⟨p, 0, none⟩), .int .u64 v, .bool won] w fun e' w' => e' = .returned (.tuple #[]) ∧ RgTook m p e B w (.slice tq took.length tc) (took ++ [v]) (took ++ [v]) (fun t => { s with tasks := t, x := ⟨1, at_, 0, 0⟩, nxt := .func (.func 92) #[.pointer (some ⟨p, 0, none⟩)] #[], sub := none, after := .nilFunc }) (fun tk' => (rgCells m at_ size hd sl fi tl lk tr tk' [.int .i64 tat, .int .i64 size, .int .u32 u, .int .i64 n])) w' := by
  have HP := Lib.hid hp
  have HS := Lib.hid (rg_cells_steal hp)
  have HW := Lib.hid hw
  obtain ⟨h0, h1, h2, h3, h4, h5, h6, h7, h8, h9, h10, h11, h12, h13⟩ := HS.out _ [] (Keeps.refl _ _) (by simp)
  have HTL := Lib.hid (show took.length ≤ 1000 by omega)
  have HSl := Lib.hid (fun W => rgSlot_any tat size (rgAdd u (took.length : Int)) W htr (rgAdd_range _ _))
  have hwl : IntKind.u32.wrap (took.length : Int) = (took.length : Int) := by show (took.length : Int) % 4294967296 = _; omega
  have hwu : IntKind.u32.wrap (u + (took.length : Int)) = rgAdd u (took.length : Int) := rfl
  have HE := Lib.hid (fun W (k : Keeps [] w W) => rgTake_any m p at_ size hd sl fi tl v lk tr (.slice tq took.length tc) [.int .i64 tat, .int .i64 size, .int .u32 u, .int .i64 n] took [] (.slice none 0 0) B 0 e s W (hw.keeps k (by simp)) (hp.keeps k (by simp)) hpm (owns_keeps hto k (by simp)) htp HTL.out (World.ownsRow_nil _ _ _ _) (by simp) (fun g hg => by cases hg) (Nat.le_trans hB k.size) (Nat.zero_le _))
  obtain ⟨N, hN⟩ : ∃ N, took.length + 1 = N := ⟨_, rfl⟩
  have HN := Lib.hid hN
  have HE2 := Lib.hid (fun t W (h : Wk W m { s with tasks := t }) c0 => rgLoad_any m p at_ (.func 92) #[.pointer (some ⟨p, 0, none⟩)] #[] { s with tasks := t } W h c0 ho hs)
  have dL : decide ((N : Int) < n) = false := decide_eq_false (by omega)
  have HTo := Lib.hid hto
  clear hto hN hm
  clear hw hp ho hs
  go_enter Tryz.func70, Tryz.ntmps70
  go_wp2
  go_region_held3 (fun w' => w'.cell? ⟨p, 0, none⟩ = some (.pointer (some ⟨m, 0, none⟩)) ∧ w'.cell? ⟨p, 1, none⟩ = some (.int .i64 at_) ∧ w'.cell? ⟨p, 2, none⟩ = some (.int .i64 size) ∧ w'.cell? ⟨p, 3, none⟩ = some (.int .u64 hd) ∧ w'.cell? ⟨p, 4, none⟩ = some (.int .u32 sl) ∧ w'.cell? ⟨p, 5, none⟩ = some (.int .u32 fi) ∧ w'.cell? ⟨p, 6, none⟩ = some (.int .u32 tl) ∧ w'.cell? ⟨p, 7, none⟩ = some lk ∧ w'.cell? ⟨p, 8, none⟩ = some tr ∧ w'.cell? ⟨p, 9, none⟩ = some (.slice tq took.length tc) ∧ w'.cell? ⟨p, 10, none⟩ = some (.int .i64 tat) ∧ w'.cell? ⟨p, 11, none⟩ = some (.int .i64 size) ∧ w'.cell? ⟨p, 12, none⟩ = some (.int .u32 u) ∧ w'.cell? ⟨p, 13, none⟩ = some (.int .i64 n))
    (first
      | exact HS.out _ _ hk2 (by simp)
      | exact ⟨by assumption, by assumption, by assumption, by assumption, by assumption, by assumption, by assumption, by assumption, by assumption, by assumption, by assumption, by assumption, by assumption, by assumption⟩
      | fail)
    (first
      | (go_at_call 32; refine (HSl.out _).mono ?_; rintro e2 w2 ⟨rfl, k⟩; have hk2 : Keeps [] w w2 := k.undrew; clear k)
      | fail)
  all_goals (
    have HK2 := Lib.hid hk2
    clear hk2
    go_wp2_with fail
    refine (HE.out w2 HK2.out).mono ?_
    rintro e4 w4 ⟨rfl, t, tk', hw4, hp4, ht4, hb4, hh4, k4⟩
    simp only [List.length_nil, Nat.zero_add, List.nil_append] at hh4
    rw [HN.out] at ht4 hh4
    obtain ⟨q2, c2, rfl⟩ := (Sl.of_owns ht4).len
    have HS4 := Lib.hid (rg_cells_steal hp4)
    obtain ⟨a0, a1, a2, a3, a4, a5, a6, a7, a8, a9, a10, a11, a12, a13⟩ := HS4.out _ [] (Keeps.refl _ _) (by simp)
    have HP4 := Lib.hid hp4
    have HW4 := Lib.hid hw4
    have HH4 : Hid (_ ∧ _ ∧ _ ∧ _) := Lib.hid ⟨ht4, hb4, hh4, k4⟩
    clear hw4 hp4 ht4 hb4 hh4 k4
    go_wp2
    go_quiet (fail)
    generalize hV : World.drewN _ _ = W5
    have hk5 : Keeps [] w4 W5 := by rw [← hV]; exact Keeps.of_drewN _ _
    clear hV
    obtain ⟨z0, z1, z2, z3, z4, z5, z6, z7, z8, z9, z10, z11, z12, z13⟩ := HS4.out W5 [] hk5 (by simp)
    have HK5 := Lib.hid hk5
    clear hk5
    go_wp2_with fail
    go_still_tail 11, (by kernel_rfl)
    change wpList _ _ _ _ _ (W5).drew
    go_wp2_with fail
    refine (HE2.out t W5.drew (HW4.out.keeps HK5.out.drew (by simp)) ((HS4.out _ [] HK5.out.drew (by simp)).1)).mono ?_
    rintro e6 w6 ⟨rfl, hw6, k6⟩
    have HQ : Hid (_ ∧ _) := Lib.hid ⟨hw6, k6⟩
    clear hw6 k6
    go_wp2
    first | go_end0 | refine bodyPost_ret (results_none rfl _ _ _) rfl ?_
    obtain ⟨hw6, k6⟩ := HQ.out
    obtain ⟨ht4, hb4, hh4, k4⟩ := HH4.out
    have k46 : Keeps [m] w4 w6 := HK5.out.nil.trans k6.undrew
    have sL := HK2.out.size
    have hb6 : ∀ g, (Value.slice q2 N c2).ownBlock = some g → ((Value.slice tq took.length tc).ownBlock = some g ∨ w.heap.size ≤ g) ∧ g ≠ p ∧ g ≠ m ∧ t.ownBlock ≠ some g := fun g hg => ⟨(hb4 g hg).1.imp_right (fun h => Nat.le_trans sL h), (hb4 g hg).2⟩
    refine ⟨rfl, t, .slice q2 N c2, hw6, HP4.out.keeps k46 (by simpa using hpm), ?_, hb6, ?_, ?_⟩
    · rw [List.length_append, List.length_singleton, HN.out]
      exact owns_keeps ht4 k46 (fun g hg => by have := hb6 g hg; simp; exact this.2.2.1)
    · rw [List.length_append, List.length_singleton, HN.out]
      exact owns_base (owns_keeps hh4 k46 (fun g hg => by have := (hh4.lt g hg).1; have := HW.out.lt; simp; omega)) sL
    · refine (((HK2.out.nil.trans k4).mono ?_).trans (k46.mono (by simp)))
      intro k hk hl
      simpa [Value.ownBlock] using hk
)
end Go.Proofs.YtjbgkaleickknaaGreat
