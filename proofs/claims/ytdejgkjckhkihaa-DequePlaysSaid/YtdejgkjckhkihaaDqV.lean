/-
  Contracts: what the functions of a deque's walks do (written by wip/tools/dqgen.py).
-/
import Derived.Test.YtdejgkjckhkihaaDqW
namespace Go.Proofs.Ytdejgkjckhkihaa
set_option maxRecDepth 100000
set_option linter.unusedSimpArgs false
set_option linter.unusedVariables false
open Go.ChangeShapes Go.WideShapes Go.ChangeAt Go.RowKit

set_option maxHeartbeats 1600000 in
theorem dqStealBegin (m p : Nat) (at_ size top bottom task : Int) (rest : List Value) (e : TypeId) (st : WSt) (w : World) (hw : Wk w m st) (hp : Row w p e (stCells m at_ size top bottom task rest)) (hpm : p ≠ m) (ho : st.over = false) (hs : st.sub = none)   :
    Calls Try.prog 41 #[.pointer (some ⟨p, 0, none⟩)] w fun e' w' => e' = .returned (.tuple #[]) ∧
      Wk w' m { st with x := ⟨1, at_, 0, 0⟩, nxt := .func (.func 57) #[.pointer (some ⟨p, 0, none⟩)] #[], sub := none, after := .nilFunc } ∧ Row w' p e (stCells m at_ size top bottom task rest) ∧ Keeps [m, p] w w' := by
  obtain ⟨W1, hW1⟩ : ∃ W1, w = W1 := ⟨_, rfl⟩
  have hp1 : Row W1 p e (stCells m at_ size top bottom task rest) := by rw [← hW1]; exact hp
  have hk1 : Keeps [p] w W1 := by rw [← hW1]; exact Keeps.refl _ _
  have hkV : Keeps [] W1 W1 := Keeps.refl _ _
  have HW : Hid (Wk W1 m st) := Lib.hid (hw.keeps hk1 (by simpa using Ne.symm hpm))
  have HS := Lib.hid (st_cells hp1)
  have HK1 := Lib.hid hk1
  have HP1 := Lib.hid hp1
  subst hW1
  obtain ⟨h0, h1, h2, h3, h4, h5⟩ := HS.out _ [] (Keeps.refl _ _) (by simp)
  have HE := Lib.hid (fun W (h : Wk W m st) c0 => dqLoad_any m p (at_) (.func 57) #[.pointer (some ⟨p, 0, none⟩)] #[] st W h c0 ho hs)
  clear hw hp ho hs hp1 hk1
  go_enter Try.func41, Try.ntmps41
  go_wp2
  go_still_tail 11, (by kernel_rfl)
  change wpList _ _ _ _ _ (w).drew
  go_wp2_with fail
  refine (HE.out (w).drew (HW.out.keeps hkV.drew (by simp)) (HS.out _ _ hkV.drew (by simp)).1).mono ?_
  rintro e2 w3 ⟨rfl, hw3, k3⟩
  have HQ := Lib.hid (⟨hw3, hkV.nil.trans k3.undrew⟩ : _ ∧ Keeps [m] w w3)
  clear hw3 k3
  go_wp2
  first | go_end0 | refine bodyPost_ret (results_none rfl _ _ _) rfl ?_
  exact ⟨rfl, HQ.out.1, HP1.out.keeps HQ.out.2 (by simpa using hpm), (HK1.out.mono (by simp)).trans (HQ.out.2.mono (by simp))⟩

set_option maxHeartbeats 1600000 in
theorem dqPopBegin (m p : Nat) (at_ size top bottom task : Int) (rest : List Value) (e : TypeId) (st : WSt) (w : World) (hw : Wk w m st) (hp : Row w p e (stCells m at_ size top bottom task rest)) (hpm : p ≠ m) (ho : st.over = false) (hs : st.sub = none) (a0 : 0 ≤ at_) (a1 : at_ < 65536)  :
    Calls Try.prog 43 #[.pointer (some ⟨p, 0, none⟩)] w fun e' w' => e' = .returned (.tuple #[]) ∧
      Wk w' m { st with x := ⟨1, at_ + 1, 0, 0⟩, nxt := .func (.func 58) #[.pointer (some ⟨p, 0, none⟩)] #[], sub := none, after := .nilFunc } ∧ Row w' p e (stCells m at_ size top bottom task rest) ∧ Keeps [m, p] w w' := by
  obtain ⟨W1, hW1⟩ : ∃ W1, w = W1 := ⟨_, rfl⟩
  have hp1 : Row W1 p e (stCells m at_ size top bottom task rest) := by rw [← hW1]; exact hp
  have hk1 : Keeps [p] w W1 := by rw [← hW1]; exact Keeps.refl _ _
  have hkV : Keeps [] W1 W1 := Keeps.refl _ _
  have HW : Hid (Wk W1 m st) := Lib.hid (hw.keeps hk1 (by simpa using Ne.symm hpm))
  have HS := Lib.hid (st_cells hp1)
  have HK1 := Lib.hid hk1
  have HP1 := Lib.hid hp1
  subst hW1
  obtain ⟨h0, h1, h2, h3, h4, h5⟩ := HS.out _ [] (Keeps.refl _ _) (by simp)
  have HE := Lib.hid (fun W (h : Wk W m st) c0 => dqLoad_any m p (at_ + 1) (.func 58) #[.pointer (some ⟨p, 0, none⟩)] #[] st W h c0 ho hs)
  clear hw hp ho hs hp1 hk1
  go_enter Try.func43, Try.ntmps43
  go_wp2
  go_region_held3 (fun w' => w'.cell? ⟨p, 0, none⟩ = some (.pointer (some ⟨m, 0, none⟩)) ∧ w'.cell? ⟨p, 1, none⟩ = some (.int .i64 at_) ∧ w'.cell? ⟨p, 2, none⟩ = some (.int .i64 size) ∧ w'.cell? ⟨p, 3, none⟩ = some (.int .u64 top) ∧ w'.cell? ⟨p, 4, none⟩ = some (.int .u64 bottom) ∧ w'.cell? ⟨p, 5, none⟩ = some (.int .u64 task))
    (first
      | exact HS.out _ _ hk3 (by simpa using hpm)
      | exact HS.out _ _ hk2 (by simp)
      | exact ⟨by assumption, by assumption, by assumption, by assumption, by assumption, by assumption⟩
      | fail)
    (first
      | (go_at_call 26; refine (dqBottom_any at_ size _ a0 a1).mono ?_; rintro e2 w2 ⟨rfl, k2⟩; have hk2 : Keeps [] w w2 := hkV.trans k2.undrew; clear k2)
      | (go_at_call 55; refine (HE.out _ (HW.out.keeps hk2 (by simp)) (HS.out _ _ hk2 (by simp)).1).mono ?_; rintro e2 w3 ⟨rfl, hw3, k3⟩; have hk3 : Keeps [m] w w3 := (hk2.mono (by simp)).trans k3; clear k3)
      | fail)
  all_goals (first | go_end0 | refine bodyPost_ret (results_none rfl _ _ _) rfl ?_)
  all_goals exact ⟨rfl, hw3, HP1.out.keeps hk3 (by simpa using hpm), (HK1.out.mono (by simp)).trans (hk3.mono (by simp))⟩

set_option maxHeartbeats 1600000 in
theorem dqPushBottom (m p : Nat) (at_ size top bottom task : Int) (rest : List Value) (e : TypeId) (st : WSt) (w : World) (v : Int) (won : Bool) (hw : Wk w m st) (hp : Row w p e (stCells m at_ size top bottom task rest)) (hpm : p ≠ m) (ho : st.over = false) (hs : st.sub = none)   :
    Calls Try.prog 56 #[.pointer (some ⟨p, 0, none⟩), .int .u64 v, .bool won] w fun e' w' => e' = .returned (.tuple #[]) ∧
      Wk w' m { st with x := ⟨1, at_, 0, 0⟩, nxt := .func (.func 72) #[.pointer (some ⟨p, 0, none⟩)] #[], sub := none, after := .nilFunc } ∧ Row w' p e (stCells m at_ size top v task rest) ∧ Keeps [m, p] w w' := by
  obtain ⟨W1, hW1⟩ : ∃ W1, w.setCell ⟨p, 4, none⟩ (.int .u64 v) = W1 := ⟨_, rfl⟩
  have hp1 : Row W1 p e (stCells m at_ size top v task rest) := by rw [← hW1]; exact hp.set 4 _
  have hk1 : Keeps [p] w W1 := by rw [← hW1]; exact (Keeps.refl [p] w).setCell (fun _ => by simp) _
  have hkV : Keeps [] W1 W1 := Keeps.refl _ _
  have oc := hp.cell (j := 4) rfl
  have oz := hp.frozen 4
  have HW : Hid (Wk W1 m st) := Lib.hid (hw.keeps hk1 (by simpa using Ne.symm hpm))
  have HS := Lib.hid (st_cells hp1)
  have HK1 := Lib.hid hk1
  have HP1 := Lib.hid hp1
  obtain ⟨h0, h1, h2, h3, h4, h5⟩ := HS.out _ [] (Keeps.refl _ _) (by simp)
  have HE := Lib.hid (fun W (h : Wk W m st) c0 => dqLoad_any m p (at_) (.func 72) #[.pointer (some ⟨p, 0, none⟩)] #[] st W h c0 ho hs)
  clear hw hp ho hs hp1 hk1
  go_enter Try.func56, Try.ntmps56
  go_wp2
  go_still_tail 11, (by kernel_rfl)
  change wpList _ _ _ _ _ (W1).drew
  go_wp2_with fail
  refine (HE.out (W1).drew (HW.out.keeps hkV.drew (by simp)) (HS.out _ _ hkV.drew (by simp)).1).mono ?_
  rintro e2 w3 ⟨rfl, hw3, k3⟩
  have HQ := Lib.hid (⟨hw3, hkV.nil.trans k3.undrew⟩ : _ ∧ Keeps [m] W1 w3)
  clear hw3 k3
  go_wp2
  first | go_end0 | refine bodyPost_ret (results_none rfl _ _ _) rfl ?_
  exact ⟨rfl, HQ.out.1, HP1.out.keeps HQ.out.2 (by simpa using hpm), (HK1.out.mono (by simp)).trans (HQ.out.2.mono (by simp))⟩

set_option maxHeartbeats 1600000 in
theorem dqStealTop (m p : Nat) (at_ size top bottom task : Int) (rest : List Value) (e : TypeId) (st : WSt) (w : World) (v : Int) (won : Bool) (hw : Wk w m st) (hp : Row w p e (stCells m at_ size top bottom task rest)) (hpm : p ≠ m) (ho : st.over = false) (hs : st.sub = none) (a0 : 0 ≤ at_) (a1 : at_ < 65536)  :
    Calls Try.prog 57 #[.pointer (some ⟨p, 0, none⟩), .int .u64 v, .bool won] w fun e' w' => e' = .returned (.tuple #[]) ∧
      Wk w' m { st with x := ⟨1, at_ + 1, 0, 0⟩, nxt := .func (.func 73) #[.pointer (some ⟨p, 0, none⟩)] #[], sub := none, after := .nilFunc } ∧ Row w' p e (stCells m at_ size v bottom task rest) ∧ Keeps [m, p] w w' := by
  obtain ⟨W1, hW1⟩ : ∃ W1, w.setCell ⟨p, 3, none⟩ (.int .u64 v) = W1 := ⟨_, rfl⟩
  have hp1 : Row W1 p e (stCells m at_ size v bottom task rest) := by rw [← hW1]; exact hp.set 3 _
  have hk1 : Keeps [p] w W1 := by rw [← hW1]; exact (Keeps.refl [p] w).setCell (fun _ => by simp) _
  have hkV : Keeps [] W1 W1 := Keeps.refl _ _
  have oc := hp.cell (j := 3) rfl
  have oz := hp.frozen 3
  have HW : Hid (Wk W1 m st) := Lib.hid (hw.keeps hk1 (by simpa using Ne.symm hpm))
  have HS := Lib.hid (st_cells hp1)
  have HK1 := Lib.hid hk1
  have HP1 := Lib.hid hp1
  obtain ⟨h0, h1, h2, h3, h4, h5⟩ := HS.out _ [] (Keeps.refl _ _) (by simp)
  have HE := Lib.hid (fun W (h : Wk W m st) c0 => dqLoad_any m p (at_ + 1) (.func 73) #[.pointer (some ⟨p, 0, none⟩)] #[] st W h c0 ho hs)
  clear hw hp ho hs hp1 hk1
  go_enter Try.func57, Try.ntmps57
  go_wp2
  go_region_held3 (fun w' => w'.cell? ⟨p, 0, none⟩ = some (.pointer (some ⟨m, 0, none⟩)) ∧ w'.cell? ⟨p, 1, none⟩ = some (.int .i64 at_) ∧ w'.cell? ⟨p, 2, none⟩ = some (.int .i64 size) ∧ w'.cell? ⟨p, 3, none⟩ = some (.int .u64 v) ∧ w'.cell? ⟨p, 4, none⟩ = some (.int .u64 bottom) ∧ w'.cell? ⟨p, 5, none⟩ = some (.int .u64 task))
    (first
      | exact HS.out _ _ hk3 (by simpa using hpm)
      | exact HS.out _ _ hk2 (by simp)
      | exact ⟨by assumption, by assumption, by assumption, by assumption, by assumption, by assumption⟩
      | fail)
    (first
      | (go_at_call 26; refine (dqBottom_any at_ size _ a0 a1).mono ?_; rintro e2 w2 ⟨rfl, k2⟩; have hk2 : Keeps [] W1 w2 := hkV.trans k2.undrew; clear k2)
      | (go_at_call 55; refine (HE.out _ (HW.out.keeps hk2 (by simp)) (HS.out _ _ hk2 (by simp)).1).mono ?_; rintro e2 w3 ⟨rfl, hw3, k3⟩; have hk3 : Keeps [m] W1 w3 := (hk2.mono (by simp)).trans k3; clear k3)
      | fail)
  all_goals (first | go_end0 | refine bodyPost_ret (results_none rfl _ _ _) rfl ?_)
  all_goals exact ⟨rfl, hw3, HP1.out.keeps hk3 (by simpa using hpm), (HK1.out.mono (by simp)).trans (hk3.mono (by simp))⟩

set_option maxHeartbeats 1600000 in
theorem dqPopBottom (m p : Nat) (at_ size top bottom task : Int) (rest : List Value) (e : TypeId) (st : WSt) (w : World) (v : Int) (won : Bool) (hw : Wk w m st) (hp : Row w p e (stCells m at_ size top bottom task rest)) (hpm : p ≠ m) (ho : st.over = false) (hs : st.sub = none) (a0 : 0 ≤ at_) (a1 : at_ < 65536)  :
    Calls Try.prog 58 #[.pointer (some ⟨p, 0, none⟩), .int .u64 v, .bool won] w fun e' w' => e' = .returned (.tuple #[]) ∧
      Wk w' m { st with x := ⟨2, at_ + 1, (v - 1) % 18446744073709551616, 0⟩, nxt := .func (.func 75) #[.pointer (some ⟨p, 0, none⟩)] #[], sub := none, after := .nilFunc } ∧ Row w' p e (stCells m at_ size top ((v - 1) % 18446744073709551616) task rest) ∧ Keeps [m, p] w w' := by
  obtain ⟨W1, hW1⟩ : ∃ W1, w.setCell ⟨p, 4, none⟩ (.int .u64 ((v - 1) % 18446744073709551616)) = W1 := ⟨_, rfl⟩
  have hp1 : Row W1 p e (stCells m at_ size top ((v - 1) % 18446744073709551616) task rest) := by rw [← hW1]; exact hp.set 4 _
  have hk1 : Keeps [p] w W1 := by rw [← hW1]; exact (Keeps.refl [p] w).setCell (fun _ => by simp) _
  have hkV : Keeps [] W1 W1 := Keeps.refl _ _
  have oc := hp.cell (j := 4) rfl
  have oz := hp.frozen 4
  have HW : Hid (Wk W1 m st) := Lib.hid (hw.keeps hk1 (by simpa using Ne.symm hpm))
  have HS := Lib.hid (st_cells hp1)
  have HK1 := Lib.hid hk1
  have HP1 := Lib.hid hp1
  obtain ⟨h0, h1, h2, h3, h4, h5⟩ := HS.out _ [] (Keeps.refl _ _) (by simp)
  have HE := Lib.hid (fun W (h : Wk W m st) c0 => dqStore_any m p (at_ + 1) ((v - 1) % 18446744073709551616) (.func 75) #[.pointer (some ⟨p, 0, none⟩)] #[] st W h c0 ho hs)
  have hdn : IntKind.u64.wrap (v - 1) = (v - 1) % 18446744073709551616 := rfl
  clear hw hp ho hs hp1 hk1
  go_enter Try.func58, Try.ntmps58
  go_wp2
  go_region_held3 (fun w' => w'.cell? ⟨p, 0, none⟩ = some (.pointer (some ⟨m, 0, none⟩)) ∧ w'.cell? ⟨p, 1, none⟩ = some (.int .i64 at_) ∧ w'.cell? ⟨p, 2, none⟩ = some (.int .i64 size) ∧ w'.cell? ⟨p, 3, none⟩ = some (.int .u64 top) ∧ w'.cell? ⟨p, 4, none⟩ = some (.int .u64 ((v - 1) % 18446744073709551616)) ∧ w'.cell? ⟨p, 5, none⟩ = some (.int .u64 task))
    (first
      | exact HS.out _ _ hk3 (by simpa using hpm)
      | exact HS.out _ _ hk2 (by simp)
      | exact ⟨by assumption, by assumption, by assumption, by assumption, by assumption, by assumption⟩
      | fail)
    (first
      | (go_at_call 26; refine (dqBottom_any at_ size _ a0 a1).mono ?_; rintro e2 w2 ⟨rfl, k2⟩; have hk2 : Keeps [] W1 w2 := hkV.trans k2.undrew; clear k2)
      | (go_at_call 74; refine (HE.out _ (HW.out.keeps hk2 (by simp)) (HS.out _ _ hk2 (by simp)).1).mono ?_; rintro e2 w3 ⟨rfl, hw3, k3⟩; have hk3 : Keeps [m] W1 w3 := (hk2.mono (by simp)).trans k3; clear k3)
      | fail)
  all_goals (first | go_end0 | refine bodyPost_ret (results_none rfl _ _ _) rfl ?_)
  all_goals exact ⟨rfl, hw3, HP1.out.keeps hk3 (by simpa using hpm), (HK1.out.mono (by simp)).trans (hk3.mono (by simp))⟩

set_option maxHeartbeats 1600000 in
theorem dqPushRoom (m p : Nat) (at_ size top bottom task : Int) (rest : List Value) (e : TypeId) (st : WSt) (w : World) (v : Int) (won : Bool) (hw : Wk w m st) (hp : Row w p e (stCells m at_ size top bottom task rest)) (hpm : p ≠ m) (ho : st.over = false) (hs : st.sub = none) (hr : dqRight at_ size) (hn : M.U bottom) (u1 : M.U bottom) (u2 : M.U v) (hA : dqAhead bottom v < size) :
    Calls Try.prog 72 #[.pointer (some ⟨p, 0, none⟩), .int .u64 v, .bool won] w fun e' w' => e' = .returned (.tuple #[]) ∧
      Wk w' m { st with x := ⟨2, dqSlot at_ size bottom, task, 0⟩, nxt := .func (.func 92) #[.pointer (some ⟨p, 0, none⟩)] #[], sub := none, after := .nilFunc } ∧ Row w' p e (stCells m at_ size top bottom task rest) ∧ Keeps [m, p] w w' := by
  obtain ⟨W1, hW1⟩ : ∃ W1, w = W1 := ⟨_, rfl⟩
  have hp1 : Row W1 p e (stCells m at_ size top bottom task rest) := by rw [← hW1]; exact hp
  have hk1 : Keeps [p] w W1 := by rw [← hW1]; exact Keeps.refl _ _
  have hkV : Keeps [] W1 W1 := Keeps.refl _ _
  have HW : Hid (Wk W1 m st) := Lib.hid (hw.keeps hk1 (by simpa using Ne.symm hpm))
  have HS := Lib.hid (st_cells hp1)
  have HK1 := Lib.hid hk1
  have HP1 := Lib.hid hp1
  subst hW1
  obtain ⟨h0, h1, h2, h3, h4, h5⟩ := HS.out _ [] (Keeps.refl _ _) (by simp)
  have HE := Lib.hid (fun W (h : Wk W m st) c0 => dqStore_any m p (dqSlot at_ size bottom) (task) (.func 92) #[.pointer (some ⟨p, 0, none⟩)] #[] st W h c0 ho hs)
  have hsz : 2 ≤ size ∧ size ≤ 256 := by have := hr.1; omega
  obtain ⟨z0, z1⟩ := hsz
  have dA : decide (size ≤ dqAhead bottom v) = false := decide_eq_false (by omega)
  clear hw hp ho hs hp1 hk1
  go_enter Try.func72, Try.ntmps72
  go_wp2
  go_quiet ((go_at_call 27; exact qs (dqAhead_any _ _ _ u1 u2)))
  go_wp2_with fail
  generalize hV : World.drewN _ _ = W2
  replace hkV : Keeps [] w W2 := by rw [← hV]; exact (Keeps.refl _ _).drewN
  obtain ⟨c0, c1, c2, c3, c4, c5⟩ := HS.out W2 [] hkV (by simp)
  clear hV
  go_region_held3 (fun w' => w'.cell? ⟨p, 0, none⟩ = some (.pointer (some ⟨m, 0, none⟩)) ∧ w'.cell? ⟨p, 1, none⟩ = some (.int .i64 at_) ∧ w'.cell? ⟨p, 2, none⟩ = some (.int .i64 size) ∧ w'.cell? ⟨p, 3, none⟩ = some (.int .u64 top) ∧ w'.cell? ⟨p, 4, none⟩ = some (.int .u64 bottom) ∧ w'.cell? ⟨p, 5, none⟩ = some (.int .u64 task))
    (first
      | exact HS.out _ _ hk3 (by simpa using hpm)
      | exact HS.out _ _ hk2 (by simp)
      | exact ⟨by assumption, by assumption, by assumption, by assumption, by assumption, by assumption⟩
      | fail)
    (first
      | (go_at_call 28; refine (dqSlot_any at_ size bottom _ hr hn).mono ?_; rintro e2 w2 ⟨rfl, k2⟩; have hk2 : Keeps [] w w2 := hkV.trans k2.undrew; clear k2)
      | (go_at_call 74; refine (HE.out _ (HW.out.keeps hk2 (by simp)) (HS.out _ _ hk2 (by simp)).1).mono ?_; rintro e2 w3 ⟨rfl, hw3, k3⟩; have hk3 : Keeps [m] w w3 := (hk2.mono (by simp)).trans k3; clear k3)
      | fail)
  all_goals (first | go_end0 | refine bodyPost_ret (results_none rfl _ _ _) rfl ?_)
  all_goals exact ⟨rfl, hw3, HP1.out.keeps hk3 (by simpa using hpm), (HK1.out.mono (by simp)).trans (hk3.mono (by simp))⟩

set_option maxHeartbeats 1600000 in
theorem dqPushFull (m p : Nat) (at_ size top bottom task : Int) (rest : List Value) (e : TypeId) (st : WSt) (w : World) (v : Int) (won : Bool) (hw : Wk w m st) (hp : Row w p e (stCells m at_ size top bottom task rest)) (hpm : p ≠ m) (ho : st.over = false) (hs : st.sub = none) (hu : 0 < st.under) (u1 : M.U bottom) (u2 : M.U v) (hr : dqRight at_ size) (hA : size ≤ dqAhead bottom v) :
    Calls Try.prog 72 #[.pointer (some ⟨p, 0, none⟩), .int .u64 v, .bool won] w fun e' w' => e' = .returned (.tuple #[]) ∧
      ∃ l', Wk w' m { st with nxt := .nilFunc, after := .nilFunc, over := true, code := 4, v := 0, l := l' } ∧ w'.ownsRow w.heap.size 38 1 l' 0 [] ∧ Keeps [m] w w' := by
  obtain ⟨W1, hW1⟩ : ∃ W1, w = W1 := ⟨_, rfl⟩
  have hp1 : Row W1 p e (stCells m at_ size top bottom task rest) := by rw [← hW1]; exact hp
  have hk1 : Keeps [p] w W1 := by rw [← hW1]; exact Keeps.refl _ _
  have hkV : Keeps [] W1 W1 := Keeps.refl _ _
  have HW : Hid (Wk W1 m st) := Lib.hid (hw.keeps hk1 (by simpa using Ne.symm hpm))
  have HS := Lib.hid (st_cells hp1)
  have HK1 := Lib.hid hk1
  have HP1 := Lib.hid hp1
  subst hW1
  obtain ⟨h0, h1, h2, h3, h4, h5⟩ := HS.out _ [] (Keeps.refl _ _) (by simp)
  have HE := Lib.hid (fun W (h : Wk W m st) => wBreak m st 4 W h ho (.inl hu))
  have hsz : 2 ≤ size ∧ size ≤ 256 := by have := hr.1; omega
  obtain ⟨z0, z1⟩ := hsz
  have dA : decide (size ≤ dqAhead bottom v) = true := decide_eq_true hA
  clear hw hp ho hs hp1 hk1 hu
  go_enter Try.func72, Try.ntmps72
  go_wp2
  go_quiet ((go_at_call 27; exact qs (dqAhead_any _ _ _ u1 u2)))
  go_wp2_with fail
  generalize hV : World.drewN _ _ = W2
  replace hkV : Keeps [] w W2 := by rw [← hV]; exact (Keeps.refl _ _).drewN
  obtain ⟨c0, c1, c2, c3, c4, c5⟩ := HS.out W2 [] hkV (by simp)
  clear hV
  refine (HE.out W2 (HW.out.keeps hkV (by simp))).mono ?_
  rintro e2 w3 ⟨rfl, l', hw3, ho3, k3⟩
  have HQ := Lib.hid (⟨hw3, owns_base ho3 (by first | exact hkV.size | exact hkV.drew.size), hkV.nil.trans k3⟩ : _ ∧ w3.ownsRow (w).heap.size 38 1 l' 0 [] ∧ Keeps [m] w w3)
  clear hw3 k3 ho3
  go_wp2
  first | go_end0 | refine bodyPost_ret (results_none rfl _ _ _) rfl ?_
  exact ⟨rfl, _, HQ.out.1, HQ.out.2.1, HQ.out.2.2⟩

set_option maxHeartbeats 1600000 in
theorem dqStealSome (m p : Nat) (at_ size top bottom task : Int) (rest : List Value) (e : TypeId) (st : WSt) (w : World) (v : Int) (won : Bool) (hw : Wk w m st) (hp : Row w p e (stCells m at_ size top bottom task rest)) (hpm : p ≠ m) (ho : st.over = false) (hs : st.sub = none) (hr : dqRight at_ size) (hn : M.U top) (u1 : M.U v) (u2 : M.U top) (hA : 1 ≤ dqAhead v top) :
    Calls Try.prog 73 #[.pointer (some ⟨p, 0, none⟩), .int .u64 v, .bool won] w fun e' w' => e' = .returned (.tuple #[]) ∧
      Wk w' m { st with x := ⟨1, dqSlot at_ size top, 0, 0⟩, nxt := .func (.func 93) #[.pointer (some ⟨p, 0, none⟩)] #[], sub := none, after := .nilFunc } ∧ Row w' p e (stCells m at_ size top bottom task rest) ∧ Keeps [m, p] w w' := by
  obtain ⟨W1, hW1⟩ : ∃ W1, w = W1 := ⟨_, rfl⟩
  have hp1 : Row W1 p e (stCells m at_ size top bottom task rest) := by rw [← hW1]; exact hp
  have hk1 : Keeps [p] w W1 := by rw [← hW1]; exact Keeps.refl _ _
  have hkV : Keeps [] W1 W1 := Keeps.refl _ _
  have HW : Hid (Wk W1 m st) := Lib.hid (hw.keeps hk1 (by simpa using Ne.symm hpm))
  have HS := Lib.hid (st_cells hp1)
  have HK1 := Lib.hid hk1
  have HP1 := Lib.hid hp1
  subst hW1
  obtain ⟨h0, h1, h2, h3, h4, h5⟩ := HS.out _ [] (Keeps.refl _ _) (by simp)
  have HE := Lib.hid (fun W (h : Wk W m st) c0 => dqLoad_any m p (dqSlot at_ size top) (.func 93) #[.pointer (some ⟨p, 0, none⟩)] #[] st W h c0 ho hs)
  have dA : decide (dqAhead v top < 1) = false := decide_eq_false (by omega)
  clear hw hp ho hs hp1 hk1
  go_enter Try.func73, Try.ntmps73
  go_wp2_with fail
  refine (dqAhead_any _ _ _ u1 u2).mono ?_
  rintro e1 w1 ⟨rfl, rfl⟩
  go_wp2
  go_region_held3 (fun w' => w'.cell? ⟨p, 0, none⟩ = some (.pointer (some ⟨m, 0, none⟩)) ∧ w'.cell? ⟨p, 1, none⟩ = some (.int .i64 at_) ∧ w'.cell? ⟨p, 2, none⟩ = some (.int .i64 size) ∧ w'.cell? ⟨p, 3, none⟩ = some (.int .u64 top) ∧ w'.cell? ⟨p, 4, none⟩ = some (.int .u64 bottom) ∧ w'.cell? ⟨p, 5, none⟩ = some (.int .u64 task))
    (first
      | exact HS.out _ _ hk3 (by simpa using hpm)
      | exact HS.out _ _ hk2 (by simp)
      | exact ⟨by assumption, by assumption, by assumption, by assumption, by assumption, by assumption⟩
      | fail)
    (first
      | (go_at_call 28; refine (dqSlot_any at_ size top _ hr hn).mono ?_; rintro e2 w2 ⟨rfl, k2⟩; have hk2 : Keeps [] w w2 := hkV.trans k2.undrew; clear k2)
      | (go_at_call 55; refine (HE.out _ (HW.out.keeps hk2 (by simp)) (HS.out _ _ hk2 (by simp)).1).mono ?_; rintro e2 w3 ⟨rfl, hw3, k3⟩; have hk3 : Keeps [m] w w3 := (hk2.mono (by simp)).trans k3; clear k3)
      | fail)
  all_goals (first | go_end0 | refine bodyPost_ret (results_none rfl _ _ _) rfl ?_)
  all_goals exact ⟨rfl, hw3, HP1.out.keeps hk3 (by simpa using hpm), (HK1.out.mono (by simp)).trans (hk3.mono (by simp))⟩

set_option maxHeartbeats 1600000 in
theorem dqStealNone (m p : Nat) (at_ size top bottom task : Int) (rest : List Value) (e : TypeId) (st : WSt) (w : World) (v : Int) (won : Bool) (hw : Wk w m st) (hp : Row w p e (stCells m at_ size top bottom task rest)) (hpm : p ≠ m) (ho : st.over = false) (hs : st.sub = none) (hu : 0 < st.under) (u1 : M.U v) (u2 : M.U top) (hA : dqAhead v top < 1) :
    Calls Try.prog 73 #[.pointer (some ⟨p, 0, none⟩), .int .u64 v, .bool won] w fun e' w' => e' = .returned (.tuple #[]) ∧
      ∃ l', Wk w' m { st with nxt := .nilFunc, after := .nilFunc, over := true, code := 5, v := 0, l := l' } ∧ w'.ownsRow w.heap.size 38 1 l' 0 [] ∧ Keeps [m] w w' := by
  obtain ⟨W1, hW1⟩ : ∃ W1, w = W1 := ⟨_, rfl⟩
  have hp1 : Row W1 p e (stCells m at_ size top bottom task rest) := by rw [← hW1]; exact hp
  have hk1 : Keeps [p] w W1 := by rw [← hW1]; exact Keeps.refl _ _
  have hkV : Keeps [] W1 W1 := Keeps.refl _ _
  have HW : Hid (Wk W1 m st) := Lib.hid (hw.keeps hk1 (by simpa using Ne.symm hpm))
  have HS := Lib.hid (st_cells hp1)
  have HK1 := Lib.hid hk1
  have HP1 := Lib.hid hp1
  subst hW1
  obtain ⟨h0, h1, h2, h3, h4, h5⟩ := HS.out _ [] (Keeps.refl _ _) (by simp)
  have HE := Lib.hid (fun W (h : Wk W m st) => wBreak m st 5 W h ho (.inl hu))
  have dA : decide (dqAhead v top < 1) = true := decide_eq_true hA
  clear hw hp ho hs hp1 hk1 hu
  go_enter Try.func73, Try.ntmps73
  go_wp2_with fail
  refine (dqAhead_any _ _ _ u1 u2).mono ?_
  rintro e1 w1 ⟨rfl, rfl⟩
  go_wp2_with fail
  refine (HE.out w (HW.out.keeps hkV (by simp))).mono ?_
  rintro e2 w3 ⟨rfl, l', hw3, ho3, k3⟩
  have HQ := Lib.hid (⟨hw3, owns_base ho3 (by first | exact hkV.size | exact hkV.drew.size), hkV.nil.trans k3⟩ : _ ∧ w3.ownsRow (w).heap.size 38 1 l' 0 [] ∧ Keeps [m] w w3)
  clear hw3 k3 ho3
  go_wp2
  first | go_end0 | refine bodyPost_ret (results_none rfl _ _ _) rfl ?_
  exact ⟨rfl, _, HQ.out.1, HQ.out.2.1, HQ.out.2.2⟩

set_option maxHeartbeats 1600000 in
theorem dqPopLowered (m p : Nat) (at_ size top bottom task : Int) (rest : List Value) (e : TypeId) (st : WSt) (w : World) (v : Int) (won : Bool) (hw : Wk w m st) (hp : Row w p e (stCells m at_ size top bottom task rest)) (hpm : p ≠ m) (ho : st.over = false) (hs : st.sub = none)   :
    Calls Try.prog 75 #[.pointer (some ⟨p, 0, none⟩), .int .u64 v, .bool won] w fun e' w' => e' = .returned (.tuple #[]) ∧
      Wk w' m { st with x := ⟨1, at_, 0, 0⟩, nxt := .func (.func 94) #[.pointer (some ⟨p, 0, none⟩)] #[], sub := none, after := .nilFunc } ∧ Row w' p e (stCells m at_ size top bottom task rest) ∧ Keeps [m, p] w w' := by
  obtain ⟨W1, hW1⟩ : ∃ W1, w = W1 := ⟨_, rfl⟩
  have hp1 : Row W1 p e (stCells m at_ size top bottom task rest) := by rw [← hW1]; exact hp
  have hk1 : Keeps [p] w W1 := by rw [← hW1]; exact Keeps.refl _ _
  have hkV : Keeps [] W1 W1 := Keeps.refl _ _
  have HW : Hid (Wk W1 m st) := Lib.hid (hw.keeps hk1 (by simpa using Ne.symm hpm))
  have HS := Lib.hid (st_cells hp1)
  have HK1 := Lib.hid hk1
  have HP1 := Lib.hid hp1
  subst hW1
  obtain ⟨h0, h1, h2, h3, h4, h5⟩ := HS.out _ [] (Keeps.refl _ _) (by simp)
  have HE := Lib.hid (fun W (h : Wk W m st) c0 => dqLoad_any m p (at_) (.func 94) #[.pointer (some ⟨p, 0, none⟩)] #[] st W h c0 ho hs)
  clear hw hp ho hs hp1 hk1
  go_enter Try.func75, Try.ntmps75
  go_wp2
  go_still_tail 11, (by kernel_rfl)
  change wpList _ _ _ _ _ (w).drew
  go_wp2_with fail
  refine (HE.out (w).drew (HW.out.keeps hkV.drew (by simp)) (HS.out _ _ hkV.drew (by simp)).1).mono ?_
  rintro e2 w3 ⟨rfl, hw3, k3⟩
  have HQ := Lib.hid (⟨hw3, hkV.nil.trans k3.undrew⟩ : _ ∧ Keeps [m] w w3)
  clear hw3 k3
  go_wp2
  first | go_end0 | refine bodyPost_ret (results_none rfl _ _ _) rfl ?_
  exact ⟨rfl, HQ.out.1, HP1.out.keeps HQ.out.2 (by simpa using hpm), (HK1.out.mono (by simp)).trans (HQ.out.2.mono (by simp))⟩

set_option maxHeartbeats 1600000 in
theorem dqPushLaid (m p : Nat) (at_ size top bottom task : Int) (rest : List Value) (e : TypeId) (st : WSt) (w : World) (v : Int) (won : Bool) (hw : Wk w m st) (hp : Row w p e (stCells m at_ size top bottom task rest)) (hpm : p ≠ m) (ho : st.over = false) (hs : st.sub = none) (a0 : 0 ≤ at_) (a1 : at_ < 65536)  :
    Calls Try.prog 92 #[.pointer (some ⟨p, 0, none⟩), .int .u64 v, .bool won] w fun e' w' => e' = .returned (.tuple #[]) ∧
      Wk w' m { st with x := ⟨2, at_ + 1, dqUp bottom, 0⟩, nxt := .func (.func 98) #[.pointer (some ⟨p, 0, none⟩)] #[], sub := none, after := .nilFunc } ∧ Row w' p e (stCells m at_ size top bottom task rest) ∧ Keeps [m, p] w w' := by
  obtain ⟨W1, hW1⟩ : ∃ W1, w = W1 := ⟨_, rfl⟩
  have hp1 : Row W1 p e (stCells m at_ size top bottom task rest) := by rw [← hW1]; exact hp
  have hk1 : Keeps [p] w W1 := by rw [← hW1]; exact Keeps.refl _ _
  have hkV : Keeps [] W1 W1 := Keeps.refl _ _
  have HW : Hid (Wk W1 m st) := Lib.hid (hw.keeps hk1 (by simpa using Ne.symm hpm))
  have HS := Lib.hid (st_cells hp1)
  have HK1 := Lib.hid hk1
  have HP1 := Lib.hid hp1
  subst hW1
  obtain ⟨h0, h1, h2, h3, h4, h5⟩ := HS.out _ [] (Keeps.refl _ _) (by simp)
  have HE := Lib.hid (fun W (h : Wk W m st) c0 => dqStore_any m p (at_ + 1) (dqUp bottom) (.func 98) #[.pointer (some ⟨p, 0, none⟩)] #[] st W h c0 ho hs)
  have hup : IntKind.u64.wrap (bottom + 1) = dqUp bottom := rfl
  clear hw hp ho hs hp1 hk1
  go_enter Try.func92, Try.ntmps92
  go_wp2
  go_region_held3 (fun w' => w'.cell? ⟨p, 0, none⟩ = some (.pointer (some ⟨m, 0, none⟩)) ∧ w'.cell? ⟨p, 1, none⟩ = some (.int .i64 at_) ∧ w'.cell? ⟨p, 2, none⟩ = some (.int .i64 size) ∧ w'.cell? ⟨p, 3, none⟩ = some (.int .u64 top) ∧ w'.cell? ⟨p, 4, none⟩ = some (.int .u64 bottom) ∧ w'.cell? ⟨p, 5, none⟩ = some (.int .u64 task))
    (first
      | exact HS.out _ _ hk3 (by simpa using hpm)
      | exact HS.out _ _ hk2 (by simp)
      | exact ⟨by assumption, by assumption, by assumption, by assumption, by assumption, by assumption⟩
      | fail)
    (first
      | (go_at_call 26; refine (dqBottom_any at_ size _ a0 a1).mono ?_; rintro e2 w2 ⟨rfl, k2⟩; have hk2 : Keeps [] w w2 := hkV.trans k2.undrew; clear k2)
      | (go_at_call 74; refine (HE.out _ (HW.out.keeps hk2 (by simp)) (HS.out _ _ hk2 (by simp)).1).mono ?_; rintro e2 w3 ⟨rfl, hw3, k3⟩; have hk3 : Keeps [m] w w3 := (hk2.mono (by simp)).trans k3; clear k3)
      | fail)
  all_goals (first | go_end0 | refine bodyPost_ret (results_none rfl _ _ _) rfl ?_)
  all_goals exact ⟨rfl, hw3, HP1.out.keeps hk3 (by simpa using hpm), (HK1.out.mono (by simp)).trans (hk3.mono (by simp))⟩

set_option maxHeartbeats 1600000 in
theorem dqRestore (m p : Nat) (at_ size top bottom task : Int) (rest : List Value) (e : TypeId) (st : WSt) (w : World) (hw : Wk w m st) (hp : Row w p e (stCells m at_ size top bottom task rest)) (hpm : p ≠ m) (ho : st.over = false) (hs : st.sub = none) (a0 : 0 ≤ at_) (a1 : at_ < 65536)  :
    Calls Try.prog 101 #[.pointer (some ⟨p, 0, none⟩)] w fun e' w' => e' = .returned (.tuple #[]) ∧
      Wk w' m { st with x := ⟨2, at_ + 1, dqUp bottom, 0⟩, nxt := .func (.func 104) #[.pointer (some ⟨p, 0, none⟩)] #[], sub := none, after := .nilFunc } ∧ Row w' p e (stCells m at_ size top bottom task rest) ∧ Keeps [m, p] w w' := by
  obtain ⟨W1, hW1⟩ : ∃ W1, w = W1 := ⟨_, rfl⟩
  have hp1 : Row W1 p e (stCells m at_ size top bottom task rest) := by rw [← hW1]; exact hp
  have hk1 : Keeps [p] w W1 := by rw [← hW1]; exact Keeps.refl _ _
  have hkV : Keeps [] W1 W1 := Keeps.refl _ _
  have HW : Hid (Wk W1 m st) := Lib.hid (hw.keeps hk1 (by simpa using Ne.symm hpm))
  have HS := Lib.hid (st_cells hp1)
  have HK1 := Lib.hid hk1
  have HP1 := Lib.hid hp1
  subst hW1
  obtain ⟨h0, h1, h2, h3, h4, h5⟩ := HS.out _ [] (Keeps.refl _ _) (by simp)
  have HE := Lib.hid (fun W (h : Wk W m st) c0 => dqStore_any m p (at_ + 1) (dqUp bottom) (.func 104) #[.pointer (some ⟨p, 0, none⟩)] #[] st W h c0 ho hs)
  have hup : IntKind.u64.wrap (bottom + 1) = dqUp bottom := rfl
  clear hw hp ho hs hp1 hk1
  go_enter Try.func101, Try.ntmps101
  go_wp2
  go_region_held3 (fun w' => w'.cell? ⟨p, 0, none⟩ = some (.pointer (some ⟨m, 0, none⟩)) ∧ w'.cell? ⟨p, 1, none⟩ = some (.int .i64 at_) ∧ w'.cell? ⟨p, 2, none⟩ = some (.int .i64 size) ∧ w'.cell? ⟨p, 3, none⟩ = some (.int .u64 top) ∧ w'.cell? ⟨p, 4, none⟩ = some (.int .u64 bottom) ∧ w'.cell? ⟨p, 5, none⟩ = some (.int .u64 task))
    (first
      | exact HS.out _ _ hk3 (by simpa using hpm)
      | exact HS.out _ _ hk2 (by simp)
      | exact ⟨by assumption, by assumption, by assumption, by assumption, by assumption, by assumption⟩
      | fail)
    (first
      | (go_at_call 26; refine (dqBottom_any at_ size _ a0 a1).mono ?_; rintro e2 w2 ⟨rfl, k2⟩; have hk2 : Keeps [] w w2 := hkV.trans k2.undrew; clear k2)
      | (go_at_call 74; refine (HE.out _ (HW.out.keeps hk2 (by simp)) (HS.out _ _ hk2 (by simp)).1).mono ?_; rintro e2 w3 ⟨rfl, hw3, k3⟩; have hk3 : Keeps [m] w w3 := (hk2.mono (by simp)).trans k3; clear k3)
      | fail)
  all_goals (first | go_end0 | refine bodyPost_ret (results_none rfl _ _ _) rfl ?_)
  all_goals exact ⟨rfl, hw3, HP1.out.keeps hk3 (by simpa using hpm), (HK1.out.mono (by simp)).trans (hk3.mono (by simp))⟩

set_option maxHeartbeats 1600000 in
theorem dqStealTask (m p : Nat) (at_ size top bottom task : Int) (rest : List Value) (e : TypeId) (st : WSt) (w : World) (v : Int) (won : Bool) (hw : Wk w m st) (hp : Row w p e (stCells m at_ size top bottom task rest)) (hpm : p ≠ m) (ho : st.over = false) (hs : st.sub = none)  (hU : M.U top) :
    Calls Try.prog 93 #[.pointer (some ⟨p, 0, none⟩), .int .u64 v, .bool won] w fun e' w' => e' = .returned (.tuple #[]) ∧
      Wk w' m { st with x := ⟨3, at_, top, dqUp top⟩, nxt := .func (.func 100) #[.pointer (some ⟨p, 0, none⟩)] #[], sub := none, after := .nilFunc } ∧ Row w' p e (stCells m at_ size top bottom v rest) ∧ Keeps [m, p] w w' := by
  obtain ⟨W1, hW1⟩ : ∃ W1, w.setCell ⟨p, 5, none⟩ (.int .u64 v) = W1 := ⟨_, rfl⟩
  have hp1 : Row W1 p e (stCells m at_ size top bottom v rest) := by rw [← hW1]; exact hp.set 5 _
  have hk1 : Keeps [p] w W1 := by rw [← hW1]; exact (Keeps.refl [p] w).setCell (fun _ => by simp) _
  have hkV : Keeps [] W1 W1 := Keeps.refl _ _
  have oc := hp.cell (j := 5) rfl
  have oz := hp.frozen 5
  have HW : Hid (Wk W1 m st) := Lib.hid (hw.keeps hk1 (by simpa using Ne.symm hpm))
  have HS := Lib.hid (st_cells hp1)
  have HK1 := Lib.hid hk1
  have HP1 := Lib.hid hp1
  obtain ⟨h0, h1, h2, h3, h4, h5⟩ := HS.out _ [] (Keeps.refl _ _) (by simp)
  have HE := Lib.hid (fun W (h : Wk W m st) (h' : Row W p e (stCells m at_ size top bottom v rest)) => dqClaim_any m p at_ size top bottom v rest e (.func 100) #[.pointer (some ⟨p, 0, none⟩)] #[] st W h h' hU ho hs)
  clear hw hp ho hs hp1 hk1
  go_enter Try.func93, Try.ntmps93
  go_wp2_with fail
  refine (HE.out W1 (HW.out.keeps hkV (by simp)) (HP1.out.keeps hkV (by simp))).mono ?_
  rintro e2 w3 ⟨rfl, hw3, k3⟩
  have HQ := Lib.hid (⟨hw3, hkV.nil.trans k3⟩ : _ ∧ Keeps [m] W1 w3)
  clear hw3 k3
  go_wp2
  first | go_end0 | refine bodyPost_ret (results_none rfl _ _ _) rfl ?_
  exact ⟨rfl, HQ.out.1, HP1.out.keeps HQ.out.2 (by simpa using hpm), (HK1.out.mono (by simp)).trans (HQ.out.2.mono (by simp))⟩

set_option maxHeartbeats 1600000 in
theorem dqPopSlot (m p : Nat) (at_ size top bottom task : Int) (rest : List Value) (e : TypeId) (st : WSt) (w : World) (v : Int) (won : Bool) (hw : Wk w m st) (hp : Row w p e (stCells m at_ size top bottom task rest)) (hpm : p ≠ m) (ho : st.over = false) (hs : st.sub = none) (hr : dqRight at_ size) (hn : M.U bottom) (u1 : M.U bottom) (u2 : M.U v) (hA : 0 ≤ dqAhead bottom v) :
    Calls Try.prog 94 #[.pointer (some ⟨p, 0, none⟩), .int .u64 v, .bool won] w fun e' w' => e' = .returned (.tuple #[]) ∧
      Wk w' m { st with x := ⟨1, dqSlot at_ size bottom, 0, 0⟩, nxt := .func (.func 102) #[.pointer (some ⟨p, 0, none⟩)] #[], sub := none, after := .nilFunc } ∧ Row w' p e (stCells m at_ size v bottom task rest) ∧ Keeps [m, p] w w' := by
  obtain ⟨W1, hW1⟩ : ∃ W1, w.setCell ⟨p, 3, none⟩ (.int .u64 v) = W1 := ⟨_, rfl⟩
  have hp1 : Row W1 p e (stCells m at_ size v bottom task rest) := by rw [← hW1]; exact hp.set 3 _
  have hk1 : Keeps [p] w W1 := by rw [← hW1]; exact (Keeps.refl [p] w).setCell (fun _ => by simp) _
  have hkV : Keeps [] W1 W1 := Keeps.refl _ _
  have oc := hp.cell (j := 3) rfl
  have oz := hp.frozen 3
  have HW : Hid (Wk W1 m st) := Lib.hid (hw.keeps hk1 (by simpa using Ne.symm hpm))
  have HS := Lib.hid (st_cells hp1)
  have HK1 := Lib.hid hk1
  have HP1 := Lib.hid hp1
  obtain ⟨h0, h1, h2, h3, h4, h5⟩ := HS.out _ [] (Keeps.refl _ _) (by simp)
  have HE := Lib.hid (fun W (h : Wk W m st) c0 => dqLoad_any m p (dqSlot at_ size bottom) (.func 102) #[.pointer (some ⟨p, 0, none⟩)] #[] st W h c0 ho hs)
  have dA : decide (dqAhead bottom v < 0) = false := decide_eq_false (by omega)
  clear hw hp ho hs hp1 hk1
  go_enter Try.func94, Try.ntmps94
  go_wp2
  go_quiet ((go_at_call 27; exact qs (dqAhead_any _ _ _ u1 u2)))
  go_wp2_with fail
  generalize hV : World.drewN _ _ = W2
  replace hkV : Keeps [] W1 W2 := by rw [← hV]; exact (Keeps.refl _ _).drewN
  obtain ⟨c0, c1, c2, c3, c4, c5⟩ := HS.out W2 [] hkV (by simp)
  clear hV
  go_region_held3 (fun w' => w'.cell? ⟨p, 0, none⟩ = some (.pointer (some ⟨m, 0, none⟩)) ∧ w'.cell? ⟨p, 1, none⟩ = some (.int .i64 at_) ∧ w'.cell? ⟨p, 2, none⟩ = some (.int .i64 size) ∧ w'.cell? ⟨p, 3, none⟩ = some (.int .u64 v) ∧ w'.cell? ⟨p, 4, none⟩ = some (.int .u64 bottom) ∧ w'.cell? ⟨p, 5, none⟩ = some (.int .u64 task))
    (first
      | exact HS.out _ _ hk3 (by simpa using hpm)
      | exact HS.out _ _ hk2 (by simp)
      | exact ⟨by assumption, by assumption, by assumption, by assumption, by assumption, by assumption⟩
      | fail)
    (first
      | (go_at_call 28; refine (dqSlot_any at_ size bottom _ hr hn).mono ?_; rintro e2 w2 ⟨rfl, k2⟩; have hk2 : Keeps [] W1 w2 := hkV.trans k2.undrew; clear k2)
      | (go_at_call 55; refine (HE.out _ (HW.out.keeps hk2 (by simp)) (HS.out _ _ hk2 (by simp)).1).mono ?_; rintro e2 w3 ⟨rfl, hw3, k3⟩; have hk3 : Keeps [m] W1 w3 := (hk2.mono (by simp)).trans k3; clear k3)
      | fail)
  all_goals (first | go_end0 | refine bodyPost_ret (results_none rfl _ _ _) rfl ?_)
  all_goals exact ⟨rfl, hw3, HP1.out.keeps hk3 (by simpa using hpm), (HK1.out.mono (by simp)).trans (hk3.mono (by simp))⟩

set_option maxHeartbeats 1600000 in
theorem dqPopClaim (m p : Nat) (at_ size top bottom task : Int) (rest : List Value) (e : TypeId) (st : WSt) (w : World) (v : Int) (won : Bool) (hw : Wk w m st) (hp : Row w p e (stCells m at_ size top bottom task rest)) (hpm : p ≠ m) (ho : st.over = false) (hs : st.sub = none)  (hU : M.U top) (u1 : M.U bottom) (u2 : M.U top) (hA : dqAhead bottom top ≤ 0) :
    Calls Try.prog 102 #[.pointer (some ⟨p, 0, none⟩), .int .u64 v, .bool won] w fun e' w' => e' = .returned (.tuple #[]) ∧
      Wk w' m { st with x := ⟨3, at_, top, dqUp top⟩, nxt := .func (.func 105) #[.pointer (some ⟨p, 0, none⟩)] #[], sub := none, after := .nilFunc } ∧ Row w' p e (stCells m at_ size top bottom v rest) ∧ Keeps [m, p] w w' := by
  obtain ⟨W1, hW1⟩ : ∃ W1, w.setCell ⟨p, 5, none⟩ (.int .u64 v) = W1 := ⟨_, rfl⟩
  have hp1 : Row W1 p e (stCells m at_ size top bottom v rest) := by rw [← hW1]; exact hp.set 5 _
  have hk1 : Keeps [p] w W1 := by rw [← hW1]; exact (Keeps.refl [p] w).setCell (fun _ => by simp) _
  have hkV : Keeps [] W1 W1 := Keeps.refl _ _
  have oc := hp.cell (j := 5) rfl
  have oz := hp.frozen 5
  have HW : Hid (Wk W1 m st) := Lib.hid (hw.keeps hk1 (by simpa using Ne.symm hpm))
  have HS := Lib.hid (st_cells hp1)
  have HK1 := Lib.hid hk1
  have HP1 := Lib.hid hp1
  obtain ⟨h0, h1, h2, h3, h4, h5⟩ := HS.out _ [] (Keeps.refl _ _) (by simp)
  have HE := Lib.hid (fun W (h : Wk W m st) (h' : Row W p e (stCells m at_ size top bottom v rest)) => dqClaim_any m p at_ size top bottom v rest e (.func 105) #[.pointer (some ⟨p, 0, none⟩)] #[] st W h h' hU ho hs)
  have dA : decide (0 < dqAhead bottom top) = false := decide_eq_false (by omega)
  clear hw hp ho hs hp1 hk1
  go_enter Try.func102, Try.ntmps102
  go_wp2
  go_quiet ((go_at_call 27; exact qs (dqAhead_any _ _ _ u1 u2)))
  go_wp2_with fail
  generalize hV : World.drewN _ _ = W2
  replace hkV : Keeps [] W1 W2 := by rw [← hV]; exact (Keeps.refl _ _).drewN
  obtain ⟨c0, c1, c2, c3, c4, c5⟩ := HS.out W2 [] hkV (by simp)
  clear hV
  refine (HE.out W2 (HW.out.keeps hkV (by simp)) (HP1.out.keeps hkV (by simp))).mono ?_
  rintro e2 w3 ⟨rfl, hw3, k3⟩
  have HQ := Lib.hid (⟨hw3, hkV.nil.trans k3⟩ : _ ∧ Keeps [m] W1 w3)
  clear hw3 k3
  go_wp2
  first | go_end0 | refine bodyPost_ret (results_none rfl _ _ _) rfl ?_
  exact ⟨rfl, HQ.out.1, HP1.out.keeps HQ.out.2 (by simpa using hpm), (HK1.out.mono (by simp)).trans (HQ.out.2.mono (by simp))⟩

set_option maxHeartbeats 1600000 in
theorem dqPopSome (m p : Nat) (at_ size top bottom task : Int) (rest : List Value) (e : TypeId) (st : WSt) (w : World) (v : Int) (won : Bool) (hw : Wk w m st) (hp : Row w p e (stCells m at_ size top bottom task rest)) (hpm : p ≠ m) (ho : st.over = false) (hs : st.sub = none) (hu : 0 < st.under) (u1 : M.U bottom) (u2 : M.U top) (hA : 0 < dqAhead bottom top) :
    Calls Try.prog 102 #[.pointer (some ⟨p, 0, none⟩), .int .u64 v, .bool won] w fun e' w' => e' = .returned (.tuple #[]) ∧
      ∃ l', Wk w' m { st with nxt := .nilFunc, after := .nilFunc, over := true, code := 0, v := v, l := l' } ∧ w'.ownsRow w.heap.size 38 1 l' 0 [] ∧ Keeps [m, p] w w' := by
  obtain ⟨W1, hW1⟩ : ∃ W1, w.setCell ⟨p, 5, none⟩ (.int .u64 v) = W1 := ⟨_, rfl⟩
  have hp1 : Row W1 p e (stCells m at_ size top bottom v rest) := by rw [← hW1]; exact hp.set 5 _
  have hk1 : Keeps [p] w W1 := by rw [← hW1]; exact (Keeps.refl [p] w).setCell (fun _ => by simp) _
  have hkV : Keeps [] W1 W1 := Keeps.refl _ _
  have oc := hp.cell (j := 5) rfl
  have oz := hp.frozen 5
  have HW : Hid (Wk W1 m st) := Lib.hid (hw.keeps hk1 (by simpa using Ne.symm hpm))
  have HS := Lib.hid (st_cells hp1)
  have HK1 := Lib.hid hk1
  have HP1 := Lib.hid hp1
  obtain ⟨h0, h1, h2, h3, h4, h5⟩ := HS.out _ [] (Keeps.refl _ _) (by simp)
  have HE := Lib.hid (fun W (h : Wk W m st) => wEnd m st 0 v (.slice none 0 0) 0 [] W h ho (.inl hu) ⟨rfl, .inl ⟨_, _, rfl, rfl⟩⟩ (fun g hg => by cases hg) (by omega))
  have dA : decide (0 < dqAhead bottom top) = true := decide_eq_true hA
  clear hw hp ho hs hp1 hk1 hu
  go_enter Try.func102, Try.ntmps102
  go_wp2
  go_quiet ((go_at_call 27; exact qs (dqAhead_any _ _ _ u1 u2)))
  go_wp2_with fail
  generalize hV : World.drewN _ _ = W2
  replace hkV : Keeps [] W1 W2 := by rw [← hV]; exact (Keeps.refl _ _).drewN
  obtain ⟨c0, c1, c2, c3, c4, c5⟩ := HS.out W2 [] hkV (by simp)
  clear hV
  go_still_tail 11, (by kernel_rfl)
  change wpList _ _ _ _ _ (W2).drew
  go_wp2_with fail
  refine (HE.out (W2).drew (HW.out.keeps hkV.drew (by simp))).mono ?_
  rintro e2 w3 ⟨rfl, l', hw3, ho3, k3⟩
  have HQ := Lib.hid (⟨hw3, owns_base ho3 (by first | exact hkV.size | exact hkV.drew.size), hkV.nil.trans k3.undrew⟩ : _ ∧ w3.ownsRow (W1).heap.size 38 1 l' 0 [] ∧ Keeps [m] W1 w3)
  clear hw3 k3 ho3
  go_wp2
  first | go_end0 | refine bodyPost_ret (results_none rfl _ _ _) rfl ?_
  exact ⟨rfl, _, HQ.out.1, owns_base HQ.out.2.1 HK1.out.size, (HK1.out.mono (by simp)).trans (HQ.out.2.2.mono (by simp))⟩

set_option maxHeartbeats 1600000 in
theorem dqPushFinish (m p : Nat) (at_ size top bottom task : Int) (rest : List Value) (e : TypeId) (st : WSt) (w : World) (v : Int) (won : Bool) (hw : Wk w m st) (hp : Row w p e (stCells m at_ size top bottom task rest)) (hpm : p ≠ m) (ho : st.over = false) (hs : st.sub = none) (hu : 0 < st.under)  :
    Calls Try.prog 98 #[.pointer (some ⟨p, 0, none⟩), .int .u64 v, .bool won] w fun e' w' => e' = .returned (.tuple #[]) ∧
      ∃ l', Wk w' m { st with nxt := .nilFunc, after := .nilFunc, over := true, code := 0, v := 0, l := l' } ∧ w'.ownsRow w.heap.size 38 1 l' 0 [] ∧ Keeps [m] w w' := by
  obtain ⟨W1, hW1⟩ : ∃ W1, w = W1 := ⟨_, rfl⟩
  have hp1 : Row W1 p e (stCells m at_ size top bottom task rest) := by rw [← hW1]; exact hp
  have hk1 : Keeps [p] w W1 := by rw [← hW1]; exact Keeps.refl _ _
  have hkV : Keeps [] W1 W1 := Keeps.refl _ _
  have HW : Hid (Wk W1 m st) := Lib.hid (hw.keeps hk1 (by simpa using Ne.symm hpm))
  have HS := Lib.hid (st_cells hp1)
  have HK1 := Lib.hid hk1
  have HP1 := Lib.hid hp1
  subst hW1
  obtain ⟨h0, h1, h2, h3, h4, h5⟩ := HS.out _ [] (Keeps.refl _ _) (by simp)
  have HE := Lib.hid (fun W (h : Wk W m st) => wEnd m st 0 0 (.slice none 0 0) 0 [] W h ho (.inl hu) ⟨rfl, .inl ⟨_, _, rfl, rfl⟩⟩ (fun g hg => by cases hg) (by omega))
  clear hw hp ho hs hp1 hk1 hu
  go_enter Try.func98, Try.ntmps98
  go_wp2_with fail
  refine (HE.out w (HW.out.keeps hkV (by simp))).mono ?_
  rintro e2 w3 ⟨rfl, l', hw3, ho3, k3⟩
  have HQ := Lib.hid (⟨hw3, owns_base ho3 (by first | exact hkV.size | exact hkV.drew.size), hkV.nil.trans k3⟩ : _ ∧ w3.ownsRow (w).heap.size 38 1 l' 0 [] ∧ Keeps [m] w w3)
  clear hw3 k3 ho3
  go_wp2
  first | go_end0 | refine bodyPost_ret (results_none rfl _ _ _) rfl ?_
  exact ⟨rfl, _, HQ.out.1, HQ.out.2.1, HQ.out.2.2⟩
end Go.Proofs.Ytdejgkjckhkihaa
