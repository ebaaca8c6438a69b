/-
  Contracts: the other functions of a deque's walks: how a pop and a steal end, and how they begin.
-/
import Derived.Test.YtdejgkjckhkihaaDqV
import Derived.Test.YtdejgkjckhkihaaDqU
namespace Go.Proofs.Ytdejgkjckhkihaa
set_option maxRecDepth 100000
set_option linter.unusedSimpArgs false
set_option linter.unusedVariables false
open Go.ChangeShapes Go.WideShapes Go.ChangeAt Go.RowKit

set_option maxHeartbeats 800000 in
theorem dqPopFinish (m p : Nat) (at_ size top bottom task code rv : Int) (v : Int) (won : Bool) (e : TypeId) (st : WSt) (w : World) (hw : Wk w m st) (hp : Row w p e (stCells m at_ size top bottom task [.int .i64 code, .int .u64 rv, .slice none 0 0])) (ho : st.over = false) (hu : 0 < st.under) :
    Calls Try.prog 104 #[.pointer (some ⟨p, 0, none⟩), .int .u64 v, .bool won] w fun e' w' => e' = .returned (.tuple #[]) ∧ ∃ l', Wk w' m { st with nxt := .nilFunc, after := .nilFunc, over := true, code := code, v := rv, l := l' } ∧ w'.ownsRow w.heap.size 38 1 l' 0 [] ∧ Keeps [m] w w' := by
  have HE := Lib.hid (fun W (h : Wk W m st) => wEnd m st code rv (.slice none 0 0) 0 [] W h ho (.inl hu) ⟨rfl, .inl ⟨_, _, rfl, rfl⟩⟩ (fun g hg => by cases hg) (by omega))
  have h0 := hp.cell (j := 0) rfl
  have h6 := hp.cell (j := 6) rfl
  have h7 := hp.cell (j := 7) rfl
  have h8 := hp.cell (j := 8) rfl
  have HW := Lib.hid hw
  clear hw hp ho hu
  go_enter Try.func104, Try.ntmps104
  go_wp2
  go_still_tail 9, (by kernel_rfl)
  change wpList _ _ _ _ _ w.drew
  go_wp2_with fail
  refine (HE.out w.drew (HW.out.keeps ((Keeps.refl [] w).drew) (by simp))).mono ?_
  rintro e2 w3 ⟨rfl, l', hw3, ho3, k3⟩
  have HQ := Lib.hid (⟨hw3, ho3, k3.undrew⟩ : _ ∧ w3.ownsRow w.heap.size 38 1 l' 0 [] ∧ Keeps [m] w w3)
  clear hw3 k3 ho3
  go_wp2
  first | go_end0 | refine bodyPost_ret (results_none rfl _ _ _) rfl ?_
  exact ⟨rfl, _, HQ.out⟩

set_option maxHeartbeats 800000 in
theorem dqStealWon (m p : Nat) (at_ size top bottom task : Int) (rest : List Value) (v : Int) (e : TypeId) (st : WSt) (w : World) (hw : Wk w m st) (hp : Row w p e (stCells m at_ size top bottom task rest)) (ho : st.over = false) (hu : 0 < st.under) :
    Calls Try.prog 100 #[.pointer (some ⟨p, 0, none⟩), .int .u64 v, .bool true] w fun e' w' => e' = .returned (.tuple #[]) ∧ ∃ l', Wk w' m { st with nxt := .nilFunc, after := .nilFunc, over := true, code := 0, v := task, l := l' } ∧ w'.ownsRow w.heap.size 38 1 l' 0 [] ∧ Keeps [m] w w' := by
  have HE := Lib.hid (fun W (h : Wk W m st) => wEnd m st 0 task (.slice none 0 0) 0 [] W h ho (.inl hu) ⟨rfl, .inl ⟨_, _, rfl, rfl⟩⟩ (fun g hg => by cases hg) (by omega))
  have h0 := hp.cell (j := 0) rfl
  have h5 := hp.cell (j := 5) rfl
  have HW := Lib.hid hw
  clear hw hp ho hu
  go_enter Try.func100, Try.ntmps100
  go_wp2
  go_still_tail 11, (by kernel_rfl)
  change wpList _ _ _ _ _ w.drew
  go_wp2_with fail
  refine (HE.out w.drew (HW.out.keeps ((Keeps.refl [] w).drew) (by simp))).mono ?_
  rintro e2 w3 ⟨rfl, l', hw3, ho3, k3⟩
  have HQ := Lib.hid (⟨hw3, ho3, k3.undrew⟩ : _ ∧ w3.ownsRow w.heap.size 38 1 l' 0 [] ∧ Keeps [m] w w3)
  clear hw3 k3 ho3
  go_wp2
  first | go_end0 | refine bodyPost_ret (results_none rfl _ _ _) rfl ?_
  exact ⟨rfl, _, HQ.out⟩
set_option maxHeartbeats 800000 in
theorem dqStealLost (m p : Nat) (at_ size top bottom task : Int) (rest : List Value) (v : Int) (e : TypeId) (st : WSt) (w : World) (hw : Wk w m st) (hp : Row w p e (stCells m at_ size top bottom task rest)) (ho : st.over = false) (hu : 0 < st.under) :
    Calls Try.prog 100 #[.pointer (some ⟨p, 0, none⟩), .int .u64 v, .bool false] w fun e' w' => e' = .returned (.tuple #[]) ∧ ∃ l', Wk w' m { st with nxt := .nilFunc, after := .nilFunc, over := true, code := 6, v := 0, l := l' } ∧ w'.ownsRow w.heap.size 38 1 l' 0 [] ∧ Keeps [m] w w' := by
  have HE := Lib.hid (wBreak m st 6 w hw ho (.inl hu))
  have h0 := hp.cell (j := 0) rfl
  clear hw hp ho hu
  go_enter Try.func100, Try.ntmps100
  go_wp2_with fail
  refine HE.out.mono ?_
  rintro e2 w3 ⟨rfl, l', hw3, ho3, k3⟩
  have HQ := Lib.hid (⟨hw3, ho3, k3⟩ : _ ∧ w3.ownsRow w.heap.size 38 1 l' 0 [] ∧ Keeps [m] w w3)
  clear hw3 k3 ho3
  go_wp2
  first | go_end0 | refine bodyPost_ret (results_none rfl _ _ _) rfl ?_
  exact ⟨rfl, _, HQ.out⟩

set_option maxHeartbeats 1600000 in
/-- The bottom is behind the top. -/
theorem dqPopBack (m p : Nat) (at_ size top bottom task : Int) (rest : List Value) (e : TypeId) (st : WSt) (w : World) (v : Int) (won : Bool) (hw : Wk w m st) (hp : Row w p e (stCells m at_ size top bottom task rest)) (hpm : p ≠ m) (ho : st.over = false) (hs : st.sub = none) (a0 : 0 ≤ at_) (a1 : at_ < 65536) (u1 : M.U bottom) (u2 : M.U v) (hA : dqAhead bottom v < 0) :
    Calls Try.prog 94 #[.pointer (some ⟨p, 0, none⟩), .int .u64 v, .bool won] w fun e' w' => e' = .returned (.tuple #[]) ∧
      Wk w' m { st with x := ⟨2, at_ + 1, dqUp bottom, 0⟩, nxt := .func (.func 104) #[.pointer (some ⟨p, 0, none⟩)] #[], sub := none, after := .nilFunc } ∧ Row w' p e (stCells m at_ size v bottom task rest) ∧ Keeps [m, p] w w' := by
  obtain ⟨W1, hW1⟩ : ∃ W1, w.setCell ⟨p, 3, none⟩ (.int .u64 v) = W1 := ⟨_, rfl⟩
  have hp1 : Row W1 p e (stCells m at_ size v bottom task rest) := by rw [← hW1]; exact hp.set 3 _
  have hk1 : Keeps [p] w W1 := by rw [← hW1]; exact (Keeps.refl [p] w).setCell (fun _ => by simp) _
  have oc := hp.cell (j := 3) rfl
  have oz := hp.frozen 3
  have HW : Hid (Wk W1 m st) := Lib.hid (hw.keeps hk1 (by simpa using Ne.symm hpm))
  have HS := Lib.hid (st_cells hp1)
  have HK1 := Lib.hid hk1
  have HP1 := Lib.hid hp1
  obtain ⟨h0, h1, h2, h3, h4, h5⟩ := HS.out _ [] (Keeps.refl _ _) (by simp)
  have HE := Lib.hid (fun W (h : Wk W m st) (h' : Row W p e (stCells m at_ size v bottom task rest)) => dqRestore m p at_ size v bottom task rest e st W h h' hpm ho hs a0 a1)
  have dA : decide (dqAhead bottom v < 0) = true := decide_eq_true hA
  clear hw hp ho hs hp1 hk1
  go_enter Try.func94, Try.ntmps94
  go_wp2
  go_quiet ((go_at_call 27; exact qs (dqAhead_any _ _ _ u1 u2)))
  go_wp2_with fail
  generalize hV : World.drewN _ _ = W2
  have hkV : Keeps [] W1 W2 := by rw [← hV]; exact (Keeps.refl _ _).drewN
  clear hV
  refine (HE.out W2 (HW.out.keeps hkV (by simp)) (HP1.out.keeps hkV (by simp))).mono ?_
  rintro e2 w3 ⟨rfl, hw3, hp3, k3⟩
  have HQ := Lib.hid (⟨hw3, hp3, HK1.out.mono (by simp) |>.trans (hkV.nil.trans k3)⟩ : _ ∧ _ ∧ Keeps [m, p] w w3)
  clear hw3 k3 hp3
  go_wp2
  first | go_end0 | refine bodyPost_ret (results_none rfl _ _ _) rfl ?_
  exact ⟨rfl, HQ.out⟩

set_option maxHeartbeats 1600000 in
theorem dqPopLost (m p : Nat) (at_ size top bottom task : Int) (rest : List Value) (e : TypeId) (st : WSt) (w : World) (v : Int) (hw : Wk w m st) (hp : Row w p e (stCells m at_ size top bottom task rest)) (hpm : p ≠ m) (ho : st.over = false) (hs : st.sub = none) (a0 : 0 ≤ at_) (a1 : at_ < 65536) :
    Calls Try.prog 105 #[.pointer (some ⟨p, 0, none⟩), .int .u64 v, .bool false] w fun e' w' => e' = .returned (.tuple #[]) ∧
      Wk w' m { st with x := ⟨2, at_ + 1, dqUp bottom, 0⟩, nxt := .func (.func 104) #[.pointer (some ⟨p, 0, none⟩)] #[], sub := none, after := .nilFunc } ∧ Row w' p e (stCells m at_ size top bottom task rest) ∧ Keeps [m, p] w w' := by
  have HE := Lib.hid (dqRestore m p at_ size top bottom task rest e st w hw hp hpm ho hs a0 a1)
  clear hw hp ho hs
  go_enter Try.func105, Try.ntmps105
  go_wp2_with fail
  refine HE.out.mono ?_
  rintro e2 w3 ⟨rfl, hw3, hp3, k3⟩
  have HQ := Lib.hid (⟨hw3, hp3, k3⟩ : _ ∧ _ ∧ Keeps [m, p] w w3)
  clear hw3 k3 hp3
  go_wp2
  first | go_end0 | refine bodyPost_ret (results_none rfl _ _ _) rfl ?_
  exact ⟨rfl, HQ.out⟩

set_option maxHeartbeats 1600000 in
theorem dqPopWon (m p : Nat) (at_ size top bottom task c0 v0 : Int) (e : TypeId) (st : WSt) (w : World) (v : Int) (hw : Wk w m st) (hp : Row w p e (stCells m at_ size top bottom task [.int .i64 c0, .int .u64 v0, .slice none 0 0])) (hpm : p ≠ m) (ho : st.over = false) (hs : st.sub = none) (hout : st.outer = .slice none 0 0) (a0 : 0 ≤ at_) (a1 : at_ < 65536) :
    Calls Try.prog 105 #[.pointer (some ⟨p, 0, none⟩), .int .u64 v, .bool true] w fun e' w' => e' = .returned (.tuple #[]) ∧ ∃ t ov g o b,
      Wk w' m { st with tasks := t, outer := ov, x := ⟨2, at_ + 1, dqUp bottom, 0⟩, nxt := .func (.func 104) #[.pointer (some ⟨p, 0, none⟩)] #[], sub := none, after := .nilFunc } ∧ Row w' p e (stCells m at_ size top bottom task [.int .i64 0, .int .u64 task, .slice none 0 0]) ∧
      w'.ownsRow w.heap.size 38 1 t 1 [.int .u64 task] ∧ DqWatch w' m p g o b ov ∧ (w.heap.size ≤ g ∧ w.heap.size ≤ o ∧ w.heap.size ≤ b) ∧ b ≠ o ∧ (∀ x, t.ownBlock = some x → x ≠ g ∧ x ≠ o ∧ x ≠ b) ∧ Keeps [m, p] w w' := by
  have HE := Lib.hid (dqHold_any m p at_ size top bottom task _ e st w hw hp hpm ho hout)
  have HP := Lib.hid hp
  have hplt := hp.lt
  have hmlt := hw.lt
  have HR := Lib.hid (fun t ov W h h' => dqRestore m p at_ size top bottom task [.int .i64 0, .int .u64 task, .slice none 0 0] e { st with tasks := t, outer := ov } W h h' hpm ho hs a0 a1)
  clear hw hp ho hs hout
  go_enter Try.func105, Try.ntmps105
  go_wp2_with fail
  refine HE.out.mono ?_
  rintro e2 w3 ⟨rfl, t, ov, g, o, b, hw3, ht3, hd3, ⟨g3, o3, b3⟩, hbo, htx, k3⟩
  have hp3 := HP.out.keeps k3 (by simpa using hpm)
  have q5 := hp3.cell (j := 5) rfl
  have q6 := hp3.cell (j := 6) rfl
  have q7 := hp3.cell (j := 7) rfl
  have q8 := hp3.cell (j := 8) rfl
  have f6 := hp3.frozen 6
  have f7 := hp3.frozen 7
  have f8 := hp3.frozen 8
  have HH : Hid (_ ∧ _ ∧ _ ∧ _ ∧ _) := Lib.hid ⟨hw3, ht3, hd3, htx, k3⟩
  have HP3 := Lib.hid hp3
  clear hw3 ht3 hd3 htx k3 hp3
  obtain ⟨W4, hW4⟩ : ∃ W4, ((w3.setCell ⟨p, 6, none⟩ (.int .i64 0)).setCell ⟨p, 7, none⟩ (.int .u64 task)).setCell ⟨p, 8, none⟩ (.slice none 0 0) = W4 := ⟨_, rfl⟩
  have k4 : Keeps [p] w3 W4 := by rw [← hW4]; exact (((Keeps.refl [p] w3).setCell (fun _ => by simp) _).setCell (fun _ => by simp) _).setCell (fun _ => by simp) _
  have hp4 : Row W4 p e (stCells m at_ size top bottom task [.int .i64 0, .int .u64 task, .slice none 0 0]) := by rw [← hW4]; exact ((HP3.out.set 6 _).set 7 _).set 8 _
  have HW4 : Hid (Wk W4 m { st with tasks := t, outer := ov }) := Lib.hid (HH.out.1.keeps k4 (by simpa using Ne.symm hpm))
  have HP4 := Lib.hid hp4
  have HK4 := Lib.hid k4
  clear k4 hp4
  go_wp2_with fail
  refine (HR.out t ov W4 HW4.out HP4.out).mono ?_
  rintro e3 w5 ⟨rfl, hw5, hp5, k5⟩
  have HQ : Hid (_ ∧ _ ∧ _) := Lib.hid ⟨hw5, hp5, k5⟩
  clear hw5 hp5 k5
  go_wp2
  first | go_end0 | refine bodyPost_ret (results_none rfl _ _ _) rfl ?_
  obtain ⟨hw3, ht3, hd3, htx, k3⟩ := HH.out
  obtain ⟨hw5, hp5, k5⟩ := HQ.out
  have k35 : Keeps [m, p] w3 w5 := (HK4.out.mono (by simp)).trans k5
  have kk : Keeps [m, p] w w5 := (k3.mono (by simp)).trans k35
  have htl := fun x hx => ht3.lt x hx
  exact ⟨rfl, t, ov, g, o, b, hw5, hp5, owns_keeps ht3 k35 (fun x hx => by have := htl x hx; simp; omega), hd3.keeps k35 (by simp; omega) (by simp; omega) (by simp; omega), ⟨g3, o3, b3⟩, hbo, htx, kk⟩

set_option maxHeartbeats 1600000 in
theorem dqPushBegin (m p : Nat) (at_ size top bottom task : Int) (rest : List Value) (e : TypeId) (st : WSt) (w : World) (hw : Wk w m st) (hp : Row w p e (stCells m at_ size top bottom task rest)) (hpm : p ≠ m) (ho : st.over = false) (hs : st.sub = none) (hout : st.outer = .slice none 0 0) (a0 : 0 ≤ at_) (a1 : at_ < 65536) :
    Calls Try.prog 39 #[.pointer (some ⟨p, 0, none⟩)] w fun e' w' => e' = .returned (.tuple #[]) ∧ ∃ t ov g o b,
      Wk w' m { st with tasks := t, outer := ov, x := ⟨1, at_ + 1, 0, 0⟩, nxt := .func (.func 56) #[.pointer (some ⟨p, 0, none⟩)] #[], sub := none, after := .nilFunc } ∧ Row w' p e (stCells m at_ size top bottom task rest) ∧
      w'.ownsRow w.heap.size 38 1 t 1 [.int .u64 task] ∧ DqWatch w' m p g o b ov ∧ (w.heap.size ≤ g ∧ w.heap.size ≤ o ∧ w.heap.size ≤ b) ∧ b ≠ o ∧ (∀ x, t.ownBlock = some x → x ≠ g ∧ x ≠ o ∧ x ≠ b) ∧ Keeps [m] w w' := by
  have HE := Lib.hid (dqHold_any m p at_ size top bottom task _ e st w hw hp hpm ho hout)
  have HP := Lib.hid hp
  have hplt := hp.lt
  have hmlt := hw.lt
  have HOV := Lib.hid (show st.over = false ∧ st.sub = none from ⟨ho, hs⟩)
  clear hw hp ho hs hout
  go_enter Try.func39, Try.ntmps39
  go_wp2_with fail
  refine HE.out.mono ?_
  rintro e2 w3 ⟨rfl, t, ov, g, o, b, hw3, ht3, hd3, ⟨g3, o3, b3⟩, hbo, htx, k3⟩
  have hp3 := HP.out.keeps k3 (by simpa using hpm)
  have HS := Lib.hid (st_cells hp3)
  obtain ⟨h0, h1, h2, h3, h4, h5⟩ := HS.out _ [] (Keeps.refl _ _) (by simp)
  have HL := Lib.hid (fun W (h : Wk W m { st with tasks := t, outer := ov }) c0 => dqLoad_any m p (at_ + 1) (.func 56) #[.pointer (some ⟨p, 0, none⟩)] #[] _ W h c0 HOV.out.1 HOV.out.2)
  have HW3 := Lib.hid hw3
  have HH : Hid (_ ∧ _ ∧ _ ∧ _) := Lib.hid ⟨ht3, hd3, htx, k3⟩
  have HP3 := Lib.hid hp3
  clear hw3 ht3 hd3 htx k3 hp3
  go_wp2
  go_region_held3 (fun w' => w'.cell? ⟨p, 0, none⟩ = some (.pointer (some ⟨m, 0, none⟩)) ∧ w'.cell? ⟨p, 1, none⟩ = some (.int .i64 at_) ∧ w'.cell? ⟨p, 2, none⟩ = some (.int .i64 size) ∧ w'.cell? ⟨p, 3, none⟩ = some (.int .u64 top) ∧ w'.cell? ⟨p, 4, none⟩ = some (.int .u64 bottom) ∧ w'.cell? ⟨p, 5, none⟩ = some (.int .u64 task))
    (first
      | exact HS.out _ _ hk6 (by simpa using hpm)
      | exact HS.out _ _ hk5 (by simp)
      | exact ⟨by assumption, by assumption, by assumption, by assumption, by assumption, by assumption⟩
      | fail)
    (first
      | (go_at_call 26; refine (dqBottom_any at_ size _ a0 a1).mono ?_; rintro e4 w5 ⟨rfl, k5⟩; have hk5 : Keeps [] w3 w5 := k5.undrew; clear k5)
      | (go_at_call 55; refine (HL.out _ (HW3.out.keeps hk5 (by simp)) (HS.out _ _ hk5 (by simp)).1).mono ?_; rintro e5 w6 ⟨rfl, hw6, k6⟩; have hk6 : Keeps [m] w3 w6 := (hk5.mono (by simp)).trans k6; clear k6)
      | fail)
  all_goals (first | go_end0 | refine bodyPost_ret (results_none rfl _ _ _) rfl ?_)
  all_goals (
    obtain ⟨ht3, hd3, htx, k3⟩ := HH.out
    have htl := fun x hx => ht3.lt x hx
    exact ⟨rfl, t, ov, g, o, b, hw6, HP3.out.keeps hk6 (by simpa using hpm), owns_keeps ht3 hk6 (fun x hx => by have := htl x hx; simp; omega), hd3.keeps hk6 (by simp; omega) (by simp; omega) (by simp; omega), ⟨g3, o3, b3⟩, hbo, htx, k3.trans hk6⟩)
end Go.Proofs.Ytdejgkjckhkihaa
