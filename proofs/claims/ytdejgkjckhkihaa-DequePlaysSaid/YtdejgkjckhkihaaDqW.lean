/-
  Contracts: what the walks of a deque do at each of their steps.
-/
import Derived.Test.YtdejgkjckhkihaaMach4
import Derived.Test.YtdejgkjckhkihaaAcc
import Derived.Test.YtdejgkjckhkihaaDqM
import Derived.Test.YtdejgkjckhkihaaDraw
import Derived.StillTailTactics
namespace Go.Proofs.Ytdejgkjckhkihaa
set_option maxRecDepth 100000
set_option linter.unusedSimpArgs false
set_option linter.unusedVariables false
open Go.ChangeShapes Go.WideShapes Go.ChangeAt Go.RowKit

/-- What a walk of a deque knows: its walk, the deque, top, bottom, task. -/
def stCells (m : Nat) (at_ size top bottom task : Int) (rest : List Value) : List Value := [.pointer (some ⟨m, 0, none⟩), .int .i64 at_, .int .i64 size, .int .u64 top, .int .u64 bottom, .int .u64 task] ++ rest

theorem dqAhead_any (b t : Int) (w : World) (hb : M.U b) (ht : M.U t) :
    Calls Try.prog 27 #[.int .u64 b, .int .u64 t] w fun e w' => e = .returned (.int .i64 (dqAhead b t)) ∧ w = w' := by
  have b0 := hb.nn
  have b1 := hb.lt
  have t0 := ht.nn
  have t1 := ht.lt
  have hw : IntKind.i64.wrap (IntKind.u64.wrap (b - t)) = dqAhead b t := by
    unfold dqAhead
    simp [IntKind.wrap, IntKind.signed, IntKind.bits]
    split <;> omega
  go_enter Try.func27, Try.ntmps27
  go_wp2
  go_ret
  exact ⟨rfl, rfl⟩
theorem dqBottom_any (at_ size : Int) (w : World) (h0 : 0 ≤ at_) (h1 : at_ < 65536) :
    Calls Try.prog 26 #[.agg #[.int .i64 at_, .int .i64 size]] w fun e w' => e = .returned (.int .i64 (at_ + 1)) ∧ Keeps [] w w' := by
  go_enter Try.func26, Try.ntmps26
  go_wp2
  go_ret
  exact ⟨rfl, (Keeps.refl _ _).alloc _⟩
theorem dqSlot_any (at_ size n : Int) (w : World) (hr : dqRight at_ size) (hn : M.U n) :
    Calls Try.prog 28 #[.agg #[.int .i64 at_, .int .i64 size], .int .u64 n] w fun e w' => e = .returned (.int .i64 (dqSlot at_ size n)) ∧ Keeps [] w w' := by
  obtain ⟨hs, a0, a1⟩ := hr
  have n0 := hn.nn
  have hs0 : 0 < size ∧ size ≤ 256 := by omega
  obtain ⟨q, hq⟩ : ∃ q, n % size = q := ⟨_, rfl⟩
  have q0 : 0 ≤ q := by rw [← hq]; exact Int.emod_nonneg n (by omega)
  have q1 : q < size := by rw [← hq]; exact Int.emod_lt_of_pos n (by omega)
  have HS : Hid (dqSlot at_ size n = at_ + 2 + q) := Lib.hid (by unfold dqSlot; rw [hq])
  rw [HS.out]
  have hw64 : IntKind.u64.wrap size = size := by show size % 18446744073709551616 = size; omega
  clear hs hn
  go_enter Try.func28, Try.ntmps28
  go_wp2
  go_quiet (fail)
  go_wp2
  go_ret
  exact ⟨rfl, ((Keeps.refl _ _).alloc _).drewN⟩

set_option maxHeartbeats 800000 in
theorem dqLoad_any (m p : Nat) (cell : Int) (fn : Fn) (fi ca : Array Value) (st : WSt) (w : World) (hw : Wk w m st) (h0 : w.cell? ⟨p, 0, none⟩ = some (.pointer (some ⟨m, 0, none⟩))) (ho : st.over = false) (hs : st.sub = none) :
    Calls Try.prog 55 #[.pointer (some ⟨p, 0, none⟩), .int .i64 cell, .func fn fi ca] w fun e w' => e = .returned (.tuple #[]) ∧
      Wk w' m { st with x := ⟨1, cell, 0, 0⟩, nxt := .func fn fi ca, sub := none, after := .nilFunc } ∧ Keeps [m] w w' := by
  have HE := Lib.hid (fun W h => wAsk m st ⟨1, cell, 0, 0⟩ fn fi ca W h hs ho)
  have HW := Lib.hid hw
  clear hw ho hs
  go_enter Try.func55, Try.ntmps55
  go_wp2_with fail
  refine (HE.out w HW.out).mono ?_
  rintro e w1 ⟨rfl, hw, hk⟩
  have HP := Lib.hid (⟨hw, hk⟩ : _ ∧ _)
  clear hw hk
  go_wp2
  first | go_end0 | refine bodyPost_ret (results_none rfl _ _ _) rfl ?_
  exact ⟨rfl, HP.out.1, HP.out.2⟩

set_option maxHeartbeats 800000 in
theorem dqStore_any (m p : Nat) (cell v : Int) (fn : Fn) (fi ca : Array Value) (st : WSt) (w : World) (hw : Wk w m st) (h0 : w.cell? ⟨p, 0, none⟩ = some (.pointer (some ⟨m, 0, none⟩))) (ho : st.over = false) (hs : st.sub = none) :
    Calls Try.prog 74 #[.pointer (some ⟨p, 0, none⟩), .int .i64 cell, .int .u64 v, .func fn fi ca] w fun e w' => e = .returned (.tuple #[]) ∧
      Wk w' m { st with x := ⟨2, cell, v, 0⟩, nxt := .func fn fi ca, sub := none, after := .nilFunc } ∧ Keeps [m] w w' := by
  have HE := Lib.hid (fun W h => wAsk m st ⟨2, cell, v, 0⟩ fn fi ca W h hs ho)
  have HW := Lib.hid hw
  clear hw ho hs
  go_enter Try.func74, Try.ntmps74
  go_wp2_with fail
  refine (HE.out w HW.out).mono ?_
  rintro e w1 ⟨rfl, hw, hk⟩
  have HP := Lib.hid (⟨hw, hk⟩ : _ ∧ _)
  clear hw hk
  go_wp2
  first | go_end0 | refine bodyPost_ret (results_none rfl _ _ _) rfl ?_
  exact ⟨rfl, HP.out.1, HP.out.2⟩

set_option maxHeartbeats 800000 in
theorem dqClaim_any (m p : Nat) (at_ size top bottom task : Int) (rest : List Value) (e : TypeId) (fn : Fn) (fi ca : Array Value) (st : WSt) (w : World) (hw : Wk w m st) (hp : Row w p e (stCells m at_ size top bottom task rest)) (hU : M.U top) (ho : st.over = false) (hs : st.sub = none) :
    Calls Try.prog 99 #[.pointer (some ⟨p, 0, none⟩), .func fn fi ca] w fun e w' => e = .returned (.tuple #[]) ∧
      Wk w' m { st with x := ⟨3, at_, top, dqUp top⟩, nxt := .func fn fi ca, sub := none, after := .nilFunc } ∧ Keeps [m] w w' := by
  have u0 := hU.nn
  have hup : IntKind.u64.wrap (top + 1) = dqUp top := by unfold dqUp; rfl
  have HE := Lib.hid (fun W h => wAsk m st ⟨3, at_, top, dqUp top⟩ fn fi ca W h hs ho)
  have h0 := hp.cell (j := 0) rfl
  have h1 := hp.cell (j := 1) rfl
  have h3 := hp.cell (j := 3) rfl
  have HW := Lib.hid hw
  clear hw ho hs hp hU
  go_enter Try.func99, Try.ntmps99
  go_wp2
  go_still_tail 20, (by kernel_rfl)
  change wpList _ _ _ _ _ w.drew
  go_wp2_with fail
  refine (HE.out w.drew HW.out).mono ?_
  rintro e w1 ⟨rfl, hw, hk⟩
  have HP := Lib.hid (⟨hw, hk⟩ : _ ∧ _)
  clear hw hk
  go_wp2
  first | go_end0 | refine bodyPost_ret (results_none rfl _ _ _) rfl ?_
  exact ⟨rfl, HP.out.1, HP.out.2.undrew⟩

/-- Its six cells. -/
theorem st_cells {m p : Nat} {at_ size top bottom task : Int} {rest : List Value} {e : TypeId} {w : World} (h : Row w p e (stCells m at_ size top bottom task rest)) : ∀ W S, Keeps S w W → p ∉ S →
    W.cell? ⟨p, 0, none⟩ = some (.pointer (some ⟨m, 0, none⟩)) ∧ W.cell? ⟨p, 1, none⟩ = some (.int .i64 at_) ∧ W.cell? ⟨p, 2, none⟩ = some (.int .i64 size) ∧ W.cell? ⟨p, 3, none⟩ = some (.int .u64 top) ∧ W.cell? ⟨p, 4, none⟩ = some (.int .u64 bottom) ∧ W.cell? ⟨p, 5, none⟩ = some (.int .u64 task) := by
  intro W S hk hp
  have h := h.keeps hk hp
  exact ⟨h.cell (j := 0) rfl, h.cell (j := 1) rfl, h.cell (j := 2) rfl, h.cell (j := 3) rfl, h.cell (j := 4) rfl, h.cell (j := 5) rfl⟩

end Go.Proofs.Ytdejgkjckhkihaa
