/-
  Contracts: what the walks of a ring do at each of their steps.
-/
import Derived.Test.YtekpfhlaohcgeaaGreatMach4
import Derived.Test.YtekpfhlaohcgeaaGreatAcc
import Derived.Test.YtekpfhlaohcgeaaGreatRgM
import Derived.Test.YtekpfhlaohcgeaaGreatDraw
import Derived.Test.YtekpfhlaohcgeaaGreatWord
import Derived.StillTailTactics
namespace Go.Proofs.YtekpfhlaohcgeaaGreat
set_option maxRecDepth 100000
set_option linter.unusedSimpArgs false
set_option linter.unusedVariables false
open Go.ChangeShapes Go.WideShapes Go.ChangeAt Go.RowKit

/-- What a walk of a ring knows: its walk, the ring, the head and its parts, the tail, what is done with these, what was taken. -/
def rgCells (m : Nat) (at_ size hd st fi tl : Int) (lk tr tk : Value) (rest : List Value) : List Value := [.pointer (some ⟨m, 0, none⟩), .int .i64 at_, .int .i64 size, .int .u64 hd, .int .u32 st, .int .u32 fi, .int .u32 tl, lk, tr, tk] ++ rest
/-- It asks x, and F is told what comes of it. -/
def RgAsks (m p : Nat) (e : TypeId) (st : WSt) (w : World) (x : C.Acc) (F : FuncId) (cs : List Value) (w' : World) : Prop :=
  Wk w' m { st with x := x, nxt := .func (.func F) #[.pointer (some ⟨p, 0, none⟩)] #[], sub := none, after := .nilFunc } ∧ Row w' p e cs ∧ Keeps [m, p] w w'
/-- It has ended. -/
def RgEnds (m p : Nat) (st : WSt) (w : World) (c v : Int) (us : List Int) (w' : World) : Prop :=
  ∃ l', Wk w' m { st with nxt := .nilFunc, after := .nilFunc, over := true, code := c, v := v, l := l' } ∧ w'.ownsRow w.heap.size 24 1 l' us.length (ints .u64 us) ∧ Keeps [m, p] w w' ∧ w'.cell? ⟨p, 0, none⟩ = some (.pointer (some ⟨m, 0, none⟩))
theorem RgAsks.from {m p : Nat} {e : TypeId} {st : WSt} {w w1 w' : World} {x : C.Acc} {F : FuncId} {cs : List Value} (h : RgAsks m p e st w1 x F cs w') (hk : Keeps [m, p] w w1) : RgAsks m p e st w x F cs w' := ⟨h.1, h.2.1, hk.trans h.2.2⟩
theorem RgEnds.from {m p : Nat} {st : WSt} {w w1 w' : World} {c v : Int} {us : List Int} (h : RgEnds m p st w1 c v us w') (hk : Keeps [m, p] w w1) : RgEnds m p st w c v us w' := by
  obtain ⟨l', h1, h2, h3, h4⟩ := h
  exact ⟨l', h1, owns_base h2 hk.size, hk.trans h3, h4⟩

theorem rgCount_wrap (d : Int) (h0 : -2147483648 ≤ d) (h1 : d ≤ 2147483647) : wrap64 (d.tdiv 2) = d.tdiv 2 ∧ wrap64 (d - d.tdiv 2) = rgCount d := by
  have hd : d.tdiv 2 = if 0 ≤ d then d / 2 else -((-d) / 2) := by
    split
    · rename_i h
      exact Int.tdiv_eq_ediv_of_nonneg h
    · rename_i h
      obtain ⟨e, rfl⟩ : ∃ e, d = -e := ⟨-d, by omega⟩
      rw [Int.neg_tdiv, Int.tdiv_eq_ediv_of_nonneg (by omega), Int.neg_neg]
  unfold rgCount wrap64
  rw [hd]
  constructor <;> split <;> omega
theorem rgTail_any (at_ size : Int) (w : World) (h0 : 0 ≤ at_) (h1 : at_ < 65536) :
    Calls Tryz.prog 56 #[.agg #[.int .i64 at_, .int .i64 size]] w fun e w' => e = .returned (.int .i64 (at_ + 1)) ∧ Keeps [] w w' := by
  go_enter Tryz.func56, Tryz.ntmps56
  go_wp2
  go_ret
  exact ⟨rfl, (Keeps.refl _ _).alloc _⟩
theorem rgLastCell_any (at_ size : Int) (w : World) (hr : dqRight at_ size) :
    Calls Tryz.prog 97 #[.agg #[.int .i64 at_, .int .i64 size]] w fun e w' => e = .returned (.int .i64 (at_ + size + 1)) ∧ Keeps [] w w' := by
  have hs : 2 ≤ size ∧ size ≤ 256 := by have := hr.1; omega
  have a0 := hr.2.1
  have a1 := hr.2.2
  clear hr
  go_enter Tryz.func97, Tryz.ntmps97
  go_wp2
  go_ret
  exact ⟨rfl, (Keeps.refl _ _).alloc _⟩
theorem rgHalf_any (at_ size : Int) (w : World) (hs : 2 ≤ size) (h2 : size ≤ 256) :
    Calls Tryz.prog 81 #[.agg #[.int .i64 at_, .int .i64 size]] w fun e w' => e = .returned (.int .i64 (size / 2)) ∧ Keeps [] w w' := by
  have ht : Int.tdiv size 2 = size / 2 := Int.tdiv_eq_ediv_of_nonneg (by omega)
  go_enter Tryz.func81, Tryz.ntmps81
  go_wp2
  go_ret
  exact ⟨by first | rfl | rw [ht], (Keeps.refl _ _).alloc _⟩
theorem rgSlot_any (at_ size n : Int) (w : World) (hr : dqRight at_ size) (hn : 0 ≤ n ∧ n < 4294967296) :
    Calls Tryz.prog 62 #[.agg #[.int .i64 at_, .int .i64 size], .int .u32 n] w fun e w' => e = .returned (.int .i64 (dqSlot at_ size n)) ∧ Keeps [] w w' := by
  obtain ⟨hs, a0, a1⟩ := hr
  obtain ⟨n0, n1⟩ := hn
  have hs0 : 0 < size ∧ size ≤ 256 := by omega
  obtain ⟨q, hq⟩ : ∃ q, n % size = q := ⟨_, rfl⟩
  have q0 : 0 ≤ q := by rw [← hq]; exact Int.emod_nonneg n (by omega)
  have q1 : q < size := by rw [← hq]; exact Int.emod_lt_of_pos n (by omega)
  have HS : Hid (dqSlot at_ size n = at_ + 2 + q) := Lib.hid (by unfold dqSlot; rw [hq])
  rw [HS.out]
  have hw32 : IntKind.u32.wrap size = size := by show size % 4294967296 = size; omega
  clear hs
  go_enter Tryz.func62, Tryz.ntmps62
  go_wp2
  go_quiet (fail)
  go_wp2
  go_ret
  exact ⟨rfl, ((Keeps.refl _ _).alloc _).drewN⟩

set_option maxHeartbeats 800000 in
theorem rgLoad_any (m p : Nat) (cell : Int) (fn : Fn) (fi ca : Array Value) (st : WSt) (w : World) (hw : Wk w m st) (h0 : w.cell? ⟨p, 0, none⟩ = some (.pointer (some ⟨m, 0, none⟩))) (ho : st.over = false) (hs : st.sub = none) :
    Calls Tryz.prog 55 #[.pointer (some ⟨p, 0, none⟩), .int .i64 cell, .func fn fi ca] w fun e w' => e = .returned (.tuple #[]) ∧
      Wk w' m { st with x := ⟨1, cell, 0, 0⟩, nxt := .func fn fi ca, sub := none, after := .nilFunc } ∧ Keeps [m] w w' := by
  have HE := Lib.hid (fun W h => wAsk m st ⟨1, cell, 0, 0⟩ fn fi ca W h hs ho)
  have HW := Lib.hid hw
  clear hw ho hs
  go_enter Tryz.func55, Tryz.ntmps55
  go_wp2_with fail
  refine (HE.out w HW.out).mono ?_
  rintro e w1 ⟨rfl, hw, hk⟩
  have HP := Lib.hid (⟨hw, hk⟩ : _ ∧ _)
  clear hw hk
  go_wp2
  first | go_end0 | refine bodyPost_ret (results_none rfl _ _ _) rfl ?_
  exact ⟨rfl, HP.out.1, HP.out.2⟩

set_option maxHeartbeats 800000 in
theorem rgStore_any (m p : Nat) (cell v : Int) (fn : Fn) (fi ca : Array Value) (st : WSt) (w : World) (hw : Wk w m st) (h0 : w.cell? ⟨p, 0, none⟩ = some (.pointer (some ⟨m, 0, none⟩))) (ho : st.over = false) (hs : st.sub = none) :
    Calls Tryz.prog 79 #[.pointer (some ⟨p, 0, none⟩), .int .i64 cell, .int .u64 v, .func fn fi ca] w fun e w' => e = .returned (.tuple #[]) ∧
      Wk w' m { st with x := ⟨2, cell, v, 0⟩, nxt := .func fn fi ca, sub := none, after := .nilFunc } ∧ Keeps [m] w w' := by
  have HE := Lib.hid (fun W h => wAsk m st ⟨2, cell, v, 0⟩ fn fi ca W h hs ho)
  have HW := Lib.hid hw
  clear hw ho hs
  go_enter Tryz.func79, Tryz.ntmps79
  go_wp2_with fail
  refine (HE.out w HW.out).mono ?_
  rintro e w1 ⟨rfl, hw, hk⟩
  have HP := Lib.hid (⟨hw, hk⟩ : _ ∧ _)
  clear hw hk
  go_wp2
  first | go_end0 | refine bodyPost_ret (results_none rfl _ _ _) rfl ?_
  exact ⟨rfl, HP.out.1, HP.out.2⟩

/-- Its cells, but for the head's parts. -/
theorem rg_cells {m p : Nat} {at_ size hd st fi tl : Int} {lk tr tk : Value} {rest : List Value} {e : TypeId} {w : World} (h : Row w p e (rgCells m at_ size hd st fi tl lk tr tk rest)) : ∀ W S, Keeps S w W → p ∉ S →
    W.cell? ⟨p, 0, none⟩ = some (.pointer (some ⟨m, 0, none⟩)) ∧ W.cell? ⟨p, 1, none⟩ = some (.int .i64 at_) ∧ W.cell? ⟨p, 2, none⟩ = some (.int .i64 size) ∧ W.cell? ⟨p, 3, none⟩ = some (.int .u64 hd) ∧ W.cell? ⟨p, 4, none⟩ = some (.int .u32 st) ∧ W.cell? ⟨p, 5, none⟩ = some (.int .u32 fi) ∧ W.cell? ⟨p, 6, none⟩ = some (.int .u32 tl) ∧ W.cell? ⟨p, 7, none⟩ = some lk ∧ W.cell? ⟨p, 8, none⟩ = some tr ∧ W.cell? ⟨p, 9, none⟩ = some tk := by
  intro W S hk hp
  have h := h.keeps hk hp
  exact ⟨h.cell (j := 0) rfl, h.cell (j := 1) rfl, h.cell (j := 2) rfl, h.cell (j := 3) rfl, h.cell (j := 4) rfl, h.cell (j := 5) rfl, h.cell (j := 6) rfl, h.cell (j := 7) rfl, h.cell (j := 8) rfl, h.cell (j := 9) rfl⟩

set_option maxHeartbeats 1600000 in
theorem rgTurn_any (m p : Nat) (at_ size hd st fi tl : Int) (lk tr tk : Value) (rest : List Value) (e : TypeId) (x y : Int) (s : WSt) (w : World) (hw : Wk w m s) (hp : Row w p e (rgCells m at_ size hd st fi tl lk tr tk rest)) (hpm : p ≠ m) (ho : s.over = false) (hs : s.sub = none) (hx : 0 ≤ x ∧ x < 4294967296) (hy : 0 ≤ y ∧ y < 4294967296) :
    Calls Tryz.prog 82 #[.pointer (some ⟨p, 0, none⟩), .int .u32 x, .int .u32 y] w fun e' w' => e' = .returned (.tuple #[]) ∧
      RgAsks m p e s w ⟨3, at_, hd, rgPair x y⟩ 112 (rgCells m at_ size hd st fi tl lk tr tk rest) w' := by
  have HE := Lib.hid (fun W h => wAsk m s ⟨3, at_, hd, rgPair x y⟩ (.func 112) #[.pointer (some ⟨p, 0, none⟩)] #[] W h hs ho)
  have HP := Lib.hid hp
  have HC := Lib.hid (rg_cells hp)
  obtain ⟨h0, h1, h2, h3, -⟩ := HC.out _ [] (Keeps.refl _ _) (by simp)
  have HW := Lib.hid hw
  obtain ⟨x0, x1⟩ := hx
  obtain ⟨y0, y1⟩ := hy
  have HPr := Lib.hid (fun W => pair_any x y W x0 x1 y0 y1)
  clear hw ho hs hp
  go_enter Tryz.func82, Tryz.ntmps82
  go_wp2
  go_region_held3 (fun w' => w'.cell? ⟨p, 0, none⟩ = some (.pointer (some ⟨m, 0, none⟩)) ∧ w'.cell? ⟨p, 1, none⟩ = some (.int .i64 at_) ∧ w'.cell? ⟨p, 3, none⟩ = some (.int .u64 hd))
    (first
      | exact ⟨(HC.out _ _ hk3 (by simpa using hpm)).1, (HC.out _ _ hk3 (by simpa using hpm)).2.1, (HC.out _ _ hk3 (by simpa using hpm)).2.2.2.1⟩
      | exact ⟨by assumption, by assumption, by assumption⟩
      | exact ⟨(HC.out _ _ ((Keeps.refl [] w).drew) (by simp)).1, (HC.out _ _ ((Keeps.refl [] w).drew) (by simp)).2.1, (HC.out _ _ ((Keeps.refl [] w).drew) (by simp)).2.2.2.1⟩
      | fail)
    (first
      | (go_at_call 111; refine (HPr.out _).mono ?_; rintro e2 w2 ⟨rfl, rfl⟩)
      | (go_at_call 99; refine (HE.out _ (HW.out.keeps ((Keeps.refl [] w).drew) (by simp))).mono ?_; rintro e2 w3 ⟨rfl, hw3, k3⟩; have hk3 : Keeps [m] w w3 := k3.undrew; clear k3)
      | fail)
  all_goals (first | go_end0 | refine bodyPost_ret (results_none rfl _ _ _) rfl ?_)
  all_goals exact ⟨rfl, hw3, HP.out.keeps hk3 (by simpa using hpm), hk3.mono (by simp)⟩
end Go.Proofs.YtekpfhlaohcgeaaGreat
