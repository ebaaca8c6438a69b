import Derived.Test.YtjbgkaleickknaaGreatMach4
import Derived.Test.YtjbgkaleickknaaGreatAcc
import Derived.Test.YtjbgkaleickknaaGreatRgM
import Derived.Test.YtjbgkaleickknaaGreatDraw
import Derived.Test.YtjbgkaleickknaaGreatWord
import Derived.StillTailTactics
import Derived.Deep.RegionLaw
import Derived.Laws.OwnMore
/-
  Contracts: what the walks of a ring do at each of their steps.
-/
namespace Go.Proofs.YtjbgkaleickknaaGreat
set_option maxRecDepth 100000
set_option linter.unusedSimpArgs false
set_option linter.unusedVariables false
open Go.ChangeShapes Go.WideShapes Go.ChangeAt Go.RowKit

/-- What a walk of a ring knows: its walk, the ring, the head and its parts, the tail, what is done with these, what was taken. -/
def rgCells (m : Nat) (at_ size hd st fi tl : Int) (lk tr tk : Value) (rest : List Value) : List Value := [.pointer (some ⟨m, 0, none⟩), .int .i64 at_, .int .i64 size, .int .u64 hd, .int .u32 st, .int .u32 fi, .int .u32 tl, lk, tr, tk] ++ rest
/-- It asks x, and F is told what comes of it. -/
def RgAsks (m p : Nat) (e : TypeId) (st : WSt) (w : World) (x : C.Acc) (F : FuncId) (cs : List Value) (w' : World) : Prop :=
  Wk w' m { st with x := x, nxt := .func (.func F) #[.pointer (some ⟨p, 0, none⟩)] #[], sub := none, after := .nilFunc } ∧ Row w' p e cs ∧ Keeps [m, p] w w'
/-- It has ended. -/
def RgEnds (m p : Nat) (st : WSt) (w : World) (c v : Int) (us : List Int) (w' : World) : Prop :=
  ∃ l', Wk w' m { st with nxt := .nilFunc, after := .nilFunc, over := true, code := c, v := v, l := l' } ∧ w'.ownsRow w.heap.size 34 1 l' us.length (ints .u64 us) ∧ Keeps [m, p] w w' ∧ w'.cell? ⟨p, 0, none⟩ = some (.pointer (some ⟨m, 0, none⟩))
theorem RgAsks.from {m p : Nat} {e : TypeId} {st : WSt} {w w1 w' : World} {x : C.Acc} {F : FuncId} {cs : List Value} (h : RgAsks m p e st w1 x F cs w') (hk : Keeps [m, p] w w1) : RgAsks m p e st w x F cs w' := ⟨h.1, h.2.1, hk.trans h.2.2⟩
theorem RgEnds.from {m p : Nat} {st : WSt} {w w1 w' : World} {c v : Int} {us : List Int} (h : RgEnds m p st w1 c v us w') (hk : Keeps [m, p] w w1) : RgEnds m p st w c v us w' := by
  obtain ⟨l', h1, h2, h3, h4⟩ := h
  exact ⟨l', h1, owns_base h2 hk.size, hk.trans h3, h4⟩

theorem rgCount_wrap (d : Int) (h0 : -2147483648 ≤ d) (h1 : d ≤ 2147483647) : wrap64 (d.tdiv 2) = d.tdiv 2 ∧ wrap64 (d - d.tdiv 2) = rgCount d := by
  have hd : d.tdiv 2 = if 0 ≤ d then d / 2 else -((-d) / 2) := by
    split
    · rename_i h
      exact Int.tdiv_eq_ediv_of_nonneg h
    · rename_i h
      obtain ⟨e, rfl⟩ : ∃ e, d = -e := ⟨-d, by omega⟩
      rw [Int.neg_tdiv, Int.tdiv_eq_ediv_of_nonneg (by omega), Int.neg_neg]
  unfold rgCount wrap64
  rw [hd]
  constructor <;> split <;> omega
theorem rgTail_any (at_ size : Int) (w : World) (h0 : 0 ≤ at_) (h1 : at_ < 65536) :
    Calls Tryz.prog 30 #[.agg #[.int .i64 at_, .int .i64 size]] w fun e w' => e = .returned (.int .i64 (at_ + 1)) ∧ Keeps [] w w' := by
  go_enter Tryz.func30, Tryz.ntmps30
  go_wp2
  go_ret
  exact ⟨rfl, (Keeps.refl _ _).alloc _⟩
theorem rgLastCell_any (at_ size : Int) (w : World) (hr : dqRight at_ size) :
    Calls Tryz.prog 56 #[.agg #[.int .i64 at_, .int .i64 size]] w fun e w' => e = .returned (.int .i64 (at_ + size + 1)) ∧ Keeps [] w w' := by
  have hs : 2 ≤ size ∧ size ≤ 256 := by have := hr.1; omega
  have a0 := hr.2.1
  have a1 := hr.2.2
  clear hr
  go_enter Tryz.func56, Tryz.ntmps56
  go_wp2
  go_ret
  exact ⟨rfl, (Keeps.refl _ _).alloc _⟩
theorem rgHalf_any (at_ size : Int) (w : World) (hs : 2 ≤ size) (h2 : size ≤ 256) :
    Calls Tryz.prog 61 #[.agg #[.int .i64 at_, .int .i64 size]] w fun e w' => e = .returned (.int .i64 (size / 2)) ∧ Keeps [] w w' := by
  have ht : Int.tdiv size 2 = size / 2 := Int.tdiv_eq_ediv_of_nonneg (by omega)
  go_enter Tryz.func61, Tryz.ntmps61
  go_wp2
  go_ret
  exact ⟨by first | rfl | rw [ht], (Keeps.refl _ _).alloc _⟩
theorem rgSlot_any (at_ size n : Int) (w : World) (hr : dqRight at_ size) (hn : 0 ≤ n ∧ n < 4294967296) :
    Calls Tryz.prog 32 #[.agg #[.int .i64 at_, .int .i64 size], .int .u32 n] w fun e w' => e = .returned (.int .i64 (dqSlot at_ size n)) ∧ Keeps [] w w' := by
  obtain ⟨hs, a0, a1⟩ := hr
  obtain ⟨n0, n1⟩ := hn
  have hs0 : 0 < size ∧ size ≤ 256 := by omega
  obtain ⟨q, hq⟩ : ∃ q, n % size = q := ⟨_, rfl⟩
  have q0 : 0 ≤ q := by rw [← hq]; exact Int.emod_nonneg n (by omega)
  have q1 : q < size := by rw [← hq]; exact Int.emod_lt_of_pos n (by omega)
  have HS : Hid (dqSlot at_ size n = at_ + 2 + q) := Lib.hid (by unfold dqSlot; rw [hq])
  rw [HS.out]
  have hw32 : IntKind.u32.wrap size = size := by show size % 4294967296 = size; omega
  clear hs
  go_enter Tryz.func32, Tryz.ntmps32
  go_wp2
  go_quiet (fail)
  go_wp2
  go_ret
  exact ⟨rfl, ((Keeps.refl _ _).alloc _).drewN⟩

set_option maxHeartbeats 800000 in
theorem rgLoad_any (m p : Nat) (cell : Int) (fn : Fn) (fi ca : Array Value) (st : WSt) (w : World) (hw : Wk w m st) (h0 : w.cell? ⟨p, 0, none⟩ = some (.pointer (some ⟨m, 0, none⟩))) (ho : st.over = false) (hs : st.sub = none) :
    Calls Tryz.prog 44 #[.pointer (some ⟨p, 0, none⟩), .int .i64 cell, .func fn fi ca] w fun e w' => e = .returned (.tuple #[]) ∧
      Wk w' m { st with x := ⟨1, cell, 0, 0⟩, nxt := .func fn fi ca, sub := none, after := .nilFunc } ∧ Keeps [m] w w' := by
  have HE := Lib.hid (fun W h => wAsk m st ⟨1, cell, 0, 0⟩ fn fi ca W h hs ho)
  have HW := Lib.hid hw
  clear hw ho hs
  go_enter Tryz.func44, Tryz.ntmps44
  go_wp2_with fail
  refine (HE.out w HW.out).mono ?_
  rintro e w1 ⟨rfl, hw, hk⟩
  have HP := Lib.hid (⟨hw, hk⟩ : _ ∧ _)
  clear hw hk
  go_wp2
  first | go_end0 | refine bodyPost_ret (results_none rfl _ _ _) rfl ?_
  exact ⟨rfl, HP.out.1, HP.out.2⟩

set_option maxHeartbeats 800000 in
theorem rgStore_any (m p : Nat) (cell v : Int) (fn : Fn) (fi ca : Array Value) (st : WSt) (w : World) (hw : Wk w m st) (h0 : w.cell? ⟨p, 0, none⟩ = some (.pointer (some ⟨m, 0, none⟩))) (ho : st.over = false) (hs : st.sub = none) :
    Calls Tryz.prog 59 #[.pointer (some ⟨p, 0, none⟩), .int .i64 cell, .int .u64 v, .func fn fi ca] w fun e w' => e = .returned (.tuple #[]) ∧
      Wk w' m { st with x := ⟨2, cell, v, 0⟩, nxt := .func fn fi ca, sub := none, after := .nilFunc } ∧ Keeps [m] w w' := by
  have HE := Lib.hid (fun W h => wAsk m st ⟨2, cell, v, 0⟩ fn fi ca W h hs ho)
  have HW := Lib.hid hw
  clear hw ho hs
  go_enter Tryz.func59, Tryz.ntmps59
  go_wp2_with fail
  refine (HE.out w HW.out).mono ?_
  rintro e w1 ⟨rfl, hw, hk⟩
  have HP := Lib.hid (⟨hw, hk⟩ : _ ∧ _)
  clear hw hk
  go_wp2
  first | go_end0 | refine bodyPost_ret (results_none rfl _ _ _) rfl ?_
  exact ⟨rfl, HP.out.1, HP.out.2⟩

/-- Its cells, but for the head's parts. -/
theorem rg_cells {m p : Nat} {at_ size hd st fi tl : Int} {lk tr tk : Value} {rest : List Value} {e : TypeId} {w : World} (h : Row w p e (rgCells m at_ size hd st fi tl lk tr tk rest)) : ∀ W S, Keeps S w W → p ∉ S →
    W.cell? ⟨p, 0, none⟩ = some (.pointer (some ⟨m, 0, none⟩)) ∧ W.cell? ⟨p, 1, none⟩ = some (.int .i64 at_) ∧ W.cell? ⟨p, 2, none⟩ = some (.int .i64 size) ∧ W.cell? ⟨p, 3, none⟩ = some (.int .u64 hd) ∧ W.cell? ⟨p, 4, none⟩ = some (.int .u32 st) ∧ W.cell? ⟨p, 5, none⟩ = some (.int .u32 fi) ∧ W.cell? ⟨p, 6, none⟩ = some (.int .u32 tl) ∧ W.cell? ⟨p, 7, none⟩ = some lk ∧ W.cell? ⟨p, 8, none⟩ = some tr ∧ W.cell? ⟨p, 9, none⟩ = some tk := by
  intro W S hk hp
  have h := h.keeps hk hp
  exact ⟨h.cell (j := 0) rfl, h.cell (j := 1) rfl, h.cell (j := 2) rfl, h.cell (j := 3) rfl, h.cell (j := 4) rfl, h.cell (j := 5) rfl, h.cell (j := 6) rfl, h.cell (j := 7) rfl, h.cell (j := 8) rfl, h.cell (j := 9) rfl⟩

set_option maxHeartbeats 1600000 in
theorem rgTurn_any (m p : Nat) (at_ size hd st fi tl : Int) (lk tr tk : Value) (rest : List Value) (e : TypeId) (x y : Int) (s : WSt) (w : World) (hw : Wk w m s) (hp : Row w p e (rgCells m at_ size hd st fi tl lk tr tk rest)) (hpm : p ≠ m) (ho : s.over = false) (hs : s.sub = none) (hx : 0 ≤ x ∧ x < 4294967296) (hy : 0 ≤ y ∧ y < 4294967296) :
    Calls Tryz.prog 62 #[.pointer (some ⟨p, 0, none⟩), .int .u32 x, .int .u32 y] w fun e' w' => e' = .returned (.tuple #[]) ∧
      RgAsks m p e s w ⟨3, at_, hd, rgPair x y⟩ 84 (rgCells m at_ size hd st fi tl lk tr tk rest) w' := by
  have HE := Lib.hid (fun W h => wAsk m s ⟨3, at_, hd, rgPair x y⟩ (.func 84) #[.pointer (some ⟨p, 0, none⟩)] #[] W h hs ho)
  have HP := Lib.hid hp
  have HC := Lib.hid (rg_cells hp)
  obtain ⟨h0, h1, h2, h3, -⟩ := HC.out _ [] (Keeps.refl _ _) (by simp)
  have HW := Lib.hid hw
  obtain ⟨x0, x1⟩ := hx
  obtain ⟨y0, y1⟩ := hy
  have HPr := Lib.hid (fun W => pair_any x y W x0 x1 y0 y1)
  clear hw ho hs hp
  go_enter Tryz.func62, Tryz.ntmps62
  go_wp2
  go_region_held3 (fun w' => w'.cell? ⟨p, 0, none⟩ = some (.pointer (some ⟨m, 0, none⟩)) ∧ w'.cell? ⟨p, 1, none⟩ = some (.int .i64 at_) ∧ w'.cell? ⟨p, 3, none⟩ = some (.int .u64 hd))
    (first
      | exact ⟨(HC.out _ _ hk3 (by simpa using hpm)).1, (HC.out _ _ hk3 (by simpa using hpm)).2.1, (HC.out _ _ hk3 (by simpa using hpm)).2.2.2.1⟩
      | exact ⟨by assumption, by assumption, by assumption⟩
      | exact ⟨(HC.out _ _ ((Keeps.refl [] w).drew) (by simp)).1, (HC.out _ _ ((Keeps.refl [] w).drew) (by simp)).2.1, (HC.out _ _ ((Keeps.refl [] w).drew) (by simp)).2.2.2.1⟩
      | fail)
    (first
      | (go_at_call 83; refine (HPr.out _).mono ?_; rintro e2 w2 ⟨rfl, rfl⟩)
      | (go_at_call 71; refine (HE.out _ (HW.out.keeps ((Keeps.refl [] w).drew) (by simp))).mono ?_; rintro e2 w3 ⟨rfl, hw3, k3⟩; have hk3 : Keeps [m] w w3 := k3.undrew; clear k3)
      | fail)
  all_goals (first | go_end0 | refine bodyPost_ret (results_none rfl _ _ _) rfl ?_)
  all_goals exact ⟨rfl, hw3, HP.out.keeps hk3 (by simpa using hpm), hk3.mono (by simp)⟩
end Go.Proofs.YtjbgkaleickknaaGreat

/-
  Contracts: how the head and the tail of a ring are read, and what is done then: what all walks of a ring share.
-/
namespace Go.Proofs.YtjbgkaleickknaaGreat
set_option maxRecDepth 100000
set_option linter.unusedSimpArgs false
set_option linter.unusedVariables false
open Go.ChangeShapes Go.WideShapes Go.ChangeAt Go.RowKit

set_option maxHeartbeats 1600000 in
theorem rgBegin_any (m p : Nat) (at_ size hd st fi tl : Int) (lk tr tk : Value) (rest : List Value) (e : TypeId) (s : WSt) (w : World) (hw : Wk w m s) (hp : Row w p e (rgCells m at_ size hd st fi tl lk tr tk rest)) (hpm : p ≠ m) (ho : s.over = false) (hs : s.sub = none) :
    Calls Tryz.prog 39 #[.pointer (some ⟨p, 0, none⟩)] w fun e' w' => e' = .returned (.tuple #[]) ∧
      RgAsks m p e s w ⟨1, at_, 0, 0⟩ 69 (rgCells m at_ size hd st fi tl lk tr tk rest) w' := by
  have HE := Lib.hid (fun W (h : Wk W m s) c0 => rgLoad_any m p at_ (.func 69) #[.pointer (some ⟨p, 0, none⟩)] #[] s W h c0 ho hs)
  have HP := Lib.hid hp
  have HC := Lib.hid (rg_cells hp)
  obtain ⟨h0, h1, -⟩ := HC.out _ [] (Keeps.refl _ _) (by simp)
  have HW := Lib.hid hw
  clear hw ho hs hp
  go_enter Tryz.func39, Tryz.ntmps39
  go_wp2_with fail
  refine (HE.out w HW.out h0).mono ?_
  rintro e2 w3 ⟨rfl, hw3, k3⟩
  have HQ := Lib.hid (⟨hw3, k3⟩ : _ ∧ Keeps [m] w w3)
  clear hw3 k3
  go_wp2
  first | go_end0 | refine bodyPost_ret (results_none rfl _ _ _) rfl ?_
  exact ⟨rfl, HQ.out.1, HP.out.keeps HQ.out.2 (by simpa using hpm), HQ.out.2.mono (by simp)⟩

set_option maxHeartbeats 1600000 in
theorem rgReadHead_any (m p : Nat) (at_ size hd st fi tl v : Int) (won : Bool) (lk tr tk : Value) (rest : List Value) (e : TypeId) (s : WSt) (w : World) (hw : Wk w m s) (hp : Row w p e (rgCells m at_ size hd st fi tl lk tr tk rest)) (hpm : p ≠ m) (ho : s.over = false) (hs : s.sub = none) (a0 : 0 ≤ at_) (a1 : at_ < 65536) (hv : M.U v) :
    Calls Tryz.prog 69 #[.pointer (some ⟨p, 0, none⟩), .int .u64 v, .bool won] w fun e' w' => e' = .returned (.tuple #[]) ∧
      RgAsks m p e s w ⟨1, at_ + 1, 0, 0⟩ 90 (rgCells m at_ size v (rgHi v) (rgLo v) tl lk tr tk rest) w' := by
  have HE := Lib.hid (fun W (h : Wk W m s) c0 => rgLoad_any m p (at_ + 1) (.func 90) #[.pointer (some ⟨p, 0, none⟩)] #[] s W h c0 ho hs)
  have HSp : Hid (∀ W, Calls Tryz.prog 28 #[.int .u64 v] W fun e w' => e = .returned (.tuple #[.int .u32 (rgHi v), .int .u32 (rgLo v)]) ∧ W = w') := Lib.hid (fun W => split_any v W hv.nn hv)
  have HTl := Lib.hid (fun W => rgTail_any at_ size W a0 a1)
  have HP := Lib.hid hp
  have HC := Lib.hid (rg_cells hp)
  obtain ⟨h0, h1, h2, h3, h4, h5, -⟩ := HC.out _ [] (Keeps.refl _ _) (by simp)
  have f3 := hp.frozen 3
  have f4 := hp.frozen 4
  have f5 := hp.frozen 5
  have HW := Lib.hid hw
  obtain ⟨W4, hW4⟩ : ∃ W4, ((w.setCell ⟨p, 3, none⟩ (.int .u64 v)).setCell ⟨p, 4, none⟩ (.int .u32 (rgHi v))).setCell ⟨p, 5, none⟩ (.int .u32 (rgLo v)) = W4 := ⟨_, rfl⟩
  have k4 : Keeps [p] w W4 := by rw [← hW4]; exact (((Keeps.refl [p] w).setCell (fun _ => by simp) _).setCell (fun _ => by simp) _).setCell (fun _ => by simp) _
  have hp4 : Row W4 p e (rgCells m at_ size v (rgHi v) (rgLo v) tl lk tr tk rest) := by rw [← hW4]; exact ((hp.set 3 _).set 4 _).set 5 _
  have HW4 : Hid (Wk W4 m s) := Lib.hid (hw.keeps k4 (by simpa using Ne.symm hpm))
  have HP4 := Lib.hid hp4
  have HC4 := Lib.hid (rg_cells hp4)
  have HK4 := Lib.hid k4
  obtain ⟨g0, g1, g2, -⟩ := HC4.out _ [] (Keeps.refl _ _) (by simp)
  clear hw ho hs hp k4 hp4 HC
  go_enter Tryz.func69, Tryz.ntmps69
  go_wp2_with (go_at_call 28; refine (HSp.out _).mono ?_; rintro e1 w1 ⟨rfl, rfl⟩)
  refine (HTl.out W4).mono ?_
  rintro e2 w5 ⟨rfl, k5⟩
  have HQ5 := Lib.hid k5
  obtain ⟨q0, -⟩ := HC4.out w5 _ k5 (by simp)
  clear k5
  go_wp2_with fail
  refine (HE.out w5 (HW4.out.keeps HQ5.out (by simp)) q0).mono ?_
  rintro e3 w6 ⟨rfl, hw6, k6⟩
  have HQ := Lib.hid (⟨hw6, k6⟩ : _ ∧ Keeps [m] w5 w6)
  clear hw6 k6
  go_wp2
  first | go_end0 | refine bodyPost_ret (results_none rfl _ _ _) rfl ?_
  exact ⟨rfl, HQ.out.1, (HP4.out.keeps HQ5.out (by simp)).keeps HQ.out.2 (by simpa using hpm), ((HK4.out.mono (by simp)).trans (HQ5.out.mono (by simp))).trans (HQ.out.2.mono (by simp))⟩

set_option maxHeartbeats 1600000 in
theorem rgReadTail_any (m p : Nat) (at_ size hd st fi tl v : Int) (won : Bool) (F : FuncId) (tr tk : Value) (rest : List Value) (e : TypeId) (w : World) (Q : World → Prop) (hp : Row w p e (rgCells m at_ size hd st fi tl (.func (.func F) #[.pointer (some ⟨p, 0, none⟩)] #[]) tr tk rest)) (hv : M.U v)
    (hcf : ∀ args w, (callFunc F args).run Tryz.prog w = .ok (.enter F args) w)
    (hF : ∀ W1, Keeps [p] w W1 → Row W1 p e (rgCells m at_ size hd st fi (rgLo v) (.func (.func F) #[.pointer (some ⟨p, 0, none⟩)] #[]) tr tk rest) → Calls Tryz.prog F #[.pointer (some ⟨p, 0, none⟩)] W1 fun e' w' => e' = .returned (.tuple #[]) ∧ Q w') :
    Calls Tryz.prog 90 #[.pointer (some ⟨p, 0, none⟩), .int .u64 v, .bool won] w fun e' w' => e' = .returned (.tuple #[]) ∧ Q w' := by
  have HSp : Hid (∀ W, Calls Tryz.prog 28 #[.int .u64 v] W fun e w' => e = .returned (.tuple #[.int .u32 (rgHi v), .int .u32 (rgLo v)]) ∧ W = w') := Lib.hid (fun W => split_any v W hv.nn hv)
  have HC := Lib.hid (rg_cells hp)
  obtain ⟨h0, h1, h2, h3, h4, h5, h6, h7, -⟩ := HC.out _ [] (Keeps.refl _ _) (by simp)
  have f6 := hp.frozen 6
  obtain ⟨W4, hW4⟩ : ∃ W4, w.setCell ⟨p, 6, none⟩ (.int .u32 (rgLo v)) = W4 := ⟨_, rfl⟩
  have k4 : Keeps [p] w W4 := by rw [← hW4]; exact (Keeps.refl [p] w).setCell (fun _ => by simp) _
  have hp4 : Row W4 p e (rgCells m at_ size hd st fi (rgLo v) (.func (.func F) #[.pointer (some ⟨p, 0, none⟩)] #[]) tr tk rest) := by rw [← hW4]; exact hp.set 6 _
  have HC4 := Lib.hid (rg_cells hp4)
  have HF := Lib.hid (hF W4 k4 hp4)
  obtain ⟨-, -, -, -, -, -, -, g7, -⟩ := HC4.out _ [] (Keeps.refl _ _) (by simp)
  clear hp k4 hp4 HC hF
  go_enter Tryz.func90, Tryz.ntmps90
  go_wp2_with (go_at_call 28; refine (HSp.out _).mono ?_; rintro e1 w1 ⟨rfl, rfl⟩)
  refine HF.out.mono ?_
  rintro e2 w5 ⟨rfl, hQ⟩
  have HQ := Lib.hid hQ
  clear hQ
  go_wp2
  first | go_end0 | refine bodyPost_ret (results_none rfl _ _ _) rfl ?_
  exact ⟨rfl, HQ.out⟩

set_option maxHeartbeats 1600000 in
/-- The head was turned. -/
theorem rgTriedWon_any (m p : Nat) (at_ size hd st fi tl v : Int) (F : FuncId) (lk tk : Value) (rest : List Value) (e : TypeId) (w : World) (Q : World → Prop) (hp : Row w p e (rgCells m at_ size hd st fi tl lk (.func (.func F) #[.pointer (some ⟨p, 0, none⟩)] #[]) tk rest))
    (hcf : ∀ args w, (callFunc F args).run Tryz.prog w = .ok (.enter F args) w)
    (hF : Calls Tryz.prog F #[.pointer (some ⟨p, 0, none⟩)] w fun e' w' => e' = .returned (.tuple #[]) ∧ Q w') :
    Calls Tryz.prog 84 #[.pointer (some ⟨p, 0, none⟩), .int .u64 v, .bool true] w fun e' w' => e' = .returned (.tuple #[]) ∧ Q w' := by
  have h8 := hp.cell (j := 8) rfl
  have HF := Lib.hid hF
  clear hp hF
  go_enter Tryz.func84, Tryz.ntmps84
  go_wp2_with fail
  refine HF.out.mono ?_
  rintro e2 w5 ⟨rfl, hQ⟩
  have HQ := Lib.hid hQ
  clear hQ
  go_wp2
  first | go_end0 | refine bodyPost_ret (results_none rfl _ _ _) rfl ?_
  exact ⟨rfl, HQ.out⟩
set_option maxHeartbeats 1600000 in
theorem rgTriedLost_any (m p : Nat) (at_ size hd st fi tl v : Int) (lk tr tk : Value) (rest : List Value) (e : TypeId) (s : WSt) (w : World) (hw : Wk w m s) (hp : Row w p e (rgCells m at_ size hd st fi tl lk tr tk rest)) (hpm : p ≠ m) (ho : s.over = false) (hs : s.sub = none) (a0 : 0 ≤ at_) (a1 : at_ < 65536) (hv : M.U v) :
    Calls Tryz.prog 84 #[.pointer (some ⟨p, 0, none⟩), .int .u64 v, .bool false] w fun e' w' => e' = .returned (.tuple #[]) ∧
      RgAsks m p e s w ⟨1, at_ + 1, 0, 0⟩ 90 (rgCells m at_ size v (rgHi v) (rgLo v) tl lk tr tk rest) w' := by
  have HF := Lib.hid (rgReadHead_any m p at_ size hd st fi tl v false lk tr tk rest e s w hw hp hpm ho hs a0 a1 hv)
  clear hw hp ho hs
  go_enter Tryz.func84, Tryz.ntmps84
  go_wp2_with fail
  refine HF.out.mono ?_
  rintro e2 w5 ⟨rfl, hQ⟩
  have HQ := Lib.hid hQ
  clear hQ
  go_wp2
  first | go_end0 | refine bodyPost_ret (results_none rfl _ _ _) rfl ?_
  exact ⟨rfl, HQ.out⟩

theorem rgBehind_any (m p n c : Nat) (at_ size hd st fi tl : Int) (lk tr : Value) (q : Option Addr) (rest : List Value) (e : TypeId) (w : World) (hp : Row w p e (rgCells m at_ size hd st fi tl lk tr (.slice q n c) rest)) (hn : n < 4294967296) :
    Calls Tryz.prog 63 #[.pointer (some ⟨p, 0, none⟩)] w fun e' w' => e' = .returned (.int .u32 (rgAdd fi (n : Int))) ∧ Keeps [] w w' := by
  have h5 := hp.cell (j := 5) rfl
  have h9 := hp.cell (j := 9) rfl
  have hu : IntKind.u32.wrap (n : Int) = (n : Int) := by show (n : Int) % 4294967296 = n; omega
  have ha : IntKind.u32.wrap (fi + (n : Int)) = rgAdd fi n := rfl
  clear hp
  go_enter Tryz.func63, Tryz.ntmps63
  go_wp2
  go_quiet (fail)
  go_wp2
  go_ret
  exact ⟨rfl, (Keeps.refl _ _).drewN⟩

/-- It has taken: its list, what it holds, and how it goes on. -/
def RgTook (m p : Nat) (e : TypeId) (B : Nat) (w : World) (tk : Value) (us hs : List Int) (st' : Value → WSt) (cs : Value → List Value) (w' : World) : Prop :=
  ∃ t tk', Wk w' m (st' t) ∧ Row w' p e (cs tk') ∧ w'.ownsRow B 34 1 tk' us.length (ints .u64 us) ∧ (∀ g, tk'.ownBlock = some g → (tk.ownBlock = some g ∨ w.heap.size ≤ g) ∧ g ≠ p ∧ g ≠ m ∧ t.ownBlock ≠ some g) ∧
    w'.ownsRow w.heap.size 34 1 t hs.length (ints .u64 hs) ∧ Keeps ([m, p] ++ tk.ownBlock.toList) w w'
set_option maxHeartbeats 3200000 in
/-- It takes what it loaded, and holds this, too. -/
theorem rgTake_any (m p : Nat) (at_ size hd st fi tl v : Int) (lk tr tk : Value) (rest : List Value) (took os : List Int) (ot : Value) (B Bo : Nat) (e : TypeId) (s : WSt) (w : World) (hw : Wk w m s) (hp : Row w p e (rgCells m at_ size hd st fi tl lk tr tk rest)) (hpm : p ≠ m)
    (ht : w.ownsRow B 34 1 tk took.length (ints .u64 took)) (htp : ∀ g, tk.ownBlock = some g → g ≠ p ∧ g ≠ m) (htl : took.length ≤ 1000) (hot : w.ownsRow Bo 34 1 ot os.length (ints .u64 os)) (hol : os.length ≤ 10) (hop : ∀ g, ot.ownBlock = some g → g ≠ p ∧ g ≠ m ∧ tk.ownBlock ≠ some g) (hB : B ≤ w.heap.size) (hBo : Bo ≤ w.heap.size) :
    Calls Tryz.prog 85 #[.pointer (some ⟨p, 0, none⟩), .int .u64 v, ot] w fun e' w' => e' = .returned (.tuple #[]) ∧ ∃ t tk', Wk w' m { s with tasks := t } ∧ Row w' p e (rgCells m at_ size hd st fi tl lk tr tk' rest) ∧
      w'.ownsRow B 34 1 tk' (took.length + 1) (ints .u64 (took ++ [v])) ∧ (∀ g, tk'.ownBlock = some g → (tk.ownBlock = some g ∨ w.heap.size ≤ g) ∧ g ≠ p ∧ g ≠ m ∧ t.ownBlock ≠ some g) ∧
      w'.ownsRow w.heap.size 34 1 t (os.length + (took.length + 1)) (ints .u64 (os ++ (took ++ [v]))) ∧ Keeps ([m, p] ++ tk.ownBlock.toList ++ ot.ownBlock.toList) w w' := by
  have HP := Lib.hid hp
  have HC := Lib.hid (rg_cells hp)
  obtain ⟨h0, h1, h2, h3, h4, h5, h6, h7, h8, h9⟩ := HC.out _ [] (Keeps.refl _ _) (by simp)
  have f9 := hp.frozen 9
  have HW := Lib.hid hw
  have HT := Lib.hid ht
  have HO := Lib.hid hot
  clear hw hp ht hot
  go_enter Tryz.func85, Tryz.ntmps85
  go_wp2_with (at_builtin; refine append_fresh rfl _ _ 31 rfl B 34 _ 1 8 Tryz.underlying31 elemWd _ _ _ rfl HT.out #[.int .u64 v] rfl rfl (by simp [Value.oneCell']) ?c2 ?c3 ?_)
  case c2 => omega
  case c3 => exact hB
  intro v' w9 own9 k9 f9 _
  obtain ⟨pv, cv, rfl⟩ := (Sl.of_owns own9).len
  have hpk : p ∉ tk.ownBlock.toList := fun h => (htp p ((ownBlock_toList _ _).1 h)).1 rfl
  have hmk : m ∉ tk.ownBlock.toList := fun h => (htp m ((ownBlock_toList _ _).1 h)).2 rfl
  have hp9 := HP.out.keeps k9 hpk
  have g9 := hp9.cell (j := 9) rfl
  have q9 := hp9.frozen 9
  obtain ⟨W, hW⟩ : ∃ W, w9.setCell ⟨p, 9, none⟩ (.slice pv (took.length + 1) cv) = W := ⟨_, rfl⟩
  have kW : Keeps [p] w9 W := by rw [← hW]; exact (Keeps.refl [p] w9).setCell (fun _ => by simp) _
  have hpW : Row W p e (rgCells m at_ size hd st fi tl lk tr (.slice pv (took.length + 1) cv) rest) := by rw [← hW]; exact hp9.set 9 _
  have HNew := Lib.hid (show ∀ g, (Value.slice pv (took.length + 1) cv).ownBlock = some g → g ≠ p ∧ g ≠ m ∧ (tk.ownBlock = some g ∨ w.heap.size ≤ g) from fun g hg => by
    rcases f9 g hg with h | h
    · exact ⟨(htp g h).1, (htp g h).2, .inl h⟩
    · have := HP.out.lt
      have := HW.out.lt
      exact ⟨by omega, by omega, .inr h⟩)
  have HTW : Hid (W.ownsRow B 34 1 (.slice pv (took.length + 1) cv) (took.length + 1) (ints .u64 (took ++ [v]))) := Lib.hid (by simpa [ints] using owns_keeps own9 kW (fun g hg => by simpa using (HNew.out g hg).1))
  have HOW := Lib.hid (owns_keeps (owns_keeps HO.out k9 (fun g hg h => (hop g hg).2.2 ((ownBlock_toList _ _).1 h))) kW (fun g hg => by simpa using (hop g hg).1))
  have HWW := Lib.hid ((HW.out.keeps k9 hmk).keeps kW (by simpa using Ne.symm hpm))
  have HPW := Lib.hid hpW
  have HK := Lib.hid ((k9.mono (T := [m, p] ++ tk.ownBlock.toList ++ ot.ownBlock.toList) (fun k hk _ => by simp only [List.mem_append]; exact .inl (.inr hk))).trans (kW.mono (by simp)))
  have c0 := hpW.cell (j := 0) rfl
  have c9 := hpW.cell (j := 9) rfl
  have zW := HK.out.size
  have HTl := Lib.hid htl
  clear own9 k9 f9 hp9 kW hpW
  have HE := Lib.hid (fun W2 (h : Wk W2 m s) v n us hl hn => wHold m s v n us W2 h hl hn)
  have hBoW : Bo ≤ W.heap.size := Nat.le_trans hBo zW
  have hpo : p ∉ ot.ownBlock.toList := fun h => (hop p ((ownBlock_toList _ _).1 h)).1 rfl
  have hmo : m ∉ ot.ownBlock.toList := fun h => (hop m ((ownBlock_toList _ _).1 h)).2.1 rfl
  have hsum : ints .u64 os ++ ints .u64 (took ++ [v]) = ints .u64 (os ++ (took ++ [v])) := by simp [ints]
  have HSm := Lib.hid hsum
  have htl1 : (took ++ [v]).length = took.length + 1 := by simp
  go_wp2_with fail
  clear hW
  go_region_law (first
    | (refine step_append_sl (by rfl) _ _ 31 (by rfl) Bo 34 _ 1 8 Tryz.underlying31 elemWd ot os.length (ints .u64 os) (by rfl) (World.ownsRow.drew HOW.out) (.slice pv (took.length + 1) cv) (took.length + 1) (ints .u64 (took ++ [v])) (by rfl) (Sl.of_owns (World.ownsRow.drew HTW.out)) (ints_one .u64 _) (by omega) hBoW ?_; intro v10 w10 own10 k10 f10 ne10; have hk10 : Keeps ot.ownBlock.toList W w10 := k10.undrew; have d0 := (hk10.cell (p := ⟨p, 0, none⟩) HPW.out.lt hpo).trans c0; have hs10 : Sl w10 1 v10 (os.length + (took.length + 1)) (ints .u64 (os ++ (took ++ [v]))) := (by rw [← HSm.out]; exact Sl.of_owns own10))
    | (go_simp; go_at_call 65; refine (HE.out w10 (HWW.out.keeps hk10 hmo) v10 (os.length + (took.length + 1)) (os ++ (took ++ [v])) hs10 (by omega)).mono ?_; rintro e11 w11 ⟨rfl, t, hw11, ht11, k11⟩))
  all_goals (first | go_end0 | refine bodyPost_ret (results_none rfl _ _ _) rfl ?_)
  all_goals (
    have z10 := hk10.size
    have hot : ∀ g, (Value.slice pv (took.length + 1) cv).ownBlock = some g → g ∉ ot.ownBlock.toList := fun g hg h => by
      have h1 := (ownBlock_toList _ _).1 h
      rcases (HNew.out g hg).2.2 with h2 | h2
      · exact (hop g h1).2.2 h2
      · have := (HO.out.lt g h1).2; omega
    refine ⟨rfl, t, .slice pv (took.length + 1) cv, hw11, (HPW.out.keeps hk10 hpo).keeps k11 (by simpa using hpm), owns_keeps (owns_keeps HTW.out hk10 hot) k11 (fun g hg => by simpa using (HNew.out g hg).2.1), fun g hg => ?_, owns_base ht11 (by omega), ?_⟩
    · obtain ⟨n1, n2, n3⟩ := HNew.out g hg
      exact ⟨n3, n1, n2, fun h => by have := (ht11.lt g h).1; have := (HTW.out.lt g hg).2; omega⟩
    · exact (HK.out.trans (hk10.mono fun k hk _ => List.mem_append_right _ hk)).trans (k11.mono (by simp)))
end Go.Proofs.YtjbgkaleickknaaGreat

/-
  Contracts: a ring's walk that holds tasks, and lets go of them.
-/
namespace Go.Proofs.YtjbgkaleickknaaGreat
set_option maxRecDepth 100000
set_option linter.unusedSimpArgs false
set_option linter.unusedVariables false
open Go.ChangeShapes Go.WideShapes Go.ChangeAt Go.RowKit

set_option maxHeartbeats 800000 in
theorem rgLet_any (m p b : Nat) (code v : Int) (q : Option Addr) (n c : Nat) (s : WSt) (w : World) (hw : Wk w m s) (hb : w.cell? ⟨b, 0, none⟩ = some (.pointer (some ⟨p, 0, none⟩))) (hp : w.cell? ⟨p, 0, none⟩ = some (.pointer (some ⟨m, 0, none⟩))) (lb : b < w.heap.size) (lp : p < w.heap.size) :
    Calls Tryz.prog 68 #[.agg #[.int .i64 code, .int .u64 v, .slice q n c], .pointer (some ⟨b, 0, none⟩)] w fun e w' => e = .returned (.tuple #[]) ∧ ∃ t, Wk w' m { s with tasks := t } ∧ w'.ownsRow w.heap.size 34 1 t 0 [] ∧ Keeps [m] w w' := by
  have HE := Lib.hid (fun W (h : Wk W m s) => wHold m s (.slice none 0 0) 0 [] W h ⟨rfl, .inl ⟨_, _, rfl, rfl⟩⟩ (by omega))
  have HW := Lib.hid hw
  clear hw
  go_enter Tryz.func68, Tryz.ntmps68
  go_wp2_with fail
  refine (HE.out _ (HW.out.alloc _)).mono ?_
  rintro e w1 ⟨rfl, t, hw1, ht, k1⟩
  have HP := Lib.hid (⟨hw1, owns_base ht (by simp), ((Keeps.refl [m] w).alloc _).trans k1⟩ : _ ∧ w1.ownsRow w.heap.size 34 1 t 0 [] ∧ Keeps [m] w w1)
  clear hw1 ht k1
  go_wp2
  first | go_end0 | refine bodyPost_ret (results_none rfl _ _ _) rfl ?_
  exact ⟨rfl, t, HP.out⟩
/-- What stands in the walk that lets go of the tasks of the one at m. -/
@[reducible] def rgWatcher (m b : Nat) : WSt := { WSt.zero with sub := some ⟨m, 0, none⟩, after := .func (.func 68) #[] #[.pointer (some ⟨b, 0, none⟩)] }
set_option maxHeartbeats 800000 in
theorem rgHold1_any (m p b o : Nat) (s : WSt) (w : World) (hw : Wk w m s) (hwo : Wk w o { WSt.zero with under := 1 }) (hne : m ≠ o) (hov : s.over = false) (hout : s.outer = .slice none 0 0) (hb : w.cell? ⟨b, 0, none⟩ = some (.pointer (some ⟨p, 0, none⟩))) (hp : w.cell? ⟨p, 0, none⟩ = some (.pointer (some ⟨m, 0, none⟩))) :
    Calls Tryz.prog 66 #[.pointer (some ⟨o, 0, none⟩), .pointer (some ⟨b, 0, none⟩)] w fun e w' => e = .returned (.tuple #[]) ∧ ∃ q, Wk w' o { rgWatcher m b with under := 1 } ∧ Wk w' m { s with outer := q } ∧ w'.ownsRow w.heap.size 44 1 q 1 [.pointer (some ⟨o, 0, none⟩)] ∧ Keeps [m, o] w w' := by
  have HE := Lib.hid (wInto m o s _ (.func 68) #[] #[.pointer (some ⟨b, 0, none⟩)] w hw hwo hne hov hout rfl rfl rfl)
  clear hw hwo hov hout
  go_enter Tryz.func66, Tryz.ntmps66
  go_wp2_with fail
  refine HE.out.mono ?_
  rintro e w1 ⟨rfl, q, h1, h2, h3, h4⟩
  have HP := Lib.hid (⟨h1, h2, h3, h4⟩ : _ ∧ _ ∧ _ ∧ _)
  clear h1 h2 h3 h4
  go_wp2
  first | go_end0 | refine bodyPost_ret (results_none rfl _ _ _) rfl ?_
  exact ⟨rfl, q, HP.out⟩

/-- A walk at o went into the one at m, by the list at g: it lets go of the tasks of that (b: where it finds the record p). -/
structure RgWatch (w : World) (m p g o b : Nat) (ov : Value) : Prop where
  ov_ : ∃ cap, ov = .slice (some ⟨g, 0, none⟩) 1 cap
  row : Row w g 44 [.pointer (some ⟨o, 0, none⟩)]
  wk : Wk w o (rgWatcher m b)
  box : Box w b #[.pointer (some ⟨p, 0, none⟩)]
theorem RgWatch.keeps {w w' : World} {m p g o b : Nat} {ov : Value} {A : List Nat} (h : RgWatch w m p g o b ov) (hk : Keeps A w w') (hg : g ∉ A) (ho : o ∉ A) (hb : b ∉ A) : RgWatch w' m p g o b ov :=
  ⟨h.ov_, h.row.keeps hk hg, h.wk.keeps hk ho, h.box.keeps hk hb⟩
theorem RgWatch.watch {w : World} {m p g o b : Nat} {ov : Value} (h : RgWatch w m p g o b ov) (hp : w.cell? ⟨p, 0, none⟩ = some (.pointer (some ⟨m, 0, none⟩))) (lp : p < w.heap.size) (hgm : g ≠ m) (hom : o ≠ m) (hbm : b ≠ m) (hpm : p ≠ m) (hbo : b ≠ o) (hpo : p ≠ o) : Watch w m g o ov := by
  obtain ⟨cap, hov⟩ := h.ov_
  refine ⟨cap, _, _, 68, #[], #[.pointer (some ⟨b, 0, none⟩)], hov, hgm, hom, h.row, h.wk, rfl, rfl, rfl, rfl, rfl, fun _ _ => by kernel_rfl, fun w1 code v q n c s hw k => ?_⟩
  have hb1 := h.box.keeps k (by simp [hbm, hbo])
  exact rgLet_any m p b code v q n c s w1 hw (hb1.cells 0) ((k.cell (p := ⟨p, 0, none⟩) lp (by simp [hpm, hpo])).trans hp) hb1.lt (Nat.lt_of_lt_of_le lp k.size)

set_option maxHeartbeats 1600000 in
theorem rgHold_any (m p : Nat) (at_ size hd sl fi tl : Int) (lk tr tk : Value) (rest : List Value) (us : List Int) (ts : Value) (e : TypeId) (st : WSt) (w : World) (hw : Wk w m st) (hp : Row w p e (rgCells m at_ size hd sl fi tl lk tr tk rest)) (hpm : p ≠ m) (ho : st.over = false) (hout : st.outer = .slice none 0 0) (hts : Sl w 1 ts us.length (ints .u64 us)) (hus : us.length ≤ 10) :
    Calls Tryz.prog 38 #[.pointer (some ⟨p, 0, none⟩), ts] w fun e' w' => e' = .returned (.tuple #[]) ∧ ∃ t ov g o b, Wk w' m { st with tasks := t, outer := ov } ∧ w'.ownsRow w.heap.size 34 1 t us.length (ints .u64 us) ∧ RgWatch w' m p g o b ov ∧
      (w.heap.size ≤ g ∧ w.heap.size ≤ o ∧ w.heap.size ≤ b) ∧ b ≠ o ∧ (∀ x, t.ownBlock = some x → x ≠ g ∧ x ≠ o ∧ x ≠ b) ∧ Keeps [m] w w' := by
  have HS := Lib.hid (rg_cells hp)
  obtain ⟨h0, -⟩ := HS.out _ [] (Keeps.refl _ _) (by simp)
  have hplt := hp.lt
  have hmlt := hw.lt
  have HW := Lib.hid hw
  have HTS := Lib.hid hts
  clear hw hp hts
  go_enter Tryz.func38, Tryz.ntmps38
  go_wp2_with fail
  generalize hW : World.alloc _ _ = W1
  have k1 : Keeps [] w W1 := by rw [← hW]; exact (Keeps.refl _ _).alloc _
  have hb : Box W1 w.heap.size #[.pointer (some ⟨p, 0, none⟩)] := by rw [← hW]; exact Box.new _ _ _
  have HW1 := Lib.hid (HW.out.keeps k1 (by simp))
  obtain ⟨c0, -⟩ := HS.out W1 [] k1 (by simp)
  have cb := hb.cells 0
  have lb := hb.lt
  have lp : p < W1.heap.size := Nat.lt_of_lt_of_le hplt k1.size
  clear hW
  have HE := Lib.hid (wHold m st ts us.length us W1 HW1.out (HTS.out.keeps k1 (by simp)) (by omega))
  refine HE.out.mono ?_
  rintro e2 w3 ⟨rfl, t, hw3, ht3, hk3⟩
  have hb3 := hb.keeps hk3 (by simp; omega)
  have hp3 := (hk3.cell (p := ⟨p, 0, none⟩) lp (by simpa using hpm)).trans c0
  have lp3 := Nat.lt_of_lt_of_le lp hk3.size
  have kz := hk3.size
  have z1 := k1.size
  have HN := Lib.hid (wNew 66 #[.pointer (some ⟨w.heap.size, 0, none⟩)] [m] w3 (fun w2 s2 => s2 = { rgWatcher m w.heap.size with under := 1 } ∧ ∃ q B, w3.heap.size + 1 < B ∧ Wk w2 m { st with tasks := t, outer := q } ∧ w2.ownsRow B 44 1 q 1 [.pointer (some ⟨w3.heap.size + 1, 0, none⟩)])
    (by intro k hk; simp at hk; subst hk; exact hw3.lt) (fun _ _ => by kernel_rfl) (fun w4 h4 k4 => (rgHold1_any m p w.heap.size (w3.heap.size + 1) _ w4 (hw3.keeps k4 (by simp)) h4 (by have := hw3.lt; omega) (show st.over = false from ho) (show st.outer = .slice none 0 0 from hout) ((hb3.keeps k4 (by simp)).cells 0) ((k4.cell (p := ⟨p, 0, none⟩) lp3 (by simp)).trans hp3)).mono
      fun e w5 ⟨he, q, a1, a2, a3, a4⟩ => ⟨he, _, a1, rfl, .inl rfl, a4.mono (by simp), rfl, q, w4.heap.size, h4.lt, a2, a3⟩))
  have HT3 := Lib.hid ht3
  have HB3 := Lib.hid hb3
  have HK3 := Lib.hid (k1.nil.trans hk3)
  have HLt := Lib.hid (show w.heap.size < W1.heap.size ∧ m < w3.heap.size from ⟨lb, hw3.lt⟩)
  clear hw3 ht3 hk3 hb3 hb
  go_wp2_with fail
  refine HN.out.mono ?_
  rintro e3 w5 ⟨rfl, w4, s2, ⟨rfl, q, B, hB, m4, q4⟩, k5, k4, o5⟩
  have HP : Hid (_ ∧ _ ∧ _ ∧ _ ∧ _ ∧ _) := Lib.hid ⟨hB, m4, q4, k5, k4, o5⟩
  clear hB m4 q4 k5 k4 o5
  go_wp2
  first | go_end0 | refine bodyPost_ret (results_none rfl _ _ _) rfl ?_
  obtain ⟨hB, m4, q4, k5, k4, o5⟩ := HP.out
  have hml := HLt.out.2
  have ht := HT3.out
  have htl := fun x hx => ht.lt x hx
  have hs := HLt.out.1
  obtain ⟨qp, qc, rfl⟩ := (Sl.of_owns q4).len
  obtain ⟨g, hg, hgb⟩ : ∃ g, qp = some ⟨g, 0, none⟩ ∧ B ≤ g := by
    rcases q4.2 with ⟨-, h⟩ | ⟨g, cap, cur, h, hb, -⟩
    · cases h
    · cases h; exact ⟨g, rfl, hb⟩
  subst hg
  have hrow := Row.of_owns q4
  have hgl := hrow.lt
  have hgo : g ≠ w3.heap.size + 1 := by omega
  have htb : ∀ x, t.ownBlock = some x → w.heap.size < x ∧ x < w3.heap.size := fun x hx => by have := htl x hx; omega
  have kk : Keeps [m] w w5 := (((HK3.out.trans k4).mono (T := [w3.heap.size + 1, m]) (by simp)).trans (k5.mono (by simp))).mono (by intro k hk hl; simp at hk; rcases hk with rfl | rfl; omega; simp)
  have ht5 : w5.ownsRow w.heap.size 34 1 t us.length (ints .u64 us) := owns_keeps (owns_keeps (owns_base ht (by omega)) k4 (fun x hx => by have := htb x hx; simp; omega)) k5 (fun x hx => by have := htb x hx; simp; omega)
  exact ⟨rfl, t, .slice (some ⟨g, 0, none⟩) 1 qc, g, w3.heap.size + 1, w.heap.size, m4.keeps k5 (by simp; omega), ht5, ⟨⟨_, rfl⟩, hrow.keeps k5 (by simpa using hgo), o5, (HB3.out.keeps k4 (by simp; omega)).keeps k5 (by simp; omega)⟩, ⟨by omega, by omega, by omega⟩, by omega, fun x hx => (by have := htb x hx; omega), kk⟩
end Go.Proofs.YtjbgkaleickknaaGreat
