/-
  The machine of a queue's Put and Take.
-/
import Derived.Test.YtoomefclbemnlaaGreatMach5
import Derived.Test.YtoomefclbemnlaaGreatArM
import Derived.Test.YtoomefclbemnlaaGreatArQ
import Derived.Test.YtoomefclbemnlaaGreatAcc
import Derived.Test.YtoomefclbemnlaaGreatDraw
import Derived.StillTailTactics
namespace Go.Proofs.YtoomefclbemnlaaGreat
set_option maxRecDepth 100000
set_option linter.unusedSimpArgs false
set_option linter.unusedVariables false
open Go

/-- A Put of tasks, or a Take, at a step; sub: where it is in the arena. -/
structure QuS where
  at_ : Int
  n : Int
  puts : Bool
  l : List Int
  nodes : List Int
  k : Nat
  step : Int
  sub : Option ArS
  h : Int
  t : Int
  x : Int
  v : Int
  code : Int
  inn : Bool
  over : Option Rs
def quRight (at_ n : Int) : Prop := 2 ≤ n ∧ n ≤ 4096 ∧ 0 ≤ at_ ∧ at_ < 65536 - 3 * n - 2
instance (at_ n : Int) : Decidable (quRight at_ n) := by unfold quRight; infer_instance
/-- The node of a pair. -/
def quNode (u : Int) : Int := u % 4294967296
/-- Is it none? -/
def quWrong (n u : Int) : Prop := quNode u < 1 ∨ n < quNode u
instance (n u : Int) : Decidable (quWrong n u) := by unfold quWrong; infer_instance
def quTask (at_ n i : Int) : Int := at_ + 2 + n + i
def quNext (at_ n i : Int) : Int := at_ + 2 + 2 * n + i
def quEnd (s : QuS) (c v : Int) : QuS := { s with over := some ⟨c, v, []⟩, sub := none }
def quWantPut (s : QuS) : C.Acc :=
  if s.step = 20 then ⟨2, quTask s.at_ s.n (s.nodes.getD s.k 0), s.l.getD s.k 0, 0⟩
  else if s.step = 21 then ⟨1, quNext s.at_ s.n (s.nodes.getD s.k 0), 0, 0⟩
  else if s.step = 22 then ⟨2, quNext s.at_ s.n (s.nodes.getD s.k 0), arNext s.x (s.nodes.getD (s.k + 1) 0), 0⟩
  else if s.step = 3 ∨ s.step = 5 then ⟨1, s.at_ + 1, 0, 0⟩
  else if s.step = 4 then ⟨1, quNext s.at_ s.n (quNode s.t), 0, 0⟩
  else if s.step = 6 then (if quNode s.x = 0 then ⟨3, quNext s.at_ s.n (quNode s.t), s.x, arNext s.x (s.nodes.getD 0 0)⟩ else ⟨3, s.at_ + 1, s.t, arNext s.t (quNode s.x)⟩)
  else ⟨3, s.at_ + 1, s.t, arNext s.t (s.nodes.getD (s.nodes.length - 1) 0)⟩
def quWantTake (s : QuS) : C.Acc :=
  if s.step = 1 ∨ s.step = 4 then ⟨1, s.at_, 0, 0⟩
  else if s.step = 2 then ⟨1, s.at_ + 1, 0, 0⟩
  else if s.step = 3 then ⟨1, quNext s.at_ s.n (quNode s.h), 0, 0⟩
  else if s.step = 50 then ⟨3, s.at_ + 1, s.t, arNext s.t (quNode s.x)⟩
  else if s.step = 5 then ⟨1, quTask s.at_ s.n (quNode s.x), 0, 0⟩
  else ⟨3, s.at_, s.h, arNext s.h (quNode s.x)⟩
/-- The tail is known; the head is known. -/
def quTail (s : QuS) (t : Int) : QuS := if quWrong s.n t then quEnd { s with t := t, step := 4 } 9 0 else { s with t := t, step := 4 }
def quHead (s : QuS) (h : Int) : QuS := if quWrong s.n h then quEnd { s with h := h, step := 2 } 9 0 else { s with h := h, step := 2 }
def quGivePut (s : QuS) (v : Int) (won : Bool) : QuS :=
  if s.step = 20 then { s with step := 21 }
  else if s.step = 21 then { s with x := v, step := 22 }
  else if s.step = 22 then { s with k := s.k + 1, step := if s.k + 1 = s.nodes.length then 3 else 20 }
  else if s.step = 3 then quTail s v
  else if s.step = 4 then { s with x := v, step := 5 }
  else if s.step = 5 then (if v ≠ s.t then quTail s v else if s.n < quNode s.x then quEnd { s with step := 6 } 9 0 else { s with step := 6 })
  else if s.step = 6 then (if quNode s.x = 0 ∧ won = true then { s with inn := true, step := 7 } else { s with step := 3 })
  else quEnd s 0 0
/-- What comes of head, tail and next. -/
def quFive (s : QuS) : QuS :=
  if quNode s.x = 0 ∧ quNode s.t = quNode s.h then quEnd s 5 0
  else if quNode s.x = 0 then { s with step := 1 }
  else if quWrong s.n s.x then quEnd s 9 0
  else if quNode s.t = quNode s.h then { s with step := 50 }
  else { s with step := 5 }
def quGiveTake (s : QuS) (v : Int) (won : Bool) : QuS :=
  if s.step = 1 then quHead s v
  else if s.step = 2 then { s with t := v, step := 3 }
  else if s.step = 3 then { s with x := v, step := 4 }
  else if s.step = 4 then (if v ≠ s.h then quHead s v else quFive s)
  else if s.step = 50 then { s with step := 1 }
  else if s.step = 5 then { s with v := v, step := 6 }
  else if won then { s with inn := true, sub := some (arPut (s.at_ + 2) s.n (quNode s.h)) } else { s with step := 1 }
/-- The next node is put back, or it ends. -/
def quBack (s : QuS) : QuS :=
  if s.k = s.nodes.length then quEnd s s.code 0 else { s with sub := some (arPut (s.at_ + 2) s.n (s.nodes.getD s.k 0)), k := s.k + 1 }
/-- It has been in the arena. -/
def quLeft (s : QuS) (r : Rs) : QuS :=
  if s.puts = false then quEnd s r.code (if r.code = 0 then s.v else 0)
  else if s.step = 10 then quBack { s with sub := none }
  else if r.code ≠ 0 then quBack { s with sub := none, code := r.code, step := 10 }
  else if s.nodes.length + 1 < s.l.length then { s with sub := some (arTake (s.at_ + 2) s.n), nodes := s.nodes ++ [r.v] }
  else { s with sub := none, nodes := s.nodes ++ [r.v], step := 20 }
def quHeld (s : QuS) : List Int := if s.over.isSome ∨ s.puts = s.inn then [] else if s.puts then s.l else [s.v]
def quNest : Nest QuS ArS where
  want s := if s.over.isSome then none else some (if s.puts then quWantPut s else quWantTake s)
  res s := s.over
  held := quHeld
  give s v won := if s.over.isSome then s else if s.puts then quGivePut s v won else quGiveTake s v won
  sub s := if s.over.isSome then none else s.sub
  put s t := { s with sub := some t }
  left := quLeft
def queueM : Mach QuS := quNest.mach arenaM
def quZero (at_ n : Int) (puts : Bool) (l : List Int) : QuS := ⟨at_, n, puts, l, [], 0, 1, none, 0, 0, 0, 0, 0, false, none⟩
def quPut (at_ n : Int) (l : List Int) : QuS :=
  if ¬ quRight at_ n ∨ l.length = 0 then quEnd (quZero at_ n true l) 2 0
  else if 300 < l.length then quEnd (quZero at_ n true l) 14 0
  else { quZero at_ n true l with sub := some (arTake (at_ + 2) n) }
def quTake (at_ n : Int) : QuS := if quRight at_ n then quZero at_ n false [] else quEnd (quZero at_ n false []) 2 0

theorem quRight.ar {at_ n : Int} (h : quRight at_ n) : arRight (at_ + 2) n := by
  obtain ⟨a, b, c, d⟩ := h
  exact ⟨by omega, b, by omega, by omega⟩
theorem quNode_nn (u : Int) : 0 ≤ quNode u ∧ quNode u < 4294967296 := by unfold quNode; omega
theorem arNext_U (h i : Int) (h0 : M.U h) (i0 : 0 ≤ i) (i1 : i < 4294967296) : M.U (arNext h i) := by
  have := h0.nn; have := h0.lt
  unfold arNext
  constructor <;> omega
end Go.Proofs.YtoomefclbemnlaaGreat

/-
  Contracts: a queue's cells; what its walks ask for.
-/
namespace Go.Proofs.YtoomefclbemnlaaGreat
set_option maxRecDepth 100000
set_option linter.unusedSimpArgs false
set_option linter.unusedVariables false
open Go.ChangeShapes Go.WideShapes Go.ChangeAt Go.RowKit

theorem nodeOf_any (u : Int) (w : World) (hu : M.U u) :
    Calls Tryz.prog 66 #[.int .u64 u] w fun e w' => e = .returned (.int .i64 (quNode u)) ∧ w = w' := by
  have H := split_any u w hu.nn hu
  obtain ⟨q, hq⟩ : ∃ q, u % 4294967296 = q := ⟨_, rfl⟩
  have q0 : 0 ≤ q := by omega
  have q1 : q < 4294967296 := by omega
  unfold quNode
  rw [hq]
  rw [hq] at H
  clear hq
  go_enter Tryz.func66, Tryz.ntmps66
  go_wp2_with fail
  refine H.mono ?_
  rintro e w1 ⟨rfl, rfl⟩
  go_wp2
  go_ret
  exact ⟨rfl, rfl⟩
theorem raised_any (u node : Int) (w : World) (hu : M.U u) (n0 : 0 ≤ node) (n1 : node < 4294967296) :
    Calls Tryz.prog 107 #[.int .u64 u, .int .i64 node] w fun e w' => e = .returned (.int .u64 (arNext u node)) ∧ w = w' := by
  have H := split_any u w hu.nn hu
  have u0 := hu.nn
  have u1 := hu.lt
  obtain ⟨q, hq⟩ : ∃ q, u / 4294967296 = q := ⟨_, rfl⟩
  have q0 : 0 ≤ q := by omega
  have q1 : q < 4294967296 := by omega
  obtain ⟨r, hr⟩ : ∃ r, (q + 1) % 4294967296 = r := ⟨_, rfl⟩
  have r0 : 0 ≤ r := by omega
  have r1 : r < 4294967296 := by omega
  have hup : IntKind.u32.wrap (q + 1) = r := by rw [← hr]; rfl
  have HP := Lib.hid (fun W => pair_any r node W r0 r1 n0 n1)
  have HN : Hid (arNext u node = r * 4294967296 + node) := Lib.hid (by unfold arNext; rw [hq, hr])
  rw [HN.out]
  rw [hq] at H
  clear hq hr
  go_enter Tryz.func107, Tryz.ntmps107
  go_wp2_with fail
  refine H.mono ?_
  rintro e w1 ⟨rfl, rfl⟩
  go_wp2_with fail
  refine (HP.out _).mono ?_
  rintro e w1 ⟨rfl, rfl⟩
  go_wp2
  go_ret
  exact ⟨rfl, rfl⟩
theorem quTail_any (at_ n : Int) (w : World) (h0 : 0 ≤ at_) (h1 : at_ < 65536) :
    Calls Tryz.prog 31 #[.agg #[.int .i64 at_, .int .i64 n]] w fun e w' => e = .returned (.int .i64 (at_ + 1)) ∧ Keeps [] w w' := by
  go_enter Tryz.func31, Tryz.ntmps31
  go_wp2
  go_ret
  exact ⟨rfl, (Keeps.refl _ _).alloc _⟩
theorem quTask_any (at_ n i : Int) (w : World) (hr : quRight at_ n) (i0 : 0 ≤ i) (i1 : i ≤ 4294967296) :
    Calls Tryz.prog 49 #[.agg #[.int .i64 at_, .int .i64 n], .int .i64 i] w fun e w' => e = .returned (.int .i64 (quTask at_ n i)) ∧ Keeps [] w w' := by
  obtain ⟨a, b, c, d⟩ := hr
  have d' : at_ < 65536 := by omega
  clear d
  unfold quTask
  go_enter Tryz.func49, Tryz.ntmps49
  go_wp2
  go_ret
  exact ⟨rfl, (Keeps.refl _ _).alloc _⟩
theorem quNext_any (at_ n i : Int) (w : World) (hr : quRight at_ n) (i0 : 0 ≤ i) (i1 : i ≤ 4294967296) :
    Calls Tryz.prog 50 #[.agg #[.int .i64 at_, .int .i64 n], .int .i64 i] w fun e w' => e = .returned (.int .i64 (quNext at_ n i)) ∧ Keeps [] w w' := by
  obtain ⟨a, b, c, d⟩ := hr
  have d' : at_ < 65536 := by omega
  clear d
  unfold quNext
  go_enter Tryz.func50, Tryz.ntmps50
  go_wp2
  go_ret
  exact ⟨rfl, (Keeps.refl _ _).alloc _⟩
theorem quHas_any (at_ n i : Int) (w : World) :
    Calls Tryz.prog 136 #[.agg #[.int .i64 at_, .int .i64 n], .int .i64 i] w fun e w' => e = .returned (.bool (decide (1 ≤ i ∧ i ≤ n))) ∧ Keeps [] w w' := by
  by_cases h1 : 1 ≤ i
  · by_cases h2 : i ≤ n
    · have HD : Hid (decide (1 ≤ i ∧ i ≤ n) = true) := Lib.hid (decide_eq_true ⟨h1, h2⟩)
      rw [HD.out]
      have d1 : decide ((1 : Int) ≤ i) = true := decide_eq_true h1
      have d2 : decide (i ≤ n) = true := decide_eq_true h2
      go_enter Tryz.func136, Tryz.ntmps136
      go_wp2
      go_ret
      exact ⟨rfl, (Keeps.refl _ _).alloc _⟩
    · have HD : Hid (decide (1 ≤ i ∧ i ≤ n) = false) := Lib.hid (decide_eq_false fun h => h2 h.2)
      rw [HD.out]
      have d1 : decide ((1 : Int) ≤ i) = true := decide_eq_true h1
      have d2 : decide (i ≤ n) = false := decide_eq_false h2
      go_enter Tryz.func136, Tryz.ntmps136
      go_wp2
      go_ret
      exact ⟨rfl, (Keeps.refl _ _).alloc _⟩
  · have HD : Hid (decide (1 ≤ i ∧ i ≤ n) = false) := Lib.hid (decide_eq_false fun h => h1 h.1)
    rw [HD.out]
    have d1 : decide ((1 : Int) ≤ i) = false := decide_eq_false h1
    go_enter Tryz.func136, Tryz.ntmps136
    go_wp2
    go_ret
    exact ⟨rfl, (Keeps.refl _ _).alloc _⟩
theorem quRight_any (at_ n : Int) (w : World) :
    Calls Tryz.prog 7 #[.agg #[.int .i64 at_, .int .i64 n]] w fun e w' => e = .returned (.bool (decide (quRight at_ n))) ∧ Keeps [] w w' := by
  by_cases h1 : 2 ≤ n
  case neg =>
    have HD : Hid (decide (quRight at_ n) = false) := Lib.hid (decide_eq_false fun h => h1 h.1)
    rw [HD.out]
    have d1 : decide ((2 : Int) ≤ n) = false := decide_eq_false h1
    go_enter Tryz.func7, Tryz.ntmps7
    go_wp2
    go_ret
    exact ⟨rfl, (Keeps.refl _ _).alloc _⟩
  by_cases h2 : n ≤ 4096
  case neg =>
    have HD : Hid (decide (quRight at_ n) = false) := Lib.hid (decide_eq_false fun h => h2 h.2.1)
    rw [HD.out]
    have d1 : decide ((2 : Int) ≤ n) = true := decide_eq_true h1
    have d2 : decide (n ≤ 4096) = false := decide_eq_false h2
    go_enter Tryz.func7, Tryz.ntmps7
    go_wp2
    go_ret
    exact ⟨rfl, (Keeps.refl _ _).alloc _⟩
  by_cases h3 : 0 ≤ at_
  case neg =>
    have HD : Hid (decide (quRight at_ n) = false) := Lib.hid (decide_eq_false fun h => h3 h.2.2.1)
    rw [HD.out]
    have d1 : decide ((2 : Int) ≤ n) = true := decide_eq_true h1
    have d2 : decide (n ≤ 4096) = true := decide_eq_true h2
    have d3 : decide (0 ≤ at_) = false := decide_eq_false h3
    go_enter Tryz.func7, Tryz.ntmps7
    go_wp2
    go_ret
    exact ⟨rfl, (Keeps.refl _ _).alloc _⟩
  obtain ⟨m, hm⟩ : ∃ m, 65536 - 3 * n - 2 = m := ⟨_, rfl⟩
  have d1 : decide ((2 : Int) ≤ n) = true := decide_eq_true h1
  have d2 : decide (n ≤ 4096) = true := decide_eq_true h2
  have d3 : decide (0 ≤ at_) = true := decide_eq_true h3
  by_cases h4 : at_ < 65536 - 3 * n - 2
  · have HD : Hid (decide (quRight at_ n) = true) := Lib.hid (decide_eq_true ⟨h1, h2, h3, h4⟩)
    rw [HD.out]
    have d4 : decide (at_ < m) = true := decide_eq_true (by omega)
    go_enter Tryz.func7, Tryz.ntmps7
    go_wp2
    go_ret
    exact ⟨rfl, (Keeps.refl _ _).alloc _⟩
  · have HD : Hid (decide (quRight at_ n) = false) := Lib.hid (decide_eq_false fun h => h4 h.2.2.2)
    rw [HD.out]
    have d4 : decide (at_ < m) = false := decide_eq_false (by omega)
    go_enter Tryz.func7, Tryz.ntmps7
    go_wp2
    go_ret
    exact ⟨rfl, (Keeps.refl _ _).alloc _⟩
theorem quArena_any (at_ n : Int) (w : World) (hr : quRight at_ n) :
    Calls Tryz.prog 6 #[.agg #[.int .i64 at_, .int .i64 n]] w fun e w' => e = .returned (.agg #[.int .i64 (at_ + 2), .int .i64 n]) ∧ Keeps [] w w' := by
  have HR := Lib.hid (fun W => quRight_any at_ n W)
  rw [decide_eq_true hr] at HR
  obtain ⟨a, b, c, d⟩ := hr
  have d' : at_ < 65536 := by omega
  obtain ⟨W2, hW2⟩ : ∃ W2, (w.alloc (.cells #[.int .i64 at_, .int .i64 n] 23)).alloc (.cells #[.int .i64 0, .int .i64 0] 28) = W2 := ⟨_, rfl⟩
  have hb : Box W2 w.heap.size #[.int .i64 at_, .int .i64 n] := by rw [← hW2]; exact (Box.new _ _ _).alloc _
  have hr2 : Row W2 (w.heap.size + 1) 28 [.int .i64 0, .int .i64 0] := by rw [← hW2]; have := Row.new (w.alloc (.cells #[.int .i64 at_, .int .i64 n] 23)) #[.int .i64 0, .int .i64 0] 28; simpa using this
  have hk1 : Keeps [] w W2 := by rw [← hW2]; exact ((Keeps.refl _ _).alloc _).alloc _
  have c0 := hb.cells 0
  have c1 := hb.cells 1
  have hz : (w.alloc (.cells #[.int .i64 at_, .int .i64 n] 23)).heap.size = w.heap.size + 1 := by simp
  have HB := Lib.hid hb
  have HK := Lib.hid hk1
  have HR2 := Lib.hid hr2
  clear hb hk1 d hr2
  go_enter Tryz.func6, Tryz.ntmps6
  go_wp2_with fail
  refine (HR.out W2).mono ?_
  rintro e w3 ⟨rfl, k3⟩
  have hb3 := HB.out.keeps k3 (by simp)
  have hr3 := HR2.out.keeps k3 (by simp)
  have d0 := hb3.cells 0
  have d1 := hb3.cells 1
  have e0 := hr3.cell (j := 0) rfl
  have e1 := hr3.cell (j := 1) rfl
  have g0 := hr3.frozen 0
  have g1 := hr3.frozen 1
  have hlt := hr3.lt
  have HK3 := Lib.hid (HK.out.trans k3)
  clear hb3 hr3 k3 c0 c1
  go_wp2
  refine bodyPost_ret (v := .agg #[.int .i64 (at_ + 2), .int .i64 n]) (by simp [results, Tryz.results6, go_sem, e0, e1, hlt]) rfl ⟨rfl, ?_⟩
  exact (HK3.out.step (S := [w.heap.size + 1]) (((Keeps.refl _ _).set (by simp) _ _).set (by simp) _ _) (by simp))

set_option maxHeartbeats 800000 in
theorem quLoad_any (m p : Nat) (cell : Int) (fn : Fn) (fi ca : Array Value) (st : WSt) (w : World) (hw : Wk w m st) (h0 : w.cell? ⟨p, 0, none⟩ = some (.pointer (some ⟨m, 0, none⟩))) (ho : st.over = false) (hs : st.sub = none) :
    Calls Tryz.prog 64 #[.pointer (some ⟨p, 0, none⟩), .int .i64 cell, .func fn fi ca] w fun e w' => e = .returned (.tuple #[]) ∧
      Wk w' m { st with x := ⟨1, cell, 0, 0⟩, nxt := .func fn fi ca, sub := none, after := .nilFunc } ∧ Keeps [m] w w' := by
  have HE := Lib.hid (fun W h => wAsk m st ⟨1, cell, 0, 0⟩ fn fi ca W h hs ho)
  have HW := Lib.hid hw
  clear hw ho hs
  go_enter Tryz.func64, Tryz.ntmps64
  go_wp2_with fail
  refine (HE.out w HW.out).mono ?_
  rintro e w1 ⟨rfl, hw, hk⟩
  have HP := Lib.hid (⟨hw, hk⟩ : _ ∧ _)
  clear hw hk
  go_wp2
  first | go_end0 | refine bodyPost_ret (results_none rfl _ _ _) rfl ?_
  exact ⟨rfl, HP.out.1, HP.out.2⟩
set_option maxHeartbeats 800000 in
theorem quStore_any (m p : Nat) (cell v : Int) (fn : Fn) (fi ca : Array Value) (st : WSt) (w : World) (hw : Wk w m st) (h0 : w.cell? ⟨p, 0, none⟩ = some (.pointer (some ⟨m, 0, none⟩))) (ho : st.over = false) (hs : st.sub = none) :
    Calls Tryz.prog 149 #[.pointer (some ⟨p, 0, none⟩), .int .i64 cell, .int .u64 v, .func fn fi ca] w fun e w' => e = .returned (.tuple #[]) ∧
      Wk w' m { st with x := ⟨2, cell, v, 0⟩, nxt := .func fn fi ca, sub := none, after := .nilFunc } ∧ Keeps [m] w w' := by
  have HE := Lib.hid (fun W h => wAsk m st ⟨2, cell, v, 0⟩ fn fi ca W h hs ho)
  have HW := Lib.hid hw
  clear hw ho hs
  go_enter Tryz.func149, Tryz.ntmps149
  go_wp2_with fail
  refine (HE.out w HW.out).mono ?_
  rintro e w1 ⟨rfl, hw, hk⟩
  have HP := Lib.hid (⟨hw, hk⟩ : _ ∧ _)
  clear hw hk
  go_wp2
  first | go_end0 | refine bodyPost_ret (results_none rfl _ _ _) rfl ?_
  exact ⟨rfl, HP.out.1, HP.out.2⟩
set_option maxHeartbeats 800000 in
theorem quRaise_any (m p : Nat) (cell u node : Int) (fn : Fn) (fi ca : Array Value) (st : WSt) (w : World) (hw : Wk w m st) (hpm : p ≠ m) (hpl : p < w.heap.size) (h0 : w.cell? ⟨p, 0, none⟩ = some (.pointer (some ⟨m, 0, none⟩))) (ho : st.over = false) (hs : st.sub = none) (hU : M.U u) (n0 : 0 ≤ node) (n1 : node < 4294967296) :
    Calls Tryz.prog 68 #[.pointer (some ⟨p, 0, none⟩), .int .i64 cell, .int .u64 u, .int .i64 node, .func fn fi ca] w fun e w' => e = .returned (.tuple #[]) ∧
      Wk w' m { st with x := ⟨3, cell, u, arNext u node⟩, nxt := .func fn fi ca, sub := none, after := .nilFunc } ∧ Keeps [m] w w' := by
  have HE := Lib.hid (fun W h => wAsk m st ⟨3, cell, u, arNext u node⟩ fn fi ca W h hs ho)
  have HR := Lib.hid (fun W => raised_any u node W hU n0 n1)
  have HT := Lib.hid (fun W S (k : Keeps S w W) (hp : p ∉ S) (hl : p < w.heap.size) => (k.cell (p := ⟨p, 0, none⟩) hl hp).trans h0)
  have HW := Lib.hid hw
  clear hw ho hs hU
  go_enter Tryz.func68, Tryz.ntmps68
  go_wp2_with fail
  go_region_held3 (fun w' => w'.cell? ⟨p, 0, none⟩ = some (.pointer (some ⟨m, 0, none⟩)))
    (first
      | exact hk2
      | assumption
      | fail)
    (first
      | (go_at_call 107; refine (HR.out _).mono ?_; rintro e2 w2 ⟨rfl, rfl⟩)
      | (go_at_call 103; refine (HE.out _ (HW.out.keeps ((Keeps.refl [] _).drew) (by simp))).mono ?_; rintro e2 w3 ⟨rfl, hw3, k3⟩; have hk2 := HT.out w3 [m] k3.undrew (by simpa using hpm) hpl)
      | fail)
  all_goals (first | go_end0 | refine bodyPost_ret (results_none rfl _ _ _) rfl ?_)
  all_goals exact ⟨rfl, hw3, k3.undrew⟩
end Go.Proofs.YtoomefclbemnlaaGreat

/-
  Contracts: a queue's walk that holds tasks, and lets go of them.
-/
namespace Go.Proofs.YtoomefclbemnlaaGreat
set_option maxRecDepth 100000
set_option linter.unusedSimpArgs false
set_option linter.unusedVariables false
open Go.ChangeShapes Go.WideShapes Go.ChangeAt Go.RowKit

set_option maxHeartbeats 800000 in
theorem quLet_any (m p b : Nat) (code v : Int) (q : Option Addr) (n c : Nat) (s : WSt) (w : World) (hw : Wk w m s) (hb : w.cell? ⟨b, 0, none⟩ = some (.pointer (some ⟨p, 0, none⟩))) (hp : w.cell? ⟨p, 0, none⟩ = some (.pointer (some ⟨m, 0, none⟩))) (lb : b < w.heap.size) (lp : p < w.heap.size) :
    Calls Tryz.prog 73 #[.agg #[.int .i64 code, .int .u64 v, .slice q n c], .pointer (some ⟨b, 0, none⟩)] w fun e w' => e = .returned (.tuple #[]) ∧ ∃ t, Wk w' m { s with tasks := t } ∧ w'.ownsRow w.heap.size 49 1 t 0 [] ∧ Keeps [m] w w' := by
  have HE := Lib.hid (fun W (h : Wk W m s) => wHold m s (.slice none 0 0) 0 [] W h ⟨rfl, .inl ⟨_, _, rfl, rfl⟩⟩ (by omega))
  have HW := Lib.hid hw
  clear hw
  go_enter Tryz.func73, Tryz.ntmps73
  go_wp2_with fail
  refine (HE.out _ (HW.out.alloc _)).mono ?_
  rintro e w1 ⟨rfl, t, hw1, ht, k1⟩
  have HP := Lib.hid (⟨hw1, owns_base ht (by simp), ((Keeps.refl [m] w).alloc _).trans k1⟩ : _ ∧ w1.ownsRow w.heap.size 49 1 t 0 [] ∧ Keeps [m] w w1)
  clear hw1 ht k1
  go_wp2
  first | go_end0 | refine bodyPost_ret (results_none rfl _ _ _) rfl ?_
  exact ⟨rfl, t, HP.out⟩
/-- What stands in the walk that lets go of the tasks of the one at m. -/
@[reducible] def quWatcher (m b : Nat) : WSt := { WSt.zero with sub := some ⟨m, 0, none⟩, after := .func (.func 73) #[] #[.pointer (some ⟨b, 0, none⟩)] }
set_option maxHeartbeats 800000 in
theorem quHold1_any (m p b o : Nat) (s : WSt) (w : World) (hw : Wk w m s) (hwo : Wk w o { WSt.zero with under := 1 }) (hne : m ≠ o) (hov : s.over = false) (hout : s.outer = .slice none 0 0) (hb : w.cell? ⟨b, 0, none⟩ = some (.pointer (some ⟨p, 0, none⟩))) (hp : w.cell? ⟨p, 0, none⟩ = some (.pointer (some ⟨m, 0, none⟩))) :
    Calls Tryz.prog 71 #[.pointer (some ⟨o, 0, none⟩), .pointer (some ⟨b, 0, none⟩)] w fun e w' => e = .returned (.tuple #[]) ∧ ∃ q, Wk w' o { quWatcher m b with under := 1 } ∧ Wk w' m { s with outer := q } ∧ w'.ownsRow w.heap.size 32 1 q 1 [.pointer (some ⟨o, 0, none⟩)] ∧ Keeps [m, o] w w' := by
  have HE := Lib.hid (wInto m o s _ (.func 73) #[] #[.pointer (some ⟨b, 0, none⟩)] w hw hwo hne hov hout rfl rfl rfl)
  clear hw hwo hov hout
  go_enter Tryz.func71, Tryz.ntmps71
  go_wp2_with fail
  refine HE.out.mono ?_
  rintro e w1 ⟨rfl, q, h1, h2, h3, h4⟩
  have HP := Lib.hid (⟨h1, h2, h3, h4⟩ : _ ∧ _ ∧ _ ∧ _)
  clear h1 h2 h3 h4
  go_wp2
  first | go_end0 | refine bodyPost_ret (results_none rfl _ _ _) rfl ?_
  exact ⟨rfl, q, HP.out⟩

/-- A walk at o went into the one at m, by the list at g: it lets go of the tasks of that (b: where it finds the record p). -/
structure quWatch (w : World) (m p g o b : Nat) (ov : Value) : Prop where
  ov_ : ∃ cap, ov = .slice (some ⟨g, 0, none⟩) 1 cap
  row : Row w g 32 [.pointer (some ⟨o, 0, none⟩)]
  wk : Wk w o (quWatcher m b)
  box : Box w b #[.pointer (some ⟨p, 0, none⟩)]
theorem quWatch.keeps {w w' : World} {m p g o b : Nat} {ov : Value} {A : List Nat} (h : quWatch w m p g o b ov) (hk : Keeps A w w') (hg : g ∉ A) (ho : o ∉ A) (hb : b ∉ A) : quWatch w' m p g o b ov :=
  ⟨h.ov_, h.row.keeps hk hg, h.wk.keeps hk ho, h.box.keeps hk hb⟩
theorem quWatch.watch {w : World} {m p g o b : Nat} {ov : Value} (h : quWatch w m p g o b ov) (hp : w.cell? ⟨p, 0, none⟩ = some (.pointer (some ⟨m, 0, none⟩))) (lp : p < w.heap.size) (hgm : g ≠ m) (hom : o ≠ m) (hbm : b ≠ m) (hpm : p ≠ m) (hbo : b ≠ o) (hpo : p ≠ o) : Watch w m g o ov := by
  obtain ⟨cap, hov⟩ := h.ov_
  refine ⟨cap, _, _, 73, #[], #[.pointer (some ⟨b, 0, none⟩)], hov, hgm, hom, h.row, h.wk, rfl, rfl, rfl, rfl, rfl, fun _ _ => by kernel_rfl, fun w1 code v q n c s hw k => ?_⟩
  have hb1 := h.box.keeps k (by simp [hbm, hbo])
  exact quLet_any m p b code v q n c s w1 hw (hb1.cells 0) ((k.cell (p := ⟨p, 0, none⟩) lp (by simp [hpm, hpo])).trans hp) hb1.lt (Nat.lt_of_lt_of_le lp k.size)
/-- Its tasks are let go of, when it has ended. -/
def quSeen (w : World) (m p : Nat) (T : List Nat) (ov : Value) : Prop := ∃ g o b, quWatch w m p g o b ov ∧ (g ∈ T ∧ o ∈ T ∧ b ∈ T) ∧ b ≠ o ∧ p ≠ g ∧ p ≠ o ∧ p ≠ b
theorem quSeen.keeps {w w' : World} {m p : Nat} {T A : List Nat} {ov : Value} (h : quSeen w m p T ov) (hk : Keeps A w w') (hA : ∀ k ∈ T, k ≠ p → k ∉ A) : quSeen w' m p T ov := by
  obtain ⟨g, o, b, h1, ⟨h2, h3, h4⟩, h5, h6, h7, h8⟩ := h
  exact ⟨g, o, b, h1.keeps hk (hA g h2 (Ne.symm h6)) (hA o h3 (Ne.symm h7)) (hA b h4 (Ne.symm h8)), ⟨h2, h3, h4⟩, h5, h6, h7, h8⟩
theorem quSeen.mono {w : World} {m p : Nat} {T T' : List Nat} {ov : Value} (h : quSeen w m p T ov) (hT : ∀ k ∈ T, k ∈ T') : quSeen w m p T' ov := by
  obtain ⟨g, o, b, h1, ⟨h2, h3, h4⟩, h5⟩ := h
  exact ⟨g, o, b, h1, ⟨hT g h2, hT o h3, hT b h4⟩, h5⟩

set_option maxHeartbeats 1600000 in
theorem quHold_any (m p n : Nat) (v : Value) (us : List Int) (st : WSt) (w : World) (hw : Wk w m st) (hp : w.cell? ⟨p, 0, none⟩ = some (.pointer (some ⟨m, 0, none⟩))) (hplt : p < w.heap.size) (hpm : p ≠ m) (ho : st.over = false) (hout : st.outer = .slice none 0 0) (hv : Sl w 1 v n (ints .u64 us)) (hn : n ≤ 10000000) :
    Calls Tryz.prog 34 #[.pointer (some ⟨p, 0, none⟩), v] w fun e' w' => e' = .returned (.tuple #[]) ∧ ∃ t ov g o b, Wk w' m { st with tasks := t, outer := ov } ∧ w'.ownsRow w.heap.size 49 1 t n (ints .u64 us) ∧ quWatch w' m p g o b ov ∧
      (w.heap.size ≤ g ∧ w.heap.size ≤ o ∧ w.heap.size ≤ b) ∧ b ≠ o ∧ (∀ x, t.ownBlock = some x → x ≠ g ∧ x ≠ o ∧ x ≠ b) ∧ Keeps [m] w w' := by
  have hmlt := hw.lt
  have HW := Lib.hid hw
  obtain ⟨vp, vc, rfl⟩ := hv.len
  have HV := Lib.hid hv
  clear hw hv
  obtain ⟨W1, hW1⟩ : ∃ W1, w.alloc (.cells #[.pointer (some ⟨p, 0, none⟩)] 111) = W1 := ⟨_, rfl⟩
  have k1 : Keeps [] w W1 := by rw [← hW1]; exact (Keeps.refl _ _).alloc _
  have hb : Box W1 w.heap.size #[.pointer (some ⟨p, 0, none⟩)] := by rw [← hW1]; exact Box.new _ _ _
  have HW1 := Lib.hid (HW.out.keeps k1 (by simp))
  have c0 : W1.cell? ⟨p, 0, none⟩ = some (.pointer (some ⟨m, 0, none⟩)) := (k1.cell (p := ⟨p, 0, none⟩) hplt (by simp)).trans hp
  have cb := hb.cells 0
  have lb := hb.lt
  have lp : p < W1.heap.size := Nat.lt_of_lt_of_le hplt k1.size
  have HE := Lib.hid (wHold m st (.slice vp n vc) n us W1 HW1.out (HV.out.keeps k1 (by simp)) hn)
  go_enter Tryz.func34, Tryz.ntmps34
  go_wp2_with fail
  refine HE.out.mono ?_
  rintro e2 w3 ⟨rfl, t, hw3, ht3, hk3⟩
  have hb3 := hb.keeps hk3 (by simp; omega)
  have hp3 := (hk3.cell (p := ⟨p, 0, none⟩) lp (by simpa using hpm)).trans c0
  have lp3 := Nat.lt_of_lt_of_le lp hk3.size
  have kz := hk3.size
  have z1 := k1.size
  have HN := Lib.hid (wNew 71 #[.pointer (some ⟨w.heap.size, 0, none⟩)] [m] w3 (fun w2 s2 => s2 = { quWatcher m w.heap.size with under := 1 } ∧ ∃ q B, w3.heap.size + 1 < B ∧ Wk w2 m { st with tasks := t, outer := q } ∧ w2.ownsRow B 32 1 q 1 [.pointer (some ⟨w3.heap.size + 1, 0, none⟩)])
    (by intro k hk; simp at hk; subst hk; exact hw3.lt) (fun _ _ => by kernel_rfl) (fun w4 h4 k4 => (quHold1_any m p w.heap.size (w3.heap.size + 1) _ w4 (hw3.keeps k4 (by simp)) h4 (by have := hw3.lt; omega) (show st.over = false from ho) (show st.outer = .slice none 0 0 from hout) ((hb3.keeps k4 (by simp)).cells 0) ((k4.cell (p := ⟨p, 0, none⟩) lp3 (by simp)).trans hp3)).mono
      fun e w5 ⟨he, q, a1, a2, a3, a4⟩ => ⟨he, _, a1, rfl, .inl rfl, a4.mono (by simp), rfl, q, w4.heap.size, h4.lt, a2, a3⟩))
  have HT3 := Lib.hid ht3
  have HB3 := Lib.hid hb3
  have HK3 := Lib.hid (k1.nil.trans hk3)
  have hml := hw3.lt
  have hbl : w.heap.size < W1.heap.size := lb
  clear hw3 ht3 hk3 hb3 hb c0 cb
  go_wp2_with fail
  refine HN.out.mono ?_
  rintro e3 w5 ⟨rfl, w4, s2, ⟨rfl, q, B, hB, m4, q4⟩, k5, k4, o5⟩
  have HP : Hid (_ ∧ _ ∧ _ ∧ _ ∧ _ ∧ _) := Lib.hid ⟨hB, m4, q4, k5, k4, o5⟩
  clear hB m4 q4 k5 k4 o5
  go_wp2
  first | go_end0 | refine bodyPost_ret (results_none rfl _ _ _) rfl ?_
  obtain ⟨hB, m4, q4, k5, k4, o5⟩ := HP.out
  have ht := HT3.out
  have htl := fun x hx => ht.lt x hx
  obtain ⟨qp, qc, rfl⟩ := (Sl.of_owns q4).len
  obtain ⟨g, hg, hgb⟩ : ∃ g, qp = some ⟨g, 0, none⟩ ∧ B ≤ g := by
    rcases q4.2 with ⟨-, h⟩ | ⟨g, cap, cur, h, hb, -⟩
    · cases h
    · cases h; exact ⟨g, rfl, hb⟩
  subst hg
  have hrow := Row.of_owns q4
  have hgl := hrow.lt
  have hgo : g ≠ w3.heap.size + 1 := by omega
  have htb : ∀ x, t.ownBlock = some x → W1.heap.size ≤ x ∧ x < w3.heap.size := fun x hx => by have := htl x hx; omega
  have kk : Keeps [m] w w5 := (((HK3.out.trans k4).mono (T := [w3.heap.size + 1, m]) (by simp)).trans (k5.mono (by simp))).mono (by intro k hk hl; simp at hk; rcases hk with rfl | rfl; omega; simp)
  have ht5 : w5.ownsRow w.heap.size 49 1 t n (ints .u64 us) := owns_keeps (owns_keeps (owns_base ht (by omega)) k4 (fun x hx => by have := htb x hx; simp; omega)) k5 (fun x hx => by have := htb x hx; simp; omega)
  exact ⟨rfl, t, .slice (some ⟨g, 0, none⟩) 1 qc, g, w3.heap.size + 1, w.heap.size, m4.keeps k5 (by simp; omega), ht5, ⟨⟨_, rfl⟩, hrow.keeps k5 (by simpa using hgo), o5, (HB3.out.keeps k4 (by simp; omega)).keeps k5 (by simp; omega)⟩, ⟨by omega, by omega, by omega⟩, by omega, fun x hx => (by have := htb x hx; omega), kk⟩

end Go.Proofs.YtoomefclbemnlaaGreat
