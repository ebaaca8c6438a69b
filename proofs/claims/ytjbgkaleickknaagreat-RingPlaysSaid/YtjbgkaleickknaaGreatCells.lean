import Derived.Test.YtjbgkaleickknaaGreatRows
import Derived.Test.YtjbgkaleickknaaGreatKeep
import Derived.Test.YtjbgkaleickknaaGreatMath
import Derived.LoopTactic
import Derived.StillTailTactics
import Derived.OwnWalk
import Derived.Outline
/-
  Contracts: the package cells, and the reference's Do.
-/
namespace Go.Proofs.YtjbgkaleickknaaGreat
set_option maxRecDepth 100000
set_option linter.unusedSimpArgs false
set_option linter.unusedVariables false
open Go.ChangeShapes Go.WideShapes Go.ChangeAt Go.RowKit

namespace C
/-- An access: its kind, its cell, A and B. -/
structure Acc where
  k : Int
  c : Int
  a : Int
  b : Int
@[reducible] def Acc.val (x : Acc) : Value := .agg #[.int .i64 x.k, .int .i64 x.c, .int .u64 x.a, .int .u64 x.b]
def Acc.ok (x : Acc) : Prop := M.U x.a ∧ M.U x.b
/-- What a cell is behind an access, and whether it won. -/
def deed (k was a b : Int) : Int × Bool :=
  if k = 2 then (a, true) else if k = 3 then (if was = a then (b, true) else (was, false)) else if k = 4 then ((was + a) % 18446744073709551616, true)
  else if k = 5 then (bits .or .u64 was a, true) else if k = 6 then (bits .and .u64 was a, true) else if k = 7 then (was, was != a) else (was, true)
def code (us : List Int) (x : Acc) : Int := if x.k < 1 ∨ 7 < x.k then 2 else if x.c < 0 ∨ (us.length : Int) ≤ x.c then 3 else 0
def told (us : List Int) (x : Acc) : Int := if code us x = 0 then us.getD x.c.toNat 0 else 0
def won (us : List Int) (x : Acc) : Bool := if code us x = 0 then (deed x.k (us.getD x.c.toNat 0) x.a x.b).2 else false
def next (us : List Int) (x : Acc) : List Int := if code us x = 0 then us.set x.c.toNat (deed x.k (us.getD x.c.toNat 0) x.a x.b).1 else us
end C

theorem deedOf_1 (w : World) : Calls Tryz.prog 75 #[.int .i64 1] w fun e w' => e = .returned (.func (.func 94) #[] #[]) ∧ w = w' := by
  have hi : ∀ w : World, (Instr.index 124 (.agg #[.nilFunc, .func (.func 94) #[] #[], .func (.func 95) #[] #[], .func (.func 96) #[] #[], .func (.func 97) #[] #[], .func (.func 98) #[] #[], .func (.func 99) #[] #[], .func (.func 100) #[] #[]]) (.int .i64 1)).run Tryz.prog w = .ok (.func (.func 94) #[] #[]) w := fun _ => by kernel_rfl
  go_enter Tryz.func75, Tryz.ntmps75
  go_wp2
  go_ret
  exact ⟨rfl, rfl⟩
theorem deedOf_2 (w : World) : Calls Tryz.prog 75 #[.int .i64 2] w fun e w' => e = .returned (.func (.func 95) #[] #[]) ∧ w = w' := by
  have hi : ∀ w : World, (Instr.index 124 (.agg #[.nilFunc, .func (.func 94) #[] #[], .func (.func 95) #[] #[], .func (.func 96) #[] #[], .func (.func 97) #[] #[], .func (.func 98) #[] #[], .func (.func 99) #[] #[], .func (.func 100) #[] #[]]) (.int .i64 2)).run Tryz.prog w = .ok (.func (.func 95) #[] #[]) w := fun _ => by kernel_rfl
  go_enter Tryz.func75, Tryz.ntmps75
  go_wp2
  go_ret
  exact ⟨rfl, rfl⟩
theorem deedOf_3 (w : World) : Calls Tryz.prog 75 #[.int .i64 3] w fun e w' => e = .returned (.func (.func 96) #[] #[]) ∧ w = w' := by
  have hi : ∀ w : World, (Instr.index 124 (.agg #[.nilFunc, .func (.func 94) #[] #[], .func (.func 95) #[] #[], .func (.func 96) #[] #[], .func (.func 97) #[] #[], .func (.func 98) #[] #[], .func (.func 99) #[] #[], .func (.func 100) #[] #[]]) (.int .i64 3)).run Tryz.prog w = .ok (.func (.func 96) #[] #[]) w := fun _ => by kernel_rfl
  go_enter Tryz.func75, Tryz.ntmps75
  go_wp2
  go_ret
  exact ⟨rfl, rfl⟩
theorem deedOf_4 (w : World) : Calls Tryz.prog 75 #[.int .i64 4] w fun e w' => e = .returned (.func (.func 97) #[] #[]) ∧ w = w' := by
  have hi : ∀ w : World, (Instr.index 124 (.agg #[.nilFunc, .func (.func 94) #[] #[], .func (.func 95) #[] #[], .func (.func 96) #[] #[], .func (.func 97) #[] #[], .func (.func 98) #[] #[], .func (.func 99) #[] #[], .func (.func 100) #[] #[]]) (.int .i64 4)).run Tryz.prog w = .ok (.func (.func 97) #[] #[]) w := fun _ => by kernel_rfl
  go_enter Tryz.func75, Tryz.ntmps75
  go_wp2
  go_ret
  exact ⟨rfl, rfl⟩
theorem deedOf_5 (w : World) : Calls Tryz.prog 75 #[.int .i64 5] w fun e w' => e = .returned (.func (.func 98) #[] #[]) ∧ w = w' := by
  have hi : ∀ w : World, (Instr.index 124 (.agg #[.nilFunc, .func (.func 94) #[] #[], .func (.func 95) #[] #[], .func (.func 96) #[] #[], .func (.func 97) #[] #[], .func (.func 98) #[] #[], .func (.func 99) #[] #[], .func (.func 100) #[] #[]]) (.int .i64 5)).run Tryz.prog w = .ok (.func (.func 98) #[] #[]) w := fun _ => by kernel_rfl
  go_enter Tryz.func75, Tryz.ntmps75
  go_wp2
  go_ret
  exact ⟨rfl, rfl⟩
theorem deedOf_6 (w : World) : Calls Tryz.prog 75 #[.int .i64 6] w fun e w' => e = .returned (.func (.func 99) #[] #[]) ∧ w = w' := by
  have hi : ∀ w : World, (Instr.index 124 (.agg #[.nilFunc, .func (.func 94) #[] #[], .func (.func 95) #[] #[], .func (.func 96) #[] #[], .func (.func 97) #[] #[], .func (.func 98) #[] #[], .func (.func 99) #[] #[], .func (.func 100) #[] #[]]) (.int .i64 6)).run Tryz.prog w = .ok (.func (.func 99) #[] #[]) w := fun _ => by kernel_rfl
  go_enter Tryz.func75, Tryz.ntmps75
  go_wp2
  go_ret
  exact ⟨rfl, rfl⟩
theorem deedOf_7 (w : World) : Calls Tryz.prog 75 #[.int .i64 7] w fun e w' => e = .returned (.func (.func 100) #[] #[]) ∧ w = w' := by
  have hi : ∀ w : World, (Instr.index 124 (.agg #[.nilFunc, .func (.func 94) #[] #[], .func (.func 95) #[] #[], .func (.func 96) #[] #[], .func (.func 97) #[] #[], .func (.func 98) #[] #[], .func (.func 99) #[] #[], .func (.func 100) #[] #[]]) (.int .i64 7)).run Tryz.prog w = .ok (.func (.func 100) #[] #[]) w := fun _ => by kernel_rfl
  go_enter Tryz.func75, Tryz.ntmps75
  go_wp2
  go_ret
  exact ⟨rfl, rfl⟩

theorem stay_any (x : C.Acc) (was : Int) (w : World) (h : M.U was) (hx : x.ok) :
    Calls Tryz.prog 94 #[.int .u64 was, .agg #[.int .i64 x.k, .int .i64 x.c, .int .u64 x.a, .int .u64 x.b]] w fun e w' => e = .returned (.tuple #[.int .u64 (C.deed 1 was x.a x.b).1, .bool (C.deed 1 was x.a x.b).2]) ∧ Keeps [] w w' := by
  have h0 := h.nn
  have h1 := h.lt
  have h2 := hx.1.nn
  have h3 := hx.1.lt
  have HD : Hid (C.deed 1 was x.a x.b = (was, true)) := Lib.hid rfl
  clear h hx
  go_enter Tryz.func94, Tryz.ntmps94
  go_wp2
  go_ret2
  exact ⟨by rw [HD.out]; rfl, by first | exact (Keeps.refl _ _).alloc _ | exact Keeps.refl _ _⟩

theorem store_any (x : C.Acc) (was : Int) (w : World) (h : M.U was) (hx : x.ok) :
    Calls Tryz.prog 95 #[.int .u64 was, .agg #[.int .i64 x.k, .int .i64 x.c, .int .u64 x.a, .int .u64 x.b]] w fun e w' => e = .returned (.tuple #[.int .u64 (C.deed 2 was x.a x.b).1, .bool (C.deed 2 was x.a x.b).2]) ∧ Keeps [] w w' := by
  have h0 := h.nn
  have h1 := h.lt
  have h2 := hx.1.nn
  have h3 := hx.1.lt
  have HD : Hid (C.deed 2 was x.a x.b = (x.a, true)) := Lib.hid rfl
  clear h hx
  go_enter Tryz.func95, Tryz.ntmps95
  go_wp2
  go_ret2
  exact ⟨by rw [HD.out]; rfl, by first | exact (Keeps.refl _ _).alloc _ | exact Keeps.refl _ _⟩

theorem swap_any (x : C.Acc) (was : Int) (w : World) (h : M.U was) (hx : x.ok) :
    Calls Tryz.prog 96 #[.int .u64 was, .agg #[.int .i64 x.k, .int .i64 x.c, .int .u64 x.a, .int .u64 x.b]] w fun e w' => e = .returned (.tuple #[.int .u64 (C.deed 3 was x.a x.b).1, .bool (C.deed 3 was x.a x.b).2]) ∧ Keeps [] w w' := by
  have HD : Hid (C.deed 3 was x.a x.b = if was = x.a then (x.b, true) else (was, false)) := Lib.hid rfl
  by_cases e : was = x.a
  · have hb : (was != x.a) = false := by simp [e]
    have HE := Lib.hid e
    clear e h hx
    go_enter Tryz.func96, Tryz.ntmps96
    go_wp2
    go_ret2
    exact ⟨by rw [HD.out, if_pos HE.out]; rfl, (Keeps.refl _ _).alloc _⟩
  · have hb : (was != x.a) = true := by simp [e]
    have HE := Lib.hid e
    clear e h hx
    go_enter Tryz.func96, Tryz.ntmps96
    go_wp2
    go_ret2
    exact ⟨by rw [HD.out, if_neg HE.out]; rfl, (Keeps.refl _ _).alloc _⟩

theorem add_any (x : C.Acc) (was : Int) (w : World) (h : M.U was) (hx : x.ok) :
    Calls Tryz.prog 97 #[.int .u64 was, .agg #[.int .i64 x.k, .int .i64 x.c, .int .u64 x.a, .int .u64 x.b]] w fun e w' => e = .returned (.tuple #[.int .u64 (C.deed 4 was x.a x.b).1, .bool (C.deed 4 was x.a x.b).2]) ∧ Keeps [] w w' := by
  have h0 := h.nn
  have h1 := h.lt
  have h2 := hx.1.nn
  have h3 := hx.1.lt
  have HD : Hid (C.deed 4 was x.a x.b = ((was + x.a) % 18446744073709551616, true)) := Lib.hid rfl
  clear h hx
  go_enter Tryz.func97, Tryz.ntmps97
  go_wp2
  go_ret2
  exact ⟨by rw [HD.out]; rfl, by first | exact (Keeps.refl _ _).alloc _ | exact Keeps.refl _ _⟩

theorem or_any (x : C.Acc) (was : Int) (w : World) (h : M.U was) (hx : x.ok) :
    Calls Tryz.prog 98 #[.int .u64 was, .agg #[.int .i64 x.k, .int .i64 x.c, .int .u64 x.a, .int .u64 x.b]] w fun e w' => e = .returned (.tuple #[.int .u64 (C.deed 5 was x.a x.b).1, .bool (C.deed 5 was x.a x.b).2]) ∧ Keeps [] w w' := by
  have h0 := h.nn
  have h1 := h.lt
  have h2 := hx.1.nn
  have h3 := hx.1.lt
  have HD : Hid (C.deed 5 was x.a x.b = (bits .or .u64 was x.a, true)) := Lib.hid rfl
  clear h hx
  go_enter Tryz.func98, Tryz.ntmps98
  go_wp2
  go_ret2
  exact ⟨by rw [HD.out]; rfl, by first | exact (Keeps.refl _ _).alloc _ | exact Keeps.refl _ _⟩

theorem and_any (x : C.Acc) (was : Int) (w : World) (h : M.U was) (hx : x.ok) :
    Calls Tryz.prog 99 #[.int .u64 was, .agg #[.int .i64 x.k, .int .i64 x.c, .int .u64 x.a, .int .u64 x.b]] w fun e w' => e = .returned (.tuple #[.int .u64 (C.deed 6 was x.a x.b).1, .bool (C.deed 6 was x.a x.b).2]) ∧ Keeps [] w w' := by
  have h0 := h.nn
  have h1 := h.lt
  have h2 := hx.1.nn
  have h3 := hx.1.lt
  have HD : Hid (C.deed 6 was x.a x.b = (bits .and .u64 was x.a, true)) := Lib.hid rfl
  clear h hx
  go_enter Tryz.func99, Tryz.ntmps99
  go_wp2
  go_ret2
  exact ⟨by rw [HD.out]; rfl, by first | exact (Keeps.refl _ _).alloc _ | exact Keeps.refl _ _⟩

theorem wait_any (x : C.Acc) (was : Int) (w : World) (h : M.U was) (hx : x.ok) :
    Calls Tryz.prog 100 #[.int .u64 was, .agg #[.int .i64 x.k, .int .i64 x.c, .int .u64 x.a, .int .u64 x.b]] w fun e w' => e = .returned (.tuple #[.int .u64 (C.deed 7 was x.a x.b).1, .bool (C.deed 7 was x.a x.b).2]) ∧ Keeps [] w w' := by
  have h0 := h.nn
  have h1 := h.lt
  have h2 := hx.1.nn
  have h3 := hx.1.lt
  have HD : Hid (C.deed 7 was x.a x.b = (was, was != x.a)) := Lib.hid rfl
  clear h hx
  go_enter Tryz.func100, Tryz.ntmps100
  go_wp2
  go_quiet (fail)
  go_wp2
  go_ret2
  exact ⟨by rw [HD.out]; rfl, by first | exact ((Keeps.refl _ _).alloc _).drewN | exact ((Keeps.refl _ _).alloc _).drew | exact (Keeps.refl _ _).alloc _ | exact Keeps.refl _ _⟩
end Go.Proofs.YtjbgkaleickknaaGreat
