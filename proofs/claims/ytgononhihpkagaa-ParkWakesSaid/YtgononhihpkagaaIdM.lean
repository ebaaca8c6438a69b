/-
  The machine of a yard's walks: Sleep, Leave, Search, Found, Choose; and the numbers behind it.
-/
import Derived.Test.YtgononhihpkagaaMach
import Derived.Test.YtgononhihpkagaaMath
namespace Go.Proofs.Ytgononhihpkagaa
set_option maxRecDepth 100000
set_option linter.unusedSimpArgs false
set_option linter.unusedVariables false
open Go

/-- A Sleep (1), Leave (2), Search (3), Found (4) or Choose (5). -/
structure IdS where
  at_ : Int
  n : Int
  kind : Int
  who : Int
  known : Bool
  x : Int
  over : Option Rs
/-- What is made of x: a code; the other word; what is told. -/
def idMade (n kind who x : Int) : Int × Int × Int :=
  if kind = 1 then (0, ((x.toNat ||| 2 ^ who.toNat : Nat) : Int), 0)
  else if kind = 2 then (if x.toNat.testBit who.toNat then (0, x - ((2 ^ who.toNat : Nat) : Int), 0) else (5, 0, 0))
  else if kind = 3 then (if n ≤ 2 * (x / 4294967296) then (8, 0, 0) else (0, x + 4294967296, 0))
  else if kind = 4 then (if x / 4294967296 = 0 then (15, 0, 0) else (0, x - 4294967296, if x / 4294967296 = 1 then 1 else 0))
  else if 0 < x / 4294967296 ∨ M.fieldN x.toNat 0 n.toNat = 0 then (5, 0, 0)
  else (0, 4294967296 + x - ((2 ^ Lib.ctz 64 (M.fieldN x.toNat 0 n.toNat) : Nat) : Int), ((Lib.ctz 64 (M.fieldN x.toNat 0 n.toNat) : Nat) : Int))
def IdS.made (s : IdS) : Int × Int × Int := idMade s.n s.kind s.who s.x
/-- It is made of x anew. -/
def idSee (s : IdS) (x : Int) : IdS := { s with known := true, x := x, over := if (idMade s.n s.kind s.who x).1 = 0 then none else some ⟨(idMade s.n s.kind s.who x).1, 0, []⟩ }
def idWant (s : IdS) : C.Acc := if s.known then ⟨3, s.at_, s.x, s.made.2.1⟩ else ⟨1, s.at_, 0, 0⟩
def idGive (s : IdS) (v : Int) (won : Bool) : IdS := if s.known && won then { s with over := some ⟨0, s.made.2.2, []⟩ } else idSee s v
def idM : Mach IdS where
  want s := if s.over.isSome then none else some (idWant s)
  res s := s.over
  held _ := []
  give s v won := if s.over.isSome then s else idGive s v won
def idRight (at_ n : Int) : Prop := 1 ≤ n ∧ n ≤ 16 ∧ 0 ≤ at_ ∧ at_ < 65536
instance (a n : Int) : Decidable (idRight a n) := by unfold idRight; infer_instance
def idNew (at_ n kind who : Int) : IdS := ⟨at_, n, kind, who, false, 0, if idRight at_ n ∧ 0 ≤ who ∧ who < n then none else some ⟨2, 0, []⟩⟩

namespace M
theorem pow_lt64 {k : Nat} (h : k < 64) : 2 ^ k < 18446744073709551616 := by
  have := Nat.pow_lt_pow_right (a := 2) (by decide) h
  simpa using this
theorem or_bit (x : Int) (k : Nat) (hx : U x) (hk : k < 64) : bits BinOp.or IntKind.u64 x ((2 ^ k : Nat) : Int) = ((x.toNat ||| 2 ^ k : Nat) : Int) := by
  obtain ⟨y, rfl⟩ := Int.eq_ofNat_of_zero_le hx.nn
  have hy : y < 18446744073709551616 := by have := hx.lt; omega
  rw [u64_or_nat _ _ hy (pow_lt64 hk), Int.toNat_natCast]
theorem or_bit_lt (x : Int) (k : Nat) (hx : U x) (hk : k < 64) : U ((x.toNat ||| 2 ^ k : Nat) : Int) :=
  U.of _ (Nat.or_lt_two_pow hx.nat (by have := pow_lt64 hk; simpa using this))
/-- Whether a bit is 1. -/
theorem and_bit (x : Int) (k : Nat) (hx : U x) (hk : k < 64) : bits BinOp.and IntKind.u64 x ((2 ^ k : Nat) : Int) = if x.toNat.testBit k then ((2 ^ k : Nat) : Int) else 0 := by
  obtain ⟨y, rfl⟩ := Int.eq_ofNat_of_zero_le hx.nn
  have hy : y < 18446744073709551616 := by have := hx.lt; omega
  rw [u64_and_nat _ _ hy (pow_lt64 hk), Int.toNat_natCast]
  have key : y &&& 2 ^ k = if y.testBit k then 2 ^ k else 0 := by
    apply Nat.eq_of_testBit_eq
    intro i
    rw [Nat.testBit_and, Nat.testBit_two_pow]
    by_cases c : k = i
    · subst c
      cases h : y.testBit k <;> simp
    · cases h : y.testBit k <;> simp [c]
  rw [key]
  split <;> simp
theorem pow_le_of_bit {y k : Nat} (h : y.testBit k = true) : 2 ^ k ≤ y := Nat.ge_two_pow_of_testBit h
theorem bit_odd {y k : Nat} : y.testBit k = decide (y / 2 ^ k % 2 = 1) := by
  rw [Nat.testBit_eq_decide_div_mod_eq]
theorem clear_bit (y k : Nat) (hy : y < 2 ^ 64) (hk : k < 64) : y &&& (18446744073709551615 - 2 ^ k) = if y.testBit k then y - 2 ^ k else y := by
  have h := with_bits y k 1 0 hy (by decide) (by omega)
  simp only [Nat.pow_one, Nat.zero_mul, Nat.or_zero] at h
  have e : (18446744073709551615 - 2 ^ k : Nat) = 2 ^ 64 - 1 - (2 - 1) * 2 ^ k := by simp
  rw [e, h]
  unfold withN
  have hp := Nat.two_pow_pos k
  have h1 := Nat.div_add_mod y (2 ^ k)
  have h2 : y / 2 ^ (k + 1) = y / 2 ^ k / 2 := div_step y k
  have h3 : 2 ^ (k + 1) = 2 ^ k * 2 := Nat.pow_succ 2 k
  rw [h2, h3, bit_odd]
  generalize y / 2 ^ k = q at *
  generalize y % 2 ^ k = r at *
  generalize 2 ^ k = p at *
  have h4 : q / 2 * (p * 2) = p * (q / 2 * 2) := by rw [Nat.mul_left_comm]
  rw [h4]
  by_cases c : q % 2 = 1
  · simp only [c, decide_true, if_true]
    have : q = q / 2 * 2 + 1 := by omega
    have h5 : p * q = p * (q / 2 * 2) + p := by rw [show p * q = p * (q / 2 * 2 + 1) from by rw [← this], Nat.mul_add, Nat.mul_one]
    omega
  · simp only [c, decide_false, Bool.false_eq_true, if_false]
    have : q = q / 2 * 2 := by omega
    have h5 : p * q = p * (q / 2 * 2) := by rw [← this]
    omega
theorem andNot_bit (x : Int) (k : Nat) (hx : U x) (hk : k < 64) : bits BinOp.andNot IntKind.u64 x ((2 ^ k : Nat) : Int) = if x.toNat.testBit k then x - ((2 ^ k : Nat) : Int) else x := by
  obtain ⟨y, rfl⟩ := Int.eq_ofNat_of_zero_le hx.nn
  have hy : y < 18446744073709551616 := by have := hx.lt; omega
  rw [u64_andNot_nat _ _ hy (pow_lt64 hk), Int.toNat_natCast, clear_bit y k hy hk]
  split
  · rename_i hb
    have := pow_le_of_bit hb
    omega
  · rfl
end M
end Go.Proofs.Ytgononhihpkagaa
