/-
  Plain arithmetic of words: pairs, fields, bits. No program.
-/
import Derived.Laws.BitsAllLaws
import Derived.Below
import Derived.OpenShut
import Derived.WalkKit
import Derived.Lib.TrailingZeros
namespace Go.Proofs.YtoomefclbemnlaaGreat.M
set_option maxRecDepth 100000
set_option linter.unusedSimpArgs false
set_option linter.unusedVariables false
open Go Go.RowKit

/-- A word of 64 bits, as an Int. -/
def U (u : Int) : Prop := 0 ≤ u ∧ u < 18446744073709551616
theorem U.nn {u : Int} (h : U u) : 0 ≤ u := h.1
theorem U.lt {u : Int} (h : U u) : u < 18446744073709551616 := h.2
theorem U.nat {u : Int} (h : U u) : u.toNat < 2 ^ 64 := by have := h.1; have := h.2; simp; omega
theorem U.of (n : Nat) (h : n < 2 ^ 64) : U (n : Int) := by unfold U; simp at h; omega
theorem U.wf {u : Int} (h : (Lit.int .u64 u).wf = true) : U u := by
  have := bounds_u64 h
  unfold U; omega

def aheadI (a b : Int) : Int := if 2147483648 ≤ (a - b) % 4294967296 then (a - b) % 4294967296 - 4294967296 else (a - b) % 4294967296

theorem ahead_lo (a b : Int) : -2147483648 ≤ aheadI a b := by unfold aheadI; split <;> omega
theorem ahead_hi (a b : Int) : aheadI a b ≤ 2147483647 := by unfold aheadI; split <;> omega
theorem ahead_neg (a b : Int) (h : aheadI a b ≠ -2147483648) : aheadI b a = 0 - aheadI a b := by
  revert h; unfold aheadI; split <;> split <;> omega

/-- Is it a field? -/
def isF (a n : Int) : Bool := decide (1 ≤ n ∧ n ≤ 64 ∧ 0 ≤ a ∧ a ≤ 64 - n)
theorem isF_iff {a n : Int} : isF a n = true ↔ (1 ≤ n ∧ n ≤ 64 ∧ 0 ≤ a ∧ a ≤ 64 - n) := by simp [isF]

def fieldN (u a n : Nat) : Nat := u / 2 ^ a % 2 ^ n
def withN (u a n v : Nat) : Nat := u / 2 ^ (a + n) * 2 ^ (a + n) + v * 2 ^ a + u % 2 ^ a
def bitN (u i : Nat) : Nat := u / 2 ^ i % 2

theorem bitN_tb (u i : Nat) : bitN u i = (u.testBit i).toNat := by
  unfold bitN; rw [Nat.toNat_testBit]

theorem fieldN_lt (u a n : Nat) : fieldN u a n < 2 ^ n := Nat.mod_lt _ (Nat.two_pow_pos n)

theorem fieldN_tb (u a n i : Nat) : (fieldN u a n).testBit i = (decide (i < n) && u.testBit (a + i)) := by
  unfold fieldN; rw [Nat.testBit_mod_two_pow, Nat.testBit_div_two_pow, Nat.add_comm]

theorem withN_tb (u a n v i : Nat) (hv : v < 2 ^ n) : (withN u a n v).testBit i = if a ≤ i ∧ i < a + n then v.testBit (i - a) else u.testBit i := by
  have h2 : v * 2 ^ a + u % 2 ^ a < 2 ^ (a + n) := by
    have h3 : u % 2 ^ a < 2 ^ a := Nat.mod_lt _ (Nat.two_pow_pos a)
    have h4 : (v + 1) * 2 ^ a ≤ 2 ^ n * 2 ^ a := Nat.mul_le_mul_right _ hv
    rw [Nat.pow_add, Nat.mul_comm (2 ^ a) (2 ^ n)]
    rw [Nat.add_mul] at h4
    omega
  unfold withN
  rw [Nat.add_assoc, Nat.mul_comm (u / 2 ^ (a + n)), Nat.testBit_two_pow_mul_add _ h2, Nat.mul_comm v, Nat.testBit_two_pow_mul_add _ (Nat.mod_lt _ (Nat.two_pow_pos a)), Nat.testBit_div_two_pow, Nat.testBit_mod_two_pow]
  by_cases c1 : i < a + n
  · by_cases c2 : i < a
    · rw [if_pos c1, if_pos c2, if_neg (by omega)]; simp [c2]
    · rw [if_pos c1, if_neg c2, if_pos (by omega)]
  · rw [if_neg c1, if_neg (by omega)]
    congr 1; omega

theorem withN_lt (u a n v : Nat) (hu : u < 2 ^ 64) (hv : v < 2 ^ n) (h : a + n ≤ 64) : withN u a n v < 2 ^ 64 := by
  apply Nat.lt_pow_two_of_testBit
  intro i hi
  rw [withN_tb u a n v i hv, if_neg (by omega)]
  exact Nat.testBit_lt_two_pow (Nat.lt_of_lt_of_le hu (Nat.pow_le_pow_right (by omega) hi))

theorem field_with (u a n v : Nat) (hv : v < 2 ^ n) : fieldN (withN u a n v) a n = v := by
  apply Nat.eq_of_testBit_eq; intro i
  rw [fieldN_tb, withN_tb u a n v _ hv]
  by_cases c : i < n
  · rw [if_pos (by omega)]; simp [c]
  · have c2 : v.testBit i = false := Nat.testBit_lt_two_pow (Nat.lt_of_lt_of_le hv (Nat.pow_le_pow_right (by omega) (Nat.le_of_not_lt c)))
    simp [c, c2]

theorem with_with (u a n v : Nat) (hv : v < 2 ^ n) : withN (withN u a n v) a n (fieldN u a n) = u := by
  apply Nat.eq_of_testBit_eq; intro i
  rw [withN_tb _ a n _ _ (fieldN_lt u a n), withN_tb u a n v _ hv, fieldN_tb]
  by_cases c : a ≤ i ∧ i < a + n
  · rw [if_pos c]
    have e : a + (i - a) = i := by omega
    have c2 : i - a < n := by omega
    simp [c2, e]
  · rw [if_neg c, if_neg c]

theorem ones_nat (n : Nat) (h : n ≤ 64) : (18446744073709551615 : Nat) / 2 ^ (64 - n) = 2 ^ n - 1 := by
  have h1 : (18446744073709551615 : Nat) = 2 ^ n * 2 ^ (64 - n) - 1 := by rw [← Nat.pow_add, Nat.add_sub_cancel' h]
  rw [h1]
  have h2 := Nat.two_pow_pos (64 - n)
  have h3 := Nat.two_pow_pos n
  rw [Nat.div_eq_of_lt_le (k := 2 ^ n - 1)]
  · rw [Nat.sub_mul]
    have : 2 ^ (64 - n) ≤ 2 ^ n * 2 ^ (64 - n) := Nat.le_mul_of_pos_left _ h3
    omega
  · rw [Nat.sub_add_cancel (by omega)]
    have : 0 < 2 ^ n * 2 ^ (64 - n) := Nat.mul_pos h3 h2
    omega

/-- The program's own With. -/
theorem with_bits (u a n v : Nat) (hu : u < 2 ^ 64) (hv : v < 2 ^ n) (h : a + n ≤ 64) :
    (u &&& (2 ^ 64 - 1 - (2 ^ n - 1) * 2 ^ a)) ||| (v * 2 ^ a) = withN u a n v := by
  have hm : (2 ^ n - 1) * 2 ^ a < 2 ^ 64 := by
    have h4 : (2 ^ n - 1) * 2 ^ a < 2 ^ n * 2 ^ a := Nat.mul_lt_mul_of_pos_right (by have := Nat.two_pow_pos n; omega) (Nat.two_pow_pos a)
    have h5 : 2 ^ n * 2 ^ a ≤ 2 ^ 64 := by rw [← Nat.pow_add]; exact Nat.pow_le_pow_right (by omega) (by omega)
    omega
  apply Nat.eq_of_testBit_eq; intro i
  rw [withN_tb u a n v _ hv, Nat.testBit_or, Nat.testBit_and, Nat.sub_sub, Nat.add_comm 1, Nat.testBit_two_pow_sub_succ hm, Nat.testBit_mul_two_pow, Nat.testBit_mul_two_pow, Nat.testBit_two_pow_sub_one]
  by_cases c : a ≤ i ∧ i < a + n
  · rw [if_pos c]
    have c2 : i - a < n := by omega
    simp [c.1, c2]
  · rw [if_neg c]
    by_cases c1 : a ≤ i
    · have c2 : ¬ i - a < n := by omega
      have c3 : v.testBit (i - a) = false := Nat.testBit_lt_two_pow (Nat.lt_of_lt_of_le hv (Nat.pow_le_pow_right (by omega) (by omega)))
      by_cases c4 : i < 64
      · simp [c1, c2, c3, c4]
      · have : u.testBit i = false := Nat.testBit_lt_two_pow (Nat.lt_of_lt_of_le hu (Nat.pow_le_pow_right (by omega) (by omega)))
        simp [c1, c3, this]
    · have c4 : i < 64 := by omega
      simp [c1, c4]

theorem field_step (u a n k : Nat) (h : k < n) : 2 * (u / 2 ^ (a + (k + 1)) % 2 ^ (n - (k + 1))) + bitN u (a + k) = u / 2 ^ (a + k) % 2 ^ (n - k) := by
  unfold bitN
  have e1 : n - k = (n - (k + 1)) + 1 := by omega
  have e2 : u / 2 ^ (a + (k + 1)) = u / 2 ^ (a + k) / 2 := by rw [Nat.div_div_eq_div_mul, ← Nat.pow_succ]; rfl
  rw [e1, e2, Nat.pow_succ, Nat.mul_comm _ 2, Nat.mod_mul]
  omega

theorem word_step (w k : Nat) : 2 * (w / 2 ^ (k + 1)) + bitN w k = w / 2 ^ k := by
  unfold bitN
  have e2 : w / 2 ^ (k + 1) = w / 2 ^ k / 2 := by rw [Nat.div_div_eq_div_mul, ← Nat.pow_succ]
  rw [e2]; omega

theorem bit_with (u a n v i : Nat) (hv : v < 2 ^ n) : bitN (withN u a n v) i = if a ≤ i ∧ i < a + n then bitN v (i - a) else bitN u i := by
  rw [bitN_tb, withN_tb u a n v i hv]; split <;> rw [bitN_tb]

theorem lt_of_bits (v n : Nat) (hv : v < 2 ^ 64) (h : ∀ i, n ≤ i → i < 64 → bitN v i ≠ 1) : v < 2 ^ n := by
  apply Nat.lt_pow_two_of_testBit
  intro i hi
  by_cases c : i < 64
  · have := h i hi c
    rw [bitN_tb] at this
    cases e : v.testBit i
    · rfl
    · rw [e] at this; exact absurd rfl this
  · exact Nat.testBit_lt_two_pow (Nat.lt_of_lt_of_le hv (Nat.pow_le_pow_right (by omega) (by omega)))

theorem bits_of_lt (v n i : Nat) (hv : v < 2 ^ n) (h : n ≤ i) : bitN v i = 0 := by
  unfold bitN
  have : v < 2 ^ i := Nat.lt_of_lt_of_le hv (Nat.pow_le_pow_right (by omega) h)
  rw [Nat.div_eq_of_lt this]

theorem bitN_lt (u i : Nat) : bitN u i < 2 := Nat.mod_lt _ (by omega)

theorem isF_ret {a n : Int} (h : 1 ≤ n ∧ n ≤ 64 ∧ 0 ≤ a) : Ending.returned (.bool (decide (a ≤ 64 - n))) = .returned (.bool (isF a n)) := by
  unfold isF; congr 2; rw [decide_eq_decide]; omega
theorem isF_no {a n : Int} (h : ¬ (1 ≤ n ∧ n ≤ 64 ∧ 0 ≤ a ∧ a ≤ 64 - n)) : Ending.returned (.bool false) = .returned (.bool (isF a n)) := by
  unfold isF; rw [decide_eq_false h]
theorem ones_int (n : Int) (h0 : 1 ≤ n) (h1 : n ≤ 64) : (18446744073709551615 : Int) / 2 ^ (64 - n).toNat = ((2 ^ n.toNat - 1 : Nat) : Int) := by
  rw [show (64 - n).toNat = 64 - n.toNat from by omega, ← ones_nat n.toNat (by omega)]
  simp

theorem and_field (u a n : Int) (hu : U u) (hf : isF a n = true) : bits BinOp.and IntKind.u64 (u / 2 ^ a.toNat) ((2 ^ n.toNat - 1 : Nat) : Int) = ((fieldN u.toNat a.toNat n.toNat : Nat) : Int) := by
  obtain ⟨n1, n2, a1, a2⟩ := isF_iff.1 hf
  obtain ⟨x, rfl⟩ := Int.eq_ofNat_of_zero_le hu.nn
  have hx := hu.nat
  rw [Int.toNat_natCast] at hx ⊢
  have e : (x : Int) / 2 ^ a.toNat = ((x / 2 ^ a.toNat : Nat) : Int) := by simp
  have h1 : x / 2 ^ a.toNat < 18446744073709551616 := Nat.lt_of_le_of_lt (Nat.div_le_self _ _) hx
  have h2 : 2 ^ n.toNat ≤ 2 ^ 64 := Nat.pow_le_pow_right (by omega) (by omega)
  have h3 := Nat.two_pow_pos n.toNat
  rw [e, u64_and_nat _ _ h1 (by omega), Nat.and_two_pow_sub_one_eq_mod]
  rfl
theorem div_step (u k : Nat) : u / 2 ^ (k + 1) = u / 2 ^ k / 2 := by rw [Nat.div_div_eq_div_mul, ← Nat.pow_succ]
theorem mod_half (u a n : Nat) (h : n < 64) : u / 2 ^ a % 2 ^ n < 9223372036854775808 := by
  have h1 := Nat.mod_lt (u / 2 ^ a) (Nat.two_pow_pos n)
  have h2 : 2 ^ n ≤ 2 ^ 63 := Nat.pow_le_pow_right (by omega) (by omega)
  omega

theorem with_int (u a n v : Int) (hu : U u) (hv : U v) (hf : isF a n = true) (hl : v.toNat < 2 ^ n.toNat) :
    bits BinOp.or IntKind.u64 (bits BinOp.andNot IntKind.u64 u (((2 ^ n.toNat - 1 : Nat) : Int) * 2 ^ a.toNat % 18446744073709551616)) (v * 2 ^ a.toNat % 18446744073709551616) = ((withN u.toNat a.toNat n.toNat v.toNat : Nat) : Int) := by
  obtain ⟨n1, n2, a1, a2⟩ := isF_iff.1 hf
  have hx := hu.nat
  obtain ⟨x, rfl⟩ := Int.eq_ofNat_of_zero_le hu.nn
  obtain ⟨y, rfl⟩ := Int.eq_ofNat_of_zero_le hv.nn
  rw [Int.toNat_natCast] at hx hl ⊢
  have h0 : a.toNat + n.toNat ≤ 64 := by omega
  generalize a.toNat = a at *
  generalize n.toNat = n at *
  have hp : 2 ^ n * 2 ^ a ≤ 18446744073709551616 := by rw [← Nat.pow_add, Nat.add_comm]; exact Nat.pow_le_pow_right (n := 2) (by decide) h0
  have hpa := Nat.two_pow_pos a
  have hm : (2 ^ n - 1) * 2 ^ a < 18446744073709551616 := Nat.lt_of_lt_of_le (Nat.mul_lt_mul_of_pos_right (by have := Nat.two_pow_pos n; omega) hpa) hp
  have hy : y * 2 ^ a < 18446744073709551616 := Nat.lt_of_lt_of_le (Nat.mul_lt_mul_of_pos_right hl hpa) hp
  have e1 : (((2 ^ n - 1 : Nat) : Int)) * 2 ^ a % 18446744073709551616 = (((2 ^ n - 1) * 2 ^ a : Nat) : Int) := by
    rw [show (((2 ^ n - 1 : Nat) : Int)) * 2 ^ a = (((2 ^ n - 1) * 2 ^ a : Nat) : Int) from by rw [Int.natCast_mul, Int.natCast_pow]; rfl]; omega
  have e2 : (y : Int) * 2 ^ a % 18446744073709551616 = ((y * 2 ^ a : Nat) : Int) := by
    rw [show (y : Int) * 2 ^ a = ((y * 2 ^ a : Nat) : Int) from by rw [Int.natCast_mul, Int.natCast_pow]; rfl]; omega
  have hx2 : x < 18446744073709551616 := hx
  rw [e1, e2, u64_andNot_nat _ _ hx2 hm, u64_or_nat _ _ (Nat.lt_of_le_of_lt Nat.and_le_left hx2) hy]
  rw [Int.toNat_natCast, ← with_bits x a n y hx hl h0]
theorem field_back (u : Int) (a n k : Nat) (h0 : 0 < k) (h : k ≤ n) : u.toNat / 2 ^ (a + (k - 1)) % 2 ^ (n - (k - 1)) = 2 * (u.toNat / 2 ^ (a + k) % 2 ^ (n - k)) + bitN u.toNat (a + (k - 1)) := by
  have := field_step u.toNat a n (k - 1) (by omega)
  rw [show k - 1 + 1 = k from by omega] at this
  exact this.symm

theorem div_U (u : Int) (k : Nat) (h : U u) : 0 ≤ u / 2 ^ k ∧ u / 2 ^ k < 18446744073709551616 :=
  ⟨Int.ediv_nonneg h.1 (Int.pow_nonneg (by decide)), Int.lt_of_le_of_lt (Int.ediv_le_self _ h.1) h.2⟩
theorem div_stepI (u : Int) (k : Nat) : u / 2 ^ (k + 1) = u / 2 ^ k / 2 := by
  rw [Int.pow_succ, Int.ediv_ediv_of_nonneg (Int.pow_nonneg (by decide))]
theorem bitN_I (u : Int) (k : Nat) (h : 0 ≤ u) : u / 2 ^ k % 2 = ((bitN u.toNat k : Nat) : Int) := by
  obtain ⟨x, rfl⟩ := Int.eq_ofNat_of_zero_le h
  simp [bitN]
/-- The bits of a word from a place on, so many. -/
def partI (u : Int) (a n : Nat) : Int := ((u.toNat / 2 ^ a % 2 ^ n : Nat) : Int)
theorem partI_zero (u : Int) (a : Nat) : partI u a 0 = 0 := by simp [partI, Nat.mod_one]
theorem partI_lt (u : Int) (a n : Nat) (h : n < 64) : 0 ≤ partI u a n ∧ partI u a n < 9223372036854775808 := by
  have := mod_half u.toNat a n h
  unfold partI; omega
theorem partI_field (u : Int) (a n : Nat) : partI u (a + 0) (n - 0) = ((fieldN u.toNat a n : Nat) : Int) := rfl
theorem part_back (u a : Int) (k n : Nat) (a0 : 0 ≤ a) (h0 : 0 < k) (h : k ≤ n) : partI u (a.toNat + (k - 1)) (n - (k - 1)) = 2 * partI u (a.toNat + k) (n - k) + ((bitN u.toNat (a + ((k : Int) - 1)).toNat : Nat) : Int) := by
  unfold partI
  rw [field_back u a.toNat n k h0 h, show (a + ((k : Int) - 1)).toNat = a.toNat + (k - 1) from by omega]
  simp

theorem part_round (u a : Int) (k n : Nat) (a0 : 0 ≤ a) (h0 : 0 < k) (h : k ≤ n) (h2 : n ≤ 64) :
    ∃ q b : Int, partI u (a.toNat + k) (n - k) = q ∧ 0 ≤ q ∧ q < 9223372036854775808 ∧ 0 ≤ b ∧ b ≤ 1 ∧ ((bitN u.toNat (a + ((k : Int) - 1)).toNat : Nat) : Int) = b ∧
      partI u (a.toNat + (k - 1)) (n - (k - 1)) = 2 * q + b := by
  have := bitN_lt u.toNat (a + ((k : Int) - 1)).toNat
  have := partI_lt u (a.toNat + k) (n - k) (by omega)
  exact ⟨_, _, rfl, this.1, this.2, by omega, by omega, rfl, part_back u a k n a0 h0 h⟩

/-- No bit of v from n to k. -/
def noBits (v n k : Nat) : Prop := ∀ i, n ≤ i → i < k → bitN v i ≠ 1
theorem noBits_start (v n : Nat) : noBits v n n := fun _ h1 h2 => absurd h2 (Nat.not_lt.2 h1)
theorem noBits_next {v n k : Nat} (h : noBits v n k) (hb : ¬ bitN v k = 1) : noBits v n (k + 1) := fun i h1 h2 => by
  by_cases e : i = k
  · subst e; exact hb
  · exact h i h1 (by omega)
theorem noBits_room {v n k : Nat} (hv : v < 2 ^ 64) (hl : ¬ v < 2 ^ n) (hk : k ≤ 64) (h : noBits v n k) : k < 64 := by
  apply Nat.lt_of_not_le; intro hle
  obtain rfl : k = 64 := by omega
  exact hl (lt_of_bits v n hv h)
theorem bitN_zero {v k : Nat} (h : ¬ bitN v k = 1) : bitN v k = 0 := by have := bitN_lt v k; omega
def wordI (u a n v : Int) (k : Nat) : Int := ((withN u.toNat a.toNat n.toNat v.toNat / 2 ^ k : Nat) : Int)
theorem wordI_top (u a n v : Int) (h : withN u.toNat a.toNat n.toNat v.toNat < 2 ^ 64) : wordI u a n v 64 = 0 := by
  unfold wordI; rw [Nat.div_eq_of_lt h]; rfl
theorem wordI_end (u a n v : Int) : wordI u a n v 0 = ((withN u.toNat a.toNat n.toNat v.toNat : Nat) : Int) := by
  unfold wordI; rw [Nat.pow_zero, Nat.div_one]
theorem word_round (u a n v : Int) (k : Nat) (a0 : 0 ≤ a) (n0 : 1 ≤ n) (hl : v.toNat < 2 ^ n.toNat) (hW : withN u.toNat a.toNat n.toNat v.toNat < 2 ^ 64) (h0 : 0 < k) (hk : k ≤ 64) :
    ∃ (q : Int) (b : Nat), wordI u a n v k = q ∧ 0 ≤ q ∧ q < 9223372036854775808 ∧
      (if a ≤ (k : Int) - 1 ∧ (k : Int) - 1 < a + n then bitN v.toNat ((k : Int) - 1 - a).toNat else bitN u.toNat ((k : Int) - 1).toNat) = b ∧ wordI u a n v (k - 1) = 2 * q + b := by
  refine ⟨_, _, rfl, ?_, ?_, rfl, ?_⟩
  · exact Int.natCast_nonneg _
  · have h2 : 2 ^ 1 ≤ 2 ^ k := Nat.pow_le_pow_right (by omega) h0
    have h3 : withN u.toNat a.toNat n.toNat v.toNat / 2 ^ k ≤ withN u.toNat a.toNat n.toNat v.toNat / 2 ^ 1 := Nat.div_le_div_left h2 (by decide)
    unfold wordI; omega
  · have h := word_step (withN u.toNat a.toNat n.toNat v.toNat) (k - 1)
    rw [bit_with _ _ _ _ _ hl, show k - 1 + 1 = k from by omega] at h
    unfold wordI
    rw [← h]
    by_cases c : a ≤ (k : Int) - 1 ∧ (k : Int) - 1 < a + n
    · rw [if_pos c, if_pos (by omega), show ((k : Int) - 1 - a).toNat = k - 1 - a.toNat from by omega]; simp
    · rw [if_neg c, if_neg (by omega), show ((k : Int) - 1).toNat = k - 1 from by omega]; simp
/-- A word with another field, and back. -/
theorem with_back (u a n v : Int) (hu : U u) (hv : U v) (hf : isF a n = true) (hl : v.toNat < 2 ^ n.toNat) :
    ∃ x p : Int, ((fieldN u.toNat a.toNat n.toNat : Nat) : Int) = x ∧ ((withN u.toNat a.toNat n.toNat v.toNat : Nat) : Int) = p ∧ U x ∧ U p ∧ x.toNat < 2 ^ n.toNat ∧
      ((fieldN p.toNat a.toNat n.toNat : Nat) : Int) = v ∧ ((withN p.toNat a.toNat n.toNat x.toNat : Nat) : Int) = u := by
  obtain ⟨n1, n2, a1, a2⟩ := isF_iff.1 hf
  have h1 := fieldN_lt u.toNat a.toNat n.toNat
  have h2 : 2 ^ n.toNat ≤ 2 ^ 64 := Nat.pow_le_pow_right (by omega) (by omega)
  refine ⟨_, _, rfl, rfl, U.of _ (Nat.lt_of_lt_of_le h1 h2), U.of _ (withN_lt _ _ _ _ hu.nat hl (by omega)), ?_, ?_, ?_⟩
  · rw [Int.toNat_natCast]; exact h1
  · rw [Int.toNat_natCast, field_with _ _ _ _ hl, Int.toNat_of_nonneg hv.nn]
  · rw [Int.toNat_natCast, Int.toNat_natCast, with_with _ _ _ _ hl, Int.toNat_of_nonneg hu.nn]
/-- The places of all bits that are 1, rising. -/
def places (u : Nat) : List Nat := (List.range 64).filter (fun i => u.testBit i)
def placesTo (u k : Nat) : List Nat := (List.range k).filter (fun i => u.testBit i)
theorem placesTo_yes {u k : Nat} (h : bitN u k = 1) : placesTo u (k + 1) = placesTo u k ++ [k] := by
  rw [bitN_tb] at h
  have : u.testBit k = true := by cases e : u.testBit k <;> simp_all
  simp [placesTo, List.range_succ, List.filter_append, this]
theorem placesTo_no {u k : Nat} (h : ¬ bitN u k = 1) : placesTo u (k + 1) = placesTo u k := by
  rw [bitN_tb] at h
  have : u.testBit k = false := by cases e : u.testBit k <;> simp_all
  simp [placesTo, List.range_succ, List.filter_append, this]
theorem placesTo_len (u k : Nat) : (placesTo u k).length ≤ k := by
  have := List.length_filter_le (fun i => u.testBit i) (List.range k)
  simpa [placesTo] using this
theorem placesTo_end (u : Nat) : placesTo u 64 = places u := rfl
theorem places_len (u : Nat) : (places u).length ≤ 64 := placesTo_len u 64
theorem places_zero : places 0 = [] := by decide

theorem filter_first (p : Nat → Bool) (n k : Nat) (hk : k < n) (h1 : p k = true) (h0 : ∀ i, i < k → p i = false) :
    (List.range n).filter p = k :: (List.range n).filter (fun i => p i && decide (i ≠ k)) := by
  have e : List.range n = List.range k ++ k :: List.range' (k + 1) (n - k - 1) := by
    rw [List.range_eq_range', List.range_eq_range', show n = k + (1 + (n - k - 1)) from by omega, ← List.range'_append_1, Nat.zero_add, ← List.range'_append_1]
    simp [show k + (1 + (n - k - 1)) - k - 1 = n - k - 1 from by omega]
  have f1 : (List.range k).filter p = [] := List.filter_eq_nil_iff.2 fun i hi => by rw [h0 i (List.mem_range.1 hi)]; decide
  have f2 : (List.range k).filter (fun i => p i && decide (i ≠ k)) = [] := List.filter_eq_nil_iff.2 fun i hi => by simp [h0 i (List.mem_range.1 hi)]
  have f3 : (List.range' (k + 1) (n - k - 1)).filter (fun i => p i && decide (i ≠ k)) = (List.range' (k + 1) (n - k - 1)).filter p := by
    apply List.filter_congr; intro i hi
    have := List.mem_range'_1.1 hi
    have : i ≠ k := by omega
    simp [this]
  rw [e, List.filter_append, List.filter_append, f1, f2, List.filter_cons, List.filter_cons, h1, f3]
  simp

/-- Without its lowest bit. -/
theorem drop_low (u : Nat) (h0 : u ≠ 0) (h : u < 2 ^ 64) : u.testBit (Lib.ctz 64 u) = true ∧ (∀ i, i < Lib.ctz 64 u → u.testBit i = false) ∧ Lib.ctz 64 u < 64 ∧
    (u &&& (u - 1)) < u ∧ ∀ i, (u &&& (u - 1)).testBit i = (u.testBit i && decide (i ≠ Lib.ctz 64 u)) := by
  obtain ⟨m, hm, hk⟩ := Lib.ctzFrom_spec 64 u (by omega) h
  have e : Lib.ctz 64 u = Lib.ctzFrom 64 u := by simp [Lib.ctz, h0]
  rw [e]
  generalize Lib.ctzFrom 64 u = k at *
  have hp := Nat.two_pow_pos k
  have b1 : ∀ i, u.testBit i = if i < k then false else (2 * m + 1).testBit (i - k) := fun i => by
    have := Nat.testBit_two_pow_mul_add (2 * m + 1) hp i
    rw [Nat.add_zero, ← hm] at this
    rw [this]; split
    · simp
    · rfl
  have e2 : u - 1 = 2 ^ k * (2 * m) + (2 ^ k - 1) := by rw [hm, Nat.mul_add]; omega
  have b2 : ∀ i, (u - 1).testBit i = if i < k then (2 ^ k - 1).testBit i else (2 * m).testBit (i - k) := fun i => by
    rw [e2]; exact Nat.testBit_two_pow_mul_add (2 * m) (by omega) i
  have hbits : ∀ i, (u &&& (u - 1)).testBit i = (u.testBit i && decide (i ≠ k)) := fun i => by
    rw [Nat.testBit_and, b1, b2]
    by_cases c : i < k
    · simp [c]
    · rw [if_neg c, if_neg c]
      by_cases c2 : i = k
      · subst c2; simp
      · obtain ⟨j, hj⟩ : ∃ j, i - k = j + 1 := ⟨i - k - 1, by omega⟩
        rw [hj, Nat.testBit_succ, Nat.testBit_succ, show (2 * m + 1) / 2 = m from by omega, show 2 * m / 2 = m from by omega]
        simp [c2]
  refine ⟨by rw [b1]; simp, fun i hi => by rw [b1]; simp [hi], hk, ?_, hbits⟩
  have : u &&& (u - 1) ≤ u - 1 := Nat.and_le_right
  omega

theorem places_cons (u : Nat) (h0 : u ≠ 0) (h : u < 2 ^ 64) : places u = Lib.ctz 64 u :: places (u &&& (u - 1)) := by
  obtain ⟨h1, h2, h3, h4, h5⟩ := drop_low u h0 h
  unfold places
  rw [filter_first (fun i => u.testBit i) 64 _ h3 h1 h2]
  congr 2
  funext i
  rw [h5]

theorem and127_post (x : Int) (w : World) : ∃ n : Nat, n ≤ 127 ∧ Ending.returned (.int .i64 (bits BinOp.and IntKind.i64 x 127)) = .returned (.int .i64 (n : Int)) ∧ w = w := by
  have h : ∃ n : Nat, n ≤ 127 ∧ bits BinOp.and IntKind.i64 x 127 = n := by
    have h1 : (BitVec.ofInt 64 x &&& BitVec.ofInt 64 127).toNat ≤ 127 := by
      rw [BitVec.toNat_and]; exact Nat.le_trans Nat.and_le_right (by decide)
    refine ⟨(BitVec.ofInt 64 x &&& BitVec.ofInt 64 127).toNat, h1, ?_⟩
    show IntKind.i64.wrap (((BitVec.ofInt 64 x &&& BitVec.ofInt 64 127).toNat : Nat) : Int) = _
    generalize (BitVec.ofInt 64 x &&& BitVec.ofInt 64 127).toNat = y at *
    rw [IntKind.wrap_i64]; omega
  obtain ⟨n, h1, h2⟩ := h
  exact ⟨n, h1, by rw [h2], rfl⟩
theorem tz64_key (u : Int) (h : U u) (h0 : u.toNat ≠ 0) :
    IntKind.u64.wrap (bits BinOp.and IntKind.u64 u (IntKind.u64.wrap (-u)) * 285870213051353865) / 288230376151711744 = (((u.toNat &&& (2 ^ 64 - u.toNat)) * 285870213051353865 % 18446744073709551616 / 288230376151711744 : Nat) : Int) := by
  obtain ⟨x, rfl⟩ := Int.eq_ofNat_of_zero_le h.nn
  have hx : x < 18446744073709551616 := by have := h.lt; omega
  rw [Int.toNat_natCast] at h0 ⊢
  have e1 : IntKind.u64.wrap (-(x : Int)) = ((18446744073709551616 - x : Nat) : Int) := by rw [IntKind.wrap_u64]; omega
  rw [e1, u64_and_nat x _ hx (by omega), IntKind.wrap_u64, show (2 ^ 64 : Nat) = 18446744073709551616 from rfl]
  generalize x &&& (18446744073709551616 - x) = y
  omega
theorem drop_lt (u : Nat) (h0 : u ≠ 0) (h : u < 2 ^ 64) : (u &&& (u - 1)) < u := (drop_low u h0 h).2.2.2.1
theorem and_less (u : Nat) (h0 : u ≠ 0) (h : u < 2 ^ 64) : bits BinOp.and IntKind.u64 (u : Int) ((u : Int) - 1) = ((u &&& (u - 1) : Nat) : Int) := by
  have hx : u < 18446744073709551616 := h
  rw [show (u : Int) - 1 = ((u - 1 : Nat) : Int) from by omega, u64_and_nat _ _ hx (by omega)]
theorem len_room {u u' c : Nat} {ps l : List Nat} (h : places u = ps ++ places u') (h2 : places u' = c :: l) : ps.length + 1 ≤ 64 := by
  have := places_len u
  rw [h, h2] at this
  simp at this; omega
theorem places_head (u : Int) (h : U u) (h0 : u ≠ 0) : ∃ c : Nat, Lib.ctz 64 u.toNat = c ∧ 0 < (places u.toNat).length ∧ ((places u.toNat).map (fun i : Nat => Value.int .i64 (i : Int)))[0]? = some (.int .i64 (c : Int)) := by
  have := places_cons u.toNat (by have := h.nn; omega) h.nat
  rw [this]
  exact ⟨_, rfl, by simp, by simp⟩
theorem or_pair (h l : Int) (h0 : 0 ≤ h) (h1 : h < 4294967296) (l0 : 0 ≤ l) (l1 : l < 4294967296) : bits BinOp.or IntKind.u64 (h * 4294967296) l = h * 4294967296 + l := by
  obtain ⟨x, rfl⟩ := Int.eq_ofNat_of_zero_le h0
  obtain ⟨y, rfl⟩ := Int.eq_ofNat_of_zero_le l0
  rw [show (x : Int) * 4294967296 = ((x * 4294967296 : Nat) : Int) from by simp, u64_or_nat _ _ (by omega) (by omega), nat_join 32 _ _ (by omega) (by omega)]
  rfl
theorem U_pair (h l : Int) (h0 : 0 ≤ h) (h1 : h < 4294967296) (l0 : 0 ≤ l) (l1 : l < 4294967296) : U (h * 4294967296 + l) := by unfold U; omega
theorem pair_hi (h l : Int) (l0 : 0 ≤ l) (l1 : l < 4294967296) : (h * 4294967296 + l) / 4294967296 = h := by omega
theorem pair_lo (h l : Int) (l0 : 0 ≤ l) (l1 : l < 4294967296) : (h * 4294967296 + l) % 4294967296 = l := by omega
theorem hi_mod (u : Int) (h : U u) : u / 4294967296 % 4294967296 = u / 4294967296 := by
  have := h.1; have := h.2; omega
theorem ahead_wrap (a b : Int) : wrap64 (wrap32 ((a - b) % 4294967296)) = aheadI a b := by
  unfold aheadI wrap64 wrap32; split <;> omega
end Go.Proofs.YtoomefclbemnlaaGreat.M
