/-
  Numbers as digits: plain arithmetic on lists of bytes.
-/
import Derived.Lib.ItoaNum
import Derived.Lib.ParseIntBCases
namespace Go.Proofs.YtcilndnkhfcafaaDoor.D
open Go

def isDig (b : UInt8) : Bool := decide (48 ≤ b.toNat ∧ b.toNat ≤ 57)
def allDig (l : List UInt8) : Bool := l.all isDig
/-- A number's text: digits alone, no nought ahead of others. -/
def okText (l : List UInt8) : Bool := !l.isEmpty && (allDig l && (decide (l.length = 1) || decide (l.head? ≠ some 48)))
def step (a : Nat) (b : UInt8) : Nat := a * 10 + (b.toNat - 48)
def val (l : List UInt8) : Nat := l.foldl step 0
def top : Nat := 18446744073709551615

theorem le_foldl (l : List UInt8) (a : Nat) : a ≤ l.foldl step a := by
  induction l generalizing a with
  | nil => exact Nat.le_refl _
  | cons c r ih => exact Nat.le_trans (by unfold step; omega) (ih _)

theorem isDig_bounds {c : UInt8} (h : isDig c = true) : 48 ≤ c.toNat ∧ c.toNat ≤ 57 := by simpa [isDig] using h

theorem parse_digits (l : List UInt8) (acc : Nat) (h : allDig l = true) (ha : acc ≤ top) :
    Lib.parseUintM top acc l = if l.foldl step acc ≤ top then .ok (l.foldl step acc) else .range := by
  induction l generalizing acc with
  | nil => simp [Lib.parseUintM, ha]
  | cons c r ih =>
    simp only [allDig, List.all_cons, Bool.and_eq_true] at h
    obtain ⟨h1, h2⟩ := isDig_bounds h.1
    rw [Lib.parseUintM, if_pos ⟨h1, h2⟩, List.foldl_cons]
    have hl := le_foldl r (step acc c)
    by_cases hb : 1844674407370955162 ≤ acc
    · rw [if_pos hb, if_neg]
      unfold step at hl ⊢; unfold top at *; omega
    · rw [if_neg hb]
      by_cases hc : top < acc * 10 + (c.toNat - 48)
      · rw [if_pos hc, if_neg]
        have : top < step acc c := hc
        omega
      · rw [if_neg hc]
        exact ih _ h.2 (by omega)

theorem parse_step {c : UInt8} {r : List UInt8} {u : Nat} (h : isDig c = true) (hu : u ≤ top) :
    Lib.parseUintM top u (c :: r) = if u > (top - (c.toNat - 48)) / 10 then .range else Lib.parseUintM top (10 * u + (c.toNat - 48)) r := by
  obtain ⟨h1, h2⟩ := isDig_bounds h
  rw [Lib.parseUintM, if_pos ⟨h1, h2⟩]
  unfold top at *
  by_cases hb : 1844674407370955162 ≤ u
  · rw [if_pos hb, if_pos (by omega)]
  · rw [if_neg hb]
    by_cases hc : 18446744073709551615 < u * 10 + (c.toNat - 48)
    · rw [if_pos hc, if_pos (by omega)]
    · rw [if_neg hc, if_neg (by omega), Nat.mul_comm]

/-- What is read off a text: the number and the code. -/
def readL (l : List UInt8) : Nat × Nat :=
  if okText l = true then (match Lib.parseUintM top 0 l with | .ok u => (u, 0) | _ => (0, 14)) else (0, 12)

theorem readL_ok {l : List UInt8} (h : okText l = true) : readL l = if val l ≤ top then (val l, 0) else (0, 14) := by
  have hd : allDig l = true := by simp only [okText, Bool.and_eq_true] at h; exact h.2.1
  rw [readL, if_pos h, parse_digits l 0 hd (Nat.zero_le _)]
  unfold val
  split <;> rename_i hh <;> split at hh <;> simp_all
theorem readL_no {l : List UInt8} (h : okText l = false) : readL l = (0, 12) := by rw [readL, if_neg (by simp [h])]

theorem parseB (l : List UInt8) (h : okText l = true) : Lib.parseUintB 64 l = if val l ≤ top then .ok (val l) else .range := by
  have hd : allDig l = true := by simp only [okText, Bool.and_eq_true] at h; exact h.2.1
  have hn : l ≠ [] := by rintro rfl; simp [okText] at h
  rw [Lib.parseUintB, if_neg hn]
  exact parse_digits l 0 hd (Nat.zero_le _)

theorem readL_le (l : List UInt8) : (readL l).1 ≤ top := by
  by_cases h : okText l = true
  · rw [readL_ok h]; split <;> simp_all
  · rw [readL_no (by simpa using h)]; simp
theorem readL_code (l : List UInt8) : (readL l).2 ≤ 14 := by
  by_cases h : okText l = true
  · rw [readL_ok h]; split <;> simp
  · rw [readL_no (by simpa using h)]; simp

theorem head_app {l r : List UInt8} (h : l ≠ []) : (l ++ r).head? = l.head? := by
  cases l with
  | nil => exact absurd rfl h
  | cons a l => rfl

theorem dig_of (d : Nat) (h : d < 10) : (UInt8.ofNat (48 + d)).toNat = 48 + d := by
  rw [UInt8.toNat_ofNat']; omega

theorem decDigits_big {u : Nat} (h : ¬ u < 10) : Lib.decDigits u = Lib.decDigits (u / 10) ++ [UInt8.ofNat (48 + u % 10)] := by
  rw [Lib.decDigits, dif_neg h]

theorem decDigits_facts (u : Nat) : Lib.decDigits u ≠ [] ∧ allDig (Lib.decDigits u) = true ∧ val (Lib.decDigits u) = u ∧ (0 < u → (Lib.decDigits u).head? ≠ some 48) := by
  induction u using Nat.strongRecOn with
  | ind u ih =>
    by_cases h : u < 10
    · rw [Lib.decDigits_one h]
      have hd := dig_of u h
      refine ⟨by simp, ?_, ?_, ?_⟩
      · simp only [allDig, List.all_cons, List.all_nil, Bool.and_true, isDig, hd]
        exact decide_eq_true (by omega)
      · simp only [val, List.foldl_cons, List.foldl_nil, step, hd]; omega
      · intro h0 he
        have : UInt8.ofNat (48 + u) = 48 := by simpa using he
        have h2 := congrArg UInt8.toNat this
        rw [hd] at h2
        simp at h2; omega
    · obtain ⟨i1, i2, i3, i4⟩ := ih (u / 10) (by omega)
      have hd := dig_of (u % 10) (by omega)
      rw [decDigits_big h]
      refine ⟨by simp, ?_, ?_, ?_⟩
      · simp only [allDig, List.all_append, List.all_cons, List.all_nil, Bool.and_true, Bool.and_eq_true]
        exact ⟨i2, by simp only [isDig, hd]; exact decide_eq_true (by omega)⟩
      · have : val (Lib.decDigits (u / 10) ++ [UInt8.ofNat (48 + u % 10)]) = step (val (Lib.decDigits (u / 10))) (UInt8.ofNat (48 + u % 10)) := by simp [val]
        rw [this, i3, step, hd]; omega
      · intro _
        rw [head_app i1]
        exact i4 (by omega)

theorem okText_decDigits (u : Nat) : okText (Lib.decDigits u) = true := by
  obtain ⟨h1, h2, h3, h4⟩ := decDigits_facts u
  simp only [okText, Bool.and_eq_true, Bool.or_eq_true, h2]
  refine ⟨by simpa using h1, trivial, ?_⟩
  by_cases h : 0 < u
  · right; simpa using h4 h
  · left
    obtain rfl : u = 0 := by omega
    rw [Lib.decDigits_one (by omega)]; rfl

theorem read_printed (u : Nat) (h : u ≤ top) : readL (Lib.decDigits u) = (u, 0) := by
  rw [readL_ok (okText_decDigits u), (decDigits_facts u).2.2.1, if_pos h]

theorem printed_facts (r : List UInt8) : ∀ (c : UInt8), allDig (r ++ [c]) = true → (r ++ [c]).head? ≠ some 48 → 1 ≤ val (r ++ [c]) ∧ Lib.decDigits (val (r ++ [c])) = r ++ [c] := by
  generalize hn : r.length = n
  induction n using Nat.strongRecOn generalizing r with
  | ind n ih =>
    intro c hd hh
    have hd' : allDig r = true ∧ isDig c = true := by simpa [allDig] using hd
    obtain ⟨c1, c2⟩ := isDig_bounds hd'.2
    have hv : val (r ++ [c]) = step (val r) c := by simp [val]
    have hc : UInt8.ofNat (48 + (c.toNat - 48)) = c := by
      apply UInt8.toNat_inj.1
      rw [dig_of _ (by omega)]; omega
    rcases List.eq_nil_or_concat r with rfl | ⟨r', c', rfl⟩
    · have hne : c ≠ 48 := by simpa using hh
      have hne' : c.toNat ≠ 48 := fun h => hne (UInt8.toNat_inj.1 (by rw [h]; rfl))
      rw [hv]
      simp only [val, List.foldl_nil, step]
      rw [show 0 * 10 + (c.toNat - 48) = c.toNat - 48 from by omega, Lib.decDigits_one (by omega), hc]
      exact ⟨by omega, rfl⟩
    · rw [List.concat_eq_append] at *
      have hh' : (r' ++ [c']).head? ≠ some 48 := by
        rw [head_app (by simp)] at hh
        exact hh
      obtain ⟨j1, j2⟩ := ih r'.length (by rw [← hn]; simp) r' rfl c' hd'.1 hh'
      rw [hv]
      have e1 : step (val (r' ++ [c'])) c / 10 = val (r' ++ [c']) := by unfold step; omega
      have e2 : step (val (r' ++ [c'])) c % 10 = c.toNat - 48 := by unfold step; omega
      refine ⟨by unfold step; omega, ?_⟩
      rw [decDigits_big (by unfold step; omega), e1, e2, hc, j2]

theorem printed_read {l : List UInt8} (h : okText l = true) : Lib.decDigits (val l) = l := by
  simp only [okText, Bool.and_eq_true, Bool.or_eq_true] at h
  obtain ⟨h1, h2, h3⟩ := h
  rcases List.eq_nil_or_concat l with rfl | ⟨r, c, rfl⟩
  · simp at h1
  · rw [List.concat_eq_append] at *
    by_cases hz : (r ++ [c]).head? = some 48
    · rcases h3 with h3 | h3
      · have : r = [] := by simpa using h3
        subst this
        have : c = 48 := by simpa using hz
        subst this
        decide +kernel
      · exact absurd hz (by simpa using h3)
    · exact (printed_facts r c h2 hz).2

theorem printed_of_read {l : List UInt8} (h : (readL l).2 = 0) : Lib.decDigits (readL l).1 = l := by
  by_cases ho : okText l = true
  · rw [readL_ok ho] at h ⊢
    split at h
    · rename_i hh
      rw [if_pos hh]; exact printed_read ho
    · simp at h
  · rw [readL_no (by simpa using ho)] at h; simp at h

theorem len_le (u : Nat) (h : u ≤ top) : (Lib.decDigits u).length ≤ 20 := by
  rw [Lib.decDigits_length]
  by_cases h0 : u = 0
  · subst h0; rw [Lib.nDigits_small (by omega)]; omega
  · obtain ⟨h1, h2⟩ := Lib.numDigits_eq u (by omega) (by unfold top at h; omega)
    rw [← h1]; split <;> omega
theorem len_of_pow {l : List UInt8} {v u : Nat} (h : 10 ^ l.length * v ≤ u) (hv : 0 < v) (hu : u ≤ top) : l.length < 20 := by
  have h1 : 10 ^ l.length ≤ u := Nat.le_trans (Nat.le_mul_of_pos_right _ hv) h
  have h2 : 10 ^ l.length < 10 ^ 20 := by unfold top at hu; omega
  exact (Nat.pow_lt_pow_iff_right (by omega)).1 h2
theorem len_of_pow' {l : List UInt8} {v u : Nat} (_h : 10 ^ l.length * v ≤ u) (hu : u ≤ top) (hd : Lib.decDigits u = Lib.decDigits v ++ l) : l.length < 20 := by
  have h1 := len_le u hu
  have h2 := (decDigits_facts v).1
  have h3 : 0 < (Lib.decDigits v).length := List.length_pos_iff.2 h2
  rw [hd, List.length_append] at h1
  omega
theorem pow_step {l : List UInt8} {b : UInt8} {v u : Nat} (h : 10 ^ l.length * v ≤ u) : 10 ^ (b :: l).length * (v / 10) ≤ u := by
  rw [List.length_cons, Nat.pow_succ, Nat.mul_assoc]
  exact Nat.le_trans (Nat.mul_le_mul_left _ (by omega)) h
end Go.Proofs.YtcilndnkhfcafaaDoor.D
