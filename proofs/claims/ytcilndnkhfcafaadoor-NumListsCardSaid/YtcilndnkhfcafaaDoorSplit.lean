/-
  A text between blanks: lists of bytes.
-/
import Derived.Lib.Bytealg
import Derived.Test.YtcilndnkhfcafaaDoorNumRef
namespace Go.Proofs.YtcilndnkhfcafaaDoor
open Go Go.RowKit
namespace D
/-- The parts between the bytes 32. -/
def split : List UInt8 → List (List UInt8)
  | [] => [[]]
  | c :: r => if c = 32 then [] :: split r else match split r with | [] => [[c]] | h :: t => (c :: h) :: t
def keep (l : List (List UInt8)) : List (List UInt8) := l.filter fun x => !x.isEmpty
def wordsL (l : List UInt8) : List (List UInt8) := keep (split l)

theorem split_at (a b : List UInt8) (h : ∀ c ∈ a, c ≠ 32) : split (a ++ 32 :: b) = a :: split b := by
  induction a with
  | nil => simp [split]
  | cons c a ih =>
    have := ih (fun x hx => h x (by simp [hx]))
    rw [List.cons_append, split, if_neg (h c (by simp)), this]
theorem split_none (a : List UInt8) (h : ∀ c ∈ a, c ≠ 32) : split a = [a] := by
  induction a with
  | nil => simp [split]
  | cons c a ih =>
    have := ih (fun x hx => h x (by simp [hx]))
    rw [split, if_neg (h c (by simp)), this]
theorem split_len (l : List UInt8) : (split l).length ≤ l.length + 1 := by
  induction l with
  | nil => simp [split]
  | cons c l ih =>
    rw [split]
    split
    · simp only [List.length_cons]; omega
    · cases hs : split l with
      | nil => simp
      | cons h t => rw [hs] at ih; simp only [List.length_cons] at ih ⊢; omega
theorem keep_len (l : List (List UInt8)) : (keep l).length ≤ l.length := List.length_filter_le _ _
theorem wordsL_len (l : List UInt8) : (wordsL l).length ≤ l.length + 1 := Nat.le_trans (keep_len _) (split_len l)
theorem keep_yes (l : List (List UInt8)) {x : List UInt8} (h : x ≠ []) : keep (l ++ [x]) = keep l ++ [x] := by
  have : x.isEmpty = false := by cases x with
    | nil => exact absurd rfl h
    | cons a b => rfl
  simp [keep, this]
theorem keep_no (l : List (List UInt8)) : keep (l ++ [[]]) = keep l := by simp [keep]
theorem keep_app (l m : List (List UInt8)) : keep (l ++ m) = keep l ++ keep m := by simp [keep]

theorem index_none {l : List UInt8} (h : Lib.indexByte l 32 = -1) : ∀ c ∈ l, c ≠ 32 := by
  induction l with
  | nil => simp
  | cons b l ih =>
    rw [Lib.indexByte] at h
    by_cases hb : (b == 32) = true
    · rw [if_pos hb] at h; exact absurd h (by decide)
    · rw [if_neg hb] at h
      by_cases hi : (Lib.indexByte l 32 == -1) = true
      · intro c hc
        rcases List.mem_cons.1 hc with rfl | hc
        · simpa using hb
        · exact ih (by simpa using hi) c hc
      · rw [if_neg hi] at h
        have : (Lib.indexByte l 32) ≠ -1 := by simpa using hi
        have hge : ∀ l : List UInt8, -1 ≤ Lib.indexByte l 32 := by
          intro l
          induction l with
          | nil => simp [Lib.indexByte]
          | cons b l ih => rw [Lib.indexByte]; split; omega; split <;> omega
        have := hge l
        omega
theorem index_some {l : List UInt8} (h : Lib.indexByte l 32 ≠ -1) :
    ∃ i : Nat, Lib.indexByte l 32 = i ∧ i < l.length ∧ (∀ c ∈ l.take i, c ≠ 32) ∧ l = l.take i ++ 32 :: l.drop (i + 1) := by
  induction l with
  | nil => exact absurd rfl h
  | cons b l ih =>
    rw [Lib.indexByte] at h ⊢
    by_cases hb : (b == 32) = true
    · rw [if_pos hb]
      have : b = 32 := by simpa using hb
      exact ⟨0, rfl, by simp, by simp, by simp [this]⟩
    · rw [if_neg hb] at h ⊢
      by_cases hi : (Lib.indexByte l 32 == -1) = true
      · rw [if_pos hi] at h; exact absurd rfl h
      · rw [if_neg hi]
        obtain ⟨i, h1, h2, h3, h4⟩ := ih (by simpa using hi)
        refine ⟨i + 1, by rw [h1]; rfl, by simp only [List.length_cons]; omega, ?_, ?_⟩
        · intro c hc
          rw [List.take_succ_cons] at hc
          rcases List.mem_cons.1 hc with rfl | hc
          · simpa using hb
          · exact h3 c hc
        · rw [List.take_succ_cons, List.drop_succ_cons, List.cons_append, ← h4]
end D

theorem str_slice_to {P : Program} {t : TypeId} (ht : P.underlying t = some .string) (l : List UInt8) (i : Nat) (hi : i ≤ l.length) (W : World) :
    (Instr.slice t (.string (str l)) none (some (.int .i64 (i : Int))) none).run P W = .ok (.string (str (l.take i))) W := by
  rw [run_slice_string_h W t (str l) ht .i64 (i : Int) (by omega) (by rw [str_size]; omega)]
  rw [str, ByteArray.extract_mk]
  simp [str]
theorem str_slice_from {P : Program} {t : TypeId} (ht : P.underlying t = some .string) (l : List UInt8) (i : Nat) (x : Int) (hx : x = (i : Int)) (hi : i ≤ l.length) (W : World) :
    (Instr.slice t (.string (str l)) (some (.int .i64 x)) none none).run P W = .ok (.string (str (l.drop i))) W := by
  subst hx
  rw [run_slice_string_l W t (str l) ht .i64 (i : Int) (by omega) (by rw [str_size]; omega)]
  rw [str_size, str, ByteArray.extract_mk]
  simp only [str, Int.toNat_natCast]
  congr 3
  rw [List.take_of_length_le (by simp)]

/-- What a cell that holds a string holds: its length. -/
def leftAt (b : Nat) (w : World) : Nat := match w.cell? ⟨b, 0, none⟩ with | some (.string s) => s.size | _ => 0
theorem leftAt_of {b : Nat} {w : World} {l : List UInt8} (h : w.cell? ⟨b, 0, none⟩ = some (.string (str l))) : leftAt b w = l.length := by rw [leftAt, h]; rfl
end Go.Proofs.YtcilndnkhfcafaaDoor
