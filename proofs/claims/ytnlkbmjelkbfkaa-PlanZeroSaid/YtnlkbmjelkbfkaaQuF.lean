import Derived.Test.YtnlkbmjelkbfkaaQuA
import Derived.Test.YtnlkbmjelkbfkaaArI
import Derived.Test.YtnlkbmjelkbfkaaArF
/-
  Contracts: a queue's Init.
-/
namespace Go.Proofs.Ytnlkbmjelkbfkaa
set_option maxRecDepth 100000
set_option linter.unusedSimpArgs false
set_option linter.unusedVariables false
open Go.ChangeShapes Go.WideShapes Go.ChangeAt Go.RowKit

/-- The cells while tasks and nexts are cleared. -/
def quClear (us : List Int) (a n k : Nat) : List Int := (List.range us.length).map fun j => if j = a ∨ j = a + 1 then 1 else if (a + 2 + n + 1 ≤ j ∧ j ≤ a + 2 + n + k) ∨ (a + 2 + 2 * n + 1 ≤ j ∧ j ≤ a + 2 + 2 * n + k) then 0 else us.getD j 0
theorem quClear_len (us : List Int) (a n k : Nat) : (quClear us a n k).length = us.length := by simp [quClear]
theorem quClear_at (us : List Int) (a n k j : Nat) (h : j < us.length) : (quClear us a n k).getD j 0 = if j = a ∨ j = a + 1 then 1 else if (a + 2 + n + 1 ≤ j ∧ j ≤ a + 2 + n + k) ∨ (a + 2 + 2 * n + 1 ≤ j ∧ j ≤ a + 2 + 2 * n + k) then 0 else us.getD j 0 := by
  rw [List.getD, quClear, List.getElem?_map, List.getElem?_range h]; rfl
theorem getD_ext {a b : List Int} (hl : a.length = b.length) (h : ∀ j, j < a.length → a.getD j 0 = b.getD j 0) : a = b := by
  apply List.ext_getElem? ; intro j
  by_cases hj : j < a.length
  · have := h j hj
    simp only [List.getD, List.getElem?_eq_getElem hj, List.getElem?_eq_getElem (hl ▸ hj), Option.getD_some] at this
    rw [List.getElem?_eq_getElem hj, List.getElem?_eq_getElem (hl ▸ hj), this]
  · rw [List.getElem?_eq_none (by omega), List.getElem?_eq_none (by omega)]
theorem getD_set (us : List Int) (i j : Nat) (v : Int) (hi : i < us.length) : (us.set i v).getD j 0 = if j = i then v else us.getD j 0 := by
  by_cases h : j = i
  · subst h; simp [List.getD, hi]
  · rw [if_neg h]; simp [List.getD, List.getElem?_set_ne (Ne.symm h)]
theorem quClear_zero (us : List Int) (a n : Nat) (h : a + 1 < us.length) : (us.set a 1).set (a + 1) 1 = quClear us a n 0 := by
  apply getD_ext
  · simp [quClear_len]
  · intro j hj
    simp at hj
    rw [quClear_at _ _ _ _ _ hj, getD_set _ _ _ _ (by simpa using h), getD_set _ _ _ _ (by omega)]
    split
    · simp_all
    · split
      · simp_all
      · rw [if_neg (by omega), if_neg (by omega)]
theorem quClear_step (us : List Int) (a n k : Nat) (h : a + 3 * n + 2 < us.length) (hk : k < n) : ((quClear us a n k).set (a + 2 + n + (k + 1)) 0).set (a + 2 + 2 * n + (k + 1)) 0 = quClear us a n (k + 1) := by
  apply getD_ext
  · simp [quClear_len]
  · intro j hj
    simp [quClear_len] at hj
    rw [quClear_at _ _ _ _ _ hj, getD_set _ _ _ _ (by simp [quClear_len]; omega), getD_set _ _ _ _ (by rw [quClear_len]; omega), quClear_at _ _ _ _ _ hj]
    by_cases h1 : j = a ∨ j = a + 1
    · rw [if_pos h1, if_pos h1, if_neg (by omega), if_neg (by omega)]
    · rw [if_neg h1, if_neg h1]
      by_cases h2 : j = a + 2 + 2 * n + (k + 1)
      · rw [if_pos h2, if_pos (by omega)]
      · rw [if_neg h2]
        by_cases h3 : j = a + 2 + n + (k + 1)
        · rw [if_pos h3, if_pos (by omega)]
        · rw [if_neg h3]
          by_cases h4 : (a + 2 + n + 1 ≤ j ∧ j ≤ a + 2 + n + k) ∨ (a + 2 + 2 * n + 1 ≤ j ∧ j ≤ a + 2 + 2 * n + k)
          · rw [if_pos h4, if_pos (by omega)]
          · rw [if_neg h4, if_neg (by omega)]
/-- The cells of a queue without tasks. -/
def quRow (n : Nat) : List Int := 1 :: 1 :: (arRow n 2 n ++ List.replicate (2 * n) 0)
theorem quRow_len (n : Nat) : (quRow n).length = 3 * n + 3 := by simp [quRow, arRow_len]; omega
theorem quRow_at (n j : Nat) (hj : j < 3 * n + 3) : (quRow n).getD j 0 = if j < 2 then 1 else if j - 2 ≤ n then (arRow n 2 n).getD (j - 2) 0 else 0 := by
  match j with
  | 0 => rfl
  | 1 => rfl
  | j + 2 =>
    have e : (quRow n).getD (j + 2) 0 = (arRow n 2 n ++ List.replicate (2 * n) 0).getD j 0 := rfl
    rw [e, if_neg (by omega), show j + 2 - 2 = j by omega]
    by_cases h : j ≤ n
    · rw [if_pos h]
      simp [List.getD, List.getElem?_append_left (show j < (arRow n 2 n).length by rw [arRow_len]; omega)]
    · rw [if_neg h]
      have : (arRow n 2 n).length ≤ j := by rw [arRow_len]; omega
      simp only [List.getD, List.getElem?_append_right this, List.getElem?_replicate]
      split <;> rfl
theorem quInit_cells (us : List Int) (a n : Nat) (h : a + 3 * n + 2 < us.length) : laidAt (quClear us a n n) (arRow n 2 n) (a + 2) (n + 1) = laidAt us (quRow n) a (3 * n + 3) := by
  apply getD_ext
  · simp [laidAt_len, quClear_len]
  · intro j hj
    simp [laidAt_len, quClear_len] at hj
    rw [laidAt_at _ _ _ _ _ (by rw [quClear_len]; exact hj), laidAt_at _ _ _ _ _ hj, quClear_at _ _ _ _ _ hj]
    by_cases h1 : a + 2 ≤ j ∧ j < a + 2 + (n + 1)
    · rw [if_pos h1, if_pos (by omega), quRow_at _ _ (by omega), if_neg (by omega), if_pos (by omega), show j - a - 2 = j - (a + 2) by omega]
    · rw [if_neg h1]
      by_cases h2 : a ≤ j ∧ j < a + (3 * n + 3)
      · rw [if_pos h2, quRow_at _ _ (by omega)]
        by_cases h3 : j = a ∨ j = a + 1
        · rw [if_pos h3, if_pos (by omega)]
        · rw [if_neg h3, if_pos (show (a + 2 + n + 1 ≤ j ∧ j ≤ a + 2 + n + n) ∨ (a + 2 + 2 * n + 1 ≤ j ∧ j ≤ a + 2 + 2 * n + n) by omega), if_neg (show ¬ j - a < 2 by omega), if_neg (show ¬ j - a - 2 ≤ n by omega)]
      · rw [if_neg h2, if_neg (by omega), if_neg (by omega)]

set_option maxHeartbeats 3200000 in
theorem quInit_ok (m b a n : Nat) (us : List Int) (w : World) (h : Mem w m b us) (hr : quRight a n) (hl : a + 3 * n + 2 < us.length) :
    Calls Try.prog 31 #[.agg #[.int .i64 (a : Int), .int .i64 (n : Int)], .pointer (some ⟨m, 0, none⟩)] w fun e w' => e = .returned (.int .i64 0) ∧ Mem w' m b (laidAt us (quRow n) a (3 * n + 3)) ∧ Keeps [b] w w' := by
  have hlen := h.len
  have hblt := h.lt.2
  obtain ⟨W1, hW1⟩ : ∃ W1, w.alloc (.cells #[.int .i64 (a : Int), .int .i64 (n : Int)] 41) = W1 := ⟨_, rfl⟩
  have bq : Box W1 w.heap.size #[.int .i64 (a : Int), .int .i64 (n : Int)] := by rw [← hW1]; exact Box.new _ _ _
  have k1 : Keeps [] w W1 := by rw [← hW1]; exact (Keeps.refl _ _).alloc _
  have hm1 := h.keeps k1 (by simp) (by simp)
  have HX := Lib.hid (fun W (k : Keeps [b] W1 W) => show W.cell? ⟨w.heap.size, 0, none⟩ = some (.int .i64 (a : Int)) ∧ W.cell? ⟨w.heap.size, 1, none⟩ = some (.int .i64 (n : Int)) from ⟨(bq.keeps k (by simp; omega)).cells 0, (bq.keeps k (by simp; omega)).cells 1⟩)
  obtain ⟨c0, c1⟩ := HX.out W1 (Keeps.refl _ _)
  have HRe := Lib.hid (quRefused_any m b us a n W1 hm1)
  rw [if_pos hr, if_neg (by omega)] at HRe
  have HP := Lib.hid (fun W => pair_any 0 1 W (by decide) (by decide) (by decide) (by decide))
  rw [show ((0 : Int) * 4294967296 + 1) = 1 by decide] at HP
  have U1 : M.U 1 := ⟨by decide, by decide⟩
  have U0 : M.U 0 := ⟨by decide, by decide⟩
  obtain ⟨hn2, hn4, ha0, ha1⟩ := hr
  have hn2' : 2 ≤ n := by omega
  have HS := Lib.hid (fun W us' cell v (hM : Mem W m b us') (hc : cell < us'.length) (hv : M.U v) => quSetWord_any m b us' cell v W hM hc hv)
  have HT := Lib.hid (fun W => quTail_any a n W (by omega) (by omega))
  have HTask := Lib.hid (fun (i : Nat) W (hi : i ≤ n) => quTask_any a n i W ⟨hn2, hn4, ha0, ha1⟩ (by omega) (by omega))
  have HNext := Lib.hid (fun (i : Nat) W (hi : i ≤ n) => quNext_any a n i W ⟨hn2, hn4, ha0, ha1⟩ (by omega) (by omega))
  have HAr := Lib.hid (fun W => quArena_any a n W ⟨hn2, hn4, ha0, ha1⟩)
  have HM1 := Lib.hid hm1
  have HK1 := Lib.hid k1
  clear bq k1 h hm1
  go_enter Try.func31, Try.ntmps31
  go_wp2_with fail
  refine HRe.out.mono ?_
  rintro e w2 ⟨rfl, k2⟩
  have HM2 := Lib.hid (HM1.out.keeps k2 (by simp) (by simp))
  have HK2 := Lib.hid (k2.nil (S := [b]))
  obtain ⟨d0, d1⟩ := HX.out w2 k2.nil
  clear k2 c0 c1
  go_wp2
  go_region_held3 (fun w' => w'.cell? ⟨w.heap.size, 0, none⟩ = some (.int .i64 (a : Int)) ∧ w'.cell? ⟨w.heap.size, 1, none⟩ = some (.int .i64 (n : Int)))
    (first
      | exact ⟨by assumption, by assumption⟩
      | exact HX.out _ (HK2.out.trans hk3)
      | fail)
    (first
      | (go_at_call 37; refine (HP.out _).mono ?_; rintro e1 w1 ⟨rfl, rfl⟩)
      | (go_at_call 36; refine (HS.out _ us a 1 (HM2.out.keeps ((Keeps.refl [] _).drew) (by simp) (by simp)) (by omega) U1).mono ?_; rintro e2 w3 ⟨rfl, hm3, k3⟩; have hk3 : Keeps [b] w2 w3 := k3.undrew; clear k3)
      | fail)
  have HM3 := Lib.hid hm3
  have HK3 := Lib.hid (HK2.out.trans hk3)
  obtain ⟨d0, d1⟩ := HX.out w3 HK3.out
  clear hk3 hm3
  go_wp2_with fail
  refine (HT.out _).mono ?_
  rintro e4 w4 ⟨rfl, k4⟩
  have HM4 := Lib.hid (HM3.out.keeps k4 (by simp) (by simp))
  have HK4 := Lib.hid (HK3.out.trans k4.nil)
  clear k4
  go_wp2_with (go_at_call 37; refine (HP.out _).mono ?_; rintro e1 w1 ⟨rfl, rfl⟩)
  have hS5 := HS.out w4 _ (a + 1) 1 HM4.out (by simp; omega) U1
  rw [show ((a + 1 : Nat) : Int) = (a : Int) + 1 by omega, quClear_zero us a n (by omega)] at hS5
  refine hS5.mono ?_
  clear hS5
  rintro e5 w5 ⟨rfl, hm5, k5⟩
  have HM5 := Lib.hid hm5
  have HK5 := Lib.hid (HK4.out.trans k5)
  obtain ⟨d0, d1⟩ := HX.out w5 HK5.out
  clear k5 hm5
  go_wp2
  go_loopw [25] (fun i wr => ∃ k : Nat, k ≤ n ∧ i = .int .i64 k ∧ Mem wr m b (quClear us a n k) ∧ Keeps [b] W1 wr) (fun i _ => n - (intOf i).toNat)
  case atStart => exact ⟨0, Nat.zero_le _, rfl, HM5.out, HK5.out⟩
  case round =>
    obtain ⟨k, hk, rfl, hMr, hKr⟩ := hrel
    obtain ⟨d0, d1⟩ := HX.out wr hKr
    have HMr := Lib.hid hMr
    have HKr := Lib.hid hKr
    clear hMr hKr
    by_cases hlt : k < n
    · have hT6 := HTask.out (k + 1) wr (by omega)
      rw [show quTask (a : Int) n ((k + 1 : Nat) : Int) = ((a + 2 + n + (k + 1) : Nat) : Int) by unfold quTask; omega, show ((k + 1 : Nat) : Int) = (k : Int) + 1 by omega] at hT6
      have HT6 := Lib.hid hT6
      clear hT6
      go_wp2_with fail
      refine HT6.out.mono ?_
      rintro e6 w6 ⟨rfl, k6⟩
      have HM6 := Lib.hid (HMr.out.keeps k6 (by simp) (by simp))
      have HK6 := Lib.hid (HKr.out.trans k6.nil)
      clear k6
      go_wp2_with fail
      refine (HS.out w6 _ (a + 2 + n + (k + 1)) 0 HM6.out (by rw [quClear_len]; omega) U0).mono ?_
      rintro e7 w7 ⟨rfl, hm7, k7⟩
      have HM7 := Lib.hid hm7
      have HK7 := Lib.hid (HK6.out.trans k7)
      obtain ⟨g0, g1⟩ := HX.out w7 HK7.out
      clear hm7 k7 d0 d1
      have hT8 := HNext.out (k + 1) w7 (by omega)
      rw [show quNext (a : Int) n ((k + 1 : Nat) : Int) = ((a + 2 + 2 * n + (k + 1) : Nat) : Int) by unfold quNext; omega, show ((k + 1 : Nat) : Int) = (k : Int) + 1 by omega] at hT8
      have HT8 := Lib.hid hT8
      clear hT8
      go_wp2_with fail
      refine HT8.out.mono ?_
      rintro e8 w8 ⟨rfl, k8⟩
      have HM8 := Lib.hid (HM7.out.keeps k8 (by simp) (by simp))
      have HK8 := Lib.hid (HK7.out.trans k8.nil)
      clear k8
      have hS9 := HS.out w8 _ (a + 2 + 2 * n + (k + 1)) 0 HM8.out (by simp [quClear_len]; omega) U0
      rw [quClear_step us a n k hl hlt] at hS9
      have HS9 := Lib.hid hS9
      clear hS9
      go_wp2_with fail
      refine HS9.out.mono ?_
      rintro e9 w9 ⟨rfl, hm9, k9⟩
      have HM9 := Lib.hid hm9
      have HK9 := Lib.hid (HK8.out.trans k9)
      obtain ⟨g0, g1⟩ := HX.out w9 HK9.out
      clear hm9 k9
      go_wp2
      go_roundw
      case rel => exact ⟨k + 1, by omega, by go_num, HM9.out, HK9.out⟩
      case measure => simp [intOf]; omega
    · obtain rfl : k = n := by omega
      go_wp2_with fail
      refine (HAr.out _).mono ?_
      rintro e6 w6 ⟨rfl, k6⟩
      have hI := init_any m b (a + 2) k 2 (quClear us a k k) w6 (HMr.out.keeps k6 (by simp) (by simp)) ⟨by omega, hn4, by omega, by omega⟩ (by rw [quClear_len]; omega) (by omega) (by omega)
      rw [show ((a + 2 : Nat) : Int) = (a : Int) + 2 by omega, quInit_cells us a k hl] at hI
      have HI := Lib.hid hI
      have HK6 := Lib.hid (HKr.out.trans k6.nil)
      clear hI k6
      go_wp2_with fail
      refine HI.out.mono ?_
      rintro e7 w7 ⟨rfl, hm7, k7⟩
      have HQ : Hid (_ ∧ _) := Lib.hid ⟨hm7, (HK1.out.nil.trans HK6.out).trans k7⟩
      clear hm7 k7
      go_wp2
      go_ret
      exact ⟨rfl, HQ.out⟩
theorem quInit_refused (m b : Nat) (us : List Int) (at_ n c : Int) (w : World) (h : Mem w m b us) (hc : c = if quRight at_ n then (if (us.length : Int) ≤ at_ + 3 * n + 2 then 3 else 0) else 2) (h0 : c ≠ 0) :
    Calls Try.prog 31 #[.agg #[.int .i64 at_, .int .i64 n], .pointer (some ⟨m, 0, none⟩)] w fun e w' => e = .returned (.int .i64 c) ∧ Keeps [] w w' := by
  obtain ⟨W1, hW1⟩ : ∃ W1, w.alloc (.cells #[.int .i64 at_, .int .i64 n] 41) = W1 := ⟨_, rfl⟩
  have bq : Box W1 w.heap.size #[.int .i64 at_, .int .i64 n] := by rw [← hW1]; exact Box.new _ _ _
  have k1 : Keeps [] w W1 := by rw [← hW1]; exact (Keeps.refl _ _).alloc _
  have c0 := bq.cells 0
  have c1 := bq.cells 1
  have HRe := Lib.hid (quRefused_any m b us at_ n W1 (h.keeps k1 (by simp) (by simp)))
  rw [← hc] at HRe
  have q1 : (c != 0) = true := by simpa using h0
  have HK1 := Lib.hid k1
  clear bq k1 h hc h0
  go_enter Try.func31, Try.ntmps31
  go_wp2_with fail
  refine HRe.out.mono ?_
  rintro e w2 ⟨rfl, k2⟩
  have HK2 := Lib.hid (HK1.out.trans k2)
  clear k2
  go_wp2
  go_ret
  exact ⟨rfl, HK2.out⟩
theorem quInit_nil (at_ n : Int) (w : World) :
    Calls Try.prog 31 #[.agg #[.int .i64 at_, .int .i64 n], .pointer none] w fun e w' => e = .returned (.int .i64 1) ∧ Keeps [] w w' := by
  obtain ⟨W1, hW1⟩ : ∃ W1, w.alloc (.cells #[.int .i64 at_, .int .i64 n] 41) = W1 := ⟨_, rfl⟩
  have bq : Box W1 w.heap.size #[.int .i64 at_, .int .i64 n] := by rw [← hW1]; exact Box.new _ _ _
  have k1 : Keeps [] w W1 := by rw [← hW1]; exact (Keeps.refl _ _).alloc _
  have c0 := bq.cells 0
  have c1 := bq.cells 1
  have HRe := Lib.hid (quRefused_nil at_ n W1)
  have HK1 := Lib.hid k1
  clear bq k1
  go_enter Try.func31, Try.ntmps31
  go_wp2_with fail
  refine HRe.out.mono ?_
  rintro e w2 ⟨rfl, k2⟩
  have HK2 := Lib.hid (HK1.out.trans k2)
  clear k2
  go_wp2
  go_ret
  exact ⟨rfl, HK2.out⟩
end Go.Proofs.Ytnlkbmjelkbfkaa

/-
  Contracts: a queue's All.
-/
namespace Go.Proofs.Ytnlkbmjelkbfkaa
set_option maxRecDepth 100000
set_option linter.unusedSimpArgs false
set_option linter.unusedVariables false
open Go.ChangeShapes Go.WideShapes Go.ChangeAt Go.RowKit

/-- Behind a node; its task; those from a node on, at most so many. -/
def quNx (us : List Int) (a n : Nat) (i : Int) : Int := quNode (us.getD (a + 2 + 2 * n + i.toNat) 0)
def quTk (us : List Int) (a n : Nat) (i : Int) : Int := us.getD (a + 2 + n + i.toNat) 0
def quFollow (us : List Int) (a n : Nat) : Nat → Int → List Int → Option (List Int)
  | 0, i, l => if i = 0 then some l else none
  | f + 1, i, l => if i = 0 then some l else if 1 ≤ i ∧ i ≤ n then quFollow us a n f (quNx us a n i) (l ++ [quTk us a n i]) else none
def quAllOf (us : List Int) (a n : Nat) : Option (List Int) :=
  if 1 ≤ quNode (us.getD a 0) ∧ quNode (us.getD a 0) ≤ n then quFollow us a n (n - 1) (quNx us a n (quNode (us.getD a 0))) [] else none

def quTold (w w' : World) (e : Ending) (O : Option (List Int)) : Prop :=
  (O = none → e = .returned (.tuple #[.slice none 0 0, .int .i64 9])) ∧ ∀ xs, O = some xs → ∃ l, e = .returned (.tuple #[l, .int .i64 0]) ∧ w'.ownsRow w.heap.size 58 1 l xs.length (ints .u64 xs)
theorem quTold.some {w w' : World} {e : Ending} {v : Value} {l : List Int} (h : e = .returned (.tuple #[v, .int .i64 0])) (ho : w'.ownsRow w.heap.size 58 1 v l.length (ints .u64 l)) : quTold w w' e (Option.some l) := ⟨(fun h => by cases h), (fun xs hx => by cases hx; exact ⟨v, h, ho⟩)⟩
end Go.Proofs.Ytnlkbmjelkbfkaa
