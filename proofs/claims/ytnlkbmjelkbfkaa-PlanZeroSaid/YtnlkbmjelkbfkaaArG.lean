import Derived.Test.YtnlkbmjelkbfkaaArF
import Derived.Test.YtnlkbmjelkbfkaaSeen
import Derived.Test.YtnlkbmjelkbfkaaWord
import Derived.Test.YtnlkbmjelkbfkaaArM
import Derived.IntWalk
import Derived.Deep.CutRange
import Derived.LoopTactic
import Derived.Test.YtnlkbmjelkbfkaaDraw
import Derived.Test.YtnlkbmjelkbfkaaFresh
import Derived.Test.YtnlkbmjelkbfkaaKeep
import Derived.Test.YtnlkbmjelkbfkaaMem3
/-
  Contracts: the document's Init and Free of an arena; copy into the midst of a row.
-/
namespace Go.Proofs.Ytnlkbmjelkbfkaa
set_option maxRecDepth 100000
set_option linter.unusedSimpArgs false
set_option linter.unusedVariables false
open Go.ChangeShapes Go.WideShapes Go.ChangeAt Go.RowKit

theorem take_over_at {α : Type} (cur xs news : List α) (off : Nat) (h : cur.take xs.length = xs) (ho : off + news.length ≤ xs.length) :
    (cur.take off ++ (news ++ cur.drop (off + news.length))).take xs.length = xs.take off ++ (news ++ xs.drop (off + news.length)) := by
  obtain ⟨N, hN⟩ : ∃ N, xs.length = N := ⟨_, rfl⟩
  rw [hN] at h ho ⊢
  subst h
  have hc : N ≤ cur.length := by rw [List.length_take] at hN; omega
  have e1 : (cur.take off).length = off := by rw [List.length_take]; omega
  have e2 : (cur.take off).take N = cur.take off := by rw [List.take_take]; congr 1; omega
  have e3 : (cur.take N).take off = cur.take off := by rw [List.take_take]; congr 1; omega
  have e4 : news.take (N - off) = news := List.take_of_length_le (by omega)
  rw [List.take_append, List.take_append, e1, e2, e3, e4, List.drop_take, Nat.sub_sub]
theorem laidAt_all (us zs : List Int) (a : Nat) (h : a + zs.length ≤ us.length) : us.take a ++ (zs ++ us.drop (a + zs.length)) = laidAt us zs a zs.length := by
  have e1 : (us.take a).length = a := by rw [List.length_take]; omega
  apply List.ext_getElem?
  intro j
  simp only [laidAt, List.getElem?_map]
  by_cases hj : j < us.length
  · rw [List.getElem?_range hj]
    simp only [Option.map_some]
    by_cases h1 : j < a
    · rw [List.getElem?_append_left (by omega), List.getElem?_take, if_pos h1, if_neg (by omega), List.getD, List.getElem?_eq_getElem hj]; rfl
    · rw [List.getElem?_append_right (by omega), e1]
      by_cases h2 : j - a < zs.length
      · rw [List.getElem?_append_left h2, if_pos (by omega), List.getD, List.getElem?_eq_getElem h2]; rfl
      · rw [List.getElem?_append_right (by omega), List.getElem?_drop, if_neg (by omega), show a + zs.length + (j - a - zs.length) = j by omega, List.getD, List.getElem?_eq_getElem hj]; rfl
  · have h0 : (List.range us.length)[j]? = none := by simp; omega
    rw [h0, List.getElem?_eq_none (by simp only [List.length_append, List.length_drop, e1]; omega)]; rfl
theorem ints_take (k : IntKind) (us : List Int) (n : Nat) : (ints k us).take n = ints k (us.take n) := by simp [ints, List.map_take]
theorem ints_drop (k : IntKind) (us : List Int) (n : Nat) : (ints k us).drop n = ints k (us.drop n) := by simp [ints, List.map_drop]
theorem ints_app (k : IntKind) (a b : List Int) : ints k a ++ ints k b = ints k (a ++ b) := by simp [ints]

/-- All, and the room behind what it tells. -/
theorem all_own (m b : Nat) (us : List Int) (w : World) (h : Mem w m b us) :
    Calls Try.prog 21 #[.pointer (some ⟨m, 0, none⟩)] w fun e w' => ∃ g cap, e = .returned (.slice (some ⟨g, 0, none⟩) us.length cap) ∧ w'.ownsRow w.heap.size 58 1 (.slice (some ⟨g, 0, none⟩) us.length cap) us.length (ints .u64 us) ∧ Keeps [] w w' ∧ w.heap.size ≤ g := by
  obtain ⟨cap, hc⟩ := h.at
  have hl := h.len
  have hp := h.pos
  have C := cloneWords_any _ us.length us w (h.words cap) hp (by omega)
  clear h
  go_enter Try.func21, Try.ntmps21
  go_wp2_with (go_at_call 32; refine C.mono ?_; rintro e w1 ⟨g, cap', rfl, ho, hk, hg⟩)
  have HO := Lib.hid ho
  clear ho
  go_wp2
  go_ret
  exact ⟨g, cap', rfl, HO.out, hk, hg⟩

set_option maxHeartbeats 1600000 in
theorem refInit_any (n f : Nat) (w : World) (hn : n ≤ 4096) (f1 : 1 ≤ f) (f2 : f ≤ n + 1) :
    Calls Try.prog 43 #[.int .i64 (n : Int), .int .i64 (f : Int)] w fun e w' => ∃ g, e = .returned (.slice (some ⟨g, 0, none⟩) (n + 1) (n + 1)) ∧ Row w' g 58 (ints .u64 (arRow n f n)) ∧ Keeps [] w w' ∧ w.heap.size ≤ g := by
  obtain ⟨w1, hrun, hrow, hk1, hs1⟩ := make_row (P := Try.prog) w 50 58 _ 1 8 Try.underlying50 elemWord .i64 .i64 (n + 1) (by omega)
  rw [made_words] at hrow
  rw [show ((n + 1 : Nat) : Int) = (n : Int) + 1 by omega] at hrun
  have HROW := Lib.hid hrow
  have HK1 := Lib.hid hk1
  clear hk1 hrow
  go_enter Try.func43, Try.ntmps43
  by_cases hfn : f ≤ n
  case' neg =>
    have hfn1 := Lib.hid (show f = n + 1 by omega)
    have HROW2 : Hid (Row w1 w.heap.size 58 (ints .u64 (arRow n f f))) := Lib.hid (by have := HROW.out; rw [arRow_zero] at this; rw [hfn1.out]; exact this)
    have HK4 : Hid (Keeps [] w w1) := Lib.hid HK1.out
    have d3 : decide ((f : Int) ≤ (n : Int)) = false := decide_eq_false (by omega)
    go_wp2
    clear hfn1 hfn d3
  case' pos =>
    have r3 := HROW.out
    have p0 := r3.cell (j := 0) (u := .int .u64 0) (by simp [ints, List.replicate_succ])
    have pf := r3.frozen 0
    obtain ⟨w4, hw4⟩ : ∃ w4, w1.setCell ⟨w.heap.size, 0, none⟩ (.int .u64 (f : Int)) = w4 := ⟨_, rfl⟩
    have k4 : Keeps [w.heap.size] w1 w4 := by rw [← hw4]; exact (Keeps.refl _ _).setCell (fun _ => by simp) _
    have HROW2 : Hid (Row w4 w.heap.size 58 (ints .u64 (arRow n f f))) := Lib.hid (by
      rw [← arRow_one f1 hfn, ints_set, ← hw4]; exact r3.set 0 _)
    have HK4 : Hid (Keeps [] w w4) := Lib.hid (HK1.out.step k4 (by intro k hk; simp at hk; omega))
    have d3 : decide ((f : Int) ≤ (n : Int)) = true := decide_eq_true (by omega)
    have hw64 : IntKind.u64.wrap (f : Int) = (f : Int) := by show (f : Int) % 18446744073709551616 = f; omega
    clear r3 k4
    go_wp2
    clear p0 pf hw64
  all_goals
    go_loopw [6] (fun i wr => ∃ k : Nat, f ≤ k ∧ (k ≤ n ∨ k = f) ∧ i = .int .i64 (k : Int) ∧ Keeps [] w wr ∧ Row wr w.heap.size 58 (ints .u64 (arRow n f k))) (fun i _ => n - (intOf i).toNat)
    case atStart => exact ⟨f, Nat.le_refl _, .inr rfl, rfl, HK4.out, HROW2.out⟩
    case round =>
      obtain ⟨k, hk1, hk2, rfl, hk, hrow⟩ := hrel
      have HKi := Lib.hid hk
      clear hk
      by_cases hlt : k < n
      · have pk := hrow.cell (ints_at (k := .u64) (zs := arRow n f k) (j := k) (by rw [arRow_len]; omega))
        have pf := hrow.frozen k
        have HRi := Lib.hid hrow
        have hw64 : IntKind.u64.wrap (k : Int) = (k : Int) := by show (k : Int) % 18446744073709551616 = _; omega
        have hsc : Keeps [w.heap.size] wr (wr.setCell ⟨w.heap.size, k, none⟩ (.int .u64 ((k : Int) + 1))) := (Keeps.refl _ _).setCell (fun _ => by simp) _
        have HS := Lib.hid hsc
        have hkn : (k : Int) < ((n + 1 : Nat) : Int) := by omega
        clear hrow hsc
        go_wp2
        go_roundw
        case rel =>
          refine ⟨k + 1, by omega, .inl (by omega), by go_num, HKi.out.step HS.out (by intro k hk; simp at hk; omega), ?_⟩
          rw [← arRow_set f1 hk1, ints_set]
          exact HRi.out.set k _
        case measure => simp [intOf]; omega
      · have hrow2 : Row wr w.heap.size 58 (ints .u64 (arRow n f n)) := by rw [← arRow_end hlt (by omega) f2]; exact hrow
        have HRi := Lib.hid hrow2
        clear hrow hrow2
        go_wp2
        go_ret
        exact ⟨_, rfl, HRi.out, HKi.out, Nat.le_refl _⟩

end Go.Proofs.Ytnlkbmjelkbfkaa
