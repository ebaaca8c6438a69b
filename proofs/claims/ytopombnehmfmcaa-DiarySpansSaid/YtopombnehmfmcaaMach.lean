import Derived.Test.YtopombnehmfmcaaRows
import Derived.Test.YtopombnehmfmcaaKeep
import Derived.LoopTactic
import Derived.Test.YtopombnehmfmcaaWalk
/-
  The references' own comparisons of lists.
-/
namespace Go.Proofs.Ytopombnehmfmcaa
set_option maxRecDepth 100000
set_option linter.unusedSimpArgs false
set_option linter.unusedVariables false
open Go.ChangeShapes Go.WideShapes Go.ChangeAt Go.RowKit

set_option maxHeartbeats 400000 in
theorem sameInts_any (v1 v2 : Value) (n1 n2 : Nat) (xs ys : List Int) (w : World) (m1 : n1 ≤ maxLen) (m2 : n2 ≤ maxLen) (h1 : Sl w 1 v1 n1 (ints .i64 xs)) (h2 : Sl w 1 v2 n2 (ints .i64 ys)) :
    Calls Try.prog 30 #[v1, v2] w fun e w' => e = .returned (.bool (decide (xs = ys))) ∧ ∃ m, w.drewN m = w' := by
  have l1 := h1.ints_len
  have l2 := h2.ints_len
  unfold maxLen at m1 m2
  by_cases hn : n1 = n2
  · subst hn
    by_cases h0 : n1 = 0
    · subst h0
      obtain ⟨p1, c1, rfl⟩ := h1.len
      obtain ⟨p2, c2, rfl⟩ := h2.len
      have hx : xs = ys := by rw [List.eq_nil_of_length_eq_zero l1, List.eq_nil_of_length_eq_zero l2]
      have HX := Lib.hid hx
      clear hx l1 l2 h1 h2
      go_enter Try.func30, Try.ntmps30
      go_wp2
      refine wp_loop_rounds 1 ?_
      rw [rounds_succ]
      go_wp2
      go_ret
      exact ⟨ret_bool (decide_eq_true HX.out).symm, 0, rfl⟩
    · obtain ⟨b1, o1, c1, rfl, z1, k1⟩ := h1.some (by omega)
      obtain ⟨b2, o2, c2, rfl, z2, k2⟩ := h2.some (by omega)
      have K1 := Lib.hid k1
      have K2 := Lib.hid k2
      have L1 := Lib.hid l1
      have L2 := Lib.hid l2
      clear h1 h2 l1 l2 k1 k2
      have hnn : ((n1 : Int) != (n1 : Int)) = false := by simp
      go_enter Try.func30, Try.ntmps30
      go_wp2
      go_loopw [5] (fun i wr => ∃ k m : Nat, k ≤ n1 ∧ i = .int .i64 k ∧ xs.take k = ys.take k ∧ wr = w.drewN m) (fun i _ => n1 - (intOf i).toNat)
      case atStart => exact ⟨0, 0, Nat.zero_le _, rfl, rfl, rfl⟩
      case round =>
        obtain ⟨k, m, hk, rfl, htk, rfl⟩ := hrel
        have HT := Lib.hid htk
        clear htk
        by_cases hlt : k < n1
        · have a1 := K1.out k _ (ints_at (by rw [L1.out]; exact hlt))
          have a2 := K2.out k _ (ints_at (by rw [L2.out]; exact hlt))
          obtain ⟨x, hx⟩ : ∃ x, xs.getD k 0 = x := ⟨_, rfl⟩
          obtain ⟨y, hy⟩ : ∃ y, ys.getD k 0 = y := ⟨_, rfl⟩
          rw [hx] at a1
          rw [hy] at a2
          have HX := Lib.hid hx
          have HY := Lib.hid hy
          clear hx hy
          by_cases he : x = y
          · have hb : (x != y) = false := by simp [he]
            have HE := Lib.hid he
            clear he
            go_wp2
            go_quiet (fail)
            go_wp2
            go_roundw
            case rel => exact ⟨k + 1, _, by omega, by go_num, take_eq_step HT.out (by rw [L1.out]; exact hlt) (by rw [L2.out]; exact hlt) (by rw [HX.out, HY.out, HE.out]), rfl⟩
            case measure => simp [intOf]; omega
          · have hb : (x != y) = true := by simp [he]
            have HE := Lib.hid he
            clear he
            go_wp2
            go_quiet (fail)
            go_wp2
            go_ret
            exact ⟨ret_bool (decide_eq_false (ne_of_at (by rw [HX.out, HY.out]; exact HE.out))).symm, by first | exact ⟨_, rfl⟩ | exact dn2 _ _ _⟩
        · obtain rfl : k = n1 := by omega
          go_wp2
          go_ret
          exact ⟨ret_bool (decide_eq_true (by rw [← List.take_of_length_le (l := xs) (Nat.le_of_eq L1.out), HT.out, List.take_of_length_le (Nat.le_of_eq L2.out)])).symm, _, rfl⟩
  · have hb : ((n1 : Int) != (n2 : Int)) = true := by rw [bne_iff_ne]; omega
    obtain ⟨p1, c1, rfl⟩ := h1.len
    obtain ⟨p2, c2, rfl⟩ := h2.len
    have hne : xs ≠ ys := fun h => hn (by rw [← l1, ← l2, h])
    have HN := Lib.hid hne
    clear hne l1 l2 h1 h2 hn
    go_enter Try.func30, Try.ntmps30
    go_wp2
    go_ret
    exact ⟨ret_bool (decide_eq_false HN.out).symm, 0, rfl⟩

set_option maxHeartbeats 400000 in
theorem sameWords_any (v1 v2 : Value) (n1 n2 : Nat) (xs ys : List Int) (w : World) (m1 : n1 ≤ maxLen) (m2 : n2 ≤ maxLen) (h1 : Sl w 1 v1 n1 (ints .u64 xs)) (h2 : Sl w 1 v2 n2 (ints .u64 ys)) :
    Calls Try.prog 29 #[v1, v2] w fun e w' => e = .returned (.bool (decide (xs = ys))) ∧ ∃ m, w.drewN m = w' := by
  have l1 := h1.ints_len
  have l2 := h2.ints_len
  unfold maxLen at m1 m2
  by_cases hn : n1 = n2
  · subst hn
    by_cases h0 : n1 = 0
    · subst h0
      obtain ⟨p1, c1, rfl⟩ := h1.len
      obtain ⟨p2, c2, rfl⟩ := h2.len
      have hx : xs = ys := by rw [List.eq_nil_of_length_eq_zero l1, List.eq_nil_of_length_eq_zero l2]
      have HX := Lib.hid hx
      clear hx l1 l2 h1 h2
      go_enter Try.func29, Try.ntmps29
      go_wp2
      refine wp_loop_rounds 1 ?_
      rw [rounds_succ]
      go_wp2
      go_ret
      exact ⟨ret_bool (decide_eq_true HX.out).symm, 0, rfl⟩
    · obtain ⟨b1, o1, c1, rfl, z1, k1⟩ := h1.some (by omega)
      obtain ⟨b2, o2, c2, rfl, z2, k2⟩ := h2.some (by omega)
      have K1 := Lib.hid k1
      have K2 := Lib.hid k2
      have L1 := Lib.hid l1
      have L2 := Lib.hid l2
      clear h1 h2 l1 l2 k1 k2
      have hnn : ((n1 : Int) != (n1 : Int)) = false := by simp
      go_enter Try.func29, Try.ntmps29
      go_wp2
      go_loopw [5] (fun i wr => ∃ k m : Nat, k ≤ n1 ∧ i = .int .i64 k ∧ xs.take k = ys.take k ∧ wr = w.drewN m) (fun i _ => n1 - (intOf i).toNat)
      case atStart => exact ⟨0, 0, Nat.zero_le _, rfl, rfl, rfl⟩
      case round =>
        obtain ⟨k, m, hk, rfl, htk, rfl⟩ := hrel
        have HT := Lib.hid htk
        clear htk
        by_cases hlt : k < n1
        · have a1 := K1.out k _ (ints_at (by rw [L1.out]; exact hlt))
          have a2 := K2.out k _ (ints_at (by rw [L2.out]; exact hlt))
          obtain ⟨x, hx⟩ : ∃ x, xs.getD k 0 = x := ⟨_, rfl⟩
          obtain ⟨y, hy⟩ : ∃ y, ys.getD k 0 = y := ⟨_, rfl⟩
          rw [hx] at a1
          rw [hy] at a2
          have HX := Lib.hid hx
          have HY := Lib.hid hy
          clear hx hy
          by_cases he : x = y
          · have hb : (x != y) = false := by simp [he]
            have HE := Lib.hid he
            clear he
            go_wp2
            go_quiet (fail)
            go_wp2
            go_roundw
            case rel => exact ⟨k + 1, _, by omega, by go_num, take_eq_step HT.out (by rw [L1.out]; exact hlt) (by rw [L2.out]; exact hlt) (by rw [HX.out, HY.out, HE.out]), rfl⟩
            case measure => simp [intOf]; omega
          · have hb : (x != y) = true := by simp [he]
            have HE := Lib.hid he
            clear he
            go_wp2
            go_quiet (fail)
            go_wp2
            go_ret
            exact ⟨ret_bool (decide_eq_false (ne_of_at (by rw [HX.out, HY.out]; exact HE.out))).symm, by first | exact ⟨_, rfl⟩ | exact dn2 _ _ _⟩
        · obtain rfl : k = n1 := by omega
          go_wp2
          go_ret
          exact ⟨ret_bool (decide_eq_true (by rw [← List.take_of_length_le (l := xs) (Nat.le_of_eq L1.out), HT.out, List.take_of_length_le (Nat.le_of_eq L2.out)])).symm, _, rfl⟩
  · have hb : ((n1 : Int) != (n2 : Int)) = true := by rw [bne_iff_ne]; omega
    obtain ⟨p1, c1, rfl⟩ := h1.len
    obtain ⟨p2, c2, rfl⟩ := h2.len
    have hne : xs ≠ ys := fun h => hn (by rw [← l1, ← l2, h])
    have HN := Lib.hid hne
    clear hne l1 l2 h1 h2 hn
    go_enter Try.func29, Try.ntmps29
    go_wp2
    go_ret
    exact ⟨ret_bool (decide_eq_false HN.out).symm, 0, rfl⟩

end Go.Proofs.Ytopombnehmfmcaa

/-
  Machines of a few states, and walks that go as such a machine goes.
-/
namespace Go.Proofs.Ytopombnehmfmcaa
set_option maxRecDepth 100000
set_option linter.unusedSimpArgs false
set_option linter.unusedVariables false
open Go.ChangeShapes Go.WideShapes Go.ChangeAt Go.RowKit

/-- A result: a code, a number, a list. -/
structure Rs where
  code : Int
  v : Int
  l : List Int
@[reducible] def Rs.zero : Rs := ⟨0, 0, []⟩
end Go.Proofs.Ytopombnehmfmcaa

/-
  Walks of their own blocks: how a step goes on, or ends.
-/
namespace Go.Proofs.Ytopombnehmfmcaa
set_option maxRecDepth 100000
set_option linter.unusedSimpArgs false
set_option linter.unusedVariables false
open Go.ChangeShapes Go.WideShapes Go.ChangeAt Go.RowKit

end Go.Proofs.Ytopombnehmfmcaa

/-
  Walks of their own blocks, whose tasks may change: how a step goes on, or ends.
-/
namespace Go.Proofs.Ytopombnehmfmcaa
set_option maxRecDepth 100000
set_option linter.unusedSimpArgs false
set_option linter.unusedVariables false
open Go.ChangeShapes Go.WideShapes Go.ChangeAt Go.RowKit

end Go.Proofs.Ytopombnehmfmcaa
