/-
  Contracts: slices.Clone and slices.Equal at words.
-/
import Derived.Test.YtcimaamccdedcaaRows
import Derived.Test.YtcimaamccdedcaaKeep
import Derived.LoopTactic
import Derived.OwnWalk
import Derived.WalkSpells
namespace Go.Proofs.Ytcimaamccdedcaa
open Go.ChangeShapes Go.WideShapes Go.ChangeAt Go.RowKit

theorem add_plain (b o : Nat) (i : Nat) : (⟨b, o, none⟩ : Addr).add i = ⟨b, o + i, none⟩ := by
  unfold Addr.add; split
  · subst_vars; rfl
  · rfl
theorem Keeps.of_grown {w w' : World} {row : Option Nat} (hg : w.grownBy w' row) (hr : ∀ k, row = some k → w.heap.size ≤ k) : Keeps [] w w' :=
  (Keeps.refl [] w).grown hg (fun k hk hl => by have := hr k hk; omega)
theorem empty_row (w : World) (e : TypeId) (size : Nat) : (w.alloc (.cells #[] e)).ownsRow w.heap.size e size (.slice (some ⟨w.heap.size, 0, none⟩) 0 0) 0 [] := owns_empty w e size

/-- Behind an append to a slice that isn't nil. -/
theorem owns_at {w : World} {base size n : Nat} {e : TypeId} {v : Value} {xs : List Value} (h : w.ownsRow base e size v n xs) (hn : v ≠ .slice none 0 0) : ∃ g cap, v = .slice (some ⟨g, 0, none⟩) n cap ∧ base ≤ g := by
  rcases h.2 with ⟨h1, _⟩ | ⟨g, cap, cur, h1, hb, _⟩
  · exact absurd h1 hn
  · exact ⟨g, cap, h1, hb⟩

theorem elemU64 : Elem Try.prog 30 (.int .u64 0) 1 8 := ⟨by kernel_rfl, rfl, by decide, by decide⟩
set_option maxHeartbeats 400000 in
theorem cloneWords_any (v : Value) (n : Nat) (us : List Int) (w : World) (h : Sl w 1 v n (ints .u64 us)) (h0 : 0 < n) (hn : n ≤ 1000000) :
    Calls Try.prog 18 #[v] w fun e w' => ∃ g cap, e = .returned (.slice (some ⟨g, 0, none⟩) n cap) ∧ w'.ownsRow w.heap.size 30 1 (.slice (some ⟨g, 0, none⟩) n cap) n (ints .u64 us) ∧ Keeps [] w w' ∧ w.heap.size ≤ g := by
  obtain ⟨b, o, c, rfl, hb, hc⟩ := h.some h0
  obtain ⟨i0, hi, hz, hsz, hby⟩ := elemU64.parts
  have hl := h.ints_len
  have HC : Hid (∀ j u, (ints .u64 us)[j]? = some u → (w.alloc (.cells #[] 30)).cell? ((⟨b, o, none⟩ : Addr).add j) = some u) := Lib.hid fun j u hu => by
    rw [add_plain, World.cell?_alloc_past _ _ _ hb]; exact hc j u hu
  have HL := Lib.hid hl
  clear h hc hl
  have hnil : ∀ (w : World) a l c, (binOp .eql 29 (.slice a l c) (.slice none 0 0)).run Try.prog w = .ok (.bool a.isNone) w := fun w a l c => Lib.run_eql_slice_nil w 29 30 a l c 0 0 Try.underlying29
  go_enter Try.func18, Try.ntmps18
  go_wp2_with (at_builtin; go_loud (refine wpList_append_own _ rfl _ _ 29 rfl w.heap.size 30 i0 (.int .u64 0) 1 8 Try.underlying29 hi hz hsz hby rfl (by decide) _ _ _ rfl (owns_empty w 30 1) ⟨b, o, none⟩ n c (ints .u64 us) rfl ?c1 HC.out (ints_oneCell .u64 us) ?c2 ?c3 ?c4 ?_))
  case c1 => rw [ints_length, HL.out]; omega
  case c2 => unfold maxLen; omega
  case c3 => omega
  case c4 => simp
  intro v' w1 hown hgrow hne
  try simp only [Nat.zero_add, List.nil_append] at hown
  have hnn : v' ≠ .slice none 0 0 := by simpa using hne
  obtain ⟨g, cap, rfl, hg⟩ := owns_at hown hnn
  clear hne hnn
  have hK : Keeps [] w w1 := ((Keeps.refl [] w).alloc _).grown hgrow (fun k hk hl => by simp [Value.ownBlock] at hk; omega)
  have HO := Lib.hid hown
  clear hown hgrow
  go_wp2
  go_ret
  exact ⟨g, cap, rfl, HO.out, hK, hg⟩

set_option maxHeartbeats 400000 in
theorem equalWords_any (v1 v2 : Value) (n1 n2 : Nat) (xs ys : List Int) (w : World) (m1 : n1 ≤ maxLen) (m2 : n2 ≤ maxLen) (h1 : Sl w 1 v1 n1 (ints .u64 xs)) (h2 : Sl w 1 v2 n2 (ints .u64 ys)) :
    Calls Try.prog 19 #[v1, v2] w fun e w' => e = .returned (.bool (decide (xs = ys))) ∧ ∃ m, w.drewN m = w' := by
  have l1 := h1.ints_len
  have l2 := h2.ints_len
  unfold maxLen at m1 m2
  by_cases hn : n1 = n2
  · subst hn
    by_cases h0 : n1 = 0
    · subst h0
      obtain ⟨p1, c1, rfl⟩ := h1.len
      obtain ⟨p2, c2, rfl⟩ := h2.len
      have hx : xs = ys := by rw [List.eq_nil_of_length_eq_zero l1, List.eq_nil_of_length_eq_zero l2]
      have HX := Lib.hid hx
      clear hx l1 l2 h1 h2
      go_enter Try.func19, Try.ntmps19
      go_wp2
      refine wp_loop_rounds 1 ?_
      rw [rounds_succ]
      go_wp2
      go_ret
      exact ⟨ret_bool (decide_eq_true HX.out).symm, 0, rfl⟩
    · obtain ⟨b1, o1, c1, rfl, z1, k1⟩ := h1.some (by omega)
      obtain ⟨b2, o2, c2, rfl, z2, k2⟩ := h2.some (by omega)
      have K1 := Lib.hid k1
      have K2 := Lib.hid k2
      have L1 := Lib.hid l1
      have L2 := Lib.hid l2
      clear h1 h2 l1 l2 k1 k2
      have hnn : ((n1 : Int) != (n1 : Int)) = false := by simp
      go_enter Try.func19, Try.ntmps19
      go_wp2
      go_loopw [13] (fun i wr => ∃ k m : Nat, k ≤ n1 ∧ i = .int .i64 k ∧ xs.take k = ys.take k ∧ wr = w.drewN m) (fun i _ => n1 - (intOf i).toNat)
      case atStart => exact ⟨0, 0, Nat.zero_le _, rfl, rfl, rfl⟩
      case round =>
        obtain ⟨k, m, hk, rfl, htk, rfl⟩ := hrel
        have HT := Lib.hid htk
        clear htk
        by_cases hlt : k < n1
        · have a1 := K1.out k _ (ints_at (by rw [L1.out]; exact hlt))
          have a2 := K2.out k _ (ints_at (by rw [L2.out]; exact hlt))
          obtain ⟨x, hx⟩ : ∃ x, xs.getD k 0 = x := ⟨_, rfl⟩
          obtain ⟨y, hy⟩ : ∃ y, ys.getD k 0 = y := ⟨_, rfl⟩
          rw [hx] at a1
          rw [hy] at a2
          have HX := Lib.hid hx
          have HY := Lib.hid hy
          clear hx hy
          by_cases he : x = y
          · have hb : (x != y) = false := by simp [he]
            have HE := Lib.hid he
            clear he
            go_wp2
            go_quiet (fail)
            go_wp2
            go_roundw
            case rel => exact ⟨k + 1, _, by omega, by go_num, take_eq_step HT.out (by rw [L1.out]; exact hlt) (by rw [L2.out]; exact hlt) (by rw [HX.out, HY.out, HE.out]), rfl⟩
            case measure => simp [intOf]; omega
          · have hb : (x != y) = true := by simp [he]
            have HE := Lib.hid he
            clear he
            go_wp2
            go_quiet (fail)
            go_wp2
            go_ret
            exact ⟨ret_bool (decide_eq_false (ne_of_at (by rw [HX.out, HY.out]; exact HE.out))).symm, by first | exact ⟨_, rfl⟩ | exact dn2 _ _ _⟩
        · obtain rfl : k = n1 := by omega
          go_wp2
          go_ret
          exact ⟨ret_bool (decide_eq_true (by rw [← List.take_of_length_le (l := xs) (Nat.le_of_eq L1.out), HT.out, List.take_of_length_le (Nat.le_of_eq L2.out)])).symm, _, rfl⟩
  · have hb : ((n1 : Int) != (n2 : Int)) = true := by rw [bne_iff_ne]; omega
    obtain ⟨p1, c1, rfl⟩ := h1.len
    obtain ⟨p2, c2, rfl⟩ := h2.len
    have hne : xs ≠ ys := fun h => hn (by rw [← l1, ← l2, h])
    have HN := Lib.hid hne
    clear hne l1 l2 h1 h2 hn
    go_enter Try.func19, Try.ntmps19
    go_wp2
    go_ret
    exact ⟨ret_bool (decide_eq_false HN.out).symm, 0, rfl⟩
end Go.Proofs.Ytcimaamccdedcaa
