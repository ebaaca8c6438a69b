import Derived.Test.YtjfgpplnlepnoaaGreatDqM
import Derived.Test.YtjfgpplnlepnoaaGreatFresh
import Derived.Test.YtjfgpplnlepnoaaGreatLd
import Derived.IntWalk
import Derived.Test.YtjfgpplnlepnoaaGreatDqP
import Derived.Test.YtjfgpplnlepnoaaGreatDqA
/-
  Contracts: the document's answers of layer 7 that aren't a frame's: Right, Ahead, Slot, All.
-/
namespace Go.Proofs.YtjfgpplnlepnoaaGreat
set_option maxRecDepth 100000
set_option linter.unusedSimpArgs false
set_option linter.unusedVariables false
open Go.ChangeShapes Go.WideShapes Go.ChangeAt Go.RowKit

set_option maxHeartbeats 12800000 in
theorem rRight_any (at_ size : Int) (w : World) :
    Calls Tryz.prog 30 #[.int .i64 at_, .int .i64 size] w fun e w' => e = .returned (.bool (decide (dqRight at_ size))) ∧ w = w' := by
  by_cases hp : size = 2 ∨ size = 4 ∨ size = 8 ∨ size = 16 ∨ size = 32 ∨ size = 64 ∨ size = 128 ∨ size = 256
  · by_cases h1 : 0 ≤ at_
    · have d1 : decide (0 ≤ at_) = true := decide_eq_true h1
      by_cases h2 : at_ < 65536 - size - 1
      · have HD : Hid (decide (dqRight at_ size) = true) := Lib.hid (decide_eq_true ⟨hp, h1, h2⟩)
        rw [HD.out]
        rcases hp with rfl | rfl | rfl | rfl | rfl | rfl | rfl | rfl
        all_goals (
          have d2 := decide_eq_true h2
          simp only [Int.reduceSub] at d2 h2
          go_enter Tryz.func30, Tryz.ntmps30
          go_wp2
          refine wp_loop_rounds 9 ?_
          repeat (rw [rounds_succ]; go_wp2)
          go_ret
          exact ⟨rfl, rfl⟩)
      · have HD : Hid (decide (dqRight at_ size) = false) := Lib.hid (decide_eq_false fun h => h2 h.2.2)
        rw [HD.out]
        rcases hp with rfl | rfl | rfl | rfl | rfl | rfl | rfl | rfl
        all_goals (
          have d2 := decide_eq_false h2
          simp only [Int.reduceSub] at d2 h2
          go_enter Tryz.func30, Tryz.ntmps30
          go_wp2
          refine wp_loop_rounds 9 ?_
          repeat (rw [rounds_succ]; go_wp2)
          go_ret
          exact ⟨rfl, rfl⟩)
    · have d1 : decide (0 ≤ at_) = false := decide_eq_false h1
      have HD : Hid (decide (dqRight at_ size) = false) := Lib.hid (decide_eq_false fun h => h1 h.2.1)
      rw [HD.out]
      rcases hp with rfl | rfl | rfl | rfl | rfl | rfl | rfl | rfl
      all_goals (
        go_enter Tryz.func30, Tryz.ntmps30
        go_wp2
        refine wp_loop_rounds 9 ?_
        repeat (rw [rounds_succ]; go_wp2)
        go_ret
        exact ⟨rfl, rfl⟩)
  · have HD : Hid (decide (dqRight at_ size) = false) := Lib.hid (decide_eq_false fun h => hp h.1)
    rw [HD.out]
    simp only [not_or] at hp
    obtain ⟨p1, p2, p3, p4, p5, p6, p7, p8⟩ := hp
    have q1 : ((2 : Int) == size) = false := beq_eq_false_iff_ne.2 (Ne.symm p1)
    have q2 : ((4 : Int) == size) = false := beq_eq_false_iff_ne.2 (Ne.symm p2)
    have q3 : ((8 : Int) == size) = false := beq_eq_false_iff_ne.2 (Ne.symm p3)
    have q4 : ((16 : Int) == size) = false := beq_eq_false_iff_ne.2 (Ne.symm p4)
    have q5 : ((32 : Int) == size) = false := beq_eq_false_iff_ne.2 (Ne.symm p5)
    have q6 : ((64 : Int) == size) = false := beq_eq_false_iff_ne.2 (Ne.symm p6)
    have q7 : ((128 : Int) == size) = false := beq_eq_false_iff_ne.2 (Ne.symm p7)
    have q8 : ((256 : Int) == size) = false := beq_eq_false_iff_ne.2 (Ne.symm p8)
    go_enter Tryz.func30, Tryz.ntmps30
    go_wp2
    refine wp_loop_rounds 9 ?_
    repeat (rw [rounds_succ]; go_wp2)
    go_ret
    exact ⟨rfl, rfl⟩

theorem rAhead_any (b t : Int) (w : World) (hb : M.U b) (ht : M.U t) :
    Calls Tryz.prog 115 #[.int .u64 b, .int .u64 t] w fun e w' => e = .returned (.int .i64 (dqAhead b t)) ∧ w = w' := by
  have b0 := hb.nn
  have b1 := hb.lt
  have t0 := ht.nn
  have t1 := ht.lt
  have hw : IntKind.i64.wrap (IntKind.u64.wrap (b - t)) = dqAhead b t := by
    unfold dqAhead
    simp [IntKind.wrap, IntKind.signed, IntKind.bits]
    split <;> omega
  go_enter Tryz.func115, Tryz.ntmps115
  go_wp2
  go_ret
  exact ⟨rfl, rfl⟩
theorem rSlot_any (at_ size n : Int) (w : World) (hr : dqRight at_ size) (hn : M.U n) :
    Calls Tryz.prog 116 #[.int .i64 at_, .int .i64 size, .int .u64 n] w fun e w' => e = .returned (.int .i64 (dqSlot at_ size n)) ∧ w = w' := by
  obtain ⟨hs, a0, a1⟩ := hr
  have n0 := hn.nn
  have hs0 : 0 < size ∧ size ≤ 256 := by omega
  obtain ⟨q, hq⟩ : ∃ q, n % size = q := ⟨_, rfl⟩
  have q0 : 0 ≤ q := by rw [← hq]; exact Int.emod_nonneg n (by omega)
  have q1 : q < size := by rw [← hq]; exact Int.emod_lt_of_pos n (by omega)
  have HS : Hid (dqSlot at_ size n = at_ + 2 + q) := Lib.hid (by unfold dqSlot; rw [hq])
  rw [HS.out]
  have hw64 : IntKind.u64.wrap size = size := by show size % 18446744073709551616 = size; omega
  clear hs hn
  go_enter Tryz.func116, Tryz.ntmps116
  go_wp2
  go_ret
  exact ⟨rfl, rfl⟩

/-- What the document's All tells. -/
def rTold (w w' : World) (e : Ending) (O : Option (List Int)) : Prop :=
  (O = none → e = .returned (.tuple #[.slice none 0 0, .bool false])) ∧ ∀ xs, O = some xs → ∃ l, e = .returned (.tuple #[l, .bool true]) ∧ w'.ownsRow w.heap.size 26 1 l xs.length (ints .u64 xs)
set_option maxHeartbeats 3200000 in
theorem rAll_any (size : Nat) (b off cap : Nat) (us : List Int) (w : World) (hr : dqRight 0 size) (hl : us.length = size + 2) (hu : ∀ i : Nat, i < us.length → M.U (us.getD i 0)) (hb : b < w.heap.size)
    (hc : ∀ j : Nat, j < us.length → w.cell? ⟨b, off + j, none⟩ = some (.int .u64 (us.getD j 0))) :
    Calls Tryz.prog 61 #[.slice (some ⟨b, off, none⟩) (size + 2) cap] w fun e w' => Keeps [] w w' ∧ rTold w w' e (dqAllOf 0 size us) := by
  have hs : 2 ≤ size ∧ size ≤ 256 := by have := hr.1; omega
  obtain ⟨t, ht⟩ : ∃ t, us.getD 0 0 = t := ⟨_, rfl⟩
  obtain ⟨bb, hbb⟩ : ∃ bb, us.getD 1 0 = bb := ⟨_, rfl⟩
  have htU : M.U t := ht ▸ hu 0 (by omega)
  have hbU : M.U bb := hbb ▸ hu 1 (by omega)
  obtain ⟨n, hn⟩ : ∃ n, dqAhead bb t = n := ⟨_, rfl⟩
  have HA := fun W => rAhead_any bb t W hbU htU
  rw [hn] at HA
  have c0 := hc 0 (by omega)
  have c1 := hc 1 (by omega)
  rw [ht, Nat.add_zero] at c0
  rw [hbb] at c1
  have HO : Hid (dqAllOf 0 size us = if n < -1 ∨ (size : Int) < n then none else some ((List.range n.toNat).map fun (i : Nat) => us.getD (dqSlot 0 size ((t + (i : Int)) % 18446744073709551616)).toNat 0)) := Lib.hid (by
    unfold dqAllOf
    simp only [show (0 : Int).toNat = 0 from rfl, show ((0 : Int) + 1).toNat = 1 from rfl, ht, hbb, hn])
  obtain ⟨O, hO⟩ : ∃ O, dqAllOf 0 size us = O := ⟨_, rfl⟩
  rw [hO] at HO ⊢
  have HC := Lib.hid hc
  have HA := Lib.hid HA
  clear hc hO hbb
  have hL : ((size + 2 : Nat) : Int) - 2 = (size : Int) := by omega
  go_enter Tryz.func61, Tryz.ntmps61
  go_wp2
  go_quiet ((go_at_call 115; exact qs (HA.out _)))
  by_cases h1 : n < -1
  · have d1 : decide (n < -1) = true := decide_eq_true h1
    go_wp2
    go_ret2
    have hO := HO.out
    rw [if_pos (.inl h1)] at hO
    exact ⟨(Keeps.refl _ _).drewN, fun _ => rfl, fun xs h => (by rw [hO] at h; cases h)⟩
  have d1 : decide (n < -1) = false := decide_eq_false h1
  by_cases h2 : (size : Int) < n
  · have d2 : decide ((size : Int) < n) = true := decide_eq_true h2
    go_wp2
    go_ret2
    have hO := HO.out
    rw [if_pos (.inr h2)] at hO
    exact ⟨(Keeps.refl _ _).drewN, fun _ => rfl, fun xs h => (by rw [hO] at h; cases h)⟩
  have d2 : decide ((size : Int) < n) = false := decide_eq_false h2
  have hO := HO.out
  rw [if_neg (by omega)] at hO
  have HO2 := Lib.hid hO
  clear hO HO
  go_wp2
  obtain ⟨W0, hW0⟩ : ∃ W0, (w.drewN nq).alloc (.cells #[] 26) = W0 := ⟨_, rfl⟩
  have k0 : Keeps [] w W0 := by rw [← hW0]; exact ((Keeps.refl _ _).drewN).alloc _
  have o0 : W0.ownsRow w.heap.size 26 1 (.slice (some ⟨w.heap.size, 0, none⟩) 0 0) 0 [] := by rw [← hW0]; exact owns_empty (w.drewN nq) 26 1
  rw [hW0]
  have HK0 := Lib.hid k0
  have HO0 := Lib.hid o0
  clear k0 o0 hW0 c0 c1
  obtain ⟨N, hN, hNN⟩ : ∃ N : Nat, n.toNat = N ∧ (n = N ∨ n = -1 ∧ N = 0) := ⟨n.toNat, rfl, by omega⟩
  have hf : ∀ i : Nat, i < N → (dqSlot 0 size ((t + (i : Int)) % 18446744073709551616)).toNat < us.length := fun i hi => by
    have := dqSlot_range (at_ := 0) (size := (size : Int)) (n := (t + (i : Int)) % 18446744073709551616) (by omega)
    omega
  obtain ⟨f, hff⟩ : ∃ f : Nat → Int, (fun (i : Nat) => us.getD (dqSlot 0 size ((t + (i : Int)) % 18446744073709551616)).toNat 0) = f := ⟨_, rfl⟩
  have HO3 : Hid (O = some ((List.range N).map f)) := Lib.hid (by rw [← hff, ← hN]; exact HO2.out)
  have HSl := Lib.hid (fun i W => rSlot_any 0 size ((t + ((i : Nat) : Int)) % 18446744073709551616) W hr ⟨Int.emod_nonneg _ (by decide), Int.emod_lt_of_pos _ (by decide)⟩)
  have HCe : Hid (∀ i : Nat, i < N → ∃ j : Nat, dqSlot 0 size ((t + (i : Int)) % 18446744073709551616) = j ∧ j < size + 2 ∧ w.cell? ⟨b, off + j, none⟩ = some (.int .u64 (f i))) := Lib.hid (fun i hi => by
    have hr2 := dqSlot_range (at_ := 0) (size := (size : Int)) (n := (t + (i : Int)) % 18446744073709551616) (by omega)
    refine ⟨(dqSlot 0 size ((t + (i : Int)) % 18446744073709551616)).toNat, by omega, by omega, ?_⟩
    rw [← hff]
    exact HC.out _ (hf i hi))
  have hNs : N ≤ 256 := by omega
  have t0 := htU.nn
  have t1 := htU.lt
  clear hf hff HO2 hN
  have hcells : ∀ wr, Keeps [] w wr → wr.cell? ⟨b, off, none⟩ = some (.int .u64 t) := fun wr k => (k.cell (p := ⟨b, off, none⟩) hb (by simp)).trans (by have := HC.out 0 (by omega); rwa [Nat.add_zero, show us.getD 0 0 = t from by assumption] at this)
  go_loopw [6, 7] (fun l i wr => ∃ k : Nat, k ≤ N ∧ i = .int .i64 (k : Int) ∧ Keeps [] w wr ∧ wr.ownsRow w.heap.size 26 1 l k (ints .u64 ((List.range k).map f))) (fun _ i _ => N - (intOf i).toNat)
  case atStart => exact ⟨0, Nat.zero_le _, rfl, HK0.out, HO0.out⟩
  case round =>
    obtain ⟨k, hk, rfl, hkr, hown⟩ := hrel
    have hct := hcells wr hkr
    have HKr := Lib.hid hkr
    have HOwn := Lib.hid hown
    have hzr : w.heap.size ≤ wr.heap.size := hkr.size
    clear hkr hown
    by_cases hlt : k < N
    · have hkn : (k : Int) < n := by omega
      obtain ⟨j, hj, hjl, hcj⟩ := HCe.out k hlt
      have hcj2 := (HKr.out.cell (p := ⟨b, off + j, none⟩) hb (by simp)).trans hcj
      have hS := HSl.out k
      rw [hj] at hS
      have HS2 := Lib.hid hS
      have hwu : IntKind.u64.wrap (t + (k : Int)) = (t + (k : Int)) % 18446744073709551616 := rfl
      have hwk : IntKind.u64.wrap (k : Int) = (k : Int) := by show (k : Int) % 18446744073709551616 = k; omega
      clear hS hcj hj
      go_wp2_with fail
      refine (HS2.out _).mono ?_
      rintro e w7 ⟨rfl, rfl⟩
      go_wp2_with (at_builtin; refine append_fresh rfl _ _ 46 rfl w.heap.size 26 _ 1 8 Tryz.underlying46 elemWdA _ _ _ rfl HOwn.out #[.int .u64 (f k)] rfl rfl (by simp [Value.oneCell']) ?c2 ?c3 ?_)
      case c2 => omega
      case c3 => exact hzr
      intro v' w9 own9 k9 f9 _
      have HP := Lib.hid (show Keeps [] w w9 ∧ w9.ownsRow w.heap.size 26 1 v' (k + 1) (ints .u64 ((List.range (k + 1)).map f)) from ⟨HKr.out.step k9 (fun x hx => (HOwn.out.lt x (by simpa using hx)).1), by simpa [List.range_succ, ints] using own9⟩)
      obtain ⟨pv, cv, rfl⟩ := (Sl.of_owns own9).len
      clear own9 k9 f9
      go_wp2
      go_roundw
      case rel => exact ⟨k + 1, by omega, by go_num, HP.out⟩
      case measure => simp [intOf]; omega
    · obtain rfl : k = N := by omega
      have hkn : ¬ (k : Int) < n := by omega
      go_wp2
      go_ret2
      exact ⟨HKr.out, fun h => (by rw [HO3.out] at h; cases h), fun xs h => by rw [HO3.out] at h; cases h; exact ⟨_, rfl, by simpa using HOwn.out⟩⟩
end Go.Proofs.YtjfgpplnlepnoaaGreat
