/-
  Contracts: First and Bits of package word, the reference's Bits, and math/bits' two functions behind them.
-/
import Derived.Test.YtamcfobgmpgbeaaDoorWord
import Derived.Test.YtamcfobgmpgbeaaDoorKeep
import Derived.LoopTactic
import Derived.OwnWalk
namespace Go.Proofs.YtamcfobgmpgbeaaDoor
set_option maxRecDepth 100000
set_option linter.unusedSimpArgs false
set_option linter.unusedVariables false
open Go.ChangeShapes Go.WideShapes Go.ChangeAt Go.RowKit

theorem ones_count (u : Int) (w : World) (u0 : 0 ≤ u) (hu : M.U u) :
    Calls Tryd.prog 50 #[.int .u64 u] w fun e w' => ∃ n : Nat, n ≤ 127 ∧ e = .returned (.int .i64 (n : Int)) ∧ w = w' := by
  go_enter Tryd.func50, Tryd.ntmps50
  go_wp2
  go_ret
  exact M.and127_post _ _

/-- math/bits' table lies where its variable stands. -/

theorem tz64_core (u : Int) (i k : Nat) (w : World) (hb : (u == 0) = false)
    (hi : IntKind.u64.wrap (bits BinOp.and IntKind.u64 u (IntKind.u64.wrap (-u)) * 285870213051353865) / 288230376151711744 = (i : Int)) (hi64 : i < 64) (hk : k < 64)
    (hc : w.cell? ⟨0, i, none⟩ = some (.int .u8 (k : Int))) :
    Calls Tryd.prog 51 #[.int .u64 u] w fun e w' => e = .returned (.int .i64 (k : Int)) ∧ w = w' := by
  go_enter Tryd.func51, Tryd.ntmps51
  go_wp2
  go_ret
  exact ⟨rfl, rfl⟩

theorem tz64 (u : Int) (w : World) (u0 : 0 ≤ u) (hu : M.U u) (hn : u ≠ 0) (hT : TabThere w) :
    Calls Tryd.prog 51 #[.int .u64 u] w fun e w' => e = .returned (.int .i64 ((Lib.ctz 64 u.toNat : Nat) : Int)) ∧ w = w' := by
  obtain ⟨hlow, hk⟩ := Lib.lowest_bit 64 u.toNat (by omega) hu.nat
  obtain ⟨hi, htab⟩ := Lib.deBruijn64_at _ hk
  have hcell := hT _ hi
  rw [htab] at hcell
  refine tz64_core u _ _ w (by simpa using hn) ?_ hi hk hcell
  rw [← hlow]
  exact M.tz64_key u hu (by omega)

theorem first_any (u : Int) (w : World) (u0 : 0 ≤ u) (hu : M.U u) (hn : u ≠ 0) (hT : TabThere w) :
    Calls Tryd.prog 63 #[.int .u64 u] w fun e w' => e = .returned (.tuple #[.int .i64 ((Lib.ctz 64 u.toNat : Nat) : Int), .bool true]) ∧ ∃ m, w.drewN m = w' := by
  have hb : (u == 0) = false := by simpa using hn
  go_enter Tryd.func63, Tryd.ntmps63
  go_wp2_with (go_at_call 51; refine (tz64 _ _ u0 hu hn hT).mono ?_; rintro e w' ⟨rfl, rfl⟩)
  try (go_quiet ((go_at_call 51; exact qs (tz64 _ _ u0 hu hn hT))))
  try go_wp2
  go_ret2
  exact ⟨rfl, by first | exact ⟨_, rfl⟩ | exact ⟨0, rfl⟩⟩

theorem first_zero (w : World) :
    Calls Tryd.prog 63 #[.int .u64 0] w fun e w' => e = .returned (.tuple #[.int .i64 0, .bool false]) ∧ w = w' := by
  go_enter Tryd.func63, Tryd.ntmps63
  go_wp2
  go_ret2
  exact ⟨rfl, rfl⟩

theorem TabThere.below {w w' : World} {B : Nat} (h : TabThere w) (hb : Below B w w') (hB : 0 < B) : TabThere w' := fun j hj =>
  (hb.cell (p := ⟨0, j, none⟩) hB).trans (h j hj)

/-- Places, as ints. -/
def placesI (l : List Nat) : List Int := l.map (fun i : Nat => (i : Int))

theorem placesI_snoc (ps : List Nat) (c : Nat) : ints .i64 (placesI (ps ++ [c])) = ints .i64 (placesI ps) ++ [.int .i64 (c : Int)] := by simp [ints, placesI]

theorem elemInt : Elem Tryd.prog 3 (.int .i64 0) 1 8 := ⟨by kernel_rfl, rfl, by decide, by decide⟩

set_option maxHeartbeats 400000 in
theorem bits_any (u : Int) (w : World) (u0 : 0 ≤ u) (hu : M.U u) (hT : TabThere w) (hB : 0 < w.heap.size) :
    Calls Tryd.prog 27 #[.int .u64 u] w fun e w' => ∃ v, e = .returned v ∧ Sl w' 1 v (M.places u.toNat).length (ints .i64 (placesI (M.places u.toNat))) ∧ Below w.heap.size w w' := by
  go_enter Tryd.func27, Tryd.ntmps27
  go_wp2_with fail
  refine (ones_count u _ u0 hu).mono ?_
  rintro e w' ⟨n, hn, rfl, rfl⟩
  obtain ⟨w1, hrun, hown, hbel, hsz⟩ := make_empty w 31 3 _ 1 8 Tryd.underlying31 elemInt .i64 .i64 n (by omega)
  go_wp2
  go_loopw [0, 3] (fun x v wr => ∃ (u' : Nat) (ps : List Nat), u' < 2 ^ 64 ∧ x = .int .u64 (u' : Int) ∧ M.places u.toNat = ps ++ M.places u' ∧ wr.ownsRow w.heap.size 3 1 v ps.length (ints .i64 (placesI ps)) ∧ Below w.heap.size w wr ∧ w.heap.size ≤ wr.heap.size) (fun x _ _ => (intOf x).toNat)
  case atStart => exact ⟨u.toNat, [], hu.nat, by rw [Int.toNat_of_nonneg u0], by simp, hown, hbel, Nat.le_of_lt hsz⟩
  case round =>
    obtain ⟨u', ps, hu', rfl, hps, hown', hbel', hsz'⟩ := hrel
    have U' := M.U.of u' hu'
    have hT' := hT.below hbel' hB
    have HPS := Lib.hid hps
    clear hps hrun hown hbel hsz
    by_cases h0 : u' = 0
    · subst h0
      go_wp2
      go_ret
      refine ⟨_, rfl, ?_, hbel'⟩
      rw [HPS.out, M.places_zero, List.append_nil]
      exact Sl.of_owns hown'
    · have hne : ((u' : Int) != 0) = true := by rw [bne_iff_ne]; omega
      have hlt := M.drop_lt u' h0 hu'
      have hcons := M.places_cons u' h0 hu'
      have hand := M.and_less u' h0 hu'
      have hlen := M.len_room HPS.out hcons
      obtain ⟨c, hc⟩ : ∃ c, Lib.ctz 64 u' = c := ⟨_, rfl⟩
      obtain ⟨u2, h2⟩ : ∃ u2, u' &&& (u' - 1) = u2 := ⟨_, rfl⟩
      rw [hc, h2] at hcons
      rw [h2] at hlt hand
      have HCons := Lib.hid hcons
      have HC := Lib.hid hc
      clear hcons hc h2
      have hu2 : u2 < 2 ^ 64 := Nat.lt_trans hlt hu'
      have u1 : (1 : Int) ≤ u' := by omega
      go_wp2_with (first | (go_at_call 51; refine (tz64 _ _ (by omega) U' (by omega) hT').mono ?_; rw [Int.toNat_natCast, HC.out]; rintro e w' ⟨rfl, rfl⟩) | (at_builtin; refine append_one rfl _ _ 31 rfl w.heap.size 3 _ 1 8 Tryd.underlying31 elemInt _ _ _ rfl hown' #[.int .i64 (c : Int)] rfl rfl (by simp [Value.oneCell']) (by omega) hsz' ?_; intro v' w2 hown3 hbel3))
      go_roundw
      case rel => exact ⟨u2, ps ++ [c], hu2, rfl, by rw [HPS.out, HCons.out]; simp, by rw [List.length_append, placesI_snoc]; exact hown3, hbel'.trans hbel3, Nat.le_trans hsz' hbel3.size⟩
      case measure => simp [intOf]; omega

end Go.Proofs.YtamcfobgmpgbeaaDoor
