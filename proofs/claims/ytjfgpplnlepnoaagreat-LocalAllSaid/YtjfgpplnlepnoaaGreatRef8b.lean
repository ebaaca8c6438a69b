import Derived.Test.YtjfgpplnlepnoaaGreatRgB
import Derived.Test.YtjfgpplnlepnoaaGreatFresh
import Derived.IntWalk
/-
  Contracts: what the document says is in a ring.
-/
namespace Go.Proofs.YtjfgpplnlepnoaaGreat
set_option maxRecDepth 100000
set_option linter.unusedSimpArgs false
set_option linter.unusedVariables false
open Go.ChangeShapes Go.WideShapes Go.ChangeAt Go.RowKit

/-- What the document's All tells. -/
def rTold8 (w w' : World) (e : Ending) (O : Option (List Int)) : Prop :=
  (O = none → e = .returned (.tuple #[.slice none 0 0, .bool false])) ∧ ∀ xs, O = some xs → ∃ l, e = .returned (.tuple #[l, .bool true]) ∧ w'.ownsRow w.heap.size 26 1 l xs.length (ints .u64 xs)
set_option maxHeartbeats 3200000 in
theorem rAll8_any (size : Nat) (b off cap : Nat) (us : List Int) (w : World) (hr : dqRight 0 size) (hl : us.length = size + 2) (hu : ∀ i : Nat, i < us.length → M.U (us.getD i 0)) (hb : b < w.heap.size)
    (hc : ∀ j : Nat, j < us.length → w.cell? ⟨b, off + j, none⟩ = some (.int .u64 (us.getD j 0))) :
    Calls Tryz.prog 62 #[.slice (some ⟨b, off, none⟩) (size + 2) cap] w fun e w' => Keeps [] w w' ∧ rTold8 w w' e (rgAllOf 0 size us) := by
  have hs : 2 ≤ size ∧ size ≤ 256 := by have := hr.1; omega
  obtain ⟨hh, ht⟩ : ∃ hh, us.getD 0 0 = hh := ⟨_, rfl⟩
  obtain ⟨bb, hbb⟩ : ∃ bb, us.getD 1 0 = bb := ⟨_, rfl⟩
  have htU : M.U hh := ht ▸ hu 0 (by omega)
  have hbU : M.U bb := hbb ▸ hu 1 (by omega)
  have hlt := rgLo_range hh
  have hlb := rgLo_range bb
  obtain ⟨n, hn⟩ : ∃ n, M.aheadI (rgLo bb) (rgLo hh) = n := ⟨_, rfl⟩
  have HA := fun W => refAhead_any (rgLo bb) (rgLo hh) W hlb.1 hlb.2 hlt.1 hlt.2
  rw [hn] at HA
  have HLh : Hid (∀ W, Calls Tryz.prog 117 #[.int .u64 hh] W fun e w' => e = .returned (.int .u32 (rgLo hh)) ∧ W = w') := Lib.hid (fun W => refLo_any hh W htU.nn)
  have HLb : Hid (∀ W, Calls Tryz.prog 117 #[.int .u64 bb] W fun e w' => e = .returned (.int .u32 (rgLo bb)) ∧ W = w') := Lib.hid (fun W => refLo_any bb W hbU.nn)
  have c0 := hc 0 (by omega)
  have c1 := hc 1 (by omega)
  rw [ht, Nat.add_zero] at c0
  rw [hbb] at c1
  obtain ⟨t, htt⟩ : ∃ t, rgLo hh = t := ⟨_, rfl⟩
  have HO : Hid (rgAllOf 0 size us = if n < 0 ∨ (size : Int) < n then none else some ((List.range n.toNat).map fun (i : Nat) => us.getD (dqSlot 0 size (rgAdd t (i : Int))).toNat 0)) := Lib.hid (by
    unfold rgAllOf
    have hn' : M.aheadI (rgLo bb) t = n := by rw [← htt]; exact hn
    simp only [show (0 : Int).toNat = 0 from rfl, show ((0 : Int) + 1).toNat = 1 from rfl, ht, hbb, htt, hn'])
  rw [htt] at HA HLh hlt
  obtain ⟨O, hO⟩ : ∃ O, rgAllOf 0 size us = O := ⟨_, rfl⟩
  rw [hO] at HO ⊢
  have HC := Lib.hid hc
  have HA := Lib.hid HA
  have HH0 := Lib.hid ht
  clear hc hO hbb ht htt hn
  have hL : ((size + 2 : Nat) : Int) - 2 = (size : Int) := by omega
  go_enter Tryz.func62, Tryz.ntmps62
  go_wp2_with fail
  refine (HLh.out w).mono ?_
  rintro e w1 ⟨rfl, rfl⟩
  go_wp2_with fail
  refine (HLb.out w).mono ?_
  rintro e w1 ⟨rfl, rfl⟩
  go_wp2_with fail
  refine (HA.out w).mono ?_
  rintro e w1 ⟨rfl, rfl⟩
  by_cases h1 : n < 0
  · have d1 : decide (n < 0) = true := decide_eq_true h1
    go_wp2
    go_ret2
    have hO := HO.out
    rw [if_pos (.inl h1)] at hO
    exact ⟨Keeps.refl _ _, fun _ => rfl, fun xs h => (by rw [hO] at h; cases h)⟩
  have d1 : decide (n < 0) = false := decide_eq_false h1
  by_cases h2 : (size : Int) < n
  · have d2 : decide ((size : Int) < n) = true := decide_eq_true h2
    go_wp2
    go_ret2
    have hO := HO.out
    rw [if_pos (.inr h2)] at hO
    exact ⟨Keeps.refl _ _, fun _ => rfl, fun xs h => (by rw [hO] at h; cases h)⟩
  have d2 : decide ((size : Int) < n) = false := decide_eq_false h2
  have hO := HO.out
  rw [if_neg (by omega)] at hO
  have HO2 := Lib.hid hO
  clear hO HO
  obtain ⟨W0, hW0⟩ : ∃ W0, w.alloc (.cells #[] 26) = W0 := ⟨_, rfl⟩
  have k0 : Keeps [] w W0 := by rw [← hW0]; exact (Keeps.refl _ _).alloc _
  have o0 : W0.ownsRow w.heap.size 26 1 (.slice (some ⟨w.heap.size, 0, none⟩) 0 0) 0 [] := by rw [← hW0]; exact owns_empty w 26 1
  have HK0 := Lib.hid k0
  have HO0 := Lib.hid o0
  clear k0 o0 c0 c1
  obtain ⟨N, hNN⟩ : ∃ N : Nat, n = N := ⟨n.toNat, by omega⟩
  have HNN := Lib.hid hNN
  have hf : ∀ i : Nat, i < N → (dqSlot 0 size (rgAdd t (i : Int))).toNat < us.length := fun i hi => by
    have := dqSlot_range (at_ := 0) (size := (size : Int)) (n := rgAdd t (i : Int)) (by omega)
    omega
  obtain ⟨f, hff⟩ : ∃ f : Nat → Int, (fun (i : Nat) => us.getD (dqSlot 0 size (rgAdd t (i : Int))).toNat 0) = f := ⟨_, rfl⟩
  have HO3 : Hid (O = some ((List.range N).map f)) := Lib.hid (by rw [← hff]; rw [hNN] at HO2; simpa using HO2.out)
  have HCe : Hid (∀ i : Nat, i < N → ∃ j : Nat, rgAdd t (i : Int) % (size : Int) = j ∧ j < size ∧ w.cell? ⟨b, off + (2 + j), none⟩ = some (.int .u64 (f i))) := Lib.hid (fun i hi => by
    have hr2 := dqSlot_range (at_ := 0) (size := (size : Int)) (n := rgAdd t (i : Int)) (by omega)
    have hq0 := Int.emod_nonneg (rgAdd t (i : Int)) (show (size : Int) ≠ 0 by omega)
    have hq1 := Int.emod_lt_of_pos (rgAdd t (i : Int)) (show (0 : Int) < size by omega)
    refine ⟨(rgAdd t (i : Int) % (size : Int)).toNat, by omega, by omega, ?_⟩
    rw [← hff]
    have := HC.out _ (hf i hi)
    have he : (dqSlot 0 size (rgAdd t (i : Int))).toNat = 2 + (rgAdd t (i : Int) % (size : Int)).toNat := by unfold dqSlot; omega
    rw [he] at this
    show w.cell? _ = some (.int .u64 (us.getD (dqSlot 0 size (rgAdd t (i : Int))).toNat 0))
    rw [he]
    exact this)
  have hNs : N ≤ 256 := by omega
  have hws : IntKind.u32.wrap (size : Int) = (size : Int) := by show (size : Int) % 4294967296 = size; omega
  clear hf hff HO2 hNN
  go_wp2
  clear hW0
  go_loopw [7, 8] (fun l i wr => ∃ k : Nat, k ≤ N ∧ i = .int .i64 (k : Int) ∧ Keeps [] w wr ∧ wr.ownsRow w.heap.size 26 1 l k (ints .u64 ((List.range k).map f))) (fun _ i _ => N - (intOf i).toNat)
  case atStart => exact ⟨0, Nat.zero_le _, rfl, HK0.out, HO0.out⟩
  case round =>
    obtain ⟨k, hk, rfl, hkr, hown⟩ := hrel
    have HKr := Lib.hid hkr
    have HOwn := Lib.hid hown
    have hzr : w.heap.size ≤ wr.heap.size := hkr.size
    clear hkr hown
    by_cases hlt : k < N
    · have hkn : (k : Int) < n := by have := HNN.out; omega
      obtain ⟨j, hj, hjl, hcj⟩ := HCe.out k hlt
      have hcj2 := (HKr.out.cell (p := ⟨b, off + (2 + j), none⟩) hb (by simp)).trans hcj
      obtain ⟨x, hx⟩ : ∃ x, rgAdd t (k : Int) = x := ⟨_, rfl⟩
      have hwu : IntKind.u32.wrap (t + (k : Int)) = x := hx
      have x0 : 0 ≤ x := hx ▸ (rgAdd_range _ _).1
      rw [hx] at hj
      have hwk : IntKind.u32.wrap (k : Int) = (k : Int) := by show (k : Int) % 4294967296 = k; omega
      have htm : x.tmod (size : Int) = (j : Int) := by rw [Int.tmod_eq_emod_of_nonneg x0]; exact hj
      clear hx hcj hj x0
      go_wp2_with (at_builtin; refine append_fresh rfl _ _ 46 rfl w.heap.size 26 _ 1 8 Tryz.underlying46 elemWdR _ _ _ rfl HOwn.out #[.int .u64 (f k)] rfl rfl (by simp [Value.oneCell']) ?c2 ?c3 ?_)
      case c2 => omega
      case c3 => exact hzr
      intro v' w9 own9 k9 f9 _
      have HP := Lib.hid (show Keeps [] w w9 ∧ w9.ownsRow w.heap.size 26 1 v' (k + 1) (ints .u64 ((List.range (k + 1)).map f)) from ⟨HKr.out.step k9 (fun x hx => (HOwn.out.lt x (by simpa using hx)).1), by simpa [List.range_succ, ints] using own9⟩)
      obtain ⟨pv, cv, rfl⟩ := (Sl.of_owns own9).len
      clear own9 k9 f9
      go_wp2
      go_roundw
      case rel => exact ⟨k + 1, by omega, by go_num, HP.out⟩
      case measure => simp [intOf]; omega
    · obtain rfl : k = N := by omega
      have hkn : ¬ (k : Int) < n := by have := HNN.out; omega
      go_wp2
      go_ret2
      exact ⟨HKr.out, fun h => (by rw [HO3.out] at h; cases h), fun xs h => by rw [HO3.out] at h; cases h; exact ⟨_, rfl, by simpa using HOwn.out⟩⟩
end Go.Proofs.YtjfgpplnlepnoaaGreat
