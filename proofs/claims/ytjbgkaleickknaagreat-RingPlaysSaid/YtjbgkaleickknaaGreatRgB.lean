import Derived.Test.YtjbgkaleickknaaGreatRgS
import Derived.Test.YtjbgkaleickknaaGreatLd
import Derived.Test.YtjbgkaleickknaaGreatMem3
import Derived.IntWalk
/-
  Contracts: what is in a ring.
-/
namespace Go.Proofs.YtjbgkaleickknaaGreat
set_option maxRecDepth 100000
set_option linter.unusedSimpArgs false
set_option linter.unusedVariables false
open Go.ChangeShapes Go.WideShapes Go.ChangeAt Go.RowKit

theorem rgWord_any (m b : Nat) (us : List Int) (i : Nat) (w : World) (h : Mem w m b us) (hi : i < us.length) :
    Calls Tryz.prog 29 #[.pointer (some ⟨m, 0, none⟩), .int .i64 (i : Int)] w fun e w' => e = .returned (.int .u64 (us.getD i 0)) ∧ Keeps [] w w' := by
  have HD := do_load m b us i w h hi
  obtain ⟨v, hv⟩ : ∃ v, us.getD i 0 = v := ⟨_, rfl⟩
  rw [hv] at HD ⊢
  have HD := Lib.hid HD
  clear h hv
  go_enter Tryz.func29, Tryz.ntmps29
  go_wp2_with fail
  refine HD.out.mono ?_
  rintro e w1 ⟨rfl, k1⟩
  go_wp2
  go_ret
  exact ⟨rfl, k1⟩

/-- Why nothing can be read of a deque, if so. -/
def rgRefused (len at_ size : Int) : Int := if ¬ dqRight at_ size then 2 else if len ≤ at_ + size + 1 then 3 else 0
theorem rgRefused_nil (at_ size : Int) (w : World) :
    Calls Tryz.prog 27 #[.agg #[.int .i64 at_, .int .i64 size], .pointer none] w fun e w' => e = .returned (.int .i64 1) ∧ Keeps [] w w' := by
  go_enter Tryz.func27, Tryz.ntmps27
  go_wp2_with fail
  go_ret
  exact ⟨rfl, (Keeps.refl _ _).alloc _⟩
theorem rgRefused_any (at_ size : Int) (m b : Nat) (us : List Int) (w : World) (h : Mem w m b us) (hs : -9223372036854775808 ≤ size) :
    Calls Tryz.prog 27 #[.agg #[.int .i64 at_, .int .i64 size], .pointer (some ⟨m, 0, none⟩)] w fun e w' => e = .returned (.int .i64 (rgRefused us.length at_ size)) ∧ Keeps [] w w' := by
  have HR := Lib.hid (fun W => rgRight_any at_ size W hs)
  have HL := Lib.hid (fun W h => len_any m b us W h)
  have hlen := h.len
  obtain ⟨n, hn⟩ : ∃ n : Int, (us.length : Int) = n := ⟨_, rfl⟩
  have n0 : 0 ≤ n := by omega
  have n1 : n ≤ 65536 := by omega
  rw [hn] at HL
  obtain ⟨W1, hW1⟩ : ∃ W1, w.alloc (.cells #[.int .i64 at_, .int .i64 size] 33) = W1 := ⟨_, rfl⟩
  have hb : Box W1 w.heap.size #[.int .i64 at_, .int .i64 size] := by rw [← hW1]; exact Box.new _ _ _
  have k1 : Keeps [] w W1 := by rw [← hW1]; exact (Keeps.refl _ _).alloc _
  have c0 := hb.cells 0
  have c1 := hb.cells 1
  have HB := Lib.hid hb
  have HM := Lib.hid (h.keeps k1 (by simp) (by simp))
  have HK := Lib.hid k1
  by_cases hr : dqRight at_ size
  · obtain ⟨hp, a0, a1⟩ := hr
    have z0 : 2 ≤ size ∧ size ≤ 256 := by omega
    obtain ⟨z0, z1⟩ := z0
    rw [decide_eq_true (show dqRight at_ size from ⟨hp, a0, a1⟩)] at HR
    have HLC := Lib.hid (fun W => rgLastCell_any at_ size W ⟨hp, a0, a1⟩)
    have a2 : at_ < 65536 := by omega
    have s1 : IntKind.i64.wrap (at_ + size) = at_ + size := IntWalk.i64_in _ (by omega)
    have s2 : IntKind.i64.wrap (at_ + size + 1) = at_ + size + 1 := IntWalk.i64_in _ (by omega)
    obtain ⟨cd, dd, hcd, hdd⟩ : ∃ (cd : Int) (dd : Bool), rgRefused us.length at_ size = cd ∧ decide (n ≤ at_ + size + 1) = dd := ⟨_, _, rfl, rfl⟩
    have hcc : Hid (dd = true ∧ cd = 3 ∨ dd = false ∧ cd = 0) := Lib.hid (by
      rw [← hcd, ← hdd, hn]
      unfold rgRefused
      rw [if_neg (by simp; exact ⟨hp, a0, a1⟩)]
      by_cases hl : n ≤ at_ + size + 1
      · left; rw [if_pos hl]; exact ⟨decide_eq_true hl, rfl⟩
      · right; rw [if_neg hl]; exact ⟨decide_eq_false hl, rfl⟩)
    rw [hcd]
    clear hb k1 h hp hcd
    rcases hcc.out with ⟨rfl, rfl⟩ | ⟨rfl, rfl⟩
    all_goals (
      go_enter Tryz.func27, Tryz.ntmps27
      go_wp2_with fail
      refine (HR.out W1).mono ?_
      rintro e w2 ⟨rfl, k2⟩
      have hk2 : Keeps [] W1 w2 := k2
      have b2 := HB.out.keeps k2 (by simp)
      have e0 := b2.cells 0
      have e1 := b2.cells 1
      have HM2 := Lib.hid (HM.out.keeps k2 (by simp) (by simp))
      clear k2 b2
      go_wp2_with fail
      go_region_held3 (fun w' => w'.cell? ⟨w.heap.size, 0, none⟩ = some (.int .i64 at_) ∧ w'.cell? ⟨w.heap.size, 1, none⟩ = some (.int .i64 size))
        (first
          | exact ⟨(HB.out.keeps hk4 (by simp)).cells 0, (HB.out.keeps hk4 (by simp)).cells 1⟩
          | exact ⟨(HB.out.keeps hk3 (by simp)).cells 0, (HB.out.keeps hk3 (by simp)).cells 1⟩
          | exact ⟨by assumption, by assumption⟩
          | fail)
        (first
          | (have _ := hk3; go_at_call 56; refine (HLC.out _).mono ?_; rintro e2 w4 ⟨rfl, k⟩; have hk4 : Keeps [] W1 w4 := hk3.trans k; clear k)
          | (go_at_call 55; refine (HL.out _ (HM2.out.keeps (Keeps.refl [] _).drew (by simp) (by simp))).mono ?_; rintro e2 w3 ⟨rfl, k⟩; have hk3 : Keeps [] W1 w3 := by (first | (subst k; exact hk2.drew) | exact hk2.trans k.undrew))
          | fail)
      all_goals go_wp2
      all_goals go_ret
      all_goals exact ⟨rfl, HK.out.trans hk4⟩)
  · rw [decide_eq_false hr] at HR
    have HD : Hid (rgRefused us.length at_ size = 2) := Lib.hid (by unfold rgRefused; rw [if_pos hr])
    rw [HD.out]
    clear hb k1 h hr
    go_enter Tryz.func27, Tryz.ntmps27
    go_wp2_with fail
    refine (HR.out W1).mono ?_
    rintro e w2 ⟨rfl, k2⟩
    have HK2 := Lib.hid (HK.out.trans k2)
    clear k2
    go_wp2
    go_ret
    exact ⟨rfl, HK2.out⟩

/-- What is in the deque of these words. -/
def rgAllOf (at_ size : Int) (us : List Int) : Option (List Int) :=
  let t := rgLo (us.getD at_.toNat 0)
  let n := M.aheadI (rgLo (us.getD (at_ + 1).toNat 0)) t
  if n < 0 ∨ size < n then none else some ((List.range n.toNat).map fun (i : Nat) => us.getD (dqSlot at_ size (rgAdd t (i : Int))).toNat 0)
theorem rgAll_nil (at_ size : Int) (w : World) :
    Calls Tryz.prog 16 #[.agg #[.int .i64 at_, .int .i64 size], .pointer none] w fun e w' => e = .returned (.tuple #[.slice none 0 0, .int .i64 1]) ∧ Keeps [] w w' := by
  have HR := Lib.hid (fun W => rgRefused_nil at_ size W)
  obtain ⟨W1, hW1⟩ : ∃ W1, w.alloc (.cells #[.int .i64 at_, .int .i64 size] 33) = W1 := ⟨_, rfl⟩
  have hb : Box W1 w.heap.size #[.int .i64 at_, .int .i64 size] := by rw [← hW1]; exact Box.new _ _ _
  have k1 : Keeps [] w W1 := by rw [← hW1]; exact (Keeps.refl _ _).alloc _
  have c0 := hb.cells 0
  have c1 := hb.cells 1
  have HK := Lib.hid k1
  clear hb k1
  go_enter Tryz.func16, Tryz.ntmps16
  go_wp2_with fail
  refine (HR.out W1).mono ?_
  rintro e w2 ⟨rfl, k2⟩
  have HK2 := Lib.hid (HK.out.trans k2)
  clear k2
  go_wp2
  go_ret2
  exact ⟨rfl, HK2.out⟩
set_option maxHeartbeats 1600000 in
theorem rgAll_refused (at_ size : Int) (m b : Nat) (us : List Int) (w : World) (h : Mem w m b us) (hs : -9223372036854775808 ≤ size) (hr : rgRefused us.length at_ size ≠ 0) :
    Calls Tryz.prog 16 #[.agg #[.int .i64 at_, .int .i64 size], .pointer (some ⟨m, 0, none⟩)] w fun e w' => e = .returned (.tuple #[.slice none 0 0, .int .i64 (rgRefused us.length at_ size)]) ∧ Keeps [] w w' := by
  obtain ⟨W1, hW1⟩ : ∃ W1, w.alloc (.cells #[.int .i64 at_, .int .i64 size] 33) = W1 := ⟨_, rfl⟩
  have hb : Box W1 w.heap.size #[.int .i64 at_, .int .i64 size] := by rw [← hW1]; exact Box.new _ _ _
  have k1 : Keeps [] w W1 := by rw [← hW1]; exact (Keeps.refl _ _).alloc _
  have HR := rgRefused_any at_ size m b us W1 (h.keeps k1 (by simp) (by simp)) hs
  obtain ⟨cd, hcd⟩ : ∃ cd, rgRefused us.length at_ size = cd := ⟨_, rfl⟩
  rw [hcd] at HR hr ⊢
  have HR := Lib.hid HR
  have c0 := hb.cells 0
  have c1 := hb.cells 1
  have HK := Lib.hid k1
  clear hb k1 hcd h
  go_enter Tryz.func16, Tryz.ntmps16
  go_wp2_with fail
  refine HR.out.mono ?_
  rintro e w2 ⟨rfl, k2⟩
  have HK2 := Lib.hid (HK.out.trans k2)
  clear k2
  go_wp2
  go_ret2
  exact ⟨rfl, HK2.out⟩

/-- What All tells, when it was not refused. -/
def rgTold (w w' : World) (e : Ending) (O : Option (List Int)) : Prop :=
  (O = none → e = .returned (.tuple #[.slice none 0 0, .int .i64 9])) ∧ ∀ xs, O = some xs → ∃ l, e = .returned (.tuple #[l, .int .i64 0]) ∧ w'.ownsRow w.heap.size 34 1 l xs.length (ints .u64 xs)
theorem elemWdR : Elem Tryz.prog 34 (.int .u64 0) 1 8 := ⟨by kernel_rfl, rfl, by decide, by decide⟩

set_option maxHeartbeats 3200000 in
theorem rgAll_any (a : Nat) (size : Int) (m b : Nat) (us : List Int) (w : World) (h : Mem w m b us) (hr : dqRight a size) (hl : (a : Int) + size + 1 < us.length) :
    Calls Tryz.prog 16 #[.agg #[.int .i64 (a : Int), .int .i64 size], .pointer (some ⟨m, 0, none⟩)] w fun e w' => Keeps [] w w' ∧ rgTold w w' e (rgAllOf a size us) := by
  obtain ⟨hp, a0, a1⟩ := hr
  have hrr : dqRight a size := ⟨hp, a0, a1⟩
  have hs : 2 ≤ size ∧ size ≤ 256 := by omega
  obtain ⟨W1, hW1⟩ : ∃ W1, w.alloc (.cells #[.int .i64 (a : Int), .int .i64 size] 33) = W1 := ⟨_, rfl⟩
  have hb : Box W1 w.heap.size #[.int .i64 (a : Int), .int .i64 size] := by rw [← hW1]; exact Box.new _ _ _
  have k1 : Keeps [] w W1 := by rw [← hW1]; exact (Keeps.refl _ _).alloc _
  have HR := rgRefused_any a size m b us W1 (h.keeps k1 (by simp) (by simp)) (by omega)
  rw [show rgRefused us.length a size = 0 by unfold rgRefused; rw [if_neg (by simpa using hrr), if_neg (by omega)]] at HR
  have HR := Lib.hid HR
  have HM := Lib.hid (h.keeps k1 (by simp) (by simp))
  have HB := Lib.hid hb
  have HK := Lib.hid k1
  have c0 := hb.cells 0
  have c1 := hb.cells 1
  have hU : ∀ i : Nat, i < us.length → M.U (us.getD i 0) := fun i hi => (h.word hi).2.2
  obtain ⟨hh, ht⟩ : ∃ hh, us.getD a 0 = hh := ⟨_, rfl⟩
  obtain ⟨bb, hbb⟩ : ∃ bb, us.getD (a + 1) 0 = bb := ⟨_, rfl⟩
  have htU : M.U hh := ht ▸ hU a (by omega)
  have hbU : M.U bb := hbb ▸ hU (a + 1) (by omega)
  have hlt := rgLo_range hh
  have hlb := rgLo_range bb
  have HA := Lib.hid (fun W => ahead_any (rgLo bb) (rgLo hh) W hlb.1 hlb.2 hlt.1 hlt.2)
  have HSh : Hid (∀ W, Calls Tryz.prog 28 #[.int .u64 hh] W fun e w' => e = .returned (.tuple #[.int .u32 (rgHi hh), .int .u32 (rgLo hh)]) ∧ W = w') := Lib.hid (fun W => split_any hh W htU.nn htU)
  have HSb : Hid (∀ W, Calls Tryz.prog 28 #[.int .u64 bb] W fun e w' => e = .returned (.tuple #[.int .u32 (rgHi bb), .int .u32 (rgLo bb)]) ∧ W = w') := Lib.hid (fun W => split_any bb W hbU.nn hbU)
  have HW0 : Hid (∀ W, Mem W m b us → Calls Tryz.prog 29 #[.pointer (some ⟨m, 0, none⟩), .int .i64 (a : Int)] W fun e w' => e = .returned (.int .u64 hh) ∧ Keeps [] W w') := Lib.hid (fun W h => by have := rgWord_any m b us a W h (by omega); rwa [ht] at this)
  have HW1 : Hid (∀ W, Mem W m b us → Calls Tryz.prog 29 #[.pointer (some ⟨m, 0, none⟩), .int .i64 ((a : Int) + 1)] W fun e w' => e = .returned (.int .u64 bb) ∧ Keeps [] W w') := Lib.hid (fun W h => by have := rgWord_any m b us (a + 1) W h (by omega); rw [hbb] at this; exact_mod_cast this)
  have HBo := Lib.hid (fun W => rgTail_any a size W (by omega) (by omega))
  have HS := Lib.hid (fun W (k : Keeps [] W1 W) => show W.cell? ⟨w.heap.size, 0, none⟩ = some (.int .i64 (a : Int)) ∧ W.cell? ⟨w.heap.size, 1, none⟩ = some (.int .i64 size) from ⟨(hb.keeps k (by simp)).cells 0, (hb.keeps k (by simp)).cells 1⟩)
  obtain ⟨n, hn⟩ : ∃ n, M.aheadI (rgLo bb) (rgLo hh) = n := ⟨_, rfl⟩
  obtain ⟨t, htt⟩ : ∃ t, rgLo hh = t := ⟨_, rfl⟩
  have HD : Hid (rgAllOf a size us = if n < 0 ∨ size < n then none else some ((List.range n.toNat).map fun (i : Nat) => us.getD (dqSlot a size (rgAdd t (i : Int))).toNat 0)) := Lib.hid (by
    unfold rgAllOf
    have hn' : M.aheadI (rgLo bb) t = n := by rw [← htt]; exact hn
    simp only [Int.toNat_natCast, show ((a : Int) + 1).toNat = a + 1 by omega, ht, hbb, htt, hn'])
  rw [hn] at HA
  rw [htt] at HA HSh hlt
  obtain ⟨O, hO⟩ : ∃ O, rgAllOf a size us = O := ⟨_, rfl⟩
  have HO : Hid (O = if n < 0 ∨ size < n then none else some ((List.range n.toNat).map fun (i : Nat) => us.getD (dqSlot a size (rgAdd t (i : Int))).toNat 0)) := Lib.hid (hO ▸ HD.out)
  rw [hO]
  clear hb k1 h hp hO HD htt hn
  go_enter Tryz.func16, Tryz.ntmps16
  go_wp2_with fail
  refine (HR.out).mono ?_
  rintro e w2 ⟨rfl, k2⟩
  have hk2 : Keeps [] W1 w2 := k2
  obtain ⟨e0, e1⟩ := HS.out w2 k2
  clear k2
  go_wp2_with fail
  refine (HW0.out w2 (HM.out.keeps hk2 (by simp) (by simp))).mono ?_
  rintro e w3 ⟨rfl, k3⟩
  have hk3 : Keeps [] W1 w3 := hk2.trans k3
  clear k3
  obtain ⟨e0, e1⟩ := HS.out w3 hk3
  go_wp2_with fail
  refine (HSh.out w3).mono ?_
  rintro e w3' ⟨rfl, rfl⟩
  go_wp2_with fail
  refine (HBo.out w3).mono ?_
  rintro e w4 ⟨rfl, k4⟩
  have hk4 : Keeps [] W1 w4 := hk3.trans k4
  clear k4
  go_wp2_with fail
  refine (HW1.out w4 (HM.out.keeps hk4 (by simp) (by simp))).mono ?_
  rintro e w5 ⟨rfl, k5⟩
  have hk5 : Keeps [] W1 w5 := hk4.trans k5
  clear k5
  go_wp2_with fail
  refine (HSb.out w5).mono ?_
  rintro e w5' ⟨rfl, rfl⟩
  go_wp2_with fail
  refine (HA.out _).mono ?_
  rintro e w6 ⟨rfl, rfl⟩
  have HM5 := Lib.hid (HM.out.keeps hk5 (by simp) (by simp))
  have HK5 := Lib.hid hk5
  have HB5 := Lib.hid (HB.out.keeps hk5 (by simp))
  clear hk2 hk3 hk4 hk5 e0 e1
  have b5 := HB5.out
  have g0 := b5.cells 0
  have g1 := b5.cells 1
  clear b5
  by_cases h1 : n < 0
  · have d1 : decide (n < 0) = true := decide_eq_true h1
    go_wp2
    go_ret2
    have hO := HO.out
    rw [if_pos (.inl h1)] at hO
    exact ⟨HK.out.trans HK5.out, fun _ => rfl, fun xs h => (by rw [hO] at h; cases h)⟩
  · have d1 : decide (n < 0) = false := decide_eq_false h1
    by_cases h2 : size < n
    · have d2 : decide (size < n) = true := decide_eq_true h2
      go_wp2
      go_ret2
      have hO := HO.out
      rw [if_pos (.inr h2)] at hO
      exact ⟨HK.out.trans HK5.out, fun _ => rfl, fun xs h => (by rw [hO] at h; cases h)⟩
    · have hO := HO.out
      rw [if_neg (by omega)] at hO
      have HO2 := Lib.hid hO
      clear hO HO
      have d2 : decide (size < n) = false := decide_eq_false h2
      obtain ⟨N, rfl⟩ : ∃ N : Nat, n = N := ⟨n.toNat, by omega⟩
      have hf : ∀ i : Nat, i < N → (dqSlot a size (rgAdd t (i : Int))).toNat < us.length := fun i hi => by
        have := dqSlot_range (at_ := (a : Int)) (size := size) (n := rgAdd t (i : Int)) (by omega)
        omega
      obtain ⟨f, hff⟩ : ∃ f : Nat → Int, (fun (i : Nat) => us.getD (dqSlot a size (rgAdd t (i : Int))).toNat 0) = f := ⟨_, rfl⟩
      have HO3 : Hid (O = some ((List.range N).map f)) := Lib.hid (by rw [← hff]; simpa using HO2.out)
      have HSl := Lib.hid (fun (i : Nat) W => rgSlot_any a size (rgAdd t (i : Int)) W hrr (rgAdd_range _ _))
      have HWd : Hid (∀ (i : Nat) W, i < N → Mem W m b us → Calls Tryz.prog 29 #[.pointer (some ⟨m, 0, none⟩), .int .i64 (dqSlot a size (rgAdd t (i : Int)))] W fun e w' => e = .returned (.int .u64 (f i)) ∧ Keeps [] W w') := Lib.hid (fun i W hi h => by
        have := rgWord_any m b us _ W h (hf i hi)
        rw [← hff]
        have hr := dqSlot_range (at_ := (a : Int)) (size := size) (n := rgAdd t (i : Int)) (by omega)
        rwa [Int.toNat_of_nonneg (by omega)] at this)
      have hN : N ≤ 256 := by omega
      have hwN : IntKind.u32.wrap (N : Int) = (N : Int) := by show (N : Int) % 4294967296 = N; omega
      clear hf hff HO2
      go_wp2
      go_loopw [12, 49] (fun l i wr => ∃ k : Nat, k ≤ N ∧ i = .int .u32 (k : Int) ∧ Keeps [] w5 wr ∧ wr.ownsRow w5.heap.size 34 1 l k (ints .u64 ((List.range k).map f))) (fun _ i _ => N - (intOf i).toNat)
      case atStart => exact ⟨0, Nat.zero_le _, rfl, Keeps.refl _ _, World.ownsRow_nil _ _ _ _⟩
      case round =>
        obtain ⟨k, hk, rfl, hkr, hown⟩ := hrel
        have hg0 := (HB5.out.keeps hkr (by simp)).cells 0
        have hg1 := (HB5.out.keeps hkr (by simp)).cells 1
        have HKr := Lib.hid hkr
        have HOwn := Lib.hid hown
        have hwu : IntKind.u32.wrap (t + (k : Int)) = rgAdd t (k : Int) := rfl
        have hwk : IntKind.u32.wrap (k : Int) = (k : Int) := by show (k : Int) % 4294967296 = k; omega
        clear hkr hown g0 g1
        by_cases hlt : k < N
        · go_wp2_with fail
          refine (HSl.out k _).mono ?_
          rintro e w7 ⟨rfl, k7⟩
          have HM7 := Lib.hid ((HM5.out.keeps HKr.out (by simp) (by simp)).keeps k7 (by simp) (by simp))
          have HK7 := Lib.hid k7
          clear k7
          go_wp2_with fail
          refine (HWd.out k _ hlt HM7.out).mono ?_
          rintro e w8 ⟨rfl, k8⟩
          have HK8 := Lib.hid (HK7.out.trans k8)
          have HOw8 := Lib.hid (owns_keeps HOwn.out HK8.out (by simp))
          have hz8 : w5.heap.size ≤ w8.heap.size := Nat.le_trans HKr.out.size HK8.out.size
          clear k8
          go_wp2_with (at_builtin; refine append_fresh rfl _ _ 31 rfl w5.heap.size 34 _ 1 8 Tryz.underlying31 elemWdR _ _ _ rfl HOw8.out #[.int .u64 (f k)] rfl rfl (by simp [Value.oneCell']) ?c2 ?c3 ?_)
          case c2 => omega
          case c3 => exact hz8
          intro v' w9 own9 k9 f9 _
          have HP := Lib.hid (show Keeps [] w5 w9 ∧ w9.ownsRow w5.heap.size 34 1 v' (k + 1) (ints .u64 ((List.range (k + 1)).map f)) from ⟨(HKr.out.trans HK8.out).step k9 (fun x hx => (HOw8.out.lt x (by simpa using hx)).1), by simpa [List.range_succ, ints] using own9⟩)
          obtain ⟨pv, cv, rfl⟩ := (Sl.of_owns own9).len
          clear own9 k9 f9
          go_wp2
          go_roundw
          case rel => exact ⟨k + 1, by omega, by go_num, HP.out⟩
          case measure => simp [intOf]; omega
        · obtain rfl : k = N := by omega
          go_wp2
          go_ret2
          exact ⟨(HK.out.trans HK5.out).trans HKr.out, fun h => (by rw [HO3.out] at h; cases h), fun xs h => by rw [HO3.out] at h; cases h; exact ⟨_, rfl, by simpa using owns_base HOwn.out (by have := HK.out.size; have := HK5.out.size; omega)⟩⟩
end Go.Proofs.YtjbgkaleickknaaGreat
