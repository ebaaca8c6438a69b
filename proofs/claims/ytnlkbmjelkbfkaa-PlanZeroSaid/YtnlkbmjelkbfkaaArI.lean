import Derived.Test.YtnlkbmjelkbfkaaArQ
import Derived.IntWalk
import Derived.Deep.CutRange
/-
  Contracts: an arena's Init.
-/
namespace Go.Proofs.Ytnlkbmjelkbfkaa
set_option maxRecDepth 100000
set_option linter.unusedSimpArgs false
set_option linter.unusedVariables false
open Go.ChangeShapes Go.WideShapes Go.ChangeAt Go.RowKit

theorem rangeMap_set {α : Type} (n k : Nat) (f : Nat → α) (v : α) : ((List.range n).map f).set k v = (List.range n).map fun i => if i = k then v else f i := by
  apply List.ext_getElem?
  intro j
  rw [List.getElem?_set]
  simp only [List.getElem?_map, List.length_map, List.length_range]
  by_cases hj : j < n
  · rw [List.getElem?_range hj]
    by_cases e : k = j
    · subst e; simp [hj]
    · simp [e, Ne.symm e]
  · have : (List.range n)[j]? = none := by simp; omega
    rw [this]
    by_cases e : k = j
    · subst e; simp [hj]
    · simp [e]
/-- An arena's cells, the links below k laid. -/
def arLink (n first k i : Nat) : Int := if i = 0 then (if first ≤ n then (first : Int) else 0) else if first ≤ i ∧ i < k then (i : Int) + 1 else 0
def arRow (n first k : Nat) : List Int := (List.range (n + 1)).map (arLink n first k)
theorem arRow_len (n first k : Nat) : (arRow n first k).length = n + 1 := by simp [arRow]
theorem arRow_top {n first k : Nat} (hn : n ≤ 4096) (hf : first ≤ n + 1) : ∀ u ∈ arRow n first k, M.U u := by
  intro u hu
  simp only [arRow, List.mem_map, List.mem_range] at hu
  obtain ⟨i, hi, rfl⟩ := hu
  unfold arLink
  split
  · split
    · exact ⟨by omega, by omega⟩
    · exact ⟨by decide, by decide⟩
  · split
    · exact ⟨by omega, by omega⟩
    · exact ⟨by decide, by decide⟩
theorem arRow_set {n first k : Nat} (h1 : 1 ≤ first) (h2 : first ≤ k) : (arRow n first k).set k ((k : Int) + 1) = arRow n first (k + 1) := by
  unfold arRow
  rw [rangeMap_set]
  apply List.map_congr_left
  intro i _
  unfold arLink
  by_cases e : i = k
  · subst e
    rw [if_pos rfl, if_neg (by omega), if_pos (by omega)]
  · rw [if_neg e]
    by_cases e0 : i = 0
    · rw [if_pos e0, if_pos e0]
    · rw [if_neg e0, if_neg e0]
      by_cases e1 : first ≤ i ∧ i < k
      · rw [if_pos e1, if_pos (by omega)]
      · rw [if_neg e1, if_neg (by omega)]
theorem arRow_zero (n : Nat) : List.replicate (n + 1) (0 : Int) = arRow n (n + 1) (n + 1) := by
  apply List.ext_getElem?
  intro j
  simp only [arRow, List.getElem?_map, List.getElem?_replicate]
  by_cases hj : j < n + 1
  · rw [List.getElem?_range hj, if_pos hj]
    simp only [Option.map_some, arLink]
    rw [if_neg (show ¬ (n + 1 ≤ n) by omega), if_neg (show ¬ (n + 1 ≤ j ∧ j < n + 1) by omega)]
    simp
  · have : (List.range (n + 1))[j]? = none := by simp; omega
    rw [this, if_neg hj]; rfl
theorem arRow_one {n first : Nat} (h1 : 1 ≤ first) (h2 : first ≤ n) : (List.replicate (n + 1) (0 : Int)).set 0 (first : Int) = arRow n first first := by
  rw [arRow_zero]
  unfold arRow
  rw [rangeMap_set]
  apply List.map_congr_left
  intro i hi
  have hi := List.mem_range.1 hi
  unfold arLink
  by_cases e : i = 0
  · rw [if_pos e, if_pos e, if_pos h2]
  · rw [if_neg e, if_neg e, if_neg e, if_neg (by omega), if_neg (by omega)]
theorem arRow_end {n first k : Nat} (h : ¬ k < n) (h2 : k = first ∨ k ≤ n) (h3 : first ≤ n + 1) : arRow n first k = arRow n first n := by
  unfold arRow
  apply List.map_congr_left
  intro i hi
  have hi := List.mem_range.1 hi
  unfold arLink
  by_cases e : i = 0
  · rw [if_pos e, if_pos e]
  · rw [if_neg e, if_neg e]
    by_cases e1 : first ≤ i ∧ i < n
    · rw [if_pos e1, if_pos (by omega)]
    · rw [if_neg e1, if_neg (by omega)]

/-- Cells, of which k from at on are those of zs. -/
def laidAt (us zs : List Int) (a k : Nat) : List Int := (List.range us.length).map fun j => if a ≤ j ∧ j < a + k then zs.getD (j - a) 0 else us.getD j 0
theorem laidAt_len (us zs : List Int) (a k : Nat) : (laidAt us zs a k).length = us.length := by simp [laidAt]
theorem laidAt_at (us zs : List Int) (a k j : Nat) (h : j < us.length) : (laidAt us zs a k).getD j 0 = if a ≤ j ∧ j < a + k then zs.getD (j - a) 0 else us.getD j 0 := by
  rw [List.getD, laidAt, List.getElem?_map, List.getElem?_range h]; rfl
theorem laidAt_zero (us zs : List Int) (a : Nat) : laidAt us zs a 0 = us := by
  apply List.ext_getElem?
  intro j
  simp only [laidAt, List.getElem?_map]
  by_cases hj : j < us.length
  · rw [List.getElem?_range hj, List.getElem?_eq_getElem hj]
    simp only [Option.map_some]
    rw [if_neg (by omega), List.getD, List.getElem?_eq_getElem hj]; rfl
  · have : (List.range us.length)[j]? = none := by simp; omega
    rw [this, List.getElem?_eq_none (by omega)]; rfl
theorem laidAt_set (us zs : List Int) (a k : Nat) : (laidAt us zs a k).set (a + k) (zs.getD k 0) = laidAt us zs a (k + 1) := by
  unfold laidAt
  rw [rangeMap_set]
  apply List.map_congr_left
  intro j _
  by_cases e : j = a + k
  · subst e
    rw [if_pos rfl, if_pos (by omega), Nat.add_sub_cancel_left]
  · rw [if_neg e]
    by_cases e1 : a ≤ j ∧ j < a + k
    · rw [if_pos e1, if_pos (by omega)]
    · rw [if_neg e1, if_neg (by omega)]

/-- Why nothing can be done with an arena, if so. -/
def arRefused (at_ n : Int) (len : Nat) (fits : Bool) : Int := if fits = true ∧ arRight at_ n then (if (len : Int) ≤ at_ + n then 3 else 0) else 2

set_option maxHeartbeats 800000 in
theorem refused_any (m b : Nat) (us : List Int) (at_ n : Int) (fits : Bool) (w : World) (h : Mem w m b us) :
    Calls Try.prog 46 #[.agg #[.int .i64 at_, .int .i64 n], .pointer (some ⟨m, 0, none⟩), .bool fits] w fun e w' => e = .returned (.int .i64 (arRefused at_ n us.length fits)) ∧ Keeps [] w w' := by
  have HR := Lib.hid (fun W => right_any at_ n W)
  obtain ⟨W1, hW1⟩ : ∃ W1, w.alloc (.cells #[.int .i64 at_, .int .i64 n] 66) = W1 := ⟨_, rfl⟩
  have hb : Box W1 w.heap.size #[.int .i64 at_, .int .i64 n] := by rw [← hW1]; exact Box.new _ _ _
  have hk1 : Keeps [] w W1 := by rw [← hW1]; exact (Keeps.refl _ _).alloc _
  have c0 := hb.cells 0
  have c1 := hb.cells 1
  have HB := Lib.hid hb
  have HK := Lib.hid hk1
  have HM := Lib.hid h
  have hlen := h.len
  have hpos := h.pos
  clear hb hk1 h
  cases fits with
  | false =>
    have HD : Hid (arRefused at_ n us.length false = 2) := Lib.hid (by simp [arRefused])
    rw [HD.out]
    go_enter Try.func46, Try.ntmps46
    go_wp2
    go_ret
    exact ⟨rfl, HK.out⟩
  | true =>
    by_cases hr : arRight at_ n
    case neg =>
      have HD : Hid (arRefused at_ n us.length true = 2) := Lib.hid (by simp [arRefused, hr])
      rw [HD.out]
      rw [decide_eq_false hr] at HR
      clear hr
      go_enter Try.func46, Try.ntmps46
      go_wp2_with fail
      refine (HR.out W1).mono ?_
      rintro e w2 ⟨rfl, k2⟩
      have HK2 := Lib.hid (HK.out.trans k2)
      clear k2
      go_wp2
      go_ret
      exact ⟨rfl, HK2.out⟩
    case pos =>
      rw [decide_eq_true hr] at HR
      obtain ⟨r1, r2, r3, r4⟩ := hr
      have HD : Hid (arRefused at_ n us.length true = if (us.length : Int) ≤ at_ + n then 3 else 0) := Lib.hid (by unfold arRefused; rw [if_pos ⟨rfl, r1, r2, r3, r4⟩])
      rw [HD.out]
      have HL := Lib.hid (fun W h => len_any m b us W h)
      obtain ⟨q, hq⟩ : ∃ q, at_ + n = q := ⟨_, rfl⟩
      have q1 : -9223372036854775808 ≤ q := by omega
      have q2 : q ≤ 9223372036854775807 := by omega
      have q3 : IntKind.i64.wrap q = q := IntWalk.i64_in _ (by omega)
      obtain ⟨d, hd⟩ : ∃ d, decide ((us.length : Int) ≤ q) = d := ⟨_, rfl⟩
      have HI : Hid ((if (us.length : Int) ≤ q then (3 : Int) else 0) = if d = true then 3 else 0) := Lib.hid (by rw [← hd]; simp)
      rw [hq, HI.out]
      clear r4
      go_enter Try.func46, Try.ntmps46
      go_wp2_with fail
      refine (HR.out W1).mono ?_
      rintro e w2 ⟨rfl, k2⟩
      have b2 := HB.out.keeps k2 (by simp)
      have e0 := b2.cells 0
      have e1 := b2.cells 1
      have HM2 := Lib.hid ((HM.out.keeps HK.out (by simp) (by simp)).keeps k2 (by simp) (by simp))
      have HK2 := Lib.hid (HK.out.trans k2)
      clear k2 b2
      cases d
      all_goals
        go_wp2
        refine wp_region_mid 7 (by kernel_rfl) (by kernel_rfl) ?_
        simp only [List.take_succ_cons, List.take_zero, List.drop_succ_cons, List.drop_zero]
        repeat still_step
        still_call (stillOf (HL.out _ (HM2.out.keeps (Keeps.refl [] w2).drew (by simp) (by simp))))
        repeat still_step
        refine wpStill_nil ?_
        go_wp2
        show wpStill _ _ _ _ _ _
        repeat still_step
        refine wpStill_nil ?_
        go_wp2
        go_ret
        exact ⟨rfl, HK2.out.drew⟩

set_option maxHeartbeats 3200000 in
theorem init_any (m b a n f : Nat) (us : List Int) (w : World) (h : Mem w m b us) (hr : arRight a n) (hl : a + n < us.length) (f1 : 1 ≤ f) (f2 : f ≤ n + 1) :
    Calls Try.prog 42 #[.agg #[.int .i64 (a : Int), .int .i64 (n : Int)], .pointer (some ⟨m, 0, none⟩), .int .i64 (f : Int)] w fun e w' => e = .returned (.int .i64 0) ∧ Mem w' m b (laidAt us (arRow n f n) a (n + 1)) ∧ Keeps [b] w w' := by
  have hlen := h.len
  obtain ⟨r1, r2, r3, r4⟩ := hr
  obtain ⟨W1, hW1⟩ : ∃ W1, w.alloc (.cells #[.int .i64 (a : Int), .int .i64 (n : Int)] 66) = W1 := ⟨_, rfl⟩
  have hb : Box W1 w.heap.size #[.int .i64 (a : Int), .int .i64 (n : Int)] := by rw [← hW1]; exact Box.new _ _ _
  have hk1 : Keeps [] w W1 := by rw [← hW1]; exact (Keeps.refl _ _).alloc _
  have hm1 := h.keeps hk1 (by simp) (by simp)
  have HRe := Lib.hid (refused_any m b us a n true W1 hm1)
  rw [show arRefused a n us.length true = 0 by unfold arRefused; rw [if_pos ⟨rfl, r1, r2, r3, r4⟩, if_neg (by omega)]] at HRe
  have c0 := hb.cells 0
  have c1 := hb.cells 1
  have HB := Lib.hid hb
  have HK := Lib.hid hk1
  have HM := Lib.hid hm1
  have hmb : b < w.heap.size ∧ m < w.heap.size := ⟨h.lt.2, h.lt.1⟩
  have d1 : decide ((1 : Int) ≤ (f : Int)) = true := decide_eq_true (by omega)
  have d2 : decide ((f : Int) - 1 ≤ (n : Int)) = true := decide_eq_true (by omega)
  clear hb hk1 hm1 h r4
  go_enter Try.func42, Try.ntmps42
  go_wp2_with fail
  refine HRe.out.mono ?_
  rintro e w2 ⟨rfl, k2⟩
  have hb2 := HB.out.keeps k2 (by simp)
  have e0 := hb2.cells 0
  have e1 := hb2.cells 1
  obtain ⟨w3, hrun, hrow, hk3, hs3⟩ := make_row (P := Try.prog) w2 50 58 _ 1 8 Try.underlying50 elemWord .i64 .i64 (n + 1) (by omega)
  rw [made_words] at hrow
  rw [show ((n + 1 : Nat) : Int) = (n : Int) + 1 by omega] at hrun
  have HM3 := Lib.hid ((HM.out.keeps k2 (by simp) (by simp)).keeps hk3 (by simp) (by simp))
  have HB3 := Lib.hid (hb2.keeps hk3 (by simp))
  have HK3 := Lib.hid ((HK.out.trans k2).trans hk3)
  have hs2 : w.heap.size ≤ w2.heap.size := Nat.le_trans HK.out.size k2.size
  have hbs : w.heap.size < w2.heap.size := hb2.lt
  have g0 := HB3.out.cells 0
  have g1 := HB3.out.cells 1
  have HROW := Lib.hid hrow
  clear k2 hb2 hk3 hrow
  have hne : w2.heap.size ≠ m ∧ w2.heap.size ≠ b ∧ w2.heap.size ≠ w.heap.size := by omega
  by_cases hfn : f ≤ n
  case' neg =>
    have hfn1 := Lib.hid (show f = n + 1 by omega)
    have HROW2 : Hid (Row w3 w2.heap.size 58 (ints .u64 (arRow n f f))) := Lib.hid (by have := HROW.out; rw [arRow_zero] at this; rw [hfn1.out]; exact this)
    have HM4 := Lib.hid HM3.out
    have HK4 : Hid (Keeps [] w w3) := Lib.hid HK3.out
    have HB4 := Lib.hid HB3.out
    have d3 : decide ((f : Int) ≤ (n : Int)) = false := decide_eq_false (by omega)
    go_wp2
    clear hfn1 hfn d3
  case' pos =>
    have r3 := HROW.out
    have p0 := r3.cell (j := 0) (u := .int .u64 0) (by simp [ints, List.replicate_succ])
    have pf := r3.frozen 0
    obtain ⟨w4, hw4⟩ : ∃ w4, w3.setCell ⟨w2.heap.size, 0, none⟩ (.int .u64 (f : Int)) = w4 := ⟨_, rfl⟩
    have k4 : Keeps [w2.heap.size] w3 w4 := by rw [← hw4]; exact (Keeps.refl _ _).setCell (fun _ => by simp) _
    have HROW2 : Hid (Row w4 w2.heap.size 58 (ints .u64 (arRow n f f))) := Lib.hid (by
      rw [← arRow_one f1 hfn, ints_set, ← hw4]; exact r3.set 0 _)
    have HM4 := Lib.hid (HM3.out.keeps k4 (by simpa using Ne.symm hne.1) (by simpa using Ne.symm hne.2.1))
    have HK4 : Hid (Keeps [] w w4) := Lib.hid (HK3.out.step k4 (by intro k hk; simp at hk; omega))
    have HB4 := Lib.hid (HB3.out.keeps k4 (by simpa using Ne.symm hne.2.2))
    have d3 : decide ((f : Int) ≤ (n : Int)) = true := decide_eq_true (by omega)
    have hw32 : IntKind.u32.wrap (f : Int) = (f : Int) := by show (f : Int) % 4294967296 = f; omega
    have HPa := Lib.hid (fun W => pair_any 0 (f : Int) W (by decide) (by decide) (by omega) (by omega))
    clear r3 k4
    go_wp2_with fail
    refine (HPa.out _).mono ?_
    rintro e w5 ⟨rfl, rfl⟩
    rw [show (0 : Int) * 4294967296 + (f : Int) = (f : Int) by omega]
    go_wp2
    clear p0 pf hw32 HPa
  all_goals
    go_loopw [9] (fun i wr => ∃ k : Nat, f ≤ k ∧ (k ≤ n ∨ k = f) ∧ i = .int .i64 (k : Int) ∧ Mem wr m b us ∧ Keeps [] w wr ∧ Box wr w.heap.size #[.int .i64 (a : Int), .int .i64 (n : Int)] ∧ Row wr w2.heap.size 58 (ints .u64 (arRow n f k))) (fun i _ => n - (intOf i).toNat)
    case atStart => exact ⟨f, Nat.le_refl _, .inr rfl, rfl, HM4.out, HK4.out, HB4.out, HROW2.out⟩
    case round =>
      obtain ⟨k, hk1, hk2, rfl, hm, hk, hb, hrow⟩ := hrel
      have x0 := hb.cells 0
      have x1 := hb.cells 1
      have HMi := Lib.hid hm
      have HKi := Lib.hid hk
      have HBi := Lib.hid hb
      clear hm hk hb
      by_cases hlt : k < n
      · have pk := hrow.cell (ints_at (k := .u64) (zs := arRow n f k) (j := k) (by rw [arRow_len]; omega))
        have pf := hrow.frozen k
        have HRi := Lib.hid hrow
        have hw64 : IntKind.u64.wrap ((k : Int) + 1) = (k : Int) + 1 := by show ((k : Int) + 1) % 18446744073709551616 = _; omega
        have hsc : Keeps [w2.heap.size] wr (wr.setCell ⟨w2.heap.size, k, none⟩ (.int .u64 ((k : Int) + 1))) := (Keeps.refl _ _).setCell (fun _ => by simp) _
        have HS := Lib.hid hsc
        have hkn : (k : Int) < ((n + 1 : Nat) : Int) := by omega
        clear hrow hsc
        go_wp2
        go_roundw
        case rel =>
          refine ⟨k + 1, by omega, .inl (by omega), by go_num, HMi.out.keeps HS.out (by simpa using Ne.symm hne.1) (by simpa using Ne.symm hne.2.1), HKi.out.step HS.out (by intro k hk; simp at hk; omega), HBi.out.keeps HS.out (by simpa using Ne.symm hne.2.2), ?_⟩
          rw [← arRow_set f1 hk1, ints_set]
          exact HRi.out.set k _
        case measure => simp [intOf]; omega
      · have hrow2 : Row wr w2.heap.size 58 (ints .u64 (arRow n f n)) := by rw [← arRow_end hlt (by omega) f2]; exact hrow
        have HRi := Lib.hid hrow2
        clear hrow hrow2
        rename World => V
        have hmW := HMi.out
        have hkW := HKi.out
        have hbW := HBi.out
        have HM5 := Lib.hid hmW
        have HK5 := Lib.hid hkW
        clear hmW hkW hbW hk1 hk2
        go_wp2
        go_loopw [55] (fun i wr => ∃ k : Nat, k ≤ n + 1 ∧ i = .int .i64 (k : Int) ∧ Mem wr m b (laidAt us (arRow n f n) a k) ∧ Keeps [b] V wr) (fun i _ => n + 1 - (intOf i).toNat)
        case atStart => exact ⟨0, Nat.zero_le _, rfl, by rw [laidAt_zero]; exact HM5.out, Keeps.refl _ _⟩
        case round =>
          obtain ⟨j, hj, rfl, hm, hk⟩ := hrel
          have hbb := HBi.out.keeps hk (by simp; omega)
          have y0 := hbb.cells 0
          have y1 := hbb.cells 1
          have hrw := HRi.out.keeps hk (by simpa using hne.2.1)
          have HMj := Lib.hid hm
          have HKj := Lib.hid hk
          clear hm hk hbb
          by_cases hjn : j < n + 1
          · have pj := hrw.cell (ints_at (k := .u64) (zs := arRow n f n) (j := j) (by rw [arRow_len]; exact hjn))
            obtain ⟨v, hv⟩ : ∃ v, (arRow n f n).getD j 0 = v := ⟨_, rfl⟩
            have hvU : M.U v := by
              rw [← hv]; exact arRow_top (by omega) f2 _ (by rw [List.getD, List.getElem?_eq_getElem (by rw [arRow_len]; exact hjn)]; exact List.getElem_mem _)
            rw [hv] at pj
            have hU0 : M.U 0 := ⟨by decide, by decide⟩
            have hst := C.store_at (laidAt us (arRow n f n) a j) (a + j) (by rw [laidAt_len]; omega) v 0
            have hD := do_any m b (laidAt us (arRow n f n) a j) ⟨2, ((a + j : Nat) : Int), v, 0⟩ wr HMj.out ⟨hvU, hU0⟩
            rw [hst.2.1, ← hv, laidAt_set, hv, show ((a + j : Nat) : Int) = (a : Int) + (j : Int) by omega] at hD
            have HD := Lib.hid hD
            have hjn2 : (j : Int) < ((n + 1 : Nat) : Int) := by omega
            clear hrw hst hD hv hvU hU0
            go_wp2_with fail
            refine HD.out.mono ?_
            rintro e w6 ⟨rfl, hm6, k6⟩
            have HP := Lib.hid (⟨hm6, HKj.out.trans k6⟩ : _ ∧ _)
            clear hm6 k6
            go_wp2
            go_roundw
            case rel => exact ⟨j + 1, by omega, by go_num, HP.out.1, HP.out.2⟩
            case measure => simp [intOf]; omega
          · obtain rfl : j = n + 1 := by omega
            clear hrw
            go_wp2
            go_ret
            exact ⟨rfl, HMj.out, (HK5.out.mono (by simp)).trans HKj.out⟩
end Go.Proofs.Ytnlkbmjelkbfkaa
