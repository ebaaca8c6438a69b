/-
  Contracts: a queue's Put and Take are made; its cells are read and written.
-/
import Derived.Test.YtoomefclbemnlaaGreatQuR
import Derived.Test.YtoomefclbemnlaaGreatArF
namespace Go.Proofs.YtoomefclbemnlaaGreat
set_option maxRecDepth 100000
set_option linter.unusedSimpArgs false
set_option linter.unusedVariables false
open Go.ChangeShapes Go.WideShapes Go.ChangeAt Go.RowKit

set_option maxHeartbeats 1600000 in
theorem quTake_made (at_ n : Int) (w : World) :
    Calls Tryz.prog 13 #[.agg #[.int .i64 at_, .int .i64 n]] w fun e w' => ∃ m S, e = .returned (.pointer (some ⟨m, 0, none⟩)) ∧ quI m w' S (quTake at_ n) ∧ Keeps [] w w' ∧ ∀ k ∈ S, w.heap.size ≤ k := by
  obtain ⟨W1, hW1⟩ : ∃ W1, w.alloc (.cells #[.int .i64 at_, .int .i64 n] 23) = W1 := ⟨_, rfl⟩
  have bq : Box W1 w.heap.size #[.int .i64 at_, .int .i64 n] := by rw [← hW1]; exact Box.new _ _ _
  have k1 : Keeps [] w W1 := by rw [← hW1]; exact (Keeps.refl _ _).alloc _
  have c0 := bq.cells 0
  have c1 := bq.cells 1
  have HA := Lib.hid (quAlong 42 #[] at_ n 0 (quTake at_ n) W1 (fun _ _ => by kernel_rfl)
    (fun h => by
      have hr : ¬ quRight at_ n := fun hr => h ⟨hr, rfl⟩
      exact ⟨2, by simp [hr], by decide, by simp [quTake, hr, quEnd]⟩)
    (fun hr _ m w1 _ hw _ => quTake1 m at_ n w1 hw hr))
  have HK := Lib.hid k1
  clear bq k1
  go_enter Tryz.func13, Tryz.ntmps13
  go_wp2_with fail
  refine HA.out.mono ?_
  rintro e w2 ⟨m, S, rfl, a, b, c⟩
  have HP : Hid (_ ∧ _ ∧ _) := Lib.hid ⟨a, HK.out.trans b, fun k hk => Nat.le_trans HK.out.size (c k hk)⟩
  clear a b c
  go_wp2
  go_ret
  exact ⟨m, S, rfl, HP.out⟩

set_option maxHeartbeats 1600000 in
theorem quPut_made (at_ n : Int) (v : Value) (k : Nat) (l : List Int) (w : World) (hl : Sl w 1 v k (ints .u64 l)) (hm : k ≤ maxLen) (hU : ∀ u ∈ l, M.U u) :
    Calls Tryz.prog 10 #[.agg #[.int .i64 at_, .int .i64 n], v] w fun e w' => ∃ m S, e = .returned (.pointer (some ⟨m, 0, none⟩)) ∧ quI m w' S (quPut at_ n l) ∧ Keeps [] w w' ∧ ∀ k ∈ S, w.heap.size ≤ k := by
  obtain rfl : l.length = k := hl.ints_len
  obtain ⟨tp, tc, rfl⟩ := hl.len
  obtain ⟨W1, hW1⟩ : ∃ W1, (w.alloc (.cells #[.int .i64 at_, .int .i64 n] 23)).alloc (.cells #[.slice tp l.length tc] 24) = W1 := ⟨_, rfl⟩
  have bq : Box W1 w.heap.size #[.int .i64 at_, .int .i64 n] := by rw [← hW1]; exact (Box.new _ _ _).alloc _
  have bl : Box W1 (w.heap.size + 1) #[.slice tp l.length tc] := by rw [← hW1]; have := Box.new (w.alloc (.cells #[.int .i64 at_, .int .i64 n] 23)) #[.slice tp l.length tc] 24; simpa using this
  have k1 : Keeps [] w W1 := by rw [← hW1]; exact ((Keeps.refl _ _).alloc _).alloc _
  have hz1 : (w.alloc (.cells #[.int .i64 at_, .int .i64 n] 23)).heap.size = w.heap.size + 1 := by simp
  have z1 := k1.size
  have HX := Lib.hid (fun W (k : Keeps [] W1 W) => show W.cell? ⟨w.heap.size, 0, none⟩ = some (.int .i64 at_) ∧ W.cell? ⟨w.heap.size, 1, none⟩ = some (.int .i64 n) ∧ W.cell? ⟨w.heap.size + 1, 0, none⟩ = some (.slice tp l.length tc) from ⟨(bq.keeps k (by simp)).cells 0, (bq.keeps k (by simp)).cells 1, (bl.keeps k (by simp)).cells 0⟩)
  obtain ⟨c0, c1, c2⟩ := HX.out W1 (Keeps.refl _ _)
  have hA := fun W (k : Keeps [] W1 W) => quAlong 29 #[.pointer (some ⟨w.heap.size + 1, 0, none⟩)] at_ n (if l.length = 0 then 2 else if 300 < l.length then 14 else 0) (quPut at_ n l) W (fun _ _ => by kernel_rfl)
    (fun h => by
      by_cases hr : quRight at_ n
      · by_cases h0 : l.length = 0
        · exact ⟨2, by simp [hr, h0], by decide, by simp [quPut, h0, quEnd]⟩
        · by_cases h3 : 300 < l.length
          · refine ⟨14, by simp [hr, h0, h3], by decide, ?_⟩
            have h1 : ¬ (¬ quRight at_ n ∨ l.length = 0) := fun h => h.elim (fun h => h hr) h0
            simp only [quPut, if_neg h1, if_pos h3, quEnd]
          · exact absurd ⟨hr, by simp [h0, h3]⟩ h
      · exact ⟨2, by simp [hr], by decide, by simp [quPut, hr, quEnd]⟩)
    (fun hr he m w1 hm1 hw kw => by
      have h0 : l.length ≠ 0 := fun h => by rw [if_pos h] at he; cases he
      have h3 : ¬ 300 < l.length := fun h => by rw [if_neg h0, if_pos h] at he; cases he
      exact quPut1 m (w.heap.size + 1) at_ n tp tc l w1 hw hr ((bl.keeps k (by simp)).keeps kw (by simp)) ((((hl.keeps k1 (by simp)).keeps k (by simp))).keeps kw (by simp)) ⟨by omega, by omega⟩ hU)
  obtain ⟨e0, he0⟩ : ∃ e0 : Int, (if l.length = 0 then 2 else if 300 < l.length then 14 else 0) = e0 := ⟨_, rfl⟩
  have HAm := Lib.hid (fun W => amiss_any l.length W hm)
  rw [he0] at hA HAm
  have HA := Lib.hid hA
  have HK := Lib.hid k1
  unfold maxLen at hm
  clear bq bl k1 hA hl he0
  go_enter Tryz.func10, Tryz.ntmps10
  go_wp2
  go_region_held3 (fun w' => w'.cell? ⟨w.heap.size, 0, none⟩ = some (.int .i64 at_) ∧ w'.cell? ⟨w.heap.size, 1, none⟩ = some (.int .i64 n) ∧ w'.cell? ⟨w.heap.size + 1, 0, none⟩ = some (.slice tp l.length tc))
    (first
      | exact ⟨by assumption, by assumption, by assumption⟩
      | exact HX.out _ hk2
      | fail)
    (first
      | (go_at_call 28; refine (HAm.out _).mono ?_; rintro e1 w1 ⟨rfl, rfl⟩)
      | (go_at_call 27; refine (HA.out _ ((Keeps.refl [] _).drew)).mono ?_; rintro e2 w2 ⟨m, S, rfl, ia, ib, ic⟩; have hk2 : Keeps [] W1 w2 := ib.undrew)
      | fail)
  all_goals go_wp2
  all_goals go_ret
  all_goals exact ⟨m, S, rfl, ia, HK.out.trans hk2, fun k hk => Nat.le_trans HK.out.size (ic k hk)⟩

set_option maxHeartbeats 800000 in
theorem quSetWord_any (m b : Nat) (us : List Int) (cell : Nat) (v : Int) (w : World) (h : Mem w m b us) (hc : cell < us.length) (hv : M.U v) :
    Calls Tryz.prog 47 #[.pointer (some ⟨m, 0, none⟩), .int .i64 (cell : Int), .int .u64 v] w fun e w' => e = .returned (.tuple #[]) ∧ Mem w' m b (us.set cell v) ∧ Keeps [b] w w' := by
  have hD := do_any m b us ⟨2, cell, v, 0⟩ w h ⟨hv, (show M.U 0 from ⟨by decide, by decide⟩)⟩
  have hc2 : ¬ ((cell : Int) < 0 ∨ (us.length : Int) ≤ (cell : Int)) := by omega
  have hN : C.next us ⟨2, cell, v, 0⟩ = us.set cell v := by simp [C.next, C.code, C.deed, hc2]; intro h; omega
  rw [hN] at hD
  have HD := Lib.hid hD
  clear hD hN hc2 h hc hv
  go_enter Tryz.func47, Tryz.ntmps47
  go_wp2_with fail
  refine HD.out.mono ?_
  rintro e w1 ⟨rfl, a, b⟩
  have HP : Hid (_ ∧ _) := Lib.hid ⟨a, b⟩
  clear a b
  go_wp2
  first | go_end0 | refine bodyPost_ret (results_none rfl _ _ _) rfl ?_
  exact ⟨rfl, HP.out⟩
set_option maxHeartbeats 1600000 in
/-- Why nothing can be done. -/
theorem quRefused_any (m b : Nat) (us : List Int) (at_ n : Int) (w : World) (h : Mem w m b us) :
    Calls Tryz.prog 46 #[.agg #[.int .i64 at_, .int .i64 n], .pointer (some ⟨m, 0, none⟩)] w fun e w' => e = .returned (.int .i64 (if quRight at_ n then (if (us.length : Int) ≤ at_ + 3 * n + 2 then 3 else 0) else 2)) ∧ Keeps [] w w' := by
  have hlen := h.len
  obtain ⟨W1, hW1⟩ : ∃ W1, w.alloc (.cells #[.int .i64 at_, .int .i64 n] 23) = W1 := ⟨_, rfl⟩
  have bq : Box W1 w.heap.size #[.int .i64 at_, .int .i64 n] := by rw [← hW1]; exact Box.new _ _ _
  have k1 : Keeps [] w W1 := by rw [← hW1]; exact (Keeps.refl _ _).alloc _
  have HX := Lib.hid (fun W (k : Keeps [] W1 W) => show W.cell? ⟨w.heap.size, 0, none⟩ = some (.int .i64 at_) ∧ W.cell? ⟨w.heap.size, 1, none⟩ = some (.int .i64 n) from ⟨(bq.keeps k (by simp)).cells 0, (bq.keeps k (by simp)).cells 1⟩)
  obtain ⟨c0, c1⟩ := HX.out _ (Keeps.refl _ _)
  have HR := Lib.hid (fun W => quRight_any at_ n W)
  have HM := Lib.hid (h.keeps k1 (by simp) (by simp))
  have HK := Lib.hid k1
  clear bq k1 h
  by_cases hr : quRight at_ n
  · rw [decide_eq_true hr] at HR
    rw [if_pos hr]
    obtain ⟨lb, hlb⟩ : ∃ lb, decide ((us.length : Int) ≤ at_ + 3 * n + 2) = lb := ⟨_, rfl⟩
    obtain ⟨r1, r2, r3, r4⟩ := hr
    obtain ⟨cl, hcl⟩ : ∃ cl, quNext at_ n n = cl := ⟨_, rfl⟩
    have hcl2 : cl = at_ + 3 * n + 2 := by rw [← hcl]; unfold quNext; omega
    have HN := Lib.hid (fun W => quNext_any at_ n n W ⟨r1, r2, r3, r4⟩ (by omega) (by omega))
    rw [hcl] at HN
    rw [← hcl2] at hlb
    have HL := Lib.hid hlb
    have hlb2 : ((us.length : Int) ≤ cl) ↔ lb = true := by rw [← hlb]; simp
    rw [← hcl2]
    have HI : Hid ((if (us.length : Int) ≤ cl then (3 : Int) else 0) = if lb = true then 3 else 0) := Lib.hid (by simp [hlb2])
    rw [HI.out]
    have HLen := Lib.hid (fun W (k : Keeps [] W1 W) => len_any m b us W (HM.out.keeps k (by simp) (by simp)))
    clear hcl2 hcl hlb2 r4
    go_enter Tryz.func46, Tryz.ntmps46
    go_wp2_with fail
    refine (HR.out W1).mono ?_
    rintro e w2 ⟨rfl, k2⟩
    obtain ⟨d0, d1⟩ := HX.out _ k2
    have HK2 := Lib.hid k2
    clear k2 c0 c1
    have HX2 := Lib.hid (fun W (k : Keeps [] w2 W) => HX.out W (HK2.out.trans k))
    cases lb
    all_goals
      go_wp2
      go_region_held3 (fun w' => w'.cell? ⟨w.heap.size, 0, none⟩ = some (.int .i64 at_) ∧ w'.cell? ⟨w.heap.size, 1, none⟩ = some (.int .i64 n))
        (first
          | exact ⟨by assumption, by assumption⟩
          | exact HX2.out _ hk3
          | fail)
        (first
          | (go_at_call 90; refine (HLen.out _ (HK2.out.trans (by first | exact hk3 | exact (Keeps.refl [] _).drew))).mono ?_; rintro e1 w1 ⟨rfl, rfl⟩)
          | (go_at_call 50; refine (HN.out _).mono ?_; rintro e2 w3 ⟨rfl, k3⟩; have hk3 : Keeps [] w2 w3 := k3.undrew; clear k3)
          | fail)
      all_goals go_wp2
      all_goals go_ret
      all_goals exact ⟨rfl, HK.out.trans (HK2.out.trans hk3)⟩
  · rw [decide_eq_false hr] at HR
    rw [if_neg hr]
    clear hr
    go_enter Tryz.func46, Tryz.ntmps46
    go_wp2_with fail
    refine (HR.out W1).mono ?_
    rintro e w2 ⟨rfl, k2⟩
    have HK2 := Lib.hid k2
    clear k2
    go_wp2
    go_ret
    exact ⟨rfl, HK.out.trans HK2.out⟩
theorem quRefused_nil (at_ n : Int) (w : World) :
    Calls Tryz.prog 46 #[.agg #[.int .i64 at_, .int .i64 n], .pointer none] w fun e w' => e = .returned (.int .i64 1) ∧ Keeps [] w w' := by
  go_enter Tryz.func46, Tryz.ntmps46
  go_wp2
  go_ret
  exact ⟨rfl, (Keeps.refl _ _).alloc _⟩
end Go.Proofs.YtoomefclbemnlaaGreat
