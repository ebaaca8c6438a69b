import Derived.Test.YtnlkbmjelkbfkaaQuW
import Derived.Deep.RegionHeld3
import Derived.Test.YtnlkbmjelkbfkaaOnce
import Derived.Test.YtnlkbmjelkbfkaaFresh
import Derived.IntWalk
import Derived.Deep.CutRange
import Derived.Deep.CutBlock
import Derived.Test.YtnlkbmjelkbfkaaArF
/-
  Contracts: a queue's Put and Take are made; its cells are read and written.
-/
namespace Go.Proofs.Ytnlkbmjelkbfkaa
set_option maxRecDepth 100000
set_option linter.unusedSimpArgs false
set_option linter.unusedVariables false
open Go.ChangeShapes Go.WideShapes Go.ChangeAt Go.RowKit

set_option maxHeartbeats 800000 in
theorem quSetWord_any (m b : Nat) (us : List Int) (cell : Nat) (v : Int) (w : World) (h : Mem w m b us) (hc : cell < us.length) (hv : M.U v) :
    Calls Try.prog 36 #[.pointer (some ⟨m, 0, none⟩), .int .i64 (cell : Int), .int .u64 v] w fun e w' => e = .returned (.tuple #[]) ∧ Mem w' m b (us.set cell v) ∧ Keeps [b] w w' := by
  have hD := do_any m b us ⟨2, cell, v, 0⟩ w h ⟨hv, (show M.U 0 from ⟨by decide, by decide⟩)⟩
  have hc2 : ¬ ((cell : Int) < 0 ∨ (us.length : Int) ≤ (cell : Int)) := by omega
  have hN : C.next us ⟨2, cell, v, 0⟩ = us.set cell v := by simp [C.next, C.code, C.deed, hc2]; intro h; omega
  rw [hN] at hD
  have HD := Lib.hid hD
  clear hD hN hc2 h hc hv
  go_enter Try.func36, Try.ntmps36
  go_wp2_with fail
  refine HD.out.mono ?_
  rintro e w1 ⟨rfl, a, b⟩
  have HP : Hid (_ ∧ _) := Lib.hid ⟨a, b⟩
  clear a b
  go_wp2
  first | go_end0 | refine bodyPost_ret (results_none rfl _ _ _) rfl ?_
  exact ⟨rfl, HP.out⟩
set_option maxHeartbeats 1600000 in
/-- Why nothing can be done. -/
theorem quRefused_any (m b : Nat) (us : List Int) (at_ n : Int) (w : World) (h : Mem w m b us) :
    Calls Try.prog 35 #[.agg #[.int .i64 at_, .int .i64 n], .pointer (some ⟨m, 0, none⟩)] w fun e w' => e = .returned (.int .i64 (if quRight at_ n then (if (us.length : Int) ≤ at_ + 3 * n + 2 then 3 else 0) else 2)) ∧ Keeps [] w w' := by
  have hlen := h.len
  obtain ⟨W1, hW1⟩ : ∃ W1, w.alloc (.cells #[.int .i64 at_, .int .i64 n] 41) = W1 := ⟨_, rfl⟩
  have bq : Box W1 w.heap.size #[.int .i64 at_, .int .i64 n] := by rw [← hW1]; exact Box.new _ _ _
  have k1 : Keeps [] w W1 := by rw [← hW1]; exact (Keeps.refl _ _).alloc _
  have HX := Lib.hid (fun W (k : Keeps [] W1 W) => show W.cell? ⟨w.heap.size, 0, none⟩ = some (.int .i64 at_) ∧ W.cell? ⟨w.heap.size, 1, none⟩ = some (.int .i64 n) from ⟨(bq.keeps k (by simp)).cells 0, (bq.keeps k (by simp)).cells 1⟩)
  obtain ⟨c0, c1⟩ := HX.out _ (Keeps.refl _ _)
  have HR := Lib.hid (fun W => quRight_any at_ n W)
  have HM := Lib.hid (h.keeps k1 (by simp) (by simp))
  have HK := Lib.hid k1
  clear bq k1 h
  by_cases hr : quRight at_ n
  · rw [decide_eq_true hr] at HR
    rw [if_pos hr]
    obtain ⟨lb, hlb⟩ : ∃ lb, decide ((us.length : Int) ≤ at_ + 3 * n + 2) = lb := ⟨_, rfl⟩
    obtain ⟨r1, r2, r3, r4⟩ := hr
    obtain ⟨cl, hcl⟩ : ∃ cl, quNext at_ n n = cl := ⟨_, rfl⟩
    have hcl2 : cl = at_ + 3 * n + 2 := by rw [← hcl]; unfold quNext; omega
    have HN := Lib.hid (fun W => quNext_any at_ n n W ⟨r1, r2, r3, r4⟩ (by omega) (by omega))
    rw [hcl] at HN
    rw [← hcl2] at hlb
    have HL := Lib.hid hlb
    have hlb2 : ((us.length : Int) ≤ cl) ↔ lb = true := by rw [← hlb]; simp
    rw [← hcl2]
    have HI : Hid ((if (us.length : Int) ≤ cl then (3 : Int) else 0) = if lb = true then 3 else 0) := Lib.hid (by simp [hlb2])
    rw [HI.out]
    have HLen := Lib.hid (fun W (k : Keeps [] W1 W) => len_any m b us W (HM.out.keeps k (by simp) (by simp)))
    clear hcl2 hcl hlb2 r4
    go_enter Try.func35, Try.ntmps35
    go_wp2_with fail
    refine (HR.out W1).mono ?_
    rintro e w2 ⟨rfl, k2⟩
    obtain ⟨d0, d1⟩ := HX.out _ k2
    have HK2 := Lib.hid k2
    clear k2 c0 c1
    have HX2 := Lib.hid (fun W (k : Keeps [] w2 W) => HX.out W (HK2.out.trans k))
    cases lb
    all_goals
      go_wp2
      go_region_held3 (fun w' => w'.cell? ⟨w.heap.size, 0, none⟩ = some (.int .i64 at_) ∧ w'.cell? ⟨w.heap.size, 1, none⟩ = some (.int .i64 n))
        (first
          | exact ⟨by assumption, by assumption⟩
          | exact HX2.out _ hk3
          | fail)
        (first
          | (go_at_call 44; refine (HLen.out _ (HK2.out.trans (by first | exact hk3 | exact (Keeps.refl [] _).drew))).mono ?_; rintro e1 w1 ⟨rfl, rfl⟩)
          | (go_at_call 40; refine (HN.out _).mono ?_; rintro e2 w3 ⟨rfl, k3⟩; have hk3 : Keeps [] w2 w3 := k3.undrew; clear k3)
          | fail)
      all_goals go_wp2
      all_goals go_ret
      all_goals exact ⟨rfl, HK.out.trans (HK2.out.trans hk3)⟩
  · rw [decide_eq_false hr] at HR
    rw [if_neg hr]
    clear hr
    go_enter Try.func35, Try.ntmps35
    go_wp2_with fail
    refine (HR.out W1).mono ?_
    rintro e w2 ⟨rfl, k2⟩
    have HK2 := Lib.hid k2
    clear k2
    go_wp2
    go_ret
    exact ⟨rfl, HK.out.trans HK2.out⟩
theorem quRefused_nil (at_ n : Int) (w : World) :
    Calls Try.prog 35 #[.agg #[.int .i64 at_, .int .i64 n], .pointer none] w fun e w' => e = .returned (.int .i64 1) ∧ Keeps [] w w' := by
  go_enter Try.func35, Try.ntmps35
  go_wp2
  go_ret
  exact ⟨rfl, (Keeps.refl _ _).alloc _⟩
end Go.Proofs.Ytnlkbmjelkbfkaa
