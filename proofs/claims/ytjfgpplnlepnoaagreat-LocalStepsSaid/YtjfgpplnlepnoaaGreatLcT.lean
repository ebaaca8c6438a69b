import Derived.Test.YtjfgpplnlepnoaaGreatLcS
import Derived.Test.YtjfgpplnlepnoaaGreatLcN
import Derived.Test.YtjfgpplnlepnoaaGreatStart
/-
  How the document's machines of local rows are made; a Pop's task is nothing.
-/
namespace Go.Proofs.YtjfgpplnlepnoaaGreat
set_option maxRecDepth 100000
set_option linter.unusedSimpArgs false
set_option linter.unusedVariables false
open Go.ChangeShapes Go.WideShapes Go.ChangeAt Go.RowKit

/-- A Pop's and a Steal's task is nothing. -/
theorem dqTask_new {m : Nat} {w : World} {S : List Nat} {at_ size kind v : Int} (h : LoneIO dequeM (dqE m) m w S (dqNew at_ size kind 0)) (hk : kind ≠ 1) (hv : M.U v) : LoneIO dequeM (dqE m) m w S (dqNew at_ size kind v) := by
  obtain ⟨S1, T, st, hU, h1, h2, h3, h4, h5⟩ := h
  have hf : dequeM.face (dqNew at_ size kind v) = dequeM.face (dqNew at_ size kind 0) := by
    unfold Mach.face dequeM dqNew dqHeld dqWant
    simp [hk]
  refine ⟨S1, T, st, hU, by rw [hf]; exact h1, h2, h3, h4, fun ho => ?_⟩
  obtain ⟨⟨a, b, c, d⟩, p, top, bottom, task, rest, e1, e2, e3, e4⟩ := h5 (by simpa [dqNew] using ho)
  refine ⟨⟨a, b, hv, d⟩, p, top, bottom, task, rest, e1, e2, e3, fun h => absurd h hk, e4.2.1, e4.2.2⟩
/-- A Pop's task is nothing. -/
theorem rgTask_new {m : Nat} {w : World} {S : List Nat} {at_ size v : Int} {f : Bool} (h : LoneIO ringM (rgE m) m w S (rgBegin at_ size 2 0 0 f)) (hv : M.U v) : LoneIO ringM (rgE m) m w S (rgBegin at_ size 2 v 0 f) := by
  obtain ⟨S1, T, st, hU, h1, h2, h3, h4, h5⟩ := h
  have hf : ringM.face (rgBegin at_ size 2 v 0 f) = ringM.face (rgBegin at_ size 2 0 0 f) := by
    cases f <;> rfl
  refine ⟨S1, T, st, hU, by rw [hf]; exact h1, h2, h3, h4, fun ho => ?_⟩
  obtain ⟨⟨a, b, c⟩, p, hd, sl, fi, tl, u, n, tk, e1, e2, e3⟩ := h5 (by simpa [rgBegin] using ho)
  exact ⟨⟨a, hv, c⟩, p, hd, sl, fi, tl, u, n, tk, e1, e2, ⟨e3.row, e3.took, e3.own, e3.head, e3.first, e3.tail, e3.end_, e3.count, e3.seen, e3.unseen⟩⟩
def lcRow (what kind at_ size v : Int) : LcS := if kind = 0 then .dq (dqNew at_ size what v) else if kind = 1 then .rg (rgBegin at_ size what v 0 (decide (dqRight at_ size))) else lcNo
theorem lcPush_row (kind at_ size v : Int) : lcPush kind at_ size v = lcRow 1 kind at_ size v := rfl
theorem lcPop_row {m : Nat} {w : World} {S : List Nat} {kind at_ size v : Int} (h : lcI m w S (lcPop kind at_ size)) (hv : M.U v) : lcI m w S (lcRow 2 kind at_ size v) := by
  unfold lcPop at h
  unfold lcRow
  split
  · rename_i h0
    rw [if_pos h0] at h
    exact dqTask_new h (by decide) hv
  · rename_i h0
    rw [if_neg h0] at h
    split
    · rename_i h1
      rw [if_pos h1] at h
      exact rgTask_new h hv
    · rename_i h1
      rw [if_neg h1] at h
      exact h
theorem rcQRight_any (at_ n : Int) (w : World) :
    Calls Tryz.prog 51 #[.int .i64 at_, .int .i64 n] w fun e w' => e = .returned (.bool (decide (lkQRight at_ n))) ∧ w = w' := by
  by_cases h1 : 2 ≤ n
  case neg =>
    have HD : Hid (decide (lkQRight at_ n) = false) := Lib.hid (decide_eq_false fun h => h1 h.1)
    rw [HD.out]
    have d1 : decide ((2 : Int) ≤ n) = false := decide_eq_false h1
    go_enter Tryz.func51, Tryz.ntmps51
    go_wp2
    go_ret
    exact ⟨rfl, rfl⟩
  by_cases h2 : n ≤ 4096
  case neg =>
    have HD : Hid (decide (lkQRight at_ n) = false) := Lib.hid (decide_eq_false fun h => h2 h.2.1)
    rw [HD.out]
    have d1 : decide ((2 : Int) ≤ n) = true := decide_eq_true h1
    have d2 : decide (n ≤ 4096) = false := decide_eq_false h2
    go_enter Tryz.func51, Tryz.ntmps51
    go_wp2
    go_ret
    exact ⟨rfl, rfl⟩
  by_cases h3 : 0 ≤ at_
  case neg =>
    have HD : Hid (decide (lkQRight at_ n) = false) := Lib.hid (decide_eq_false fun h => h3 h.2.2.1)
    rw [HD.out]
    have d1 : decide ((2 : Int) ≤ n) = true := decide_eq_true h1
    have d2 : decide (n ≤ 4096) = true := decide_eq_true h2
    have d3 : decide (0 ≤ at_) = false := decide_eq_false h3
    go_enter Tryz.func51, Tryz.ntmps51
    go_wp2
    go_ret
    exact ⟨rfl, rfl⟩
  obtain ⟨m, hm⟩ : ∃ m, 65536 - 3 * n - 2 = m := ⟨_, rfl⟩
  have d1 : decide ((2 : Int) ≤ n) = true := decide_eq_true h1
  have d2 : decide (n ≤ 4096) = true := decide_eq_true h2
  have d3 : decide (0 ≤ at_) = true := decide_eq_true h3
  by_cases h4 : at_ < 65536 - 3 * n - 2
  · have HD : Hid (decide (lkQRight at_ n) = true) := Lib.hid (decide_eq_true ⟨h1, h2, h3, h4⟩)
    rw [HD.out]
    have d4 : decide (at_ < m) = true := decide_eq_true (by omega)
    go_enter Tryz.func51, Tryz.ntmps51
    go_wp2
    go_ret
    exact ⟨rfl, rfl⟩
  · have HD : Hid (decide (lkQRight at_ n) = false) := Lib.hid (decide_eq_false fun h => h4 h.2.2.2)
    rw [HD.out]
    have d4 : decide (at_ < m) = false := decide_eq_false (by omega)
    go_enter Tryz.func51, Tryz.ntmps51
    go_wp2
    go_ret
    exact ⟨rfl, rfl⟩


def rcMade (w : World) (s : LcS) (e : Ending) (w' : World) : Prop := ∃ (p : Nat) (S : List Nat), e = .returned (.pointer (some ⟨p, 0, none⟩)) ∧ rcJ p w' S s ∧ Keeps [] w w' ∧ ∀ k ∈ S, w.heap.size ≤ k
/-- It ended with Arg at once. -/
def lcArg (s : LcS) : Prop := lcM.res s = some ⟨2, 0, []⟩ ∧ lcM.want s = none ∧ lcM.held s = []
theorem lcArg_no : lcArg lcNo := ⟨rfl, rfl, rfl⟩
theorem lcArg_dq (at_ size kind v : Int) (h : ¬ dqRight at_ size) : lcArg (.dq (dqNew at_ size kind v)) := by
  refine ⟨?_, ?_, ?_⟩
  · show (dqNew at_ size kind v).over = _; simp [dqNew, h]
  · show dequeM.want _ = _; simp [dequeM, dqNew, h]
  · show dqHeld _ = _; simp [dqHeld, dqNew, h]
theorem lcArg_rg (at_ size kind v tg : Int) : lcArg (.rg (rgBegin at_ size kind v tg false)) := by
  refine ⟨?_, ?_, ?_⟩
  · show (rgBegin at_ size kind v tg false).over = _; simp [rgBegin]
  · show (if (rgBegin at_ size kind v tg false).over.isSome = true then none else some (rgWant (rgBegin at_ size kind v tg false))) = none; simp [rgBegin]
  · show rgHeld (rgBegin at_ size kind v tg false) = []; simp [rgHeld, rgBegin]
theorem lcArg_lk (kind at_ n : Int) : lcArg (.lk (lkNew kind at_ n false)) := ⟨rfl, rfl, rfl⟩
theorem lcArg_row {what kind at_ size v : Int} (h : ¬ lcRight kind at_ size) : lcArg (lcRow what kind at_ size v) := by
  unfold lcRow
  split
  · rename_i h0; exact lcArg_dq _ _ _ _ (fun h1 => h ⟨.inl h0, h1⟩)
  · split
    · rename_i h0
      rw [decide_eq_false (fun h1 => h ⟨.inr h0, h1⟩)]
      exact lcArg_rg _ _ _ _ _
    · exact lcArg_no
theorem lcArg_steal {kind at_ size kind2 at2 size2 : Int} (h : ¬ (lcRight kind at_ size ∧ lcRight kind2 at2 size2 ∧ kind = kind2)) : lcArg (lcSteal kind at_ size kind2 at2 size2) := by
  unfold lcSteal
  split
  · exact lcArg_no
  · rename_i h2
    have h2 : lcRight kind2 at2 size2 := Classical.not_not.1 h2
    split
    · rename_i h0
      split
      · rename_i h3
        exact lcArg_dq _ _ _ _ (fun h1 => h ⟨⟨.inl h0, h1⟩, h2, by rw [h0, h3]⟩)
      · exact lcArg_no
    · split
      · rename_i h0
        split
        · rename_i h3
          rw [decide_eq_false (fun h1 => h ⟨⟨.inr h0, h1.1⟩, h2, by rw [h0, h3]⟩)]
          exact lcArg_rg _ _ _ _ _
        · exact lcArg_no
      · exact lcArg_no
theorem lcArg_peek {kind at_ size : Int} (h : ¬ lcRight kind at_ size) : lcArg (lcPeek kind at_ size) := by
  unfold lcPeek
  split
  · rw [decide_eq_false h]; exact lcArg_lk _ _ _
  · exact lcArg_no
theorem rcMade.arg {w W : World} {s : LcS} (h : lcArg s) (hk : Keeps [] w W) (hr : Row W w.heap.size rcTy (rcCells 2 rcNil rcNil rcNil)) : rcMade w s (.returned (.pointer (some ⟨w.heap.size, 0, none⟩))) W :=
  ⟨_, [w.heap.size], rfl, .inl ⟨rfl, hr, h.1, h.2.1, h.2.2⟩, hk, fun k hk => by simp at hk; omega⟩
set_option maxHeartbeats 1600000 in
theorem rcRow_any (what kind at_ size v : Int) (w : World) (hwh : what = 1 ∨ what = 2) (hv : M.U v) :
    Calls Tryz.prog 14 #[.int .i64 kind, .int .i64 at_, .int .i64 size, .int .i64 what, .int .u64 v] w (rcMade w (lcRow what kind at_ size v)) := by
  have HR := Lib.hid (fun W => rkRight_any kind at_ size W)
  by_cases hr : lcRight kind at_ size
  case neg =>
    rw [decide_eq_false hr] at HR
    have HA := Lib.hid (lcArg_row (what := what) (v := v) hr)
    clear hr hwh hv
    go_enter Tryz.func14, Tryz.ntmps14
    go_wp2_with fail
    refine (HR.out _).mono ?_
    rintro e w1 ⟨rfl, rfl⟩
    go_wp2
    go_ret
    exact rcMade.arg HA.out ((Keeps.refl _ _).alloc _) (Row.new _ _ _)
  rw [decide_eq_true hr] at HR
  have H7 := Lib.hid (fun W => refDqNew_any at_ size what v W (by rcases hwh with h | h; exact .inl h; exact .inr (.inl h)) hv)
  have H8 := Lib.hid (fun W => rfNew_any at_ size what v W hwh hv)
  rcases hr with ⟨rfl | rfl, hr⟩
  · clear hr hwh hv
    go_enter Tryz.func14, Tryz.ntmps14
    go_wp2_with fail
    refine (HR.out _).mono ?_
    rintro e w1 ⟨rfl, rfl⟩
    go_wp2_with fail
    refine (H7.out _).mono ?_
    rintro e w2 ⟨q, rfl, hj, k2, hq⟩
    have HP : Hid (∀ W, W = w2.alloc (.cells #[.int .i64 0, .pointer (some ⟨q, 0, none⟩), .pointer none, .pointer none, .pointer none, .pointer none, .pointer none] rcTy) → rcMade w (lcRow what 0 at_ size v) (.returned (.pointer (some ⟨w2.heap.size, 0, none⟩))) W) := Lib.hid fun W hW => by
      subst hW
      refine ⟨w2.heap.size, [w2.heap.size, q], rfl, .inr ⟨q, [q], rfl, ?_, Row.new _ _ _, ?_⟩, k2.alloc _, fun k hk => ?_⟩
      · have := (refDqRuns q).lt hj q (by simp); simp; omega
      · exact (refDqRuns q).frame hj ((Keeps.refl [] w2).alloc _) (by simp) (by simp)
      · have := k2.size; simp at hk; rcases hk with rfl | rfl <;> omega
    clear hj k2 hq
    go_wp2
    go_ret
    exact HP.out _ rfl
  · clear hr hwh hv
    go_enter Tryz.func14, Tryz.ntmps14
    go_wp2_with fail
    refine (HR.out _).mono ?_
    rintro e w1 ⟨rfl, rfl⟩
    go_wp2_with fail
    refine (H8.out _).mono ?_
    rintro e w2 ⟨q, rfl, hj, k2, hq⟩
    have HP : Hid (∀ W, W = w2.alloc (.cells #[.int .i64 0, .pointer none, .pointer (some ⟨q, 0, none⟩), .pointer none, .pointer none, .pointer none, .pointer none] rcTy) → rcMade w (lcRow what 1 at_ size v) (.returned (.pointer (some ⟨w2.heap.size, 0, none⟩))) W) := Lib.hid fun W hW => by
      subst hW
      refine ⟨w2.heap.size, [w2.heap.size, q], rfl, .inr ⟨q, [q], rfl, ?_, Row.new _ _ _, ?_⟩, k2.alloc _, fun k hk => ?_⟩
      · have := (rfRuns q).lt hj q (by simp); simp; omega
      · exact (rfRuns q).frame hj ((Keeps.refl [] w2).alloc _) (by simp) (by simp)
      · have := k2.size; simp at hk; rcases hk with rfl | rfl <;> omega
    clear hj k2 hq
    go_wp2
    go_ret
    exact HP.out _ rfl
set_option maxHeartbeats 1600000 in
theorem rcSteal_any (kind at_ size kind2 at2 size2 : Int) (w : World) (hs1 : -9223372036854775808 ≤ size) (hs2 : -9223372036854775808 ≤ size2) :
    Calls Tryz.prog 15 #[.int .i64 kind, .int .i64 at_, .int .i64 size, .int .i64 kind2, .int .i64 at2, .int .i64 size2] w (rcMade w (lcSteal kind at_ size kind2 at2 size2)) := by
  have HR := Lib.hid (fun W => rkRight_any kind at_ size W)
  have HR2 := Lib.hid (fun W => rkRight_any kind2 at2 size2 W)
  by_cases hr : lcRight kind at_ size
  case neg =>
    rw [decide_eq_false hr] at HR
    have HA := Lib.hid (lcArg_steal (kind := kind) (at_ := at_) (size := size) (kind2 := kind2) (at2 := at2) (size2 := size2) (fun h => hr h.1))
    clear hr hs1 hs2
    go_enter Tryz.func15, Tryz.ntmps15
    go_wp2_with fail
    refine (HR.out _).mono ?_
    rintro e w1 ⟨rfl, rfl⟩
    go_wp2
    go_ret
    exact rcMade.arg HA.out ((Keeps.refl _ _).alloc _) (Row.new _ _ _)
  rw [decide_eq_true hr] at HR
  by_cases hr2 : lcRight kind2 at2 size2
  case neg =>
    rw [decide_eq_false hr2] at HR2
    have HA := Lib.hid (lcArg_steal (kind := kind) (at_ := at_) (size := size) (kind2 := kind2) (at2 := at2) (size2 := size2) (fun h => hr2 h.2.1))
    clear hr hr2 hs1 hs2
    go_enter Tryz.func15, Tryz.ntmps15
    go_wp2_with fail
    refine (HR.out _).mono ?_
    rintro e w1 ⟨rfl, rfl⟩
    go_wp2_with fail
    refine (HR2.out _).mono ?_
    rintro e w1 ⟨rfl, rfl⟩
    go_wp2
    go_ret
    exact rcMade.arg HA.out ((Keeps.refl _ _).alloc _) (Row.new _ _ _)
  rw [decide_eq_true hr2] at HR2
  by_cases he : kind = kind2
  case neg =>
    have HA := Lib.hid (lcArg_steal (kind := kind) (at_ := at_) (size := size) (kind2 := kind2) (at2 := at2) (size2 := size2) (fun h => he h.2.2))
    have hne : (kind != kind2) = true := by simpa using he
    clear hr hr2 hs1 hs2 he
    go_enter Tryz.func15, Tryz.ntmps15
    go_wp2_with fail
    refine (HR.out _).mono ?_
    rintro e w1 ⟨rfl, rfl⟩
    go_wp2_with fail
    refine (HR2.out _).mono ?_
    rintro e w1 ⟨rfl, rfl⟩
    go_wp2
    go_ret
    exact rcMade.arg HA.out ((Keeps.refl _ _).alloc _) (Row.new _ _ _)
  subst he
  have hee : (kind != kind) = false := by simp
  have H7 := Lib.hid (fun W => refDqNew_any at_ size 3 0 W (.inr (.inr rfl)) ⟨by decide, by decide⟩)
  have H8 := Lib.hid (fun W => rfStealNew_any at_ size at2 size2 W hs1 hs2)
  rcases hr with ⟨rfl | rfl, hr⟩
  · have HD : Hid (lcSteal 0 at_ size 0 at2 size2 = .dq (dqNew at_ size 3 0)) := Lib.hid (by simp [lcSteal, hr2])
    rw [HD.out]
    clear hr hr2 hs1 hs2
    go_enter Tryz.func15, Tryz.ntmps15
    go_wp2_with fail
    refine (HR.out _).mono ?_
    rintro e w1 ⟨rfl, rfl⟩
    go_wp2_with fail
    refine (HR2.out _).mono ?_
    rintro e w1 ⟨rfl, rfl⟩
    go_wp2_with fail
    refine (H7.out _).mono ?_
    rintro e w2 ⟨q, rfl, hj, k2, hq⟩
    have HP : Hid (∀ W, W = w2.alloc (.cells #[.int .i64 0, .pointer (some ⟨q, 0, none⟩), .pointer none, .pointer none, .pointer none, .pointer none, .pointer none] rcTy) → rcMade w (.dq (dqNew at_ size 3 0)) (.returned (.pointer (some ⟨w2.heap.size, 0, none⟩))) W) := Lib.hid fun W hW => by
      subst hW
      refine ⟨w2.heap.size, [w2.heap.size, q], rfl, .inr ⟨q, [q], rfl, ?_, Row.new _ _ _, ?_⟩, k2.alloc _, fun k hk => ?_⟩
      · have := (refDqRuns q).lt hj q (by simp); simp; omega
      · exact (refDqRuns q).frame hj ((Keeps.refl [] w2).alloc _) (by simp) (by simp)
      · have := k2.size; simp at hk; rcases hk with rfl | rfl <;> omega
    clear hj k2 hq
    go_wp2
    go_ret
    exact HP.out _ rfl
  · have HD : Hid (lcSteal 1 at_ size 1 at2 size2 = .rg (rgBegin at_ size 3 0 at2 (decide (rgFeeds at_ size at2 size2)))) := Lib.hid (by simp [lcSteal, hr2])
    rw [HD.out]
    clear hr hr2 hs1 hs2
    go_enter Tryz.func15, Tryz.ntmps15
    go_wp2_with fail
    refine (HR.out _).mono ?_
    rintro e w1 ⟨rfl, rfl⟩
    go_wp2_with fail
    refine (HR2.out _).mono ?_
    rintro e w1 ⟨rfl, rfl⟩
    go_wp2_with fail
    refine (H8.out _).mono ?_
    rintro e w2 ⟨q, rfl, hj, k2, hq⟩
    have HP : Hid (∀ W, W = w2.alloc (.cells #[.int .i64 0, .pointer none, .pointer (some ⟨q, 0, none⟩), .pointer none, .pointer none, .pointer none, .pointer none] rcTy) → rcMade w (.rg (rgBegin at_ size 3 0 at2 (decide (rgFeeds at_ size at2 size2)))) (.returned (.pointer (some ⟨w2.heap.size, 0, none⟩))) W) := Lib.hid fun W hW => by
      subst hW
      refine ⟨w2.heap.size, [w2.heap.size, q], rfl, .inr ⟨q, [q], rfl, ?_, Row.new _ _ _, ?_⟩, k2.alloc _, fun k hk => ?_⟩
      · have := (rfRuns q).lt hj q (by simp); simp; omega
      · exact (rfRuns q).frame hj ((Keeps.refl [] w2).alloc _) (by simp) (by simp)
      · have := k2.size; simp at hk; rcases hk with rfl | rfl <;> omega
    clear hj k2 hq
    go_wp2
    go_ret
    exact HP.out _ rfl
set_option maxHeartbeats 1600000 in
theorem rcLook_any (kind at_ size : Int) (w : World) :
    Calls Tryz.prog 16 #[.int .i64 kind, .int .i64 at_, .int .i64 size] w (rcMade w (lcPeek kind at_ size)) := by
  have HR := Lib.hid (fun W => rkRight_any kind at_ size W)
  by_cases hr : lcRight kind at_ size
  case neg =>
    rw [decide_eq_false hr] at HR
    have HA := Lib.hid (lcArg_peek hr)
    clear hr
    go_enter Tryz.func16, Tryz.ntmps16
    go_wp2_with fail
    refine (HR.out _).mono ?_
    rintro e w1 ⟨rfl, rfl⟩
    go_wp2
    go_ret
    exact rcMade.arg HA.out ((Keeps.refl _ _).alloc _) (Row.new _ _ _)
  rw [decide_eq_true hr] at HR
  have HD : Hid (lcPeek kind at_ size = .lk ⟨kind, at_, 0, 0, 0, none⟩) := Lib.hid (by simp [lcPeek, lkNew, hr, hr.1])
  rw [HD.out]
  have HFi : Hid (rkFits ⟨kind, at_, 0, 0, 0, none⟩) := Lib.hid ⟨by rcases hr.1 with h | h; exact .inl h; exact .inr (.inl h), .inl rfl, hr.2.2.1, by have := hr.2.1; have := hr.2.2.2; show at_ < 65536; omega, by show (0 : Int) ≤ 0; decide, by show (0 : Int) ≤ 4096; decide, ⟨by show (0 : Int) ≤ 0; decide, by show (0 : Int) < _; decide⟩⟩
  clear hr
  go_enter Tryz.func16, Tryz.ntmps16
  go_wp2_with fail
  refine (HR.out _).mono ?_
  rintro e w1 ⟨rfl, rfl⟩
  have HP : Hid (∀ W, W = (w.alloc (.cells #[.int .i64 kind, .int .i64 at_, .int .i64 0, .int .i64 0, .int .u64 0, .bool false, .int .i64 0, .int .u64 0, .slice none 0 0] 105)).alloc (.cells #[.int .i64 0, .pointer none, .pointer none, .pointer none, .pointer none, .pointer none, .pointer (some ⟨w.heap.size, 0, none⟩)] rcTy) → rcMade w (.lk ⟨kind, at_, 0, 0, 0, none⟩) (.returned (.pointer (some ⟨w.heap.size + 1, 0, none⟩))) W) := Lib.hid fun W hW => by
    subst hW
    have r1 := Row.new (w.alloc (.cells #[.int .i64 kind, .int .i64 at_, .int .i64 0, .int .i64 0, .int .u64 0, .bool false, .int .i64 0, .int .u64 0, .slice none 0 0] 105)) #[.int .i64 0, .pointer none, .pointer none, .pointer none, .pointer none, .pointer none, .pointer (some ⟨w.heap.size, 0, none⟩)] rcTy
    have hz : (w.alloc (.cells #[.int .i64 kind, .int .i64 at_, .int .i64 0, .int .i64 0, .int .u64 0, .bool false, .int .i64 0, .int .u64 0, .slice none 0 0] 105)).heap.size = w.heap.size + 1 := by simp
    rw [hz] at r1
    refine ⟨w.heap.size + 1, [w.heap.size + 1, w.heap.size], rfl, .inr ⟨w.heap.size, [w.heap.size], rfl, by simp, r1, rfl, (Row.new _ _ _).alloc _, fun r hr => (by cases hr), HFi.out⟩, ((Keeps.refl _ _).alloc _).alloc _, fun k hk => ?_⟩
    simp at hk; omega
  go_wp2
  go_ret
  exact HP.out _ rfl
set_option maxHeartbeats 1600000 in
theorem rcLine_any (at_ n : Int) (w : World) :
    Calls Tryz.prog 17 #[.int .i64 at_, .int .i64 n] w (rcMade w (lcLine at_ n)) := by
  have HR := Lib.hid (fun W => rcQRight_any at_ n W)
  by_cases hr : lkQRight at_ n
  case neg =>
    rw [decide_eq_false hr] at HR
    have HA : Hid (lcArg (lcLine at_ n)) := Lib.hid (by unfold lcLine; rw [decide_eq_false hr]; exact lcArg_lk _ _ _)
    clear hr
    go_enter Tryz.func17, Tryz.ntmps17
    go_wp2_with fail
    refine (HR.out _).mono ?_
    rintro e w1 ⟨rfl, rfl⟩
    go_wp2
    go_ret
    exact rcMade.arg HA.out ((Keeps.refl _ _).alloc _) (Row.new _ _ _)
  rw [decide_eq_true hr] at HR
  have HD : Hid (lcLine at_ n = .lk ⟨2, at_, n, 0, 0, none⟩) := Lib.hid (by simp [lcLine, lkNew, hr])
  rw [HD.out]
  obtain ⟨n2, n3, a0, a1⟩ := hr
  have HFi : Hid (rkFits ⟨2, at_, n, 0, 0, none⟩) := Lib.hid ⟨.inr (.inr rfl), .inl rfl, a0, by show at_ < 65536; omega, by show 0 ≤ n; omega, n3, ⟨by show (0 : Int) ≤ 0; decide, by show (0 : Int) < _; decide⟩⟩
  clear n2 n3 a0 a1
  go_enter Tryz.func17, Tryz.ntmps17
  go_wp2_with fail
  refine (HR.out _).mono ?_
  rintro e w1 ⟨rfl, rfl⟩
  have HP : Hid (∀ W, W = (w.alloc (.cells #[.int .i64 2, .int .i64 at_, .int .i64 n, .int .i64 0, .int .u64 0, .bool false, .int .i64 0, .int .u64 0, .slice none 0 0] 105)).alloc (.cells #[.int .i64 0, .pointer none, .pointer none, .pointer none, .pointer none, .pointer none, .pointer (some ⟨w.heap.size, 0, none⟩)] rcTy) → rcMade w (.lk ⟨2, at_, n, 0, 0, none⟩) (.returned (.pointer (some ⟨w.heap.size + 1, 0, none⟩))) W) := Lib.hid fun W hW => by
    subst hW
    have r1 := Row.new (w.alloc (.cells #[.int .i64 2, .int .i64 at_, .int .i64 n, .int .i64 0, .int .u64 0, .bool false, .int .i64 0, .int .u64 0, .slice none 0 0] 105)) #[.int .i64 0, .pointer none, .pointer none, .pointer none, .pointer none, .pointer none, .pointer (some ⟨w.heap.size, 0, none⟩)] rcTy
    have hz : (w.alloc (.cells #[.int .i64 2, .int .i64 at_, .int .i64 n, .int .i64 0, .int .u64 0, .bool false, .int .i64 0, .int .u64 0, .slice none 0 0] 105)).heap.size = w.heap.size + 1 := by simp
    rw [hz] at r1
    refine ⟨w.heap.size + 1, [w.heap.size + 1, w.heap.size], rfl, .inr ⟨w.heap.size, [w.heap.size], rfl, by simp, r1, rfl, (Row.new _ _ _).alloc _, fun r hr => (by cases hr), HFi.out⟩, ((Keeps.refl _ _).alloc _).alloc _, fun k hk => ?_⟩
    simp at hk; omega
  go_wp2
  go_ret
  exact HP.out _ rfl
theorem rc_held' {p : Nat} {D : Nat → Prop} {w w' : World} {S : List Nat} {s : LcS} (h : rcJ p w S s) (hh : Held D w w') (hS : ∀ k ∈ S, D k) : rcJ p w' S s := by
  obtain ⟨X, hk, hX⟩ := hh.keepsNot
  exact (rcRuns p).frame h hk (fun k hk' hm => hX k hm (hS k hk')) (by simp)
/-- The machines of a row: each is there, and its blocks are its own. -/
structure RcAll (st : Nat → LcS) (w0 w : World) (bl : Nat) (xs : Nat → Value) (γ : Nat → List Nat) : Prop where
  row : Row w bl 36 ((List.range 5).map xs)
  new : w0.heap.size ≤ bl ∧ bl < w.heap.size
  walks : ∀ j, j < 5 → ∃ p, xs j = .pointer (some ⟨p, 0, none⟩) ∧ rcJ p w (γ j) (st j)
  own : ∀ j, j < 5 → (∀ x ∈ γ j, w0.heap.size ≤ x ∧ x < w.heap.size ∧ x ≠ bl) ∧ ∀ i, i < 5 → i ≠ j → ∀ x ∈ γ j, x ∉ γ i
/-- They were made one after the other. -/
theorem RcAll.of {st : Nat → LcS} {w0 w : World} {bl : Nat} {xs : Nat → Value} {γ : Nat → List Nat} (lo : Nat → Nat) (row : Row w bl 36 ((List.range 5).map xs)) (hbl : bl < w.heap.size) (walks : ∀ j, j < 5 → ∃ p, xs j = .pointer (some ⟨p, 0, none⟩) ∧ rcJ p w (γ j) (st j))
    (h0 : w0.heap.size ≤ lo 0) (hN : lo 5 ≤ bl) (hlo : ∀ j, j < 5 → lo j ≤ lo (j + 1)) (hγ : ∀ j, j < 5 → ∀ x ∈ γ j, lo j ≤ x ∧ x < lo (j + 1)) : RcAll st w0 w bl xs γ := by
  have l0 := hlo 0 (by decide)
  have l1 := hlo 1 (by decide)
  have l2 := hlo 2 (by decide)
  have l3 := hlo 3 (by decide)
  have l4 := hlo 4 (by decide)
  simp only [Nat.zero_add, Nat.reduceAdd] at l0 l1 l2 l3 l4
  refine ⟨row, ⟨by omega, hbl⟩, walks, fun j hj => ⟨fun x hx => ?_, fun i hi hij x hx hx2 => ?_⟩⟩
  · have h := hγ j hj x hx
    rcases (show j = 0 ∨ j = 1 ∨ j = 2 ∨ j = 3 ∨ j = 4 by omega) with rfl | rfl | rfl | rfl | rfl <;> simp only [Nat.zero_add, Nat.reduceAdd] at h <;> omega
  · have h := hγ j hj x hx
    have h2 := hγ i hi x hx2
    rcases (show j = 0 ∨ j = 1 ∨ j = 2 ∨ j = 3 ∨ j = 4 by omega) with rfl | rfl | rfl | rfl | rfl <;> rcases (show i = 0 ∨ i = 1 ∨ i = 2 ∨ i = 3 ∨ i = 4 by omega) with rfl | rfl | rfl | rfl | rfl <;> simp only [Nat.zero_add, Nat.reduceAdd] at h h2 <;> first | omega | exact absurd rfl hij
end Go.Proofs.YtjfgpplnlepnoaaGreat
