/-
  Contracts: an arena's Right, Take and Put.
-/
import Derived.Test.YtoomefclbemnlaaGreatArP
namespace Go.Proofs.YtoomefclbemnlaaGreat
set_option maxRecDepth 100000
set_option linter.unusedSimpArgs false
set_option linter.unusedVariables false
open Go.ChangeShapes Go.WideShapes Go.ChangeAt Go.RowKit

theorem right_any (at_ n : Int) (w : World) :
    Calls Tryz.prog 113 #[.agg #[.int .i64 at_, .int .i64 n]] w fun e w' => e = .returned (.bool (decide (arRight at_ n))) ∧ Keeps [] w w' := by
  obtain ⟨W1, hW1⟩ : ∃ W1, w.alloc (.cells #[.int .i64 at_, .int .i64 n] 28) = W1 := ⟨_, rfl⟩
  have hb : Box W1 w.heap.size #[.int .i64 at_, .int .i64 n] := by rw [← hW1]; exact Box.new _ _ _
  have hk1 : Keeps [] w W1 := by rw [← hW1]; exact (Keeps.refl _ _).alloc _
  have c0 := hb.cells 0
  have c1 := hb.cells 1
  have HK := Lib.hid hk1
  clear hb hk1
  by_cases h1 : n < 1
  · have HD : Hid (decide (arRight at_ n) = false) := Lib.hid (decide_eq_false fun h => by have := h.1; omega)
    rw [HD.out]
    have d1 : decide ((1 : Int) ≤ n) = false := decide_eq_false (by omega)
    go_enter Tryz.func113, Tryz.ntmps113
    go_wp2
    go_ret
    exact ⟨rfl, HK.out⟩
  have d1 : decide ((1 : Int) ≤ n) = true := decide_eq_true (by omega)
  by_cases h2 : 4096 < n
  · have HD : Hid (decide (arRight at_ n) = false) := Lib.hid (decide_eq_false fun h => by have := h.2.1; omega)
    rw [HD.out]
    have d2 : decide (n ≤ 4096) = false := decide_eq_false (by omega)
    go_enter Tryz.func113, Tryz.ntmps113
    go_wp2
    go_ret
    exact ⟨rfl, HK.out⟩
  have d2 : decide (n ≤ 4096) = true := decide_eq_true (by omega)
  by_cases h3 : at_ < 0
  · have HD : Hid (decide (arRight at_ n) = false) := Lib.hid (decide_eq_false fun h => by have := h.2.2.1; omega)
    rw [HD.out]
    have d3 : decide (0 ≤ at_) = false := decide_eq_false (by omega)
    go_enter Tryz.func113, Tryz.ntmps113
    go_wp2
    go_ret
    exact ⟨rfl, HK.out⟩
  have d3 : decide (0 ≤ at_) = true := decide_eq_true (by omega)
  have hn1 : 1 ≤ n := by omega
  have hn2 : n ≤ 4096 := by omega
  have ha : 0 ≤ at_ := by omega
  obtain ⟨m, hm⟩ : ∃ m, 65536 - n = m := ⟨_, rfl⟩
  by_cases h4 : at_ < 65536 - n
  · have HD : Hid (decide (arRight at_ n) = true) := Lib.hid (decide_eq_true ⟨hn1, hn2, ha, h4⟩)
    rw [HD.out]
    have d4 : decide (at_ < m) = true := decide_eq_true (by omega)
    go_enter Tryz.func113, Tryz.ntmps113
    go_wp2
    go_ret
    exact ⟨rfl, HK.out⟩
  · have HD : Hid (decide (arRight at_ n) = false) := Lib.hid (decide_eq_false fun h => h4 h.2.2.2)
    rw [HD.out]
    have d4 : decide (at_ < m) = false := decide_eq_false (by omega)
    go_enter Tryz.func113, Tryz.ntmps113
    go_wp2
    go_ret
    exact ⟨rfl, HK.out⟩

theorem arEnded (m : Nat) : ∀ w T nx s, arenaM.want s = none → arE m w T nx s := by
  intro w T nx s h hov
  simp [arenaM, hov] at h
/-- What an arena that isn't right, or a node that is none, gets. -/
theorem refuse_goes (m : Nat) (s0 : ArS) (w : World) (hs : s0.over = some ⟨2, 0, []⟩) (hw : Wk w m { WSt.zero with under := 1 }) :
    Calls Tryz.prog 143 #[.pointer (some ⟨m, 0, none⟩)] w fun e w' => e = .returned (.tuple #[]) ∧ Goes arenaM (arE m) m { WSt.zero with under := 1 } [] s0 w w' := by
  have HE := Lib.hid (wBreak m _ 2 w hw rfl (.inl (show (0 : Int) < 1 by decide)))
  clear hw
  go_enter Tryz.func143, Tryz.ntmps143
  go_wp2_with fail
  refine HE.out.mono ?_
  rintro e w1 ⟨rfl, l', hw, ho, hk⟩
  have HP := Lib.hid (⟨hw, ho, hk⟩ : _ ∧ _ ∧ _)
  clear hw ho hk
  go_wp2
  first | go_end0 | refine bodyPost_ret (results_none rfl _ _ _) rfl ?_
  exact ⟨rfl, HP.out.2.2, .inr ⟨2, 0, [], l', by simp [arenaM, hs], hs, by simp, HP.out.1, HP.out.2.1⟩⟩
theorem refusal_any (s0 : ArS) (w : World) (hs : s0.over = some ⟨2, 0, []⟩) :
    Calls Tryz.prog 114 #[] w fun e w' => ∃ m S, e = .returned (.pointer (some ⟨m, 0, none⟩)) ∧ LoneI arenaM (arE m) m w' S s0 ∧ Keeps [] w w' ∧ ∀ k ∈ S, w.heap.size ≤ k := by
  have HN := Lib.hid (new_goes arenaM (arE (w.heap.size + 1)) s0 143 #[] w (arE_keeps _) (arEnded _) rfl (fun _ _ => by kernel_rfl) (fun w1 h1 _ => refuse_goes _ s0 w1 hs h1))
  clear hs
  go_enter Tryz.func114, Tryz.ntmps114
  go_wp2_with fail
  refine HN.out.mono ?_
  rintro e w1 ⟨rfl, S, hI, hk, hS⟩
  have HP := Lib.hid (⟨hI, hk, hS⟩ : _ ∧ _ ∧ _)
  clear hI hk hS
  go_wp2
  go_ret
  exact ⟨_, S, rfl, HP.out⟩

set_option maxHeartbeats 800000 in
/-- How a Take begins. -/
theorem take_goes (m b0 : Nat) (at_ n : Int) (w : World) (hr : arRight at_ n) (hw : Wk w m { WSt.zero with under := 1 }) (hb : Box w b0 #[.int .i64 at_, .int .i64 n]) :
    Calls Tryz.prog 115 #[.pointer (some ⟨m, 0, none⟩), .pointer (some ⟨b0, 0, none⟩)] w fun e w' => e = .returned (.tuple #[]) ∧ Goes arenaM (arE m) m { WSt.zero with under := 1 } [] (arTake at_ n) w w' := by
  have U0 : M.U 0 := ⟨by decide, by decide⟩
  have h0 := hb.cells 0
  have h1 := hb.cells 1
  have hlt := hw.lt
  have hblt := hb.lt
  obtain ⟨W1, hW1⟩ : ∃ W1, w.alloc (.cells #[.pointer (some ⟨m, 0, none⟩), .int .i64 at_, .int .i64 n, .int .u64 0, .nilFunc, .int .i64 0, .int .u64 0, .slice none 0 0] 137) = W1 := ⟨_, rfl⟩
  have r1 : Row W1 w.heap.size 137 (tnCells m at_ n 0 .nilFunc 0 []) := by rw [← hW1]; exact Row.new _ _ _
  have k1 : Keeps [] w W1 := by rw [← hW1]; exact (Keeps.refl _ _).alloc _
  have c4 := r1.cell (j := 4) rfl
  have f4 := r1.frozen 4
  have s1 : W1.heap.size = w.heap.size + 1 := by rw [← hW1]; simp
  have r2 : Row (W1.setCell ⟨w.heap.size, 4, none⟩ (.func (.func 116) #[.pointer (some ⟨w.heap.size, 0, none⟩)] #[])) w.heap.size 137 (tnCells m at_ n 0 (.func (.func 116) #[.pointer (some ⟨w.heap.size, 0, none⟩)] #[]) 0 []) := r1.set 4 _
  have k2 : Keeps [w.heap.size] W1 (W1.setCell ⟨w.heap.size, 4, none⟩ (.func (.func 116) #[.pointer (some ⟨w.heap.size, 0, none⟩)] #[])) := (Keeps.refl _ _).setCell (fun _ => by simp) _
  have w1 : Wk W1 m { WSt.zero with under := 1 } := by rw [← hW1]; exact hw.alloc _
  have HE := Lib.hid (begin_any m w.heap.size at_ n 0 _ 0 [] 137 _ _ (w1.keeps k2 (by simp; omega)) r2 rfl rfl)
  have HR := Lib.hid r2
  have HK : Hid (Keeps [m] w (W1.setCell ⟨w.heap.size, 4, none⟩ (.func (.func 116) #[.pointer (some ⟨w.heap.size, 0, none⟩)] #[]))) := Lib.hid ((k1.step k2 (by intro k hk; simp at hk; omega)).mono (by simp))
  clear hb hw r1 k1 r2 k2 w1
  go_enter Tryz.func115, Tryz.ntmps115
  go_wp2_with fail
  refine HE.out.mono ?_
  rintro e w3 ⟨rfl, hw3, k3⟩
  have HP := Lib.hid (⟨hw3, k3⟩ : _ ∧ _)
  clear hw3 k3
  go_wp2
  first | go_end0 | refine bodyPost_ret (results_none rfl _ _ _) rfl ?_
  have hT : arTake at_ n = ⟨at_, n, false, 0, 1, 0, 0, none⟩ := by simp [arTake, hr]
  rw [hT]
  have r3 := HR.out.keeps HP.out.2 (by simp; omega)
  refine ⟨rfl, HK.out.trans HP.out.2, .inl ⟨_, _, _, _, [w.heap.size], by simp [arenaM, arWant], rfl, HP.out.1, ?_, fun k hk => ?_, fun k hk => ?_⟩⟩
  · intro _
    exact ⟨⟨hr, fun h => (by cases h), .inl rfl, U0, U0, fun h => absurd rfl h⟩, w.heap.size, 0, 0, by simp, by simp [arFn], r3, fun h => absurd rfl h, fun _ => rfl⟩
  · simp at hk; subst hk; exact r3.lt
  · simp at hk; subst hk; exact ⟨by omega, .inr (Nat.le_refl _)⟩

set_option maxHeartbeats 800000 in
/-- How a Put begins. -/
theorem put_goes (m b0 b1 : Nat) (at_ n i : Int) (w : World) (hr : arRight at_ n) (hi : 1 ≤ i ∧ i ≤ n) (hw : Wk w m { WSt.zero with under := 1 }) (hb : Box w b0 #[.int .i64 at_, .int .i64 n]) (hb1 : Box w b1 #[.int .i64 i]) :
    Calls Tryz.prog 164 #[.pointer (some ⟨m, 0, none⟩), .pointer (some ⟨b0, 0, none⟩), .pointer (some ⟨b1, 0, none⟩)] w fun e w' => e = .returned (.tuple #[]) ∧ Goes arenaM (arE m) m { WSt.zero with under := 1 } [] (arPut at_ n i) w w' := by
  have U0 : M.U 0 := ⟨by decide, by decide⟩
  have h0 := hb.cells 0
  have h1 := hb.cells 1
  have h2 := hb1.cells 0
  have hlt := hw.lt
  have hblt := hb.lt
  have hblt1 := hb1.lt
  obtain ⟨W1, hW1⟩ : ∃ W1, w.alloc (.cells #[.pointer (some ⟨m, 0, none⟩), .int .i64 at_, .int .i64 n, .int .u64 0, .nilFunc, .int .i64 0, .int .u64 0, .slice none 0 0, .int .i64 i] 157) = W1 := ⟨_, rfl⟩
  have r1 : Row W1 w.heap.size 157 (tnCells m at_ n 0 .nilFunc 0 [.int .i64 i]) := by rw [← hW1]; exact Row.new _ _ _
  have k1 : Keeps [] w W1 := by rw [← hW1]; exact (Keeps.refl _ _).alloc _
  have c4 := r1.cell (j := 4) rfl
  have f4 := r1.frozen 4
  have s1 : W1.heap.size = w.heap.size + 1 := by rw [← hW1]; simp
  have r2 : Row (W1.setCell ⟨w.heap.size, 4, none⟩ (.func (.func 165) #[.pointer (some ⟨w.heap.size, 0, none⟩)] #[])) w.heap.size 157 (tnCells m at_ n 0 (.func (.func 165) #[.pointer (some ⟨w.heap.size, 0, none⟩)] #[]) 0 [.int .i64 i]) := r1.set 4 _
  have k2 : Keeps [w.heap.size] W1 (W1.setCell ⟨w.heap.size, 4, none⟩ (.func (.func 165) #[.pointer (some ⟨w.heap.size, 0, none⟩)] #[])) := (Keeps.refl _ _).setCell (fun _ => by simp) _
  have w1 : Wk W1 m { WSt.zero with under := 1 } := by rw [← hW1]; exact hw.alloc _
  have HE := Lib.hid (begin_any m w.heap.size at_ n 0 _ 0 [.int .i64 i] 157 _ _ (w1.keeps k2 (by simp; omega)) r2 rfl rfl)
  have HR := Lib.hid r2
  have HK : Hid (Keeps [m] w (W1.setCell ⟨w.heap.size, 4, none⟩ (.func (.func 165) #[.pointer (some ⟨w.heap.size, 0, none⟩)] #[]))) := Lib.hid ((k1.step k2 (by intro k hk; simp at hk; omega)).mono (by simp))
  clear hb hb1 hw r1 k1 r2 k2 w1
  go_enter Tryz.func164, Tryz.ntmps164
  go_wp2_with fail
  refine HE.out.mono ?_
  rintro e w3 ⟨rfl, hw3, k3⟩
  have HP := Lib.hid (⟨hw3, k3⟩ : _ ∧ _)
  clear hw3 k3
  go_wp2
  first | go_end0 | refine bodyPost_ret (results_none rfl _ _ _) rfl ?_
  have hT : arPut at_ n i = ⟨at_, n, true, i, 1, 0, 0, none⟩ := by simp [arPut, hr, hi.1, hi.2]
  rw [hT]
  have r3 := HR.out.keeps HP.out.2 (by simp; omega)
  refine ⟨rfl, HK.out.trans HP.out.2, .inl ⟨_, _, _, _, [w.heap.size], by simp [arenaM, arWant], rfl, HP.out.1, ?_, fun k hk => ?_, fun k hk => ?_⟩⟩
  · intro _
    exact ⟨⟨hr, fun _ => hi, .inl rfl, U0, U0, fun h => absurd rfl h⟩, w.heap.size, 0, 0, by simp, by simp [arFn], r3, fun h => absurd rfl h, fun _ => rfl⟩
  · simp at hk; subst hk; exact r3.lt
  · simp at hk; subst hk; exact ⟨by omega, .inr (Nat.le_refl _)⟩

/-- A walk that goes as an arena's. -/
def arStrand (m : Nat) (s : ArS) : Strand := ⟨ArS, arenaM, LoneI arenaM (arE m) m, m, arRuns m, s⟩
theorem isAr_strand (m : Nat) (s : ArS) : IsAr (arStrand m s) s := ⟨_, _, _, rfl⟩

set_option maxHeartbeats 800000 in
theorem take_made (at_ n : Int) (w : World) :
    Calls Tryz.prog 74 #[.agg #[.int .i64 at_, .int .i64 n]] w fun e w' => ∃ (m : Nat) (S : List Nat), e = .returned (.pointer (some ⟨m, 0, none⟩)) ∧ LoneI arenaM (arE m) m w' S (arTake at_ n) ∧ Keeps [] w w' ∧ ∀ k ∈ S, w.heap.size ≤ k := by
  have HR := Lib.hid (fun W => right_any at_ n W)
  obtain ⟨W1, hW1⟩ : ∃ W1, w.alloc (.cells #[.int .i64 at_, .int .i64 n] 28) = W1 := ⟨_, rfl⟩
  have hb : Box W1 w.heap.size #[.int .i64 at_, .int .i64 n] := by rw [← hW1]; exact Box.new _ _ _
  have hk1 : Keeps [] w W1 := by rw [← hW1]; exact (Keeps.refl _ _).alloc _
  have c0 := hb.cells 0
  have c1 := hb.cells 1
  have HB := Lib.hid hb
  have HK := Lib.hid hk1
  clear hb hk1
  by_cases hr : arRight at_ n
  · have HH := Lib.hid hr
    rw [decide_eq_true hr] at HR
    clear hr
    go_enter Tryz.func74, Tryz.ntmps74
    go_wp2_with fail
    refine (HR.out W1).mono ?_
    rintro e w2 ⟨rfl, k2⟩
    have HN := Lib.hid (new_goes arenaM (arE (w2.heap.size + 1)) (arTake at_ n) 115 #[.pointer (some ⟨w.heap.size, 0, none⟩)] w2 (arE_keeps _) (arEnded _) rfl (fun _ _ => by kernel_rfl) (fun w3 h3 k3 => take_goes _ _ at_ n w3 HH.out h3 ((HB.out.keeps k2 (by simp)).keeps k3 (by simp))))
    have HK2 := Lib.hid (HK.out.trans k2)
    clear k2
    go_wp2_with fail
    refine HN.out.mono ?_
    rintro e w4 ⟨rfl, S, hI, k4, hS⟩
    have HP : Hid (_ ∧ _ ∧ _) := Lib.hid ⟨hI, HK2.out.trans k4, fun k hk => Nat.le_trans HK2.out.size (hS k hk)⟩
    clear hI k4 hS
    go_wp2
    go_ret
    exact ⟨_, S, rfl, HP.out⟩
  · have hT : (arTake at_ n).over = some ⟨2, 0, []⟩ := by simp [arTake, hr]
    have HF := Lib.hid (fun W => refusal_any (arTake at_ n) W hT)
    rw [decide_eq_false hr] at HR
    clear hr hT
    go_enter Tryz.func74, Tryz.ntmps74
    go_wp2_with fail
    refine (HR.out W1).mono ?_
    rintro e w2 ⟨rfl, k2⟩
    have HK2 := Lib.hid (HK.out.trans k2)
    clear k2
    go_wp2_with fail
    refine (HF.out w2).mono ?_
    rintro e w4 ⟨m, S, rfl, hI, k4, hS⟩
    have HP : Hid (_ ∧ _ ∧ _) := Lib.hid ⟨hI, HK2.out.trans k4, fun k hk => Nat.le_trans HK2.out.size (hS k hk)⟩
    clear hI k4 hS
    go_wp2
    go_ret
    exact ⟨_, S, rfl, HP.out⟩
theorem take_any (at_ n : Int) (w : World) :
    Calls Tryz.prog 74 #[.agg #[.int .i64 at_, .int .i64 n]] w fun e w' => ∃ (t : Strand) (S : List Nat), e = .returned (.pointer (some ⟨t.m, 0, none⟩)) ∧ IsAr t (arTake at_ n) ∧ t.I w' S t.s ∧ Keeps [] w w' ∧ ∀ k ∈ S, w.heap.size ≤ k :=
  (take_made at_ n w).mono fun _ _ ⟨m, S, he, hI, hk, hS⟩ => ⟨arStrand m _, S, he, isAr_strand m _, hI, hk, hS⟩

set_option maxHeartbeats 1600000 in
theorem put_made (at_ n i : Int) (w : World) :
    Calls Tryz.prog 147 #[.agg #[.int .i64 at_, .int .i64 n], .int .i64 i] w fun e w' => ∃ (m : Nat) (S : List Nat), e = .returned (.pointer (some ⟨m, 0, none⟩)) ∧ LoneI arenaM (arE m) m w' S (arPut at_ n i) ∧ Keeps [] w w' ∧ ∀ k ∈ S, w.heap.size ≤ k := by
  have HR := Lib.hid (fun W => right_any at_ n W)
  obtain ⟨W1, hW1⟩ : ∃ W1, (w.alloc (.cells #[.int .i64 at_, .int .i64 n] 28)).alloc (.cells #[.int .i64 i] 3) = W1 := ⟨_, rfl⟩
  have hb : Box W1 w.heap.size #[.int .i64 at_, .int .i64 n] := by rw [← hW1]; exact (Box.new _ _ _).alloc _
  have hb1 : Box W1 (w.heap.size + 1) #[.int .i64 i] := by rw [← hW1]; have := Box.new (w.alloc (.cells #[.int .i64 at_, .int .i64 n] 28)) #[.int .i64 i] 3; simpa using this
  have hk1 : Keeps [] w W1 := by rw [← hW1]; exact ((Keeps.refl _ _).alloc _).alloc _
  have HB := Lib.hid hb
  have HB1 := Lib.hid hb1
  have c0 := hb.cells 0
  have c1 := hb.cells 1
  have c2 := hb1.cells 0
  have HK := Lib.hid hk1
  clear hb hb1 hk1
  by_cases hr : arRight at_ n ∧ 1 ≤ i ∧ i ≤ n
  · have HH := Lib.hid hr.1
    have HI := Lib.hid hr.2
    rw [decide_eq_true hr.1] at HR
    have d1 : decide (i < 1) = false := decide_eq_false (by omega)
    have d2 : decide (n < i) = false := decide_eq_false (by omega)
    clear hr
    go_enter Tryz.func147, Tryz.ntmps147
    go_wp2_with fail
    refine (HR.out W1).mono ?_
    rintro e w2 ⟨rfl, k2⟩
    have HN := Lib.hid (new_goes arenaM (arE (w2.heap.size + 1)) (arPut at_ n i) 164 #[.pointer (some ⟨w.heap.size, 0, none⟩), .pointer (some ⟨w.heap.size + 1, 0, none⟩)] w2 (arE_keeps _) (arEnded _) rfl (fun _ _ => by kernel_rfl) (fun w3 h3 k3 => put_goes _ _ _ at_ n i w3 HH.out HI.out h3 ((HB.out.keeps k2 (by simp)).keeps k3 (by simp)) ((HB1.out.keeps k2 (by simp)).keeps k3 (by simp))))
    have b2 := (HB.out.keeps k2 (by simp))
    have b3 := (HB1.out.keeps k2 (by simp))
    have e0 := b2.cells 0
    have e1 := b2.cells 1
    have e2 := b3.cells 0
    have HK2 := Lib.hid (HK.out.trans k2)
    clear k2 b2 b3
    go_wp2_with fail
    refine HN.out.mono ?_
    rintro e w4 ⟨rfl, S, hI, k4, hS⟩
    have HP : Hid (_ ∧ _ ∧ _) := Lib.hid ⟨hI, HK2.out.trans k4, fun k hk => Nat.le_trans HK2.out.size (hS k hk)⟩
    clear hI k4 hS
    go_wp2
    go_ret
    exact ⟨_, S, rfl, HP.out⟩
  · have hT : (arPut at_ n i).over = some ⟨2, 0, []⟩ := by simp only [arPut]; rw [if_neg hr]
    have HF := Lib.hid (fun W => refusal_any (arPut at_ n i) W hT)
    have hbad : Hid (decide (arRight at_ n) = false ∨ (decide (arRight at_ n) = true ∧ i < 1) ∨ (decide (arRight at_ n) = true ∧ ¬ i < 1 ∧ n < i)) := Lib.hid (by
      by_cases h1 : arRight at_ n
      · right
        by_cases h2 : i < 1
        · exact .inl ⟨decide_eq_true h1, h2⟩
        · exact .inr ⟨decide_eq_true h1, h2, by have : ¬ (i ≤ n) := fun h => hr ⟨h1, by omega, h⟩; omega⟩
      · exact .inl (decide_eq_false h1))
    clear hr hT
    rcases hbad.out with h | ⟨h, h2⟩ | ⟨h, h2, h3⟩
    · rw [h] at HR
      clear h
      go_enter Tryz.func147, Tryz.ntmps147
      go_wp2_with fail
      refine (HR.out W1).mono ?_
      rintro e w2 ⟨rfl, k2⟩
      have HK2 := Lib.hid (HK.out.trans k2)
      clear k2
      go_wp2_with fail
      refine (HF.out w2).mono ?_
      rintro e w4 ⟨m, S, rfl, hI, k4, hS⟩
      have HP : Hid (_ ∧ _ ∧ _) := Lib.hid ⟨hI, HK2.out.trans k4, fun k hk => Nat.le_trans HK2.out.size (hS k hk)⟩
      clear hI k4 hS
      go_wp2
      go_ret
      exact ⟨_, S, rfl, HP.out⟩
    · rw [h] at HR
      have d1 : decide (i < 1) = true := decide_eq_true h2
      clear h h2
      go_enter Tryz.func147, Tryz.ntmps147
      go_wp2_with fail
      refine (HR.out W1).mono ?_
      rintro e w2 ⟨rfl, k2⟩
      have b3 := (HB1.out.keeps k2 (by simp))
      have e2 := b3.cells 0
      have HK2 := Lib.hid (HK.out.trans k2)
      clear k2 b3
      go_wp2_with fail
      refine (HF.out w2).mono ?_
      rintro e w4 ⟨m, S, rfl, hI, k4, hS⟩
      have HP : Hid (_ ∧ _ ∧ _) := Lib.hid ⟨hI, HK2.out.trans k4, fun k hk => Nat.le_trans HK2.out.size (hS k hk)⟩
      clear hI k4 hS
      go_wp2
      go_ret
      exact ⟨_, S, rfl, HP.out⟩
    · rw [h] at HR
      have d1 : decide (i < 1) = false := decide_eq_false h2
      have d2 : decide (n < i) = true := decide_eq_true h3
      clear h h2 h3
      go_enter Tryz.func147, Tryz.ntmps147
      go_wp2_with fail
      refine (HR.out W1).mono ?_
      rintro e w2 ⟨rfl, k2⟩
      have b2 := (HB.out.keeps k2 (by simp))
      have b3 := (HB1.out.keeps k2 (by simp))
      have e1 := b2.cells 1
      have e2 := b3.cells 0
      have HK2 := Lib.hid (HK.out.trans k2)
      clear k2 b2 b3
      go_wp2_with fail
      refine (HF.out w2).mono ?_
      rintro e w4 ⟨m, S, rfl, hI, k4, hS⟩
      have HP : Hid (_ ∧ _ ∧ _) := Lib.hid ⟨hI, HK2.out.trans k4, fun k hk => Nat.le_trans HK2.out.size (hS k hk)⟩
      clear hI k4 hS
      go_wp2
      go_ret
      exact ⟨_, S, rfl, HP.out⟩
theorem put_any (at_ n i : Int) (w : World) :
    Calls Tryz.prog 147 #[.agg #[.int .i64 at_, .int .i64 n], .int .i64 i] w fun e w' => ∃ (t : Strand) (S : List Nat), e = .returned (.pointer (some ⟨t.m, 0, none⟩)) ∧ IsAr t (arPut at_ n i) ∧ t.I w' S t.s ∧ Keeps [] w w' ∧ ∀ k ∈ S, w.heap.size ≤ k :=
  (put_made at_ n i w).mono fun _ _ ⟨m, S, he, hI, hk, hS⟩ => ⟨arStrand m _, S, he, isAr_strand m _, hI, hk, hS⟩
end Go.Proofs.YtoomefclbemnlaaGreat
