/-
  A parker's walks go as their machine; how they begin.
-/
import Derived.Test.YtgononhihpkagaaPkW
namespace Go.Proofs.Ytgononhihpkagaa
set_option maxRecDepth 100000
set_option linter.unusedSimpArgs false
set_option linter.unusedVariables false
open Go.ChangeShapes Go.WideShapes Go.ChangeAt Go.RowKit

/-- Its last access has been asked for: the function that tells what the answer is worth. -/
def PkLast (m : Nat) (w : World) (T : List Nat) (nx : Value) (s : PkS) : Prop :=
  ∃ bv bf F ca, bv ∈ T ∧ bf ∈ T ∧ nx = .func (.func 59) #[] #[.pointer (some ⟨bv, 0, none⟩), .pointer (some ⟨bf, 0, none⟩)] ∧
    Box w bv #[.pointer (some ⟨m, 0, none⟩), .int .i64 s.at_] ∧ Box w bf #[.func (.func F) #[] ca] ∧
    ((s.kind = 1 ∧ F = 27 ∧ ca = #[]) ∨ (s.kind = 2 ∧ F = 30 ∧ ca = #[]) ∨ (s.kind = 4 ∧ F = 35 ∧ ca = #[]) ∨
     (s.kind = 3 ∧ s.step = 3 ∧ F = 74 ∧ ∃ bw p, bw ∈ T ∧ p ∈ T ∧ ca = #[.pointer (some ⟨bw, 0, none⟩)] ∧ Box w bw #[.pointer (some ⟨p, 0, none⟩)] ∧ Row w p 71 (tPk m s.at_ s.key s.waited)))
/-- It waits: at its Load (1) or its Wait (2). -/
def PkWaits (m : Nat) (w : World) (T : List Nat) (nx : Value) (s : PkS) : Prop :=
  s.kind = 3 ∧ ∃ p, p ∈ T ∧ ((s.step = 1 ∧ nx = .func (.func 61) #[.pointer (some ⟨p, 0, none⟩)] #[]) ∨ (s.step = 2 ∧ nx = .func (.func 75) #[.pointer (some ⟨p, 0, none⟩)] #[])) ∧
    Row w p 71 (tPk m s.at_ s.key s.waited)
/-- What a walk of a parker knows, while it has not ended. -/
def pkE (m : Nat) (w : World) (T : List Nat) (nx : Value) (s : PkS) : Prop :=
  s.over = none → pkOk s ∧ (PkLast m w T nx s ∨ PkWaits m w T nx s)
theorem pkE_keeps (m : Nat) : ∀ w w' T A nx s, pkE m w T nx s → Keeps A w w' → (∀ k ∈ T, k ∉ A) → pkE m w' T nx s := by
  intro w w' T A nx s h hk hT hg
  obtain ⟨h0, h | h⟩ := h hg
  · obtain ⟨bv, bf, F, ca, h1, h2, h3, h4, h5, h6⟩ := h
    refine ⟨h0, .inl ⟨bv, bf, F, ca, h1, h2, h3, h4.keeps hk (hT _ h1), h5.keeps hk (hT _ h2), ?_⟩⟩
    rcases h6 with h6 | h6 | h6 | ⟨e1, e2, e3, bw, p, g1, g2, g3, g4, g5⟩
    · exact .inl h6
    · exact .inr (.inl h6)
    · exact .inr (.inr (.inl h6))
    · exact .inr (.inr (.inr ⟨e1, e2, e3, bw, p, g1, g2, g3, g4.keeps hk (hT _ g1), g5.keeps hk (hT _ g2)⟩))
  · obtain ⟨h1, p, h2, h3, h4⟩ := h
    exact ⟨h0, .inr ⟨h1, p, h2, h3, h4.keeps hk (hT _ h2)⟩⟩
theorem pkEnded (m : Nat) : ∀ w T nx s, pkM.want s = none → pkE m w T nx s := by
  intro w T nx s h hov
  simp [pkM, hov] at h

theorem pkGive_last (s : PkS) (v : Int) (hk : s.kind = 1 ∨ s.kind = 2 ∨ s.kind = 4 ∨ (s.kind = 3 ∧ s.step = 3)) :
    ∃ r, pkGive s v = pkEnd s r ∧ ((s.kind = 1 → r = v / 4294967296) ∧ (s.kind = 2 → r = v / 4294967296) ∧ (s.kind = 4 → r = v % 2) ∧ (s.kind = 3 → r = s.waited)) := by
  rcases hk with h | h | h | ⟨h, h2⟩
  · exact ⟨v / 4294967296, by simp [pkGive, h], by simp [h]⟩
  · exact ⟨v / 4294967296, by simp [pkGive, h], by simp [h]⟩
  · exact ⟨v % 2, by simp [pkGive, h], by simp [h]⟩
  · exact ⟨s.waited, by simp [pkGive, h, h2], by simp [h]⟩

theorem pkSteps (m : Nat) : ∀ w T F fi ca s st v won x, Wk w m st → st.over = false → st.sub = none → st.under = 1 → (∀ k ∈ T, k < w.heap.size ∧ k ≠ m) → pkE m w T (.func (.func F) fi ca) s → M.U v → pkM.want s = some x →
      Calls Try.prog F (fi ++ (#[.int .u64 v, .bool won] ++ ca)) w fun e w' => e = .returned (.tuple #[]) ∧ Goes pkM (pkE m) m st T (pkM.give s v won) w w' := by
  intro w T F fi ca s st v won x hw ho hs hu hT hE hv hx
  have hov : s.over = none := by
    cases h : s.over with
    | none => rfl
    | some r => simp [pkM, h] at hx
  obtain ⟨hok, h | h⟩ := hE hov
  all_goals have hgv : pkM.give s v won = pkGive s v := by simp [pkM, hov]
  all_goals rw [hgv]
  · obtain ⟨bv, bf, G, cg, h1, h2, h3, h4, h5, h6⟩ := h
    injection h3 with e1 e2 e3
    injection e1 with e1
    subst e1 e2 e3
    have hk4 : s.kind = 1 ∨ s.kind = 2 ∨ s.kind = 4 ∨ (s.kind = 3 ∧ s.step = 3) := by
      rcases h6 with h6 | h6 | h6 | h6
      · exact .inl h6.1
      · exact .inr (.inl h6.1)
      · exact .inr (.inr (.inl h6.1))
      · exact .inr (.inr (.inr ⟨h6.1, h6.2.1⟩))
    obtain ⟨r, hr, r1, r2, r4, r3⟩ := pkGive_last s v hk4
    rw [hr]
    have u0 := hv.nn
    have u1 := hv.lt
    have hcf : ∀ args w, (callFunc G args).run Try.prog w = .ok (.enter G args) w := by
      rcases h6 with ⟨-, rfl, -⟩ | ⟨-, rfl, -⟩ | ⟨-, rfl, -⟩ | ⟨-, -, rfl, -⟩
      all_goals exact fun _ _ => by kernel_rfl
    have hF : ∀ W, Keeps [] w W → Calls Try.prog G (#[.int .u32 (v / 4294967296), .int .u32 (v % 4294967296)] ++ cg) W fun e w' => e = .returned (.int .u64 r) ∧ W = w' := by
      intro W hk
      rcases h6 with ⟨e, rfl, rfl⟩ | ⟨e, rfl, rfl⟩ | ⟨e, rfl, rfl⟩ | ⟨e, -, rfl, bw, p, g1, g2, rfl, g4, g5⟩
      · rw [r1 e]; exact pkPrepared _ _ W (by omega) (by omega)
      · rw [r2 e]; exact pkGaveUp _ _ W (by omega) (by omega)
      · rw [r4 e, show v % 2 = v % 4294967296 % 2 by omega]; exact pkCalled _ _ W (by omega) (by omega)
      · rw [r3 e]; exact pkRead1 _ _ _ _ _ _ _ _ _ W (g4.keeps hk (by simp)) (g5.keeps hk (by simp))
    refine (pkLast1_any G cg m bv bf s.at_ v r won st w hw h4 h5 ho (by omega) hv hcf hF).mono ?_
    rintro e w2 ⟨rfl, l', k2, o2, kk⟩
    refine ⟨rfl, kk.mono (by simp), .inr ⟨0, r, [], l', by simp [pkM, pkEnd], by simp [pkM, pkEnd], by simp, ?_, o2⟩⟩
    rw [← hs]; exact k2
  · obtain ⟨hk3, p, hpT, hn, hp⟩ := h
    have hpm := (hT p hpT).2
    obtain ⟨q1, q2, q3, q4, q5, q6⟩ := hok
    rcases hn with ⟨hst, hn⟩ | ⟨hst, hn⟩
    · injection hn with e1 e2 e3
      injection e1 with e1
      subst e1 e2 e3
      by_cases hq : v / 4294967296 = s.key
      · have hg : pkGive s v = { s with x := v, step := 2, waited := 1 } := by simp [pkGive, hk3, hst, hq]
        rw [hg]
        refine (pkRead_same m p s.at_ s.key s.waited v won _ st w hw hp hpm ho hs hv hq).mono ?_
        rintro e w2 ⟨rfl, k2, r2, kk⟩
        refine ⟨rfl, kk.mono (by intro k hk _; simp at hk; rcases hk with rfl | rfl; simp; simp [hpT]), .inl ⟨_, _, _, _, T, by simp [pkM, pkWant, hov, hk3], by simp [pkM, hov], k2, ?_, fun k hk => Nat.lt_of_lt_of_le (hT k hk).1 kk.size, fun k hk => ⟨(hT k hk).2, .inl hk⟩⟩⟩
        intro _
        exact ⟨⟨q1, q2, q3, q4, hv, ⟨by show (0 : Int) ≤ 1; decide, by show (1 : Int) < 18446744073709551616; decide⟩⟩, .inr ⟨hk3, p, hpT, .inr ⟨rfl, rfl⟩, r2⟩⟩
      · have hg : pkGive s v = { s with x := v, step := 3 } := by simp [pkGive, hk3, hst, hq]
        rw [hg]
        refine (pkRead_over m p s.at_ s.key s.waited v won _ st w hw hp hpm ho hs hv hq).mono ?_
        rintro e w2 ⟨rfl, bv, bf, bw, k2, b1, b2, b3, n1, n2, n3, r2, kk⟩
        have hmlt := hw.lt
        refine ⟨rfl, kk.mono (by simp), .inl ⟨_, _, _, _, [bv, bf, bw, p], by simp [pkM, pkWant, hov, hk3, pkLess], by simp [pkM, hov], k2, ?_, ?_, ?_⟩⟩
        · intro _
          exact ⟨⟨q1, q2, q3, q4, hv, q6⟩, .inl ⟨bv, bf, _, _, by simp, by simp, rfl, b1, b2, .inr (.inr (.inr ⟨hk3, rfl, rfl, bw, p, by simp, by simp, rfl, b3, r2⟩))⟩⟩
        · intro k hk
          simp at hk
          rcases hk with rfl | rfl | rfl | rfl
          · exact b1.lt
          · exact b2.lt
          · exact b3.lt
          · exact r2.lt
        · intro k hk
          simp at hk
          rcases hk with rfl | rfl | rfl | rfl
          · exact ⟨by omega, .inr n1⟩
          · exact ⟨by omega, .inr n2⟩
          · exact ⟨by omega, .inr n3⟩
          · exact ⟨hpm, .inl hpT⟩
    · injection hn with e1 e2 e3
      injection e1 with e1
      subst e1 e2 e3
      have hg : pkGive s v = { s with step := 1 } := by simp [pkGive, hk3, hst]
      rw [hg]
      refine (pkChanged_any m p s.at_ s.key s.waited v won _ st w hw hp hpm ho hs).mono ?_
      rintro e w2 ⟨rfl, k2, r2, kk⟩
      refine ⟨rfl, kk.mono (by simp), .inl ⟨_, _, _, _, T, by simp [pkM, pkWant, hov, hk3], by simp [pkM, hov], k2, ?_, fun k hk => Nat.lt_of_lt_of_le (hT k hk).1 kk.size, fun k hk => ⟨(hT k hk).2, .inl hk⟩⟩⟩
      intro _
      exact ⟨⟨q1, q2, q3, q4, q5, q6⟩, .inr ⟨hk3, p, hpT, .inl ⟨rfl, rfl⟩, r2⟩⟩
theorem pkRuns (m : Nat) : Runs pkM (LoneI pkM (pkE m) m) m := by
  refine runs_own pkM (pkE m) m (pkE_keeps m) (pkEnded m) ?_ (fun _ _ _ => rfl) ?_ ?_ (pkSteps m)
  · intro s v won h
    cases ho : s.over with
    | none => simp [pkM, ho] at h
    | some r => simp [pkM, ho]
  · intro s x h
    cases ho : s.over with
    | none => exact ho
    | some r => simp [pkM, ho] at h
  · intro w T nx s x h hx
    have hov : s.over = none := by
      cases h : s.over with
      | none => rfl
      | some r => simp [pkM, h] at hx
    obtain ⟨-, h | h⟩ := h hov
    · obtain ⟨bv, bf, G, cg, -, -, h3, -⟩ := h
      exact ⟨_, _, _, h3, fun _ _ => by kernel_rfl⟩
    · obtain ⟨-, p, -, h | h, -⟩ := h
      · exact ⟨_, _, _, h.2, fun _ _ => by kernel_rfl⟩
      · exact ⟨_, _, _, h.2, fun _ _ => by kernel_rfl⟩

theorem pkNew_right (at_ kind key : Int) (hr : pkRight at_) : pkNew at_ kind key = ⟨at_, kind, key, 1, 0, 0, none⟩ := by simp [pkNew, hr]
theorem pkU0 : M.U 0 := ⟨by decide, by decide⟩
/-- How one of one access begins. -/
theorem pkAsked (m : Nat) (at_ kind k2 a : Int) (F : FuncId) (w w2 : World) (bv bf : Nat) (hr : pkRight at_) (hm : m < w.heap.size) (key : Int) (k0 : 0 ≤ key) (k1 : key < 4294967296)
    (hk : (kind = 1 ∧ k2 = 5 ∧ a = 1 ∧ F = 27) ∨ (kind = 2 ∧ k2 = 6 ∧ a = 18446744073709551614 ∧ F = 30) ∨ (kind = 4 ∧ k2 = 4 ∧ a = 4294967296 ∧ F = 35))
    (h1 : Wk w2 m { WSt.zero with under := 1, x := ⟨k2, at_, a, 0⟩, nxt := .func (.func 59) #[] #[.pointer (some ⟨bv, 0, none⟩), .pointer (some ⟨bf, 0, none⟩)], sub := none, after := .nilFunc })
    (h2 : Box w2 bv #[.pointer (some ⟨m, 0, none⟩), .int .i64 at_]) (h3 : Box w2 bf #[.func (.func F) #[] #[]]) (h4 : w.heap.size ≤ bv) (h5 : w.heap.size ≤ bf) (h6 : Keeps [m] w w2) :
    Goes pkM (pkE m) m { WSt.zero with under := 1 } [] (pkNew at_ kind key) w w2 := by
  rw [pkNew_right _ _ _ hr]
  refine ⟨h6, .inl ⟨_, _, _, _, [bv, bf], ?_, rfl, h1, ?_, ?_, ?_⟩⟩
  · rcases hk with ⟨rfl, rfl, rfl, -⟩ | ⟨rfl, rfl, rfl, -⟩ | ⟨rfl, rfl, rfl, -⟩ <;> rfl
  · intro _
    refine ⟨⟨hr, ?_, k0, k1, pkU0, pkU0⟩, .inl ⟨bv, bf, F, #[], by simp, by simp, rfl, h2, h3, ?_⟩⟩
    · rcases hk with ⟨rfl, -⟩ | ⟨rfl, -⟩ | ⟨rfl, -⟩ <;> simp [pkKind]
    · rcases hk with ⟨rfl, -, -, h⟩ | ⟨rfl, -, -, h⟩ | ⟨rfl, -, -, h⟩
      · exact .inl ⟨rfl, h, rfl⟩
      · exact .inr (.inl ⟨rfl, h, rfl⟩)
      · exact .inr (.inr (.inl ⟨rfl, h, rfl⟩))
  · intro k hk
    simp at hk
    rcases hk with rfl | rfl
    · exact h2.lt
    · exact h3.lt
  · intro k hk
    simp at hk
    rcases hk with rfl | rfl
    · exact ⟨by omega, .inr h4⟩
    · exact ⟨by omega, .inr h5⟩

set_option maxHeartbeats 800000 in
theorem pkPrepare1 (m : Nat) (at_ key : Int) (ky0 : 0 ≤ key) (ky1 : key < 4294967296) (hr : pkRight at_) (w : World) (hw : Wk w m { WSt.zero with under := 1 }) :
    Calls Try.prog 25 (#[.agg #[.pointer (some ⟨m, 0, none⟩), .int .i64 at_]] ++ #[]) w fun e w' => e = .returned (.tuple #[]) ∧ Goes pkM (pkE m) m { WSt.zero with under := 1 } [] (pkNew at_ 1 key) w w' := by
  have hmlt := hw.lt
  obtain ⟨W1, hW1⟩ : ∃ W1, w.alloc (.cells #[.pointer (some ⟨m, 0, none⟩), .int .i64 at_] 64) = W1 := ⟨_, rfl⟩
  have hk1 : Keeps [] w W1 := by rw [← hW1]; exact (Keeps.refl _ _).alloc _
  have hb : Box W1 w.heap.size #[.pointer (some ⟨m, 0, none⟩), .int .i64 at_] := by rw [← hW1]; exact Box.new _ _ _
  have HE := Lib.hid (pkLast_any 27 #[] m at_ 5 1 { WSt.zero with under := 1 } W1 (hw.keeps hk1 (by simp)) rfl rfl)
  have c0 := hb.cells 0
  have c1 := hb.cells 1
  simp at c0 c1
  have HK := Lib.hid hk1
  have HR := Lib.hid hr
  clear hw hk1 hb hr
  go_enter Try.func25, Try.ntmps25
  go_wp2_with fail
  refine HE.out.mono ?_
  rintro e w2 ⟨rfl, bv, bf, h1, h2, h3, h4, h5, h6⟩
  have HP := Lib.hid (pkAsked m at_ 1 5 1 27 w w2 bv bf HR.out hmlt key ky0 ky1 (.inl ⟨rfl, rfl, rfl, rfl⟩) h1 h2 h3 (Nat.le_trans HK.out.size h4) (Nat.le_trans HK.out.size h5) (HK.out.nil.trans h6))
  clear h1 h2 h3 h4 h5 h6
  go_wp2
  first | go_end0 | refine bodyPost_ret (results_none rfl _ _ _) rfl ?_
  exact ⟨rfl, HP.out⟩
set_option maxHeartbeats 800000 in
theorem pkGiveUp1 (m : Nat) (at_ key : Int) (ky0 : 0 ≤ key) (ky1 : key < 4294967296) (hr : pkRight at_) (w : World) (hw : Wk w m { WSt.zero with under := 1 }) :
    Calls Try.prog 28 (#[.agg #[.pointer (some ⟨m, 0, none⟩), .int .i64 at_]] ++ #[]) w fun e w' => e = .returned (.tuple #[]) ∧ Goes pkM (pkE m) m { WSt.zero with under := 1 } [] (pkNew at_ 2 key) w w' := by
  have hmlt := hw.lt
  obtain ⟨W1, hW1⟩ : ∃ W1, w.alloc (.cells #[.pointer (some ⟨m, 0, none⟩), .int .i64 at_] 64) = W1 := ⟨_, rfl⟩
  have hk1 : Keeps [] w W1 := by rw [← hW1]; exact (Keeps.refl _ _).alloc _
  have hb : Box W1 w.heap.size #[.pointer (some ⟨m, 0, none⟩), .int .i64 at_] := by rw [← hW1]; exact Box.new _ _ _
  have HE := Lib.hid (pkUnmark_any 30 #[] m at_ { WSt.zero with under := 1 } W1 (hw.keeps hk1 (by simp)) rfl rfl)
  have c0 := hb.cells 0
  have c1 := hb.cells 1
  simp at c0 c1
  have HK := Lib.hid hk1
  have HR := Lib.hid hr
  clear hw hk1 hb hr
  go_enter Try.func28, Try.ntmps28
  go_wp2_with fail
  refine HE.out.mono ?_
  rintro e w2 ⟨rfl, bv, bf, h1, h2, h3, h4, h5, h6⟩
  have HP := Lib.hid (pkAsked m at_ 2 6 18446744073709551614 30 w w2 bv bf HR.out hmlt key ky0 ky1 (.inr (.inl ⟨rfl, rfl, rfl, rfl⟩)) h1 h2 h3 (Nat.le_trans HK.out.size h4) (Nat.le_trans HK.out.size h5) (HK.out.nil.trans h6))
  clear h1 h2 h3 h4 h5 h6
  go_wp2
  first | go_end0 | refine bodyPost_ret (results_none rfl _ _ _) rfl ?_
  exact ⟨rfl, HP.out⟩
set_option maxHeartbeats 800000 in
theorem pkCall1 (m : Nat) (at_ key : Int) (ky0 : 0 ≤ key) (ky1 : key < 4294967296) (hr : pkRight at_) (w : World) (hw : Wk w m { WSt.zero with under := 1 }) :
    Calls Try.prog 33 (#[.agg #[.pointer (some ⟨m, 0, none⟩), .int .i64 at_]] ++ #[]) w fun e w' => e = .returned (.tuple #[]) ∧ Goes pkM (pkE m) m { WSt.zero with under := 1 } [] (pkNew at_ 4 key) w w' := by
  have hmlt := hw.lt
  obtain ⟨W1, hW1⟩ : ∃ W1, w.alloc (.cells #[.pointer (some ⟨m, 0, none⟩), .int .i64 at_] 64) = W1 := ⟨_, rfl⟩
  have hk1 : Keeps [] w W1 := by rw [← hW1]; exact (Keeps.refl _ _).alloc _
  have hb : Box W1 w.heap.size #[.pointer (some ⟨m, 0, none⟩), .int .i64 at_] := by rw [← hW1]; exact Box.new _ _ _
  have HPa := Lib.hid (fun W => pair_any 1 0 W (by decide) (by decide) (by decide) (by decide))
  have HE := Lib.hid (fun W h => pkLast_any 35 #[] m at_ 4 4294967296 { WSt.zero with under := 1 } W h rfl rfl)
  have c0 := hb.cells 0
  have c1 := hb.cells 1
  simp at c0 c1
  have HW := Lib.hid (hw.keeps hk1 (by simp))
  have HK := Lib.hid hk1
  have HR := Lib.hid hr
  clear hw hk1 hb hr
  go_enter Try.func33, Try.ntmps33
  go_wp2_with fail
  refine wp_region_mid 2 (by kernel_rfl) (by kernel_rfl) ?_
  simp only [List.take_succ_cons, List.take_zero, List.drop_succ_cons, List.drop_zero]
  repeat still_step
  still_call (stillOf (HPa.out _))
  repeat still_step
  refine wpStill_nil ?_
  go_wp2_with fail
  refine (HE.out _ (HW.out.keeps ((Keeps.refl [] W1).drew) (by simp))).mono ?_
  rintro e w2 ⟨rfl, bv, bf, h1, h2, h3, h4, h5, h6⟩
  have HP := Lib.hid (pkAsked m at_ 4 4 4294967296 35 w w2 bv bf HR.out hmlt key ky0 ky1 (.inr (.inr ⟨rfl, rfl, rfl, rfl⟩)) h1 h2 h3 (Nat.le_trans HK.out.size h4) (Nat.le_trans HK.out.size h5) (HK.out.nil.trans h6.undrew))
  clear h1 h2 h3 h4 h5 h6
  go_wp2
  show wpStill _ _ _ _ _ _
  repeat still_step
  refine wpStill_nil ?_
  go_wp2
  first | go_end0 | refine bodyPost_ret (results_none rfl _ _ _) rfl ?_
  exact ⟨rfl, HP.out⟩
set_option maxHeartbeats 800000 in
theorem pkWait1 (m bk : Nat) (at_ key : Int) (hr : pkRight at_) (k0 : 0 ≤ key) (k1 : key < 4294967296) (w : World) (hw : Wk w m { WSt.zero with under := 1 }) (hbk : Box w bk #[.int .u32 key]) :
    Calls Try.prog 31 (#[.agg #[.pointer (some ⟨m, 0, none⟩), .int .i64 at_]] ++ #[.pointer (some ⟨bk, 0, none⟩)]) w fun e w' => e = .returned (.tuple #[]) ∧ Goes pkM (pkE m) m { WSt.zero with under := 1 } [] (pkNew at_ 3 key) w w' := by
  have hmlt := hw.lt
  obtain ⟨W1, hW1⟩ : ∃ W1, w.alloc (.cells #[.pointer (some ⟨m, 0, none⟩), .int .i64 at_] 64) = W1 := ⟨_, rfl⟩
  have hk1 : Keeps [] w W1 := by rw [← hW1]; exact (Keeps.refl _ _).alloc _
  have hb : Box W1 w.heap.size #[.pointer (some ⟨m, 0, none⟩), .int .i64 at_] := by rw [← hW1]; exact Box.new _ _ _
  have c0 := hb.cells 0
  have c1 := hb.cells 1
  have c2 := (hbk.keeps hk1 (by simp)).cells 0
  simp at c0 c1 c2
  obtain ⟨W2, hW2⟩ : ∃ W2, W1.alloc (.cells #[.pointer (some ⟨m, 0, none⟩), .int .i64 at_, .int .u32 key, .int .u64 0] 71) = W2 := ⟨_, rfl⟩
  have hp2 : Row W2 W1.heap.size 71 (tPk m at_ key 0) := by rw [← hW2]; exact Row.new _ _ _
  have hk2 : Keeps [] W1 W2 := by rw [← hW2]; exact (Keeps.refl _ _).alloc _
  have hs1 : W1.heap.size = w.heap.size + 1 := by rw [← hW1]; simp
  have HE := Lib.hid (pkLoad_any m W1.heap.size at_ key 0 _ { WSt.zero with under := 1 } W2 ((hw.keeps hk1 (by simp)).keeps hk2 (by simp)) hp2 (by omega) rfl rfl)
  have HK := Lib.hid (hk1.trans hk2)
  have HR := Lib.hid hr
  clear hw hk1 hb hr hk2 hp2 hbk
  rw [hs1] at HE
  have HK0 := Lib.hid k0
  have HK1 := Lib.hid k1
  clear k0 k1
  go_enter Try.func31, Try.ntmps31
  go_wp2_with fail
  refine HE.out.mono ?_
  rintro e w3 ⟨rfl, h1, h2, h3⟩
  have HP := Lib.hid (⟨h1, h2, h3⟩ : _ ∧ _ ∧ _)
  clear h1 h2 h3
  go_wp2
  first | go_end0 | refine bodyPost_ret (results_none rfl _ _ _) rfl ?_
  rw [pkNew_right _ _ _ HR.out]
  refine ⟨rfl, HK.out.nil.trans HP.out.2.2, .inl ⟨_, _, _, _, [w.heap.size + 1], rfl, rfl, HP.out.1, fun _ => ⟨⟨HR.out, by simp [pkKind], HK0.out, HK1.out, pkU0, pkU0⟩, .inr ⟨rfl, _, by simp, .inl ⟨rfl, rfl⟩, HP.out.2.1⟩⟩, fun k hk => ?_, fun k hk => ?_⟩⟩
  · simp at hk; subst hk; exact HP.out.2.1.lt
  · simp at hk; subst hk; exact ⟨by omega, .inr (by omega)⟩

set_option maxHeartbeats 800000 in
theorem pkBegun1 (m b0 b1 : Nat) (at_ kind key : Int) (F : FuncId) (ca : Array Value) (w : World) (hw : Wk w m { WSt.zero with under := 1 }) (hb : Box w b0 #[.int .i64 at_]) (hb1 : Box w b1 #[.func (.func F) #[] ca]) (hcf : ∀ args w, (callFunc F args).run Try.prog w = .ok (.enter F args) w)
    (hF : ∀ W, pkRight at_ → Wk W m { WSt.zero with under := 1 } → Keeps [] w W → Calls Try.prog F (#[.agg #[.pointer (some ⟨m, 0, none⟩), .int .i64 at_]] ++ ca) W fun e w' => e = .returned (.tuple #[]) ∧ Goes pkM (pkE m) m { WSt.zero with under := 1 } [] (pkNew at_ kind key) W w') :
    Calls Try.prog 56 #[.pointer (some ⟨m, 0, none⟩), .pointer (some ⟨b0, 0, none⟩), .pointer (some ⟨b1, 0, none⟩)] w fun e w' => e = .returned (.tuple #[]) ∧ Goes pkM (pkE m) m { WSt.zero with under := 1 } [] (pkNew at_ kind key) w w' := by
  have HRi := Lib.hid (fun W => pkRight_any at_ W)
  have HS : Hid (∀ W, Keeps [] w W → W.cell? ⟨b0, 0, none⟩ = some (.int .i64 at_) ∧ W.cell? ⟨b1, 0, none⟩ = some (.func (.func F) #[] ca)) := Lib.hid (fun W hk => by
    have c0 := (hb.keeps hk (by simp)).cells 0
    have c1 := (hb1.keeps hk (by simp)).cells 0
    simp at c0 c1
    exact ⟨c0, c1⟩)
  have HE := Lib.hid (fun W h => wBreak m { WSt.zero with under := 1 } 2 W h rfl (.inl (show (0 : Int) < 1 by decide)))
  obtain ⟨c0, c1⟩ := HS.out w (Keeps.refl _ _)
  have HW := Lib.hid hw
  have HF := Lib.hid hF
  clear hw hb hb1 hF
  by_cases hr : pkRight at_
  · rw [decide_eq_true hr] at HRi
    have HR := Lib.hid hr
    clear hr HE
    go_enter Try.func56, Try.ntmps56
    go_wp2_with fail
    refine (HRi.out _).mono ?_
    rintro e w1 ⟨rfl, k1⟩
    clear c0 c1
    obtain ⟨c0, c1⟩ := HS.out w1 k1
    have HK := Lib.hid k1
    clear k1
    go_wp2_with fail
    refine (HF.out _ HR.out (HW.out.keeps HK.out (by simp)) HK.out).mono ?_
    rintro e w2 ⟨rfl, hg⟩
    have HP := Lib.hid (hg.from (HK.out.nil))
    clear hg
    go_wp2
    first | go_end0 | refine bodyPost_ret (results_none rfl _ _ _) rfl ?_
    exact ⟨rfl, HP.out⟩
  · rw [decide_eq_false hr] at HRi
    have hN : pkNew at_ kind key = ⟨at_, kind, key, 1, 0, 0, some ⟨2, 0, []⟩⟩ := by simp only [pkNew]; rw [if_neg hr]
    rw [hN]
    clear hr hN HF
    go_enter Try.func56, Try.ntmps56
    go_wp2_with fail
    refine (HRi.out _).mono ?_
    rintro e w1 ⟨rfl, k1⟩
    have HK := Lib.hid k1
    clear k1
    go_wp2_with fail
    refine (HE.out _ (HW.out.keeps HK.out (by simp))).mono ?_
    rintro e w3 ⟨rfl, l', hw, ho, hk⟩
    have HP := Lib.hid (⟨hw, ho, hk⟩ : _ ∧ _ ∧ _)
    clear hw ho hk
    go_wp2
    first | go_end0 | refine bodyPost_ret (results_none rfl _ _ _) rfl ?_
    exact ⟨rfl, (HK.out.mono (by simp)).trans HP.out.2.2, .inr ⟨2, 0, [], l', by simp [pkM], rfl, by simp, HP.out.1, owns_base HP.out.2.1 HK.out.size⟩⟩

set_option maxHeartbeats 1600000 in
theorem pkBegun_made (at_ kind key : Int) (F : FuncId) (ca : Array Value) (w : World) (hcf : ∀ args w, (callFunc F args).run Try.prog w = .ok (.enter F args) w)
    (hF : ∀ m W, pkRight at_ → Wk W m { WSt.zero with under := 1 } → Keeps [] w W → Calls Try.prog F (#[.agg #[.pointer (some ⟨m, 0, none⟩), .int .i64 at_]] ++ ca) W fun e w' => e = .returned (.tuple #[]) ∧ Goes pkM (pkE m) m { WSt.zero with under := 1 } [] (pkNew at_ kind key) W w') :
    Calls Try.prog 24 #[.agg #[.int .i64 at_], .func (.func F) #[] ca] w fun e w' => ∃ (m : Nat) (S : List Nat), e = .returned (.pointer (some ⟨m, 0, none⟩)) ∧ LoneI pkM (pkE m) m w' S (pkNew at_ kind key) ∧ Keeps [] w w' ∧ ∀ k ∈ S, w.heap.size ≤ k := by
  obtain ⟨W1, hW1⟩ : ∃ W1, (w.alloc (.cells #[.int .i64 at_] 23)).alloc (.cells #[.func (.func F) #[] ca] 67) = W1 := ⟨_, rfl⟩
  have hb : Box W1 w.heap.size #[.int .i64 at_] := by rw [← hW1]; exact (Box.new _ _ _).alloc _
  have hb1 : Box W1 (w.heap.size + 1) #[.func (.func F) #[] ca] := by rw [← hW1]; have := Box.new (w.alloc (.cells #[.int .i64 at_] 23)) #[.func (.func F) #[] ca] 67; simpa using this
  have hk1 : Keeps [] w W1 := by rw [← hW1]; exact ((Keeps.refl _ _).alloc _).alloc _
  have HN := Lib.hid (new_goes pkM (pkE (W1.heap.size + 1)) (pkNew at_ kind key) 56 #[.pointer (some ⟨w.heap.size, 0, none⟩), .pointer (some ⟨w.heap.size + 1, 0, none⟩)] W1 (pkE_keeps _) (pkEnded _) rfl (fun _ _ => by kernel_rfl) (fun w3 h3 k3 =>
    pkBegun1 _ _ _ at_ kind key F ca w3 h3 (hb.keeps k3 (by simp)) (hb1.keeps k3 (by simp)) hcf (fun W hr h k => hF _ W hr h ((hk1.trans k3).trans k))))
  have HK := Lib.hid hk1
  clear hb hb1 hk1 hF
  go_enter Try.func24, Try.ntmps24
  go_wp2_with fail
  refine HN.out.mono ?_
  rintro e w4 ⟨rfl, S, hI, k4, hS⟩
  have HP : Hid (_ ∧ _ ∧ _) := Lib.hid ⟨hI, HK.out.trans k4, fun k hk => Nat.le_trans HK.out.size (hS k hk)⟩
  clear hI k4 hS
  go_wp2
  go_ret
  exact ⟨_, S, rfl, HP.out⟩
def pkMadeBy (F : FuncId) (args : Array Value) (s : PkS) : Prop := ∀ w : World, Calls Try.prog F args w fun e w' => ∃ (m : Nat) (S : List Nat), e = .returned (.pointer (some ⟨m, 0, none⟩)) ∧ LoneI pkM (pkE m) m w' S s ∧ Keeps [] w w' ∧ ∀ k ∈ S, w.heap.size ≤ k
theorem pkPrepare_made (at_ key : Int) (ky0 : 0 ≤ key) (ky1 : key < 4294967296) : pkMadeBy 7 #[.agg #[.int .i64 at_]] (pkNew at_ 1 key) := by
  intro w
  have HB := Lib.hid (fun W => pkBegun_made at_ 1 key 25 #[] W (fun _ _ => by kernel_rfl) (fun m W2 hr h _ => pkPrepare1 m at_ key ky0 ky1 hr W2 h))
  have k1 : Keeps [] w (w.alloc (.cells #[.int .i64 at_] 23)) := (Keeps.refl _ _).alloc _
  have HK := Lib.hid k1
  clear k1
  go_enter Try.func7, Try.ntmps7
  go_wp2_with fail
  refine (HB.out _).mono ?_
  rintro e w4 ⟨m, S, rfl, hI, k4, hS⟩
  have HP : Hid (_ ∧ _ ∧ _) := Lib.hid ⟨hI, HK.out.trans k4, fun k hk => Nat.le_trans HK.out.size (hS k hk)⟩
  clear hI k4 hS
  go_wp2
  go_ret
  exact ⟨_, S, rfl, HP.out⟩
theorem pkGiveUp_made (at_ key : Int) (ky0 : 0 ≤ key) (ky1 : key < 4294967296) : pkMadeBy 8 #[.agg #[.int .i64 at_]] (pkNew at_ 2 key) := by
  intro w
  have HB := Lib.hid (fun W => pkBegun_made at_ 2 key 28 #[] W (fun _ _ => by kernel_rfl) (fun m W2 hr h _ => pkGiveUp1 m at_ key ky0 ky1 hr W2 h))
  have k1 : Keeps [] w (w.alloc (.cells #[.int .i64 at_] 23)) := (Keeps.refl _ _).alloc _
  have HK := Lib.hid k1
  clear k1
  go_enter Try.func8, Try.ntmps8
  go_wp2_with fail
  refine (HB.out _).mono ?_
  rintro e w4 ⟨m, S, rfl, hI, k4, hS⟩
  have HP : Hid (_ ∧ _ ∧ _) := Lib.hid ⟨hI, HK.out.trans k4, fun k hk => Nat.le_trans HK.out.size (hS k hk)⟩
  clear hI k4 hS
  go_wp2
  go_ret
  exact ⟨_, S, rfl, HP.out⟩
theorem pkCall_made (at_ key : Int) (ky0 : 0 ≤ key) (ky1 : key < 4294967296) : pkMadeBy 10 #[.agg #[.int .i64 at_]] (pkNew at_ 4 key) := by
  intro w
  have HB := Lib.hid (fun W => pkBegun_made at_ 4 key 33 #[] W (fun _ _ => by kernel_rfl) (fun m W2 hr h _ => pkCall1 m at_ key ky0 ky1 hr W2 h))
  have k1 : Keeps [] w (w.alloc (.cells #[.int .i64 at_] 23)) := (Keeps.refl _ _).alloc _
  have HK := Lib.hid k1
  clear k1
  go_enter Try.func10, Try.ntmps10
  go_wp2_with fail
  refine (HB.out _).mono ?_
  rintro e w4 ⟨m, S, rfl, hI, k4, hS⟩
  have HP : Hid (_ ∧ _ ∧ _) := Lib.hid ⟨hI, HK.out.trans k4, fun k hk => Nat.le_trans HK.out.size (hS k hk)⟩
  clear hI k4 hS
  go_wp2
  go_ret
  exact ⟨_, S, rfl, HP.out⟩
theorem pkWait_made (at_ key : Int) (k0 : 0 ≤ key) (k1 : key < 4294967296) : pkMadeBy 9 #[.agg #[.int .i64 at_], .int .u32 key] (pkNew at_ 3 key) := by
  intro w
  obtain ⟨W1, hW1⟩ : ∃ W1, (w.alloc (.cells #[.int .i64 at_] 23)).alloc (.cells #[.int .u32 key] 24) = W1 := ⟨_, rfl⟩
  have hb1 : Box W1 (w.heap.size + 1) #[.int .u32 key] := by rw [← hW1]; have := Box.new (w.alloc (.cells #[.int .i64 at_] 23)) #[.int .u32 key] 24; simpa using this
  have hk1 : Keeps [] w W1 := by rw [← hW1]; exact ((Keeps.refl _ _).alloc _).alloc _
  have hb0 : Box W1 w.heap.size #[.int .i64 at_] := by rw [← hW1]; exact (Box.new _ _ _).alloc _
  have c0 := hb0.cells 0
  simp at c0
  have HB := Lib.hid (pkBegun_made at_ 3 key 31 #[.pointer (some ⟨w.heap.size + 1, 0, none⟩)] W1 (fun _ _ => by kernel_rfl) (fun m W2 hr h k => pkWait1 m _ at_ key hr k0 k1 W2 h (hb1.keeps k (by simp))))
  have HK := Lib.hid hk1
  clear k0 k1 hb1 hk1 hb0
  go_enter Try.func9, Try.ntmps9
  go_wp2_with fail
  refine HB.out.mono ?_
  rintro e w4 ⟨m, S, rfl, hI, k4, hS⟩
  have HP : Hid (_ ∧ _ ∧ _) := Lib.hid ⟨hI, HK.out.trans k4, fun k hk => Nat.le_trans HK.out.size (hS k hk)⟩
  clear hI k4 hS
  go_wp2
  go_ret
  exact ⟨_, S, rfl, HP.out⟩
end Go.Proofs.Ytgononhihpkagaa
