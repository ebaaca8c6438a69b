import Derived.Test.YtjfgpplnlepnoaaGreatMach
import Derived.Test.YtjfgpplnlepnoaaGreatAcc
import Derived.Test.YtjfgpplnlepnoaaGreatWord
import Derived.Test.YtjfgpplnlepnoaaGreatLcM
import Derived.Test.YtjfgpplnlepnoaaGreatDraw
import Derived.StillTailTactics
/-
  Contracts: what a peek does at each of its steps; a new walk that reads blocks that were there ahead of it.
-/
namespace Go.Proofs.YtjfgpplnlepnoaaGreat
set_option maxRecDepth 100000
set_option linter.unusedSimpArgs false
set_option linter.unusedVariables false
open Go.ChangeShapes Go.WideShapes Go.ChangeAt Go.RowKit

/-- A new walk of its own blocks and of those of Z, which were there, whose first function goes to a first state. -/
theorem new_goesZ {σ : Type} (K : Mach σ) (R : World → List Nat → Value → σ → Prop) (s0 : σ) (F : FuncId) (ca : Array Value) (Z : List Nat) (w : World) (hZ : ∀ k ∈ Z, k < w.heap.size)
    (hR : ∀ w w' T A nx s, R w T nx s → Keeps A w w' → (∀ k ∈ T, k ∉ A) → R w' T nx s)
    (hE : ∀ w T nx s, K.want s = none → R w T nx s) (hh : K.held s0 = [])
    (hcf : ∀ args w, (callFunc F args).run Tryz.prog w = .ok (.enter F args) w)
    (hF : ∀ w1, Wk w1 (w.heap.size + 1) { WSt.zero with under := 1 } → Keeps [] w w1 → Calls Tryz.prog F (#[.pointer (some ⟨w.heap.size + 1, 0, none⟩)] ++ ca) w1 fun e w2 => e = .returned (.tuple #[]) ∧ Goes K R (w.heap.size + 1) { WSt.zero with under := 1 } Z s0 w1 w2) :
    Calls Tryz.prog 67 #[.func (.func F) #[] ca] w fun e w' => e = .returned (.pointer (some ⟨w.heap.size + 1, 0, none⟩)) ∧ ∃ S, LoneI K R (w.heap.size + 1) w' S s0 ∧ Keeps Z w w' ∧ ∀ k ∈ S, k ∈ Z ∨ w.heap.size ≤ k := by
  refine (wNew F ca Z w (fun w2 s2 => ∃ S2 T2, Lone w2 (w.heap.size + 1) S2 s2 1 (K.face s0) ∧ (∀ k ∈ S2, k < w2.heap.size) ∧ (∀ k ∈ T2, k < w2.heap.size) ∧ (∀ k ∈ S2, k ∉ T2) ∧ R w2 T2 s2.nxt s0 ∧ (∀ k ∈ S2, w.heap.size ≤ k) ∧ (∀ k ∈ T2, k ∈ Z ∨ w.heap.size ≤ k)) hZ hcf ?_).mono ?_
  · intro w1 h1 k1
    refine (hF w1 h1 k1).mono ?_
    rintro e w2 ⟨rfl, hg⟩
    obtain ⟨hk, h⟩ := hg
    have hm := h1.lt
    have s1 := k1.size
    have hL : Lone w1 (w.heap.size + 1) [w.heap.size + 1] { WSt.zero with under := 1 } 1 ⟨none, none, []⟩ :=
      ⟨h1, rfl, rfl, rfl, by simp, ⟨rfl, .inl ⟨_, _, rfl, rfl⟩⟩, (fun g hg => by cases hg), by simp, rfl, (fun r hr => by cases hr), (fun g hg => by cases hg), (fun _ => rfl), (fun y hy => by cases hy)⟩
    rcases h with h | h
    · obtain ⟨x, fn, fi, ca, T2, hx, hr, hw, hR2, hlt2, hT2⟩ := h
      have hf : K.face s0 = ⟨some x, none, []⟩ := by simp only [Mach.face, hx, hr, hh]
      refine ⟨rfl, _, hw, rfl, .inl rfl, hk, [w.heap.size + 1], T2, ?_, ?_, hlt2, ?_, hR2, by simp, fun k hk => ?_⟩
      · rw [hf]; exact hL.going (T := [w.heap.size + 1]) (by simp) hw rfl ⟨rfl, .inl ⟨_, _, rfl, rfl⟩⟩ (fun g hg => hg)
      · intro k hk'; simp at hk'; subst hk'; exact hw.lt
      · intro k hk' hkT; simp at hk'; exact (hT2 k hkT).1 hk'
      · rcases (hT2 k hk).2 with h | h
        · exact .inl h
        · exact .inr (by omega)
    · obtain ⟨c, v, us, l', hx, hr, hus, hw, ho⟩ := h
      have hf : K.face s0 = ⟨none, some ⟨c, v, us⟩, []⟩ := by simp only [Mach.face, hx, hr, hh]
      have hb : ∀ k ∈ l'.ownBlock.toList, w1.heap.size ≤ k ∧ k < w2.heap.size := fun k hk => ho.lt k ((ownBlock_toList _ _).1 hk)
      refine ⟨rfl, _, hw, rfl, .inr rfl, hk, l'.ownBlock.toList ++ [w.heap.size + 1], [], ?_, ?_, by simp, by simp, hE _ _ _ _ hx, ?_, by simp⟩
      · rw [hf]; exact hL.ending (T := l'.ownBlock.toList ++ [w.heap.size + 1]) (by simp) hw ⟨rfl, .inl ⟨_, _, rfl, rfl⟩⟩ (fun g hg => by simp at hg; simp [hg]) (Sl.of_owns ho) hus (fun g hg => ⟨by simp [hg], by have := (ho.lt g hg).1; omega⟩)
      · intro k hk'
        rcases List.mem_append.1 hk' with hk' | hk'
        · exact (hb k hk').2
        · simp at hk'; subst hk'; exact hw.lt
      · intro k hk'
        rcases List.mem_append.1 hk' with hk' | hk'
        · have := (hb k hk').1; omega
        · simp at hk'; omega
  · rintro e w' ⟨rfl, w2, s2, ⟨S2, T2, a1, a2, a3, a4, a5, a6, a7⟩, k5, k4, hw⟩
    have hmT : (w.heap.size + 1) ∉ T2 := a4 _ a1.mem
    exact ⟨rfl, S2 ++ T2, ⟨S2, T2, _, rfl, a1.under_to k5 0 hw, fun k hk => Nat.lt_of_lt_of_le (a2 k hk) k5.size, fun k hk => Nat.lt_of_lt_of_le (a3 k hk) k5.size, a4, hR _ _ _ _ _ _ a5 k5 (fun k hk h => by simp at h; exact hmT (h ▸ hk))⟩,
      (show Keeps Z w w' from ((k4.mono (T := Z ++ [w.heap.size + 1]) (fun k hk _ => List.mem_append_left _ hk)).trans (k5.mono (fun k hk _ => List.mem_append_right _ hk))).mono (fun k hk hn => by
        rcases List.mem_append.1 hk with h | h
        · exact h
        · simp at h; omega)), fun k hk => by rcases List.mem_append.1 hk with h | h; exact .inr (a6 k h); exact a7 k h⟩

theorem lkQRight_any (at_ n : Int) (w : World) :
    Calls Tryz.prog 40 #[.agg #[.int .i64 at_, .int .i64 n]] w fun e w' => e = .returned (.bool (decide (lkQRight at_ n))) ∧ Keeps [] w w' := by
  by_cases h1 : 2 ≤ n
  case neg =>
    have HD : Hid (decide (lkQRight at_ n) = false) := Lib.hid (decide_eq_false fun h => h1 h.1)
    rw [HD.out]
    have d1 : decide ((2 : Int) ≤ n) = false := decide_eq_false h1
    go_enter Tryz.func40, Tryz.ntmps40
    go_wp2
    go_ret
    exact ⟨rfl, (Keeps.refl _ _).alloc _⟩
  by_cases h2 : n ≤ 4096
  case neg =>
    have HD : Hid (decide (lkQRight at_ n) = false) := Lib.hid (decide_eq_false fun h => h2 h.2.1)
    rw [HD.out]
    have d1 : decide ((2 : Int) ≤ n) = true := decide_eq_true h1
    have d2 : decide (n ≤ 4096) = false := decide_eq_false h2
    go_enter Tryz.func40, Tryz.ntmps40
    go_wp2
    go_ret
    exact ⟨rfl, (Keeps.refl _ _).alloc _⟩
  by_cases h3 : 0 ≤ at_
  case neg =>
    have HD : Hid (decide (lkQRight at_ n) = false) := Lib.hid (decide_eq_false fun h => h3 h.2.2.1)
    rw [HD.out]
    have d1 : decide ((2 : Int) ≤ n) = true := decide_eq_true h1
    have d2 : decide (n ≤ 4096) = true := decide_eq_true h2
    have d3 : decide (0 ≤ at_) = false := decide_eq_false h3
    go_enter Tryz.func40, Tryz.ntmps40
    go_wp2
    go_ret
    exact ⟨rfl, (Keeps.refl _ _).alloc _⟩
  obtain ⟨m, hm⟩ : ∃ m, 65536 - 3 * n - 2 = m := ⟨_, rfl⟩
  have d1 : decide ((2 : Int) ≤ n) = true := decide_eq_true h1
  have d2 : decide (n ≤ 4096) = true := decide_eq_true h2
  have d3 : decide (0 ≤ at_) = true := decide_eq_true h3
  by_cases h4 : at_ < 65536 - 3 * n - 2
  · have HD : Hid (decide (lkQRight at_ n) = true) := Lib.hid (decide_eq_true ⟨h1, h2, h3, h4⟩)
    rw [HD.out]
    have d4 : decide (at_ < m) = true := decide_eq_true (by omega)
    go_enter Tryz.func40, Tryz.ntmps40
    go_wp2
    go_ret
    exact ⟨rfl, (Keeps.refl _ _).alloc _⟩
  · have HD : Hid (decide (lkQRight at_ n) = false) := Lib.hid (decide_eq_false fun h => h4 h.2.2.2)
    rw [HD.out]
    have d4 : decide (at_ < m) = false := decide_eq_false (by omega)
    go_enter Tryz.func40, Tryz.ntmps40
    go_wp2
    go_ret
    exact ⟨rfl, (Keeps.refl _ _).alloc _⟩

set_option maxHeartbeats 800000 in
/-- What it has found out ends it. -/
theorem lkTell_any (m : Nat) (is : Bool) (st : WSt) (w : World) (hw : Wk w m st) (ho : st.over = false) (hu : 0 < st.under) :
    Calls Tryz.prog 47 #[.pointer (some ⟨m, 0, none⟩), .bool is] w fun e w' => e = .returned (.tuple #[]) ∧ ∃ l',
      Wk w' m { st with nxt := .nilFunc, after := .nilFunc, over := true, code := 0, v := lkV is, l := l' } ∧ w'.ownsRow w.heap.size 26 1 l' 0 [] ∧ Keeps [m] w w' := by
  have HE := Lib.hid (fun W h => wEnd m st 0 (lkV is) (.slice none 0 0) 0 [] W h ho (.inl hu) ⟨rfl, .inl ⟨_, _, rfl, rfl⟩⟩ (fun g hg => by cases hg) (by omega))
  have HW := Lib.hid hw
  clear hw ho hu
  cases is
  all_goals
    simp only [lkV, if_true, Bool.false_eq_true, if_false] at HE ⊢
    go_enter Tryz.func47, Tryz.ntmps47
    go_wp2_with fail
    refine (HE.out _ HW.out).mono ?_
    rintro e w1 ⟨rfl, l', hw, ho, hk⟩
    have HP := Lib.hid (⟨hw, ho, hk⟩ : _ ∧ _ ∧ _)
    clear hw ho hk
    go_wp2
    first | go_end0 | refine bodyPost_ret (results_none rfl _ _ _) rfl ?_
    exact ⟨rfl, _, HP.out.1, HP.out.2.1, HP.out.2.2⟩
set_option maxHeartbeats 800000 in
/-- A Load is asked for: what is told goes to the function F, out of its box. -/
theorem lkLoad_any (F : FuncId) (ca : Array Value) (m : Nat) (cell : Int) (st : WSt) (w : World) (hw : Wk w m st) (ho : st.over = false) (hs : st.sub = none) :
    Calls Tryz.prog 42 #[.pointer (some ⟨m, 0, none⟩), .int .i64 cell, .func (.func F) #[] ca] w fun e w' => e = .returned (.tuple #[]) ∧ ∃ bx,
      Wk w' m { st with x := ⟨1, cell, 0, 0⟩, nxt := .func (.func 85) #[] #[.pointer (some ⟨bx, 0, none⟩)], sub := none, after := .nilFunc } ∧ Box w' bx #[.func (.func F) #[] ca] ∧ w.heap.size ≤ bx ∧ Keeps [m] w w' := by
  obtain ⟨W1, hW1⟩ : ∃ W1, w.alloc (.cells #[.func (.func F) #[] ca] 91) = W1 := ⟨_, rfl⟩
  have hb : Box W1 w.heap.size #[.func (.func F) #[] ca] := by rw [← hW1]; exact Box.new _ _ _
  have hk1 : Keeps [] w W1 := by rw [← hW1]; exact (Keeps.refl _ _).alloc _
  have HE := Lib.hid (fun W h => wAsk m st ⟨1, cell, 0, 0⟩ (.func 85) #[] #[.pointer (some ⟨w.heap.size, 0, none⟩)] W h hs ho)
  have HW := Lib.hid (hw.keeps hk1 (by simp))
  have hm := hw.lt
  have HB := Lib.hid (⟨hb, hk1⟩ : _ ∧ _)
  clear hb hk1 hw ho hs
  go_enter Tryz.func42, Tryz.ntmps42
  go_wp2_with fail
  refine (HE.out _ HW.out).mono ?_
  rintro e w1 ⟨rfl, hw, hk⟩
  have HP := Lib.hid (⟨hw, HB.out.1.keeps hk (by simp; omega), HB.out.2.nil.trans hk⟩ : _ ∧ _ ∧ _)
  clear hw hk
  go_wp2
  first | go_end0 | refine bodyPost_ret (results_none rfl _ _ _) rfl ?_
  exact ⟨rfl, _, HP.out.1, HP.out.2.1, Nat.le_refl _, HP.out.2.2⟩
/-- What was told goes on. -/
theorem lkLoad1_any (F : FuncId) (ca : Array Value) (bx : Nat) (v : Int) (won : Bool) (w : World) (R : World → World → Prop) (hb : Box w bx #[.func (.func F) #[] ca]) (hcf : ∀ args w, (callFunc F args).run Tryz.prog w = .ok (.enter F args) w)
    (hF : Calls Tryz.prog F (#[.int .u64 v] ++ ca) w fun e w' => e = .returned (.tuple #[]) ∧ R w w') :
    Calls Tryz.prog 85 #[.int .u64 v, .bool won, .pointer (some ⟨bx, 0, none⟩)] w fun e w' => e = .returned (.tuple #[]) ∧ R w w' := by
  have HF := Lib.hid hF
  have c0 := hb.cells 0
  simp at c0
  clear hb hF
  go_enter Tryz.func85, Tryz.ntmps85
  go_wp2_with fail
  refine HF.out.mono ?_
  rintro e w1 ⟨rfl, hr⟩
  have HR := Lib.hid hr
  clear hr
  go_wp2
  first | go_end0 | refine bodyPost_ret (results_none rfl _ _ _) rfl ?_
  exact ⟨rfl, HR.out⟩
theorem lkNext_any (at_ n i : Int) (w : World) (h0 : 0 ≤ at_) (h1 : at_ ≤ 65536) (h2 : 0 ≤ n) (h3 : n ≤ 65536) (h4 : 0 ≤ i) (h5 : i ≤ 4294967296) :
    Calls Tryz.prog 45 #[.agg #[.int .i64 at_, .int .i64 n], .int .i64 i] w fun e w' => e = .returned (.int .i64 (at_ + 2 + 2 * n + i)) ∧ Keeps [] w w' := by
  have w1 : IntKind.i64.wrap (at_ + 2) = at_ + 2 := by rw [IntKind.wrap_i64]; omega
  have w2 : IntKind.i64.wrap (2 * n) = 2 * n := by rw [IntKind.wrap_i64]; omega
  have w3 : IntKind.i64.wrap (at_ + 2 + 2 * n) = at_ + 2 + 2 * n := by rw [IntKind.wrap_i64]; omega
  have w4 : IntKind.i64.wrap (at_ + 2 + 2 * n + i) = at_ + 2 + 2 * n + i := by rw [IntKind.wrap_i64]; omega
  go_enter Tryz.func45, Tryz.ntmps45
  go_wp2
  go_ret
  exact ⟨rfl, (Keeps.refl _ _).alloc _⟩
/-- Whether a deque has a task. -/
theorem lkHas0 (x v : Int) (w : World) (hx : M.U x) (hv : M.U v) :
    Calls Tryz.prog 35 (#[.int .u64 x, .int .u64 v] ++ #[]) w fun e w' => e = .returned (.bool (lkIs 0 x v)) ∧ w = w' := by
  have x0 := hx.nn
  have x1 := hx.lt
  have v0 := hv.nn
  have v1 := hv.lt
  have hwr : IntKind.i64.wrap (IntKind.u64.wrap (v - x)) = dqAhead v x := by
    unfold dqAhead
    simp [IntKind.wrap, IntKind.signed, IntKind.bits]
    split <;> omega
  have HI : Hid (lkIs 0 x v = decide (1 ≤ dqAhead v x)) := Lib.hid rfl
  rw [HI.out]
  obtain ⟨d, hd⟩ : ∃ d, dqAhead v x = d := ⟨_, rfl⟩
  rw [hd] at hwr ⊢
  clear hd hx hv
  go_enter Tryz.func35, Tryz.ntmps35
  go_wp2
  go_ret
  exact ⟨rfl, rfl⟩
set_option maxHeartbeats 800000 in
/-- Whether a ring has one. -/
theorem lkHas1 (x v : Int) (w : World) (hx : M.U x) (hv : M.U v) :
    Calls Tryz.prog 36 (#[.int .u64 x, .int .u64 v] ++ #[]) w fun e w' => e = .returned (.bool (lkIs 1 x v)) ∧ w = w' := by
  have x0 := hx.nn
  have x1 := hx.lt
  have v0 := hv.nn
  have v1 := hv.lt
  have HSx := Lib.hid (fun W => split_any x W x0 hx)
  have HSv := Lib.hid (fun W => split_any v W v0 hv)
  have HI : Hid (lkIs 1 x v = decide (1 ≤ M.aheadI (v % 4294967296) (x % 4294967296))) := Lib.hid rfl
  have HA := Lib.hid (fun W => ahead_any (v % 4294967296) (x % 4294967296) W (by omega) (by omega) (by omega) (by omega))
  rw [HI.out]
  obtain ⟨d, hd⟩ : ∃ d, M.aheadI (v % 4294967296) (x % 4294967296) = d := ⟨_, rfl⟩
  rw [hd] at HA ⊢
  clear hd hx hv x0 x1 v0 v1
  go_enter Tryz.func36, Tryz.ntmps36
  go_wp2_with fail
  refine (HSx.out _).mono ?_
  rintro e w1 ⟨rfl, rfl⟩
  go_wp2_with fail
  refine (HSv.out _).mono ?_
  rintro e w1 ⟨rfl, rfl⟩
  go_wp2_with fail
  refine (HA.out _).mono ?_
  rintro e w1 ⟨rfl, rfl⟩
  go_wp2
  go_ret
  exact ⟨rfl, rfl⟩
end Go.Proofs.YtjfgpplnlepnoaaGreat

/-
  A peek goes as its machine; how it begins.
-/
namespace Go.Proofs.YtjfgpplnlepnoaaGreat
set_option maxRecDepth 100000
set_option linter.unusedSimpArgs false
set_option linter.unusedVariables false
open Go.ChangeShapes Go.WideShapes Go.ChangeAt Go.RowKit

/-- The function that tells whether there is a task, of a kind. -/
def lkFn (kind : Int) : FuncId := if kind = 0 then 35 else 36
theorem lkFn_ok (kind : Int) : ∀ args w, (callFunc (lkFn kind) args).run Tryz.prog w = .ok (.enter (lkFn kind) args) w := by
  unfold lkFn
  split
  all_goals exact fun _ _ => by kernel_rfl
theorem lkHas (kind x v : Int) (w : World) (hk : kind = 0 ∨ kind = 1) (hx : M.U x) (hv : M.U v) :
    Calls Tryz.prog (lkFn kind) (#[.int .u64 x, .int .u64 v] ++ #[]) w fun e w' => e = .returned (.bool (lkIs kind x v)) ∧ w = w' := by
  rcases hk with rfl | rfl
  · exact lkHas0 x v w hx hv
  · exact lkHas1 x v w hx hv
def lkNx (bx : Nat) : Value := .func (.func 85) #[] #[.pointer (some ⟨bx, 0, none⟩)]
def lkOk (s : LkS) : Prop := (s.kind = 0 ∨ s.kind = 1 ∨ s.kind = 2) ∧ 0 ≤ s.at_ ∧ s.at_ < 65536 ∧ 0 ≤ s.n ∧ s.n ≤ 4096 ∧ M.U s.x
/-- One that peeks at a row: at its first Load; at its second one. -/
def LkRow0 (m : Nat) (w : World) (T : List Nat) (bx : Nat) (s : LkS) : Prop :=
  (s.kind = 0 ∨ s.kind = 1) ∧ s.step = 0 ∧ ∃ bw bh br k' z, bw ∈ T ∧ bh ∈ T ∧ br ∈ T ∧ Box w bw #[.pointer (some ⟨m, 0, none⟩)] ∧ Box w bh #[.func (.func (lkFn s.kind)) #[] #[]] ∧ Box w br #[.int .i64 k', .int .i64 s.at_, .int .i64 z] ∧
    Box w bx #[.func (.func 82) #[] #[.pointer (some ⟨bw, 0, none⟩), .pointer (some ⟨br, 0, none⟩), .pointer (some ⟨bh, 0, none⟩)]]
def LkRow1 (m : Nat) (w : World) (T : List Nat) (bx : Nat) (s : LkS) : Prop :=
  (s.kind = 0 ∨ s.kind = 1) ∧ s.step = 1 ∧ ∃ bw bh bf, bw ∈ T ∧ bh ∈ T ∧ bf ∈ T ∧ Box w bw #[.pointer (some ⟨m, 0, none⟩)] ∧ Box w bh #[.func (.func (lkFn s.kind)) #[] #[]] ∧ Box w bf #[.int .u64 s.x] ∧
    Box w bx #[.func (.func 83) #[] #[.pointer (some ⟨bw, 0, none⟩), .pointer (some ⟨bh, 0, none⟩), .pointer (some ⟨bf, 0, none⟩)]]
/-- One that peeks at a queue. -/
def LkLine0 (m : Nat) (w : World) (T : List Nat) (bx : Nat) (s : LkS) : Prop :=
  s.kind = 2 ∧ s.step = 0 ∧ ∃ bw bq, bw ∈ T ∧ bq ∈ T ∧ Box w bw #[.pointer (some ⟨m, 0, none⟩)] ∧ Box w bq #[.int .i64 s.at_, .int .i64 s.n] ∧
    Box w bx #[.func (.func 43) #[] #[.pointer (some ⟨bq, 0, none⟩), .pointer (some ⟨bw, 0, none⟩)]]
def LkLine1 (m : Nat) (w : World) (T : List Nat) (bx : Nat) (s : LkS) : Prop :=
  s.kind = 2 ∧ s.step = 1 ∧ ∃ bw, bw ∈ T ∧ Box w bw #[.pointer (some ⟨m, 0, none⟩)] ∧ Box w bx #[.func (.func 46) #[] #[.pointer (some ⟨bw, 0, none⟩)]]
/-- What a peek knows, while it has not ended. -/
def lkE (m : Nat) (w : World) (T : List Nat) (nx : Value) (s : LkS) : Prop :=
  s.over = none → lkOk s ∧ ∃ bx, bx ∈ T ∧ nx = lkNx bx ∧ (LkRow0 m w T bx s ∨ LkRow1 m w T bx s ∨ LkLine0 m w T bx s ∨ LkLine1 m w T bx s)
theorem lkE_keeps (m : Nat) : ∀ w w' T A nx s, lkE m w T nx s → Keeps A w w' → (∀ k ∈ T, k ∉ A) → lkE m w' T nx s := by
  intro w w' T A nx s h hk hT hg
  obtain ⟨h0, bx, h1, h2, h⟩ := h hg
  refine ⟨h0, bx, h1, h2, ?_⟩
  rcases h with h | h | h | h
  · obtain ⟨a1, a2, bw, bh, br, k', z, t1, t2, t3, b1, b2, b3, b4⟩ := h
    exact .inl ⟨a1, a2, bw, bh, br, k', z, t1, t2, t3, b1.keeps hk (hT _ t1), b2.keeps hk (hT _ t2), b3.keeps hk (hT _ t3), b4.keeps hk (hT _ h1)⟩
  · obtain ⟨a1, a2, bw, bh, bf, t1, t2, t3, b1, b2, b3, b4⟩ := h
    exact .inr (.inl ⟨a1, a2, bw, bh, bf, t1, t2, t3, b1.keeps hk (hT _ t1), b2.keeps hk (hT _ t2), b3.keeps hk (hT _ t3), b4.keeps hk (hT _ h1)⟩)
  · obtain ⟨a1, a2, bw, bq, t1, t2, b1, b2, b4⟩ := h
    exact .inr (.inr (.inl ⟨a1, a2, bw, bq, t1, t2, b1.keeps hk (hT _ t1), b2.keeps hk (hT _ t2), b4.keeps hk (hT _ h1)⟩))
  · obtain ⟨a1, a2, bw, t1, b1, b4⟩ := h
    exact .inr (.inr (.inr ⟨a1, a2, bw, t1, b1.keeps hk (hT _ t1), b4.keeps hk (hT _ h1)⟩))
theorem lkEnded (m : Nat) : ∀ w T nx s, lkM.want s = none → lkE m w T nx s := by
  intro w T nx s h hov
  simp [lkM, hov] at h

set_option maxHeartbeats 1600000 in
theorem lkRow0_any (m bw bh br : Nat) (at_ v k' z : Int) (H : Value) (st : WSt) (w : World) (hw : Wk w m st) (ho : st.over = false) (hs : st.sub = none) (hbw : Box w bw #[.pointer (some ⟨m, 0, none⟩)]) (hbr : Box w br #[.int .i64 k', .int .i64 at_, .int .i64 z]) (h0 : 0 ≤ at_) (h1 : at_ < 65536) :
    Calls Tryz.prog 82 (#[.int .u64 v] ++ #[.pointer (some ⟨bw, 0, none⟩), .pointer (some ⟨br, 0, none⟩), .pointer (some ⟨bh, 0, none⟩)]) w fun e w' => e = .returned (.tuple #[]) ∧ ∃ bx bf,
      Wk w' m { st with x := ⟨1, at_ + 1, 0, 0⟩, nxt := lkNx bx, sub := none, after := .nilFunc } ∧ Box w' bx #[.func (.func 83) #[] #[.pointer (some ⟨bw, 0, none⟩), .pointer (some ⟨bh, 0, none⟩), .pointer (some ⟨bf, 0, none⟩)]] ∧ Box w' bf #[.int .u64 v] ∧ w.heap.size ≤ bx ∧ w.heap.size ≤ bf ∧ Keeps [m] w w' := by
  obtain ⟨W1, hW1⟩ : ∃ W1, w.alloc (.cells #[.int .u64 v] 26) = W1 := ⟨_, rfl⟩
  have hb : Box W1 w.heap.size #[.int .u64 v] := by rw [← hW1]; exact Box.new _ _ _
  have hk1 : Keeps [] w W1 := by rw [← hW1]; exact (Keeps.refl _ _).alloc _
  have wa : IntKind.i64.wrap (at_ + 1) = at_ + 1 := by rw [IntKind.wrap_i64]; omega
  have HE := Lib.hid (fun W h => lkLoad_any 83 #[.pointer (some ⟨bw, 0, none⟩), .pointer (some ⟨bh, 0, none⟩), .pointer (some ⟨w.heap.size, 0, none⟩)] m (at_ + 1) st W h ho hs)
  have HW := Lib.hid (fun W (k : Keeps [] W1 W) => (hw.keeps hk1 (by simp)).keeps k (by simp))
  have c0 := (hbw.keeps hk1 (by simp)).cells 0
  have c1 := (hbr.keeps hk1 (by simp)).cells 1
  simp at c0 c1
  have hm := hw.lt
  have HB := Lib.hid (⟨hb, hk1⟩ : _ ∧ _)
  have hms : m ≠ w.heap.size := by omega
  clear hb hk1 hw ho hs hbw hbr
  go_enter Tryz.func82, Tryz.ntmps82
  go_wp2_with fail
  repeat still_step
  refine (HE.out _ (HW.out _ (by first | exact Keeps.refl _ _ | exact (Keeps.refl _ _).drew))).mono ?_
  rintro e w1 ⟨rfl, bx, hw, hx, hsz, hk⟩
  have hk' : Keeps [m] W1 w1 := by first | exact hk | exact hk.undrew
  have HP := Lib.hid (⟨hw, hx, HB.out.1.keeps hk' (by simp; omega), Nat.le_trans HB.out.2.size hsz, HB.out.2.nil.trans hk'⟩ : _ ∧ _ ∧ _ ∧ _ ∧ _)
  clear hw hx hk hk' hsz
  go_wp2
  first | go_end0 | refine bodyPost_ret (results_none rfl _ _ _) rfl ?_
  exact ⟨rfl, _, _, HP.out.1, HP.out.2.1, HP.out.2.2.1, HP.out.2.2.2.1, Nat.le_refl _, HP.out.2.2.2.2⟩
set_option maxHeartbeats 1600000 in
theorem lkRow1_any (m bw bh bf : Nat) (kind x v : Int) (st : WSt) (w : World) (hw : Wk w m st) (ho : st.over = false) (hu : 0 < st.under) (hbw : Box w bw #[.pointer (some ⟨m, 0, none⟩)]) (hbh : Box w bh #[.func (.func (lkFn kind)) #[] #[]]) (hbf : Box w bf #[.int .u64 x]) (hk : kind = 0 ∨ kind = 1) (hx : M.U x) (hv : M.U v) :
    Calls Tryz.prog 83 (#[.int .u64 v] ++ #[.pointer (some ⟨bw, 0, none⟩), .pointer (some ⟨bh, 0, none⟩), .pointer (some ⟨bf, 0, none⟩)]) w fun e w' => e = .returned (.tuple #[]) ∧ ∃ l',
      Wk w' m { st with nxt := .nilFunc, after := .nilFunc, over := true, code := 0, v := lkV (lkIs kind x v), l := l' } ∧ w'.ownsRow w.heap.size 26 1 l' 0 [] ∧ Keeps [m] w w' := by
  have HF := Lib.hid (fun W => lkHas kind x v W hk hx hv)
  have HE := Lib.hid (fun W h => lkTell_any m (lkIs kind x v) st W h ho hu)
  have hcf := lkFn_ok kind
  obtain ⟨F, hFe⟩ : ∃ F, lkFn kind = F := ⟨_, rfl⟩
  obtain ⟨d, hd⟩ : ∃ d, lkIs kind x v = d := ⟨_, rfl⟩
  rw [hFe] at HF hcf hbh
  rw [hd] at HF HE ⊢
  have HW := Lib.hid hw
  have c0 := hbw.cells 0
  have c1 := hbh.cells 0
  have c2 := hbf.cells 0
  simp at c0 c1 c2
  clear hw hbw hbh hbf ho hu hFe hd hx hv hk
  go_enter Tryz.func83, Tryz.ntmps83
  go_wp2_with fail
  refine wp_region_mid 5 (by kernel_rfl) (by kernel_rfl) ?_
  simp only [List.take_succ_cons, List.take_zero, List.drop_succ_cons, List.drop_zero]
  repeat still_step
  still_call (stillOf (HF.out _))
  repeat still_step
  refine wpStill_nil ?_
  go_wp2_with fail
  refine (HE.out _ (HW.out.keeps ((Keeps.refl [] w).drew) (by simp))).mono ?_
  rintro e w1 ⟨rfl, l', hw, ho, hk⟩
  have HP := Lib.hid (⟨hw, ho, hk⟩ : _ ∧ _ ∧ _)
  clear hw ho hk
  go_wp2
  show wpStill _ _ _ _ _ _
  repeat still_step
  refine wpStill_nil ?_
  go_wp2
  first | go_end0 | refine bodyPost_ret (results_none rfl _ _ _) rfl ?_
  exact ⟨rfl, _, HP.out.1, HP.out.2.1, HP.out.2.2.undrew⟩
set_option maxHeartbeats 1600000 in
theorem lkLine1_any (m bw : Nat) (v : Int) (st : WSt) (w : World) (hw : Wk w m st) (ho : st.over = false) (hu : 0 < st.under) (hbw : Box w bw #[.pointer (some ⟨m, 0, none⟩)]) (hv : M.U v) :
    Calls Tryz.prog 46 (#[.int .u64 v] ++ #[.pointer (some ⟨bw, 0, none⟩)]) w fun e w' => e = .returned (.tuple #[]) ∧ ∃ l',
      Wk w' m { st with nxt := .nilFunc, after := .nilFunc, over := true, code := 0, v := lkV (lkIs 2 0 v), l := l' } ∧ w'.ownsRow w.heap.size 26 1 l' 0 [] ∧ Keeps [m] w w' := by
  have HS := Lib.hid (fun W => split_any v W hv.nn hv)
  have HE := Lib.hid (fun W h => lkTell_any m (lkIs 2 0 v) st W h ho hu)
  have hbe : (v % 4294967296 != 0) = lkIs 2 0 v := by
    by_cases h : v % 4294967296 = 0
    · simp [lkIs, rgLo, h]
    · simp [lkIs, rgLo, h]
  obtain ⟨d, hd⟩ : ∃ d, lkIs 2 0 v = d := ⟨_, rfl⟩
  rw [hd] at HE hbe ⊢
  have HW := Lib.hid hw
  have c0 := hbw.cells 0
  simp at c0
  clear hw hbw ho hu hd hv
  go_enter Tryz.func46, Tryz.ntmps46
  go_wp2_with fail
  refine (HS.out _).mono ?_
  rintro e w1 ⟨rfl, rfl⟩
  go_wp2_with fail
  refine (HE.out _ (by first | exact HW.out | exact HW.out.keeps ((Keeps.refl [] w).drew) (by simp))).mono ?_
  rintro e w1 ⟨rfl, l', hw, ho, hk⟩
  have HP := Lib.hid (⟨hw, ho, by first | exact hk | exact hk.undrew⟩ : _ ∧ _ ∧ Keeps [m] w w1)
  clear hw ho hk
  go_wp2
  first | go_end0 | refine bodyPost_ret (results_none rfl _ _ _) rfl ?_ | skip
  exact ⟨rfl, _, HP.out.1, HP.out.2.1, HP.out.2.2⟩
set_option maxHeartbeats 1600000 in
theorem lkLine0_bad (m bw bq : Nat) (at_ n v : Int) (won : Bool) (st : WSt) (w : World) (hw : Wk w m st) (ho : st.over = false) (hu : 0 < st.under) (hbw : Box w bw #[.pointer (some ⟨m, 0, none⟩)]) (hbq : Box w bq #[.int .i64 at_, .int .i64 n]) (hv : M.U v) (n0 : 0 ≤ n) (n1 : n ≤ 4096) (hbad : rgLo v < 1 ∨ n < rgLo v) :
    Calls Tryz.prog 43 (#[.int .u64 v] ++ #[.pointer (some ⟨bq, 0, none⟩), .pointer (some ⟨bw, 0, none⟩)]) w fun e w' => e = .returned (.tuple #[]) ∧ ∃ l',
      Wk w' m { st with nxt := .nilFunc, after := .nilFunc, over := true, code := 9, v := 0, l := l' } ∧ w'.ownsRow w.heap.size 26 1 l' 0 [] ∧ Keeps [m] w w' := by
  have HS := Lib.hid (fun W => split_any v W hv.nn hv)
  have HE := Lib.hid (fun W h => wBreak m st 9 W h ho (.inl hu))
  have wn : IntKind.u32.wrap n = n := by show n % 4294967296 = n; omega
  have HW := Lib.hid hw
  have c0 := hbw.cells 0
  have c1 := hbq.cells 1
  simp at c0 c1
  unfold rgLo at hbad
  clear hw hbw hbq ho hu hv
  by_cases h1 : v % 4294967296 < 1
  · have d1 : decide (v % 4294967296 < 1) = true := decide_eq_true h1
    clear hbad h1
    go_enter Tryz.func43, Tryz.ntmps43
    go_wp2_with fail
    refine (HS.out _).mono ?_
    rintro e w1 ⟨rfl, rfl⟩
    go_wp2_with fail
    refine (HE.out _ (by first | exact HW.out | exact HW.out.keeps ((Keeps.refl [] w).drew) (by simp))).mono ?_
    rintro e w1 ⟨rfl, l', hw, ho, hk⟩
    have HP := Lib.hid (⟨hw, ho, by first | exact hk | exact hk.undrew⟩ : _ ∧ _ ∧ Keeps [m] w w1)
    clear hw ho hk
    go_wp2
    first | go_end0 | refine bodyPost_ret (results_none rfl _ _ _) rfl ?_ | skip
    exact ⟨rfl, _, HP.out.1, HP.out.2.1, HP.out.2.2⟩
  · have d1 : decide (v % 4294967296 < 1) = false := decide_eq_false h1
    have d2 : decide (n < v % 4294967296) = true := decide_eq_true (by omega)
    clear hbad h1
    go_enter Tryz.func43, Tryz.ntmps43
    go_wp2_with fail
    refine (HS.out _).mono ?_
    rintro e w1 ⟨rfl, rfl⟩
    go_wp2_with fail
    refine (HE.out _ (by first | exact HW.out | exact HW.out.keeps ((Keeps.refl [] w).drew) (by simp))).mono ?_
    rintro e w1 ⟨rfl, l', hw, ho, hk⟩
    have HP := Lib.hid (⟨hw, ho, by first | exact hk | exact hk.undrew⟩ : _ ∧ _ ∧ Keeps [m] w w1)
    clear hw ho hk
    go_wp2
    first | go_end0 | refine bodyPost_ret (results_none rfl _ _ _) rfl ?_ | skip
    exact ⟨rfl, _, HP.out.1, HP.out.2.1, HP.out.2.2⟩
set_option maxHeartbeats 1600000 in
theorem lkLine0_ok (m bw bq : Nat) (at_ n v : Int) (st : WSt) (w : World) (hw : Wk w m st) (ho : st.over = false) (hs : st.sub = none) (hbw : Box w bw #[.pointer (some ⟨m, 0, none⟩)]) (hbq : Box w bq #[.int .i64 at_, .int .i64 n]) (hv : M.U v) (hbm : bw ≠ m) (hqm : bq ≠ m) (a0 : 0 ≤ at_) (a1 : at_ < 65536) (n0 : 0 ≤ n) (n1 : n ≤ 4096) (h0 : 1 ≤ rgLo v) (h1 : rgLo v ≤ n) :
    Calls Tryz.prog 43 (#[.int .u64 v] ++ #[.pointer (some ⟨bq, 0, none⟩), .pointer (some ⟨bw, 0, none⟩)]) w fun e w' => e = .returned (.tuple #[]) ∧ ∃ bx,
      Wk w' m { st with x := ⟨1, at_ + 2 + 2 * n + rgLo v, 0, 0⟩, nxt := lkNx bx, sub := none, after := .nilFunc } ∧ Box w' bx #[.func (.func 46) #[] #[.pointer (some ⟨bw, 0, none⟩)]] ∧ w.heap.size ≤ bx ∧ Keeps [m] w w' := by
  have HS := Lib.hid (fun W => split_any v W hv.nn hv)
  have HE := Lib.hid (fun W h => lkLoad_any 46 #[.pointer (some ⟨bw, 0, none⟩)] m (at_ + 2 + 2 * n + rgLo v) st W h ho hs)
  have HN := Lib.hid (fun W => lkNext_any at_ n (rgLo v) W a0 (by omega) n0 (by omega) (by omega) (by omega))
  have wn : IntKind.u32.wrap n = n := by show n % 4294967296 = n; omega
  have wi : IntKind.i64.wrap (v % 4294967296) = v % 4294967296 := by rw [IntKind.wrap_i64]; omega
  have HW := Lib.hid hw
  unfold rgLo at HN HE h0 h1 ⊢
  have d1 : decide (v % 4294967296 < 1) = false := decide_eq_false (by omega)
  have d2 : decide (n < v % 4294967296) = false := decide_eq_false (by omega)
  have HS2 : Hid (∀ W, Keeps [] w W → W.cell? ⟨bw, 0, none⟩ = some (.pointer (some ⟨m, 0, none⟩)) ∧ W.cell? ⟨bq, 0, none⟩ = some (.int .i64 at_) ∧ W.cell? ⟨bq, 1, none⟩ = some (.int .i64 n)) := Lib.hid fun W hk => by
    have c0 := (hbw.keeps hk (by simp)).cells 0
    have c1 := (hbq.keeps hk (by simp)).cells 0
    have c2 := (hbq.keeps hk (by simp)).cells 1
    simp at c0 c1 c2
    exact ⟨c0, c1, c2⟩
  obtain ⟨c0, c1, c2⟩ := HS2.out w (Keeps.refl _ _)
  have HS3 : Hid (∀ W W', Keeps [] w W → Keeps [m] W W' → W'.cell? ⟨bw, 0, none⟩ = some (.pointer (some ⟨m, 0, none⟩)) ∧ W'.cell? ⟨bq, 0, none⟩ = some (.int .i64 at_) ∧ W'.cell? ⟨bq, 1, none⟩ = some (.int .i64 n)) := Lib.hid fun W W' hk hk2 => by
    have c0 := ((hbw.keeps hk (by simp)).keeps hk2 (by simpa using hbm)).cells 0
    have c1 := ((hbq.keeps hk (by simp)).keeps hk2 (by simpa using hqm)).cells 0
    have c2 := ((hbq.keeps hk (by simp)).keeps hk2 (by simpa using hqm)).cells 1
    simp at c0 c1 c2
    exact ⟨c0, c1, c2⟩
  have hk0 : Keeps [] w w := Keeps.refl _ _
  clear hw hbw hbq ho hs hv
  go_enter Tryz.func43, Tryz.ntmps43
  go_wp2_with fail
  refine (HS.out _).mono ?_
  rintro e w1 ⟨rfl, rfl⟩
  go_wp2_with fail
  go_region_held3 (fun w' => w'.cell? ⟨bw, 0, none⟩ = some (.pointer (some ⟨m, 0, none⟩)) ∧ w'.cell? ⟨bq, 0, none⟩ = some (.int .i64 at_) ∧ w'.cell? ⟨bq, 1, none⟩ = some (.int .i64 n))
    (first
      | exact HS3.out _ _ hk2 hk3
      | exact HS2.out _ hk2
      | exact HS2.out _ hk0.drew
      | fail)
    (first
      | (have _ := hk2; go_at_call 42; refine (HE.out _ (HW.out.keeps hk2 (by simp))).mono ?_; rintro e w3 ⟨rfl, bx, hw, hx, hsz, hk3⟩)
      | (go_at_call 45; refine (HN.out _).mono ?_; rintro e w2 ⟨rfl, k2⟩; have hk2 : Keeps [] w w2 := k2.undrew)
      | fail)
  all_goals
    have HP := Lib.hid (⟨hw, hx, Nat.le_trans hk2.size hsz, hk2.nil.trans hk3⟩ : _ ∧ _ ∧ w.heap.size ≤ bx ∧ Keeps [m] w w3)
    clear hw hx hk2 hk3 hsz
    go_wp2
    first | go_end0 | refine bodyPost_ret (results_none rfl _ _ _) rfl ?_ | skip
    exact ⟨rfl, _, HP.out.1, HP.out.2.1, HP.out.2.2.1, HP.out.2.2.2⟩
/-- What a step does. -/
theorem lkSteps (m : Nat) : ∀ w T F fi ca s st v won x, Wk w m st → st.over = false → st.sub = none → st.under = 1 → (∀ k ∈ T, k < w.heap.size ∧ k ≠ m) → lkE m w T (.func (.func F) fi ca) s → M.U v → lkM.want s = some x →
      Calls Tryz.prog F (fi ++ (#[.int .u64 v, .bool won] ++ ca)) w fun e w' => e = .returned (.tuple #[]) ∧ Goes lkM (lkE m) m st T (lkM.give s v won) w w' := by
  intro w T F fi ca s st v won x hw ho hs hu hT hE hv hx
  have hov : s.over = none := by
    cases h : s.over with
    | none => rfl
    | some r => simp [lkM, h] at hx
  have hgv : lkM.give s v won = lkGive s v := by simp [lkM, hov]
  rw [hgv]
  have hmlt := hw.lt
  obtain ⟨⟨hkd, a0, a1, n0, n1, hxU⟩, bx, hbT, hn, h⟩ := hE hov
  unfold lkNx at hn
  injection hn with e1 e2 e3
  injection e1 with e1
  subst e1 e2 e3
  show Calls _ _ #[.int .u64 v, .bool won, .pointer (some ⟨bx, 0, none⟩)] _ _
  rcases h with h | h | h | h
  · obtain ⟨hk, hst, bw, bh, br, k', z, t1, t2, t3, b1, b2, b3, b4⟩ := h
    have hk2 : s.kind ≠ 2 := by omega
    have hg : lkGive s v = { s with x := v, step := 1 } := by simp [lkGive, hst, hk2]
    rw [hg]
    refine lkLoad1_any _ _ bx v won w (fun w w' => Goes lkM (lkE m) m st T { s with x := v, step := 1 } w w') b4 (fun _ _ => by kernel_rfl) ?_
    refine (lkRow0_any m bw bh br s.at_ v k' z undef st w hw ho hs b1 b3 a0 a1).mono ?_
    rintro e w2 ⟨rfl, bx2, bf, hw2, x1, x2, x3, x4, kk⟩
    refine ⟨rfl, kk.mono (by simp), .inl ⟨_, _, _, _, [bx2, bf, bw, bh], by simp [lkM, lkWant, hov, hk2], by simp [lkM, hov], hw2, ?_, ?_, ?_⟩⟩
    · intro _
      refine ⟨⟨hkd, a0, a1, n0, n1, hv⟩, bx2, by simp, rfl, .inr (.inl ⟨hk, rfl, bw, bh, bf, by simp, by simp, by simp, b1.keeps kk (by simp; exact (hT _ t1).2), b2.keeps kk (by simp; exact (hT _ t2).2), x2, x1⟩)⟩
    · intro k hk'
      simp at hk'
      rcases hk' with rfl | rfl | rfl | rfl
      · exact x1.lt
      · exact x2.lt
      · exact Nat.lt_of_lt_of_le (hT _ t1).1 kk.size
      · exact Nat.lt_of_lt_of_le (hT _ t2).1 kk.size
    · intro k hk'
      simp at hk'
      rcases hk' with rfl | rfl | rfl | rfl
      · exact ⟨by omega, .inr x3⟩
      · exact ⟨by omega, .inr x4⟩
      · exact ⟨(hT _ t1).2, .inl t1⟩
      · exact ⟨(hT _ t2).2, .inl t2⟩
  · obtain ⟨hk, hst, bw, bh, bf, t1, t2, t3, b1, b2, b3, b4⟩ := h
    have hg : lkGive s v = { s with over := some ⟨0, lkV (lkIs s.kind s.x v), []⟩ } := by simp [lkGive, hst]
    rw [hg]
    refine lkLoad1_any _ _ bx v won w (fun w w' => Goes lkM (lkE m) m st T { s with over := some ⟨0, lkV (lkIs s.kind s.x v), []⟩ } w w') b4 (fun _ _ => by kernel_rfl) ?_
    refine (lkRow1_any m bw bh bf s.kind s.x v st w hw ho (by omega) b1 b2 b3 hk hxU hv).mono ?_
    rintro e w2 ⟨rfl, l', hw2, o2, kk⟩
    exact ⟨rfl, kk.mono (by simp), .inr ⟨0, _, [], l', by simp [lkM], rfl, by simp, by rw [← hs]; exact hw2, o2⟩⟩
  · obtain ⟨hk, hst, bw, bq, t1, t2, b1, b2, b4⟩ := h
    by_cases hbad : rgLo v < 1 ∨ s.n < rgLo v
    · have hg : lkGive s v = { s with x := v, step := 1, over := some ⟨9, 0, []⟩ } := by simp [lkGive, hst, hk, hbad]
      rw [hg]
      refine lkLoad1_any _ _ bx v won w (fun w w' => Goes lkM (lkE m) m st T { s with x := v, step := 1, over := some ⟨9, 0, []⟩ } w w') b4 (fun _ _ => by kernel_rfl) ?_
      refine (lkLine0_bad m bw bq s.at_ s.n v won st w hw ho (by omega) b1 b2 hv n0 n1 hbad).mono ?_
      rintro e w2 ⟨rfl, l', hw2, o2, kk⟩
      exact ⟨rfl, kk.mono (by simp), .inr ⟨9, 0, [], l', by simp [lkM], by simp [lkM], by simp, by rw [← hs]; exact hw2, o2⟩⟩
    · have hg : lkGive s v = { s with x := v, step := 1 } := by simp [lkGive, hst, hbad]
      rw [hg]
      refine lkLoad1_any _ _ bx v won w (fun w w' => Goes lkM (lkE m) m st T { s with x := v, step := 1 } w w') b4 (fun _ _ => by kernel_rfl) ?_
      refine (lkLine0_ok m bw bq s.at_ s.n v st w hw ho hs b1 b2 hv (hT _ t1).2 (hT _ t2).2 a0 a1 n0 n1 (by omega) (by omega)).mono ?_
      rintro e w2 ⟨rfl, bx2, hw2, x1, x3, kk⟩
      refine ⟨rfl, kk.mono (by simp), .inl ⟨_, _, _, _, [bx2, bw], by simp [lkM, lkWant, hov, hk], by simp [lkM, hov], hw2, ?_, ?_, ?_⟩⟩
      · intro _
        exact ⟨⟨hkd, a0, a1, n0, n1, hv⟩, bx2, by simp, rfl, .inr (.inr (.inr ⟨hk, rfl, bw, by simp, b1.keeps kk (by simp; exact (hT _ t1).2), x1⟩))⟩
      · intro k hk'
        simp at hk'
        rcases hk' with rfl | rfl
        · exact x1.lt
        · exact Nat.lt_of_lt_of_le (hT _ t1).1 kk.size
      · intro k hk'
        simp at hk'
        rcases hk' with rfl | rfl
        · exact ⟨by omega, .inr x3⟩
        · exact ⟨(hT _ t1).2, .inl t1⟩
  · obtain ⟨hk, hst, bw, t1, b1, b4⟩ := h
    have hi : lkIs s.kind s.x v = lkIs 2 0 v := by simp [lkIs, hk]
    have hg : lkGive s v = { s with over := some ⟨0, lkV (lkIs 2 0 v), []⟩ } := by simp [lkGive, hst, hi]
    rw [hg]
    refine lkLoad1_any _ _ bx v won w (fun w w' => Goes lkM (lkE m) m st T { s with over := some ⟨0, lkV (lkIs 2 0 v), []⟩ } w w') b4 (fun _ _ => by kernel_rfl) ?_
    refine (lkLine1_any m bw v st w hw ho (by omega) b1 hv).mono ?_
    rintro e w2 ⟨rfl, l', hw2, o2, kk⟩
    exact ⟨rfl, kk.mono (by simp), .inr ⟨0, _, [], l', by simp [lkM], rfl, by simp, by rw [← hs]; exact hw2, o2⟩⟩
theorem lkRuns (m : Nat) : Runs lkM (LoneI lkM (lkE m) m) m := by
  refine runs_own lkM (lkE m) m (lkE_keeps m) (lkEnded m) ?_ (fun _ _ _ => rfl) ?_ ?_ (lkSteps m)
  · intro s v won h
    cases ho : s.over with
    | none => simp [lkM, ho] at h
    | some r => simp [lkM, ho]
  · intro s x h
    cases ho : s.over with
    | none => exact ho
    | some r => simp [lkM, ho] at h
  · intro w T nx s x h hx
    have hov : s.over = none := by
      cases h : s.over with
      | none => rfl
      | some r => simp [lkM, h] at hx
    obtain ⟨-, bx, -, hn, -⟩ := h hov
    exact ⟨_, _, _, hn, fun _ _ => by kernel_rfl⟩
end Go.Proofs.YtjfgpplnlepnoaaGreat

/-
  How a peek is made, or refused.
-/
namespace Go.Proofs.YtjfgpplnlepnoaaGreat
set_option maxRecDepth 100000
set_option linter.unusedSimpArgs false
set_option linter.unusedVariables false
open Go.ChangeShapes Go.WideShapes Go.ChangeAt Go.RowKit

def lkMade (w : World) (s : LkS) (e : Ending) (w' : World) : Prop := ∃ (m : Nat) (S : List Nat), e = .returned (.pointer (some ⟨m, 0, none⟩)) ∧ LoneI lkM (lkE m) m w' S s ∧ Keeps [] w w' ∧ ∀ k ∈ S, w.heap.size ≤ k
theorem lkMade.from {w w1 w' : World} {s : LkS} {e : Ending} (h : lkMade w1 s e w') (hk : Keeps [] w w1) : lkMade w s e w' := by
  obtain ⟨m, S, h1, h2, h3, h4⟩ := h
  exact ⟨m, S, h1, h2, hk.trans h3, fun k hk' => Nat.le_trans hk.size (h4 k hk')⟩
set_option maxHeartbeats 800000 in
theorem lkRefused1 (m : Nat) (s : LkS) (hs : s.over = some ⟨2, 0, []⟩) (w : World) (hw : Wk w m { WSt.zero with under := 1 }) :
    Calls Tryz.prog 68 (#[.pointer (some ⟨m, 0, none⟩)] ++ #[]) w fun e w' => e = .returned (.tuple #[]) ∧ Goes lkM (lkE m) m { WSt.zero with under := 1 } [] s w w' := by
  have HE := Lib.hid (wBreak m { WSt.zero with under := 1 } 2 w hw rfl (.inl (show (0 : Int) < 1 by decide)))
  have HS := Lib.hid hs
  clear hw hs
  go_enter Tryz.func68, Tryz.ntmps68
  go_wp2_with fail
  refine HE.out.mono ?_
  rintro e w1 ⟨rfl, l', hw, ho, hk⟩
  have HP := Lib.hid (⟨hw, ho, hk⟩ : _ ∧ _ ∧ _)
  clear hw ho hk
  go_wp2
  first | go_end0 | refine bodyPost_ret (results_none rfl _ _ _) rfl ?_ | skip
  exact ⟨rfl, HP.out.2.2.mono (by simp), .inr ⟨2, 0, [], l', by simp [lkM, HS.out], HS.out, by simp, HP.out.1, HP.out.2.1⟩⟩
theorem lkRefusal_made (s : LkS) (hs : s.over = some ⟨2, 0, []⟩) (w : World) : Calls Tryz.prog 31 #[] w (lkMade w s) := by
  have HN := Lib.hid (new_goes lkM (lkE (w.heap.size + 1)) s 68 #[] w (lkE_keeps _) (lkEnded _) rfl (fun _ _ => by kernel_rfl) (fun w1 h1 _ => lkRefused1 _ s hs w1 h1))
  clear hs
  go_enter Tryz.func31, Tryz.ntmps31
  go_wp2_with fail
  refine HN.out.mono ?_
  rintro e w4 ⟨rfl, S, hI, k4, hS⟩
  have HP : Hid (_ ∧ _ ∧ _) := Lib.hid ⟨hI, k4, hS⟩
  clear hI k4 hS
  go_wp2
  go_ret
  exact ⟨_, S, rfl, HP.out⟩
theorem lkLooking_no (F : FuncId) (ca : Array Value) (s : LkS) (hs : s.over = some ⟨2, 0, []⟩) (w : World) : Calls Tryz.prog 39 #[.bool false, .func (.func F) #[] ca] w (lkMade w s) := by
  have HN := Lib.hid (lkRefusal_made s hs w)
  clear hs
  go_enter Tryz.func39, Tryz.ntmps39
  go_wp2_with fail
  refine HN.out.mono ?_
  rintro e w4 ⟨m, S, rfl, hI, k4, hS⟩
  have HP : Hid (_ ∧ _ ∧ _) := Lib.hid ⟨hI, k4, hS⟩
  clear hI k4 hS
  go_wp2
  go_ret
  exact ⟨_, S, rfl, HP.out⟩
theorem lkLooking_ok (F : FuncId) (ca : Array Value) (s : LkS) (Z : List Nat) (w : World) (hZ : ∀ k ∈ Z, k < w.heap.size) (hcf : ∀ args w, (callFunc F args).run Tryz.prog w = .ok (.enter F args) w)
    (hF : ∀ m w1, m ∉ Z → Wk w1 m { WSt.zero with under := 1 } → Keeps [] w w1 → Calls Tryz.prog F (#[.pointer (some ⟨m, 0, none⟩)] ++ ca) w1 fun e w2 => e = .returned (.tuple #[]) ∧ Goes lkM (lkE m) m { WSt.zero with under := 1 } Z s w1 w2) :
    Calls Tryz.prog 39 #[.bool true, .func (.func F) #[] ca] w fun e w' => ∃ (m : Nat) (S : List Nat), e = .returned (.pointer (some ⟨m, 0, none⟩)) ∧ LoneI lkM (lkE m) m w' S s ∧ Keeps Z w w' ∧ ∀ k ∈ S, k ∈ Z ∨ w.heap.size ≤ k := by
  have HN := Lib.hid (new_goesZ lkM (lkE (w.heap.size + 1)) s F ca Z w hZ (lkE_keeps _) (lkEnded _) rfl hcf (fun w1 h1 k1 => hF _ w1 (fun h => by have := hZ _ h; omega) h1 k1))
  clear hF hZ
  go_enter Tryz.func39, Tryz.ntmps39
  go_wp2_with fail
  refine HN.out.mono ?_
  rintro e w4 ⟨rfl, S, hI, k4, hS⟩
  have HP : Hid (_ ∧ _ ∧ _) := Lib.hid ⟨hI, k4, hS⟩
  clear hI k4 hS
  go_wp2
  go_ret
  exact ⟨_, S, rfl, HP.out⟩

set_option maxHeartbeats 1600000 in
/-- A peek at a row asks for its first Load. -/
theorem lkPeek1_any (m br bh : Nat) (kind at_ k' z : Int) (w : World) (hk : kind = 0 ∨ kind = 1) (a0 : 0 ≤ at_) (a1 : at_ < 65536) (hm : m ∉ [br, bh]) (hw : Wk w m { WSt.zero with under := 1 }) (hbr : Box w br #[.int .i64 k', .int .i64 at_, .int .i64 z]) (hbh : Box w bh #[.func (.func (lkFn kind)) #[] #[]]) :
    Calls Tryz.prog 81 (#[.pointer (some ⟨m, 0, none⟩)] ++ #[.pointer (some ⟨br, 0, none⟩), .pointer (some ⟨bh, 0, none⟩)]) w fun e w' => e = .returned (.tuple #[]) ∧ Goes lkM (lkE m) m { WSt.zero with under := 1 } [br, bh] (lkNew kind at_ 0 true) w w' := by
  obtain ⟨W1, hW1⟩ : ∃ W1, w.alloc (.cells #[.pointer (some ⟨m, 0, none⟩)] 30) = W1 := ⟨_, rfl⟩
  have hb : Box W1 w.heap.size #[.pointer (some ⟨m, 0, none⟩)] := by rw [← hW1]; exact Box.new _ _ _
  have hk1 : Keeps [] w W1 := by rw [← hW1]; exact (Keeps.refl _ _).alloc _
  have HE := Lib.hid (fun W h => lkLoad_any 82 #[.pointer (some ⟨w.heap.size, 0, none⟩), .pointer (some ⟨br, 0, none⟩), .pointer (some ⟨bh, 0, none⟩)] m at_ { WSt.zero with under := 1 } W h rfl rfl)
  have HW := Lib.hid (hw.keeps hk1 (by simp))
  have b1 := hbr.keeps hk1 (by simp)
  have b2 := hbh.keeps hk1 (by simp)
  have c0 := hb.cells 0
  have c1 := b1.cells 1
  simp at c0 c1
  have hmlt := hw.lt
  have HB := Lib.hid (⟨hb, hk1, b1, b2, hk, a0, a1, hm⟩ : _ ∧ _ ∧ _ ∧ _ ∧ _ ∧ _ ∧ _ ∧ _)
  clear hb hk1 hw hbr hbh b1 b2 hk a0 a1 hm
  go_enter Tryz.func81, Tryz.ntmps81
  go_wp2_with fail
  refine (HE.out _ (by first | exact HW.out | exact HW.out.keeps ((Keeps.refl [] W1).drew) (by simp))).mono ?_
  rintro e w2 ⟨rfl, bx, hw, hx, hsz, hk⟩
  have HP := Lib.hid (⟨hw, hx, hsz, by first | exact hk | exact hk.undrew⟩ : _ ∧ _ ∧ W1.heap.size ≤ bx ∧ Keeps [m] W1 w2)
  clear hw hx hk hsz
  go_wp2
  first | go_end0 | refine bodyPost_ret (results_none rfl _ _ _) rfl ?_ | skip
  obtain ⟨b0, k1, b1, b2, hk, a0, a1, hm⟩ := HB.out
  obtain ⟨p1, p2, p3, p4⟩ := HP.out
  have hs1 := k1.size
  simp at hm
  have hk2 : kind ≠ 2 := by omega
  have q0 := b0.keeps p4 (by simp; omega)
  have q1 := b1.keeps p4 (by simp; exact fun h => hm.1 h.symm)
  have q2 := b2.keeps p4 (by simp; exact fun h => hm.2 h.symm)
  refine ⟨rfl, (k1.nil.trans p4).mono (by simp), .inl ⟨_, _, _, _, [bx, w.heap.size, br, bh], by simp [lkM, lkWant, lkNew], by simp [lkM, lkNew], p1, fun _ => ⟨⟨by show kind = 0 ∨ kind = 1 ∨ kind = 2; omega, a0, a1, by simp [lkNew], by simp [lkNew], ⟨by simp [lkNew], by simp [lkNew]⟩⟩, bx, by simp, rfl, .inl ⟨hk, rfl, w.heap.size, bh, br, k', z, by simp, by simp, by simp, q0, q2, q1, p2⟩⟩, ?_, ?_⟩⟩
  · intro k hk'
    simp at hk'
    rcases hk' with rfl | rfl | rfl | rfl
    · exact p2.lt
    · exact q0.lt
    · exact q1.lt
    · exact q2.lt
  · intro k hk'
    simp at hk'
    rcases hk' with rfl | rfl | rfl | rfl
    · exact ⟨by omega, .inr (by omega)⟩
    · exact ⟨by omega, .inr (Nat.le_refl _)⟩
    · exact ⟨fun h => hm.1 h.symm, .inl (by simp)⟩
    · exact ⟨fun h => hm.2 h.symm, .inl (by simp)⟩
set_option maxHeartbeats 1600000 in
theorem lkLook1_any (m bq : Nat) (at_ n : Int) (w : World) (hr : lkQRight at_ n) (hm : m ∉ [bq]) (hw : Wk w m { WSt.zero with under := 1 }) (hbq : Box w bq #[.int .i64 at_, .int .i64 n]) :
    Calls Tryz.prog 41 (#[.pointer (some ⟨m, 0, none⟩)] ++ #[.pointer (some ⟨bq, 0, none⟩)]) w fun e w' => e = .returned (.tuple #[]) ∧ Goes lkM (lkE m) m { WSt.zero with under := 1 } [bq] (lkNew 2 at_ n true) w w' := by
  obtain ⟨W1, hW1⟩ : ∃ W1, w.alloc (.cells #[.pointer (some ⟨m, 0, none⟩)] 30) = W1 := ⟨_, rfl⟩
  have hb : Box W1 w.heap.size #[.pointer (some ⟨m, 0, none⟩)] := by rw [← hW1]; exact Box.new _ _ _
  have hk1 : Keeps [] w W1 := by rw [← hW1]; exact (Keeps.refl _ _).alloc _
  have HE := Lib.hid (fun W h => lkLoad_any 43 #[.pointer (some ⟨bq, 0, none⟩), .pointer (some ⟨w.heap.size, 0, none⟩)] m at_ { WSt.zero with under := 1 } W h rfl rfl)
  have HW := Lib.hid (hw.keeps hk1 (by simp))
  have b1 := hbq.keeps hk1 (by simp)
  have c0 := hb.cells 0
  have c1 := b1.cells 0
  simp at c0 c1
  have hmlt := hw.lt
  have HB := Lib.hid (⟨hb, hk1, b1, hr, hm⟩ : _ ∧ _ ∧ _ ∧ _ ∧ _)
  clear hb hk1 hw hbq b1 hr hm
  go_enter Tryz.func41, Tryz.ntmps41
  go_wp2_with fail
  refine (HE.out _ (by first | exact HW.out | exact HW.out.keeps ((Keeps.refl [] W1).drew) (by simp))).mono ?_
  rintro e w2 ⟨rfl, bx, hw, hx, hsz, hk⟩
  have HP := Lib.hid (⟨hw, hx, hsz, by first | exact hk | exact hk.undrew⟩ : _ ∧ _ ∧ W1.heap.size ≤ bx ∧ Keeps [m] W1 w2)
  clear hw hx hk hsz
  go_wp2
  first | go_end0 | refine bodyPost_ret (results_none rfl _ _ _) rfl ?_ | skip
  obtain ⟨b0, k1, b1, ⟨n2, n3, a0, a1⟩, hm⟩ := HB.out
  obtain ⟨p1, p2, p3, p4⟩ := HP.out
  have hs1 := k1.size
  simp at hm
  have q0 := b0.keeps p4 (by simp; omega)
  have q1 := b1.keeps p4 (by simp; exact fun h => hm h.symm)
  refine ⟨rfl, (k1.nil.trans p4).mono (by simp), .inl ⟨_, _, _, _, [bx, w.heap.size, bq], by simp [lkM, lkWant, lkNew], by simp [lkM, lkNew], p1, fun _ => ⟨⟨.inr (.inr rfl), a0, by show at_ < 65536; omega, by show 0 ≤ n; omega, n3, ⟨by simp [lkNew], by simp [lkNew]⟩⟩, bx, by simp, rfl, .inr (.inr (.inl ⟨rfl, rfl, w.heap.size, bq, by simp, by simp, q0, q1, p2⟩))⟩, ?_, ?_⟩⟩
  · intro k hk'
    simp at hk'
    rcases hk' with rfl | rfl | rfl
    · exact p2.lt
    · exact q0.lt
    · exact q1.lt
  · intro k hk'
    simp at hk'
    rcases hk' with rfl | rfl | rfl
    · exact ⟨by omega, .inr (by omega)⟩
    · exact ⟨by omega, .inr (Nat.le_refl _)⟩
    · exact ⟨fun h => hm h.symm, .inl (by simp)⟩
set_option maxHeartbeats 1600000 in
theorem lkLine_made (at_ n : Int) (w : World) : Calls Tryz.prog 13 #[.agg #[.int .i64 at_, .int .i64 n]] w (lkMade w (lkNew 2 at_ n (decide (lkQRight at_ n)))) := by
  obtain ⟨W1, hW1⟩ : ∃ W1, w.alloc (.cells #[.int .i64 at_, .int .i64 n] 25) = W1 := ⟨_, rfl⟩
  have hb : Box W1 w.heap.size #[.int .i64 at_, .int .i64 n] := by rw [← hW1]; exact Box.new _ _ _
  have hk1 : Keeps [] w W1 := by rw [← hW1]; exact (Keeps.refl _ _).alloc _
  have HS : Hid (∀ W, Keeps [] W1 W → W.cell? ⟨w.heap.size, 0, none⟩ = some (.int .i64 at_) ∧ W.cell? ⟨w.heap.size, 1, none⟩ = some (.int .i64 n)) := Lib.hid fun W hk => by
    have c0 := (hb.keeps hk (by simp)).cells 0
    have c1 := (hb.keeps hk (by simp)).cells 1
    simp at c0 c1
    exact ⟨c0, c1⟩
  obtain ⟨c0, c1⟩ := HS.out W1 (Keeps.refl _ _)
  have HR := Lib.hid (fun W => lkQRight_any at_ n W)
  have hk0 : Keeps [] W1 W1 := Keeps.refl _ _
  have HB := Lib.hid (⟨hb, hk1⟩ : _ ∧ _)
  clear hb hk1
  by_cases hr : lkQRight at_ n
  · rw [decide_eq_true hr] at HR ⊢
    have HL : Hid (∀ W, Keeps [] W1 W → Calls Tryz.prog 39 #[.bool true, .func (.func 41) #[] #[.pointer (some ⟨w.heap.size, 0, none⟩)]] W fun e w' => lkMade w (lkNew 2 at_ n true) e w') := Lib.hid fun W hk => by
      refine (lkLooking_ok 41 #[.pointer (some ⟨w.heap.size, 0, none⟩)] (lkNew 2 at_ n true) [w.heap.size] W (fun k hk' => by simp at hk'; subst hk'; exact (HB.out.1.keeps hk (by simp)).lt) (fun _ _ => by kernel_rfl) (fun m w1 hm h1 k1 => lkLook1_any m _ at_ n w1 hr hm h1 ((HB.out.1.keeps hk (by simp)).keeps k1 (by simp)))).mono ?_
      rintro e w' ⟨m, S, rfl, hI, k4, hS⟩
      exact ⟨m, S, rfl, hI, (HB.out.2.trans hk).step k4 (by simp), fun k hk' => by
        rcases hS k hk' with h | h
        · simp at h; omega
        · exact Nat.le_trans (HB.out.2.trans hk).size h⟩
    clear hr
    go_enter Tryz.func13, Tryz.ntmps13
    go_wp2_with fail
    refine (HR.out _).mono ?_
    rintro e w2 ⟨rfl, k2⟩
    have k2' : Keeps [] W1 w2 := by first | exact k2 | exact k2.undrew
    have HL2 := Lib.hid (HL.out _ k2')
    clear k2 k2' HL
    go_wp2_with fail
    refine HL2.out.mono ?_
    rintro e w4 ⟨m, S, rfl, hI, k4, hS⟩
    have HP : Hid (_ ∧ _ ∧ _) := Lib.hid ⟨hI, k4, hS⟩
    clear hI k4 hS
    go_wp2
    go_ret
    exact ⟨_, S, rfl, HP.out⟩
  · rw [decide_eq_false hr] at HR ⊢
    have HL : Hid (∀ W, Keeps [] W1 W → Calls Tryz.prog 39 #[.bool false, .func (.func 41) #[] #[.pointer (some ⟨w.heap.size, 0, none⟩)]] W fun e w' => lkMade w (lkNew 2 at_ n false) e w') := Lib.hid fun W hk =>
      (lkLooking_no _ _ (lkNew 2 at_ n false) rfl W).mono fun e w' h => h.from (HB.out.2.trans hk)
    clear hr
    go_enter Tryz.func13, Tryz.ntmps13
    go_wp2_with fail
    refine (HR.out _).mono ?_
    rintro e w2 ⟨rfl, k2⟩
    have k2' : Keeps [] W1 w2 := by first | exact k2 | exact k2.undrew
    have HL2 := Lib.hid (HL.out _ k2')
    clear k2 k2' HL
    go_wp2_with fail
    refine HL2.out.mono ?_
    rintro e w4 ⟨m, S, rfl, hI, k4, hS⟩
    have HP : Hid (_ ∧ _ ∧ _) := Lib.hid ⟨hI, k4, hS⟩
    clear hI k4 hS
    go_wp2
    go_ret
    exact ⟨_, S, rfl, HP.out⟩
set_option maxHeartbeats 1600000 in
theorem lkRow_made (kind at_ size : Int) (w : World) (hk : kind = 0 ∨ kind = 1)
    (HRi : ∀ W, Calls Tryz.prog 7 #[.agg #[.int .i64 kind, .int .i64 at_, .int .i64 size]] W fun e w' => e = .returned (.bool (decide (lcRight kind at_ size))) ∧ Keeps [] W w') :
    Calls Tryz.prog 34 #[.agg #[.int .i64 kind, .int .i64 at_, .int .i64 size], .func (.func (lkFn kind)) #[] #[]] w (lkMade w (lkNew kind at_ 0 (decide (lcRight kind at_ size)))) := by
  obtain ⟨F, hF⟩ : ∃ F, lkFn kind = F := ⟨_, rfl⟩
  obtain ⟨W1, hW1⟩ : ∃ W1, (w.alloc (.cells #[.int .i64 kind, .int .i64 at_, .int .i64 size] 23)).alloc (.cells #[.func (.func F) #[] #[]] 81) = W1 := ⟨_, rfl⟩
  have hb : Box W1 w.heap.size #[.int .i64 kind, .int .i64 at_, .int .i64 size] := by rw [← hW1]; exact (Box.new _ _ _).alloc _
  have hb1 : Box W1 (w.heap.size + 1) #[.func (.func F) #[] #[]] := by rw [← hW1]; have := Box.new (w.alloc (.cells #[.int .i64 kind, .int .i64 at_, .int .i64 size] 23)) #[.func (.func F) #[] #[]] 81; simpa using this
  have hk1 : Keeps [] w W1 := by rw [← hW1]; exact ((Keeps.refl _ _).alloc _).alloc _
  have HS : Hid (∀ W, Keeps [] W1 W → W.cell? ⟨w.heap.size, 0, none⟩ = some (.int .i64 kind) ∧ W.cell? ⟨w.heap.size, 1, none⟩ = some (.int .i64 at_) ∧ W.cell? ⟨w.heap.size, 2, none⟩ = some (.int .i64 size)) := Lib.hid fun W hk => by
    have c0 := (hb.keeps hk (by simp)).cells 0
    have c1 := (hb.keeps hk (by simp)).cells 1
    have c2 := (hb.keeps hk (by simp)).cells 2
    simp at c0 c1 c2
    exact ⟨c0, c1, c2⟩
  obtain ⟨c0, c1, c2⟩ := HS.out W1 (Keeps.refl _ _)
  have HR := Lib.hid HRi
  have HB := Lib.hid (⟨hb, hk1, hb1⟩ : _ ∧ _ ∧ _)
  clear hb hk1 hb1 HRi
  by_cases hr : lcRight kind at_ size
  · rw [decide_eq_true hr] at HR ⊢
    have HL : Hid (∀ W, Keeps [] W1 W → Calls Tryz.prog 39 #[.bool true, .func (.func 81) #[] #[.pointer (some ⟨w.heap.size, 0, none⟩), .pointer (some ⟨w.heap.size + 1, 0, none⟩)]] W fun e w' => lkMade w (lkNew kind at_ 0 true) e w') := Lib.hid fun W hk' => by
      refine (lkLooking_ok 81 #[.pointer (some ⟨w.heap.size, 0, none⟩), .pointer (some ⟨w.heap.size + 1, 0, none⟩)] (lkNew kind at_ 0 true) [w.heap.size, w.heap.size + 1] W (fun k h => by
        simp at h
        rcases h with rfl | rfl
        · exact (HB.out.1.keeps hk' (by simp)).lt
        · exact (HB.out.2.2.keeps hk' (by simp)).lt) (fun _ _ => by kernel_rfl) (fun m w1 hm h1 k1 => lkPeek1_any m _ _ kind at_ kind size w1 hk hr.2.2.1 (by have := hr.2.1; have := hr.2.2.2; omega) hm h1 ((HB.out.1.keeps hk' (by simp)).keeps k1 (by simp)) (by rw [hF]; exact (HB.out.2.2.keeps hk' (by simp)).keeps k1 (by simp)))).mono ?_
      rintro e w' ⟨m, S, rfl, hI, k4, hS⟩
      exact ⟨m, S, rfl, hI, (HB.out.2.1.trans hk').step k4 (by simp), fun k hk2 => by
        rcases hS k hk2 with h | h
        · simp at h; omega
        · exact Nat.le_trans (HB.out.2.1.trans hk').size h⟩
    rw [hF]
    clear hr hF
    go_enter Tryz.func34, Tryz.ntmps34
    go_wp2_with fail
    refine (HR.out _).mono ?_
    rintro e w2 ⟨rfl, k2⟩
    have k2' : Keeps [] W1 w2 := by first | exact k2 | exact k2.undrew
    have HL2 := Lib.hid (HL.out _ k2')
    clear k2 k2' HL
    go_wp2_with fail
    refine HL2.out.mono ?_
    rintro e w4 ⟨m, S, rfl, hI, k4, hS⟩
    have HP : Hid (_ ∧ _ ∧ _) := Lib.hid ⟨hI, k4, hS⟩
    clear hI k4 hS
    go_wp2
    go_ret
    exact ⟨_, S, rfl, HP.out⟩
  · rw [decide_eq_false hr] at HR ⊢
    have HL : Hid (∀ W, Keeps [] W1 W → Calls Tryz.prog 39 #[.bool false, .func (.func 81) #[] #[.pointer (some ⟨w.heap.size, 0, none⟩), .pointer (some ⟨w.heap.size + 1, 0, none⟩)]] W fun e w' => lkMade w (lkNew kind at_ 0 false) e w') := Lib.hid fun W hk =>
      (lkLooking_no _ _ (lkNew kind at_ 0 false) rfl W).mono fun e w' h => h.from (HB.out.2.1.trans hk)
    rw [hF]
    clear hr hF
    go_enter Tryz.func34, Tryz.ntmps34
    go_wp2_with fail
    refine (HR.out _).mono ?_
    rintro e w2 ⟨rfl, k2⟩
    have k2' : Keeps [] W1 w2 := by first | exact k2 | exact k2.undrew
    have HL2 := Lib.hid (HL.out _ k2')
    clear k2 k2' HL
    go_wp2_with fail
    refine HL2.out.mono ?_
    rintro e w4 ⟨m, S, rfl, hI, k4, hS⟩
    have HP : Hid (_ ∧ _ ∧ _) := Lib.hid ⟨hI, k4, hS⟩
    clear hI k4 hS
    go_wp2
    go_ret
    exact ⟨_, S, rfl, HP.out⟩
end Go.Proofs.YtjfgpplnlepnoaaGreat
