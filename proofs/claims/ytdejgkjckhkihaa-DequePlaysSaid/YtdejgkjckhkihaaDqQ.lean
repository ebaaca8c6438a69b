/-
  Contracts: a deque's Right, Push, Pop and Steal.
-/
import Derived.Test.YtdejgkjckhkihaaDqP
namespace Go.Proofs.Ytdejgkjckhkihaa
set_option maxRecDepth 100000
set_option linter.unusedSimpArgs false
set_option linter.unusedVariables false
open Go.ChangeShapes Go.WideShapes Go.ChangeAt Go.RowKit

/-- What the test by bits tells of the numbers from 2 to 256. -/
def dqBits (n : Nat) : Bool := decide (n < 2) || ((bits BinOp.and IntKind.i64 (n : Int) ((n : Int) - 1) == 0) == (n == 2 || n == 4 || n == 8 || n == 16 || n == 32 || n == 64 || n == 128 || n == 256))
theorem dqBits_all : (List.range 257).all dqBits = true := by kernel_rfl
theorem dqBits_at (size : Int) (h1 : 2 ≤ size) (h2 : size ≤ 256) : bits BinOp.and IntKind.i64 size (size - 1) = 0 ↔ (size = 2 ∨ size = 4 ∨ size = 8 ∨ size = 16 ∨ size = 32 ∨ size = 64 ∨ size = 128 ∨ size = 256) := by
  obtain ⟨n, rfl⟩ := Int.eq_ofNat_of_zero_le (show 0 ≤ size by omega)
  have h := List.all_eq_true.1 dqBits_all n (List.mem_range.2 (by omega))
  unfold dqBits at h
  rw [Bool.or_eq_true, decide_eq_true_eq] at h
  rcases h with h | h
  · omega
  · rw [beq_iff_eq] at h
    constructor
    · intro h0
      rw [h0] at h
      simp at h
      omega
    · intro h0
      have : (n == 2 || n == 4 || n == 8 || n == 16 || n == 32 || n == 64 || n == 128 || n == 256) = true := by simp; omega
      rw [this] at h
      simpa using h

theorem dqRight_any (at_ size : Int) (w : World) (hs : -9223372036854775808 ≤ size) :
    Calls Try.prog 44 #[.agg #[.int .i64 at_, .int .i64 size]] w fun e w' => e = .returned (.bool (decide (dqRight at_ size))) ∧ Keeps [] w w' := by
  obtain ⟨W1, hW1⟩ : ∃ W1, w.alloc (.cells #[.int .i64 at_, .int .i64 size] 24) = W1 := ⟨_, rfl⟩
  have hb : Box W1 w.heap.size #[.int .i64 at_, .int .i64 size] := by rw [← hW1]; exact Box.new _ _ _
  have hk1 : Keeps [] w W1 := by rw [← hW1]; exact (Keeps.refl _ _).alloc _
  have c0 := hb.cells 0
  have c1 := hb.cells 1
  have HK := Lib.hid hk1
  clear hb hk1
  by_cases h1 : size < 2
  · have HD : Hid (decide (dqRight at_ size) = false) := Lib.hid (decide_eq_false fun h => by have := h.1; omega)
    rw [HD.out]
    have d1 : decide ((2 : Int) ≤ size) = false := decide_eq_false (by omega)
    go_enter Try.func44, Try.ntmps44
    go_wp2
    go_ret
    exact ⟨rfl, HK.out⟩
  have d1 : decide ((2 : Int) ≤ size) = true := decide_eq_true (by omega)
  by_cases h2 : 256 < size
  · have HD : Hid (decide (dqRight at_ size) = false) := Lib.hid (decide_eq_false fun h => by have := h.1; omega)
    rw [HD.out]
    have d2 : decide (size ≤ 256) = false := decide_eq_false (by omega)
    go_enter Try.func44, Try.ntmps44
    go_wp2
    go_ret
    exact ⟨rfl, HK.out⟩
  have d2 : decide (size ≤ 256) = true := decide_eq_true (by omega)
  have hn1 : 2 ≤ size := by omega
  have hn2 : size ≤ 256 := by omega
  have hbits := dqBits_at size hn1 hn2
  obtain ⟨y, hy⟩ : ∃ y, bits BinOp.and IntKind.i64 size (size - 1) = y := ⟨_, rfl⟩
  rw [hy] at hbits
  by_cases h3 : y = 0
  · have hpw := hbits.1 h3
    have d3 : decide (y = 0) = true := decide_eq_true h3
    by_cases h4 : at_ < 0
    · have HD : Hid (decide (dqRight at_ size) = false) := Lib.hid (decide_eq_false fun h => by have := h.2.1; omega)
      rw [HD.out]
      have d4 : decide (0 ≤ at_) = false := decide_eq_false (by omega)
      clear hbits hpw
      go_enter Try.func44, Try.ntmps44
      go_wp2
      go_ret
      exact ⟨rfl, HK.out⟩
    have d4 : decide (0 ≤ at_) = true := decide_eq_true (by omega)
    by_cases h5 : at_ < 65536 - size - 1
    · have HD : Hid (decide (dqRight at_ size) = true) := Lib.hid (decide_eq_true ⟨hpw, by omega, h5⟩)
      rw [HD.out]
      have d5 : decide (at_ < 65536 - size - 1) = true := decide_eq_true h5
      clear hbits hpw
      go_enter Try.func44, Try.ntmps44
      go_wp2
      go_ret
      exact ⟨rfl, HK.out⟩
    · have HD : Hid (decide (dqRight at_ size) = false) := Lib.hid (decide_eq_false fun h => h5 h.2.2)
      rw [HD.out]
      have d5 : decide (at_ < 65536 - size - 1) = false := decide_eq_false h5
      clear hbits hpw
      go_enter Try.func44, Try.ntmps44
      go_wp2
      go_ret
      exact ⟨rfl, HK.out⟩
  · have HD : Hid (decide (dqRight at_ size) = false) := Lib.hid (decide_eq_false fun h => h3 (hbits.2 h.1))
    rw [HD.out]
    have d3 : decide (y = 0) = false := decide_eq_false h3
    clear hbits
    go_enter Try.func44, Try.ntmps44
    go_wp2
    go_ret
    exact ⟨rfl, HK.out⟩

/-- A new one that has ended at once. -/
theorem ended_mid {σ : Type} {K : Mach σ} {R : World → List Nat → Value → Value → σ → Prop} {m : Nat} {s0 : σ} {w1 w2 : World} {c v : Int} {l' : Value} (h1 : m < w1.heap.size) (hw : Wk w2 m { WSt.zero with under := 1, over := true, code := c, v := v, l := l' }) (ho : w2.ownsRow w1.heap.size 38 1 l' 0 []) (hk : Keeps [m] w1 w2)
    (hx : K.want s0 = none) (hr : K.res s0 = some ⟨c, v, []⟩) (hh : K.held s0 = []) (hE : ∀ w T nx ov s, K.want s = none → R w T nx ov s) : MidO K R m [m] [] s0 w1 w2 { WSt.zero with under := 1, over := true, code := c, v := v, l := l' } := by
  have hol := fun g hg => ho.lt g hg
  have hf : K.face s0 = ⟨none, some ⟨c, v, []⟩, []⟩ := by simp only [Mach.face, hx, hr, hh]
  refine ⟨.inr rfl, m :: l'.ownBlock.toList, [], ?_, ?_, by simp, by simp, hE _ _ _ _ _ hx, hk.mono (by simp), ?_, by simp⟩
  · rw [hf]
    exact ⟨hw, rfl, rfl, by simp, ⟨rfl, .inl ⟨_, _, rfl, rfl⟩⟩, (fun g hg => by cases hg), by simp, rfl, (fun r hr => by cases hr; exact ⟨rfl, rfl, by simpa [ints] using Sl.of_owns ho, by simp⟩), (fun g hg => ⟨by simp [show l'.ownBlock = some g from hg], by have := (hol g hg).1; omega⟩), (fun _ => rfl), (fun y hy => by cases hy)⟩
  · intro k hk'
    simp at hk'
    rcases hk' with rfl | hk'
    · exact hw.lt
    · exact (hol k hk').2
  · intro k hk'
    simp at hk'
    rcases hk' with rfl | hk'
    · exact .inl (by simp)
    · exact .inr (hol k hk').1
/-- What stands in a new walk while its first function is under way. -/
@[reducible] def wk1 : WSt := { WSt.zero with under := 1 }

set_option maxHeartbeats 1600000 in
theorem dqPush1_any (m bv : Nat) (at_ size v : Int) (w : World) (hw : Wk w m wk1) (hb : Box w bv #[.int .u64 v]) (hr : dqRight at_ size) (hv : M.U v) :
    Calls Try.prog 38 #[.agg #[.pointer (some ⟨m, 0, none⟩), .int .i64 at_, .int .i64 size, .int .u64 0, .int .u64 0, .int .u64 0], .pointer (some ⟨bv, 0, none⟩)] w fun e w' => e = .returned (.tuple #[]) ∧ GoesO dequeM (dqE m) m wk1 [] [] (dqNew at_ size 1 v) w w' := by
  have U0 : M.U 0 := ⟨by decide, by decide⟩
  have h0 := hb.cells 0
  have hlt := hb.lt
  have hml := hw.lt
  obtain ⟨W2, hW2⟩ : ∃ W2, (w.alloc (.cells #[.pointer (some ⟨m, 0, none⟩), .int .i64 at_, .int .i64 size, .int .u64 0, .int .u64 0, .int .u64 0] 81)).alloc (.cells #[.pointer (some ⟨m, 0, none⟩), .int .i64 at_, .int .i64 size, .int .u64 0, .int .u64 0, .int .u64 v] 84) = W2 := ⟨_, rfl⟩
  have k2 : Keeps [] w W2 := by rw [← hW2]; exact ((Keeps.refl _ _).alloc _).alloc _
  have hp2 : Row W2 (w.heap.size + 1) 84 (stCells m at_ size 0 0 v []) := by rw [← hW2]; have := Row.new (w.alloc (.cells #[.pointer (some ⟨m, 0, none⟩), .int .i64 at_, .int .i64 size, .int .u64 0, .int .u64 0, .int .u64 0] 81)) #[.pointer (some ⟨m, 0, none⟩), .int .i64 at_, .int .i64 size, .int .u64 0, .int .u64 0, .int .u64 v] 84; simpa [stCells] using this
  have hz2 : W2.heap.size = w.heap.size + 2 := by rw [← hW2]; simp
  have HE := Lib.hid (dqPushBegin m (w.heap.size + 1) at_ size 0 0 v [] _ wk1 W2 (hw.keeps k2 (by simp)) hp2 (by omega) rfl rfl rfl hr.2.1 (by have := hr.1; have := hr.2.2; omega))
  have HK := Lib.hid k2
  have HR := Lib.hid hr
  have HV := Lib.hid hv
  clear hb hw k2 hp2 hr hv
  go_enter Try.func38, Try.ntmps38
  go_wp2_with fail
  refine HE.out.mono ?_
  rintro e2 w3 ⟨rfl, t, ov, g, o, b, h2, h3, h4, h5, ⟨g0, o0, b0⟩, hbo, htx, k3⟩
  have HH : Hid (_ ∧ _ ∧ _ ∧ _ ∧ _ ∧ _) := Lib.hid ⟨h2, h3, h4, h5, htx, k3⟩
  clear h2 h3 h4 h5 htx k3
  go_wp2
  first | go_end0 | refine bodyPost_ret (results_none rfl _ _ _) rfl ?_
  obtain ⟨h2, h3, h4, h5, htx, k3⟩ := HH.out
  have hN : dqNew at_ size 1 v = ⟨at_, size, 1, v, 1, 0, 0, 0, false, none⟩ := by simp [dqNew, HR.out]
  rw [hN]
  refine ⟨rfl, (HK.out.mono (by simp)).trans (k3.mono (by simp)), t, ov, .inl ⟨_, _, _, _, [w.heap.size + 1, g, o, b], by simp [dequeM, dqWant], rfl, .inr ⟨by simp [dequeM, dqHeld], by simpa [dequeM, dqHeld, ints] using owns_base h4 (by omega)⟩, h2, fun _ => ⟨⟨HR.out, .inl ⟨rfl, .inl rfl⟩, HV.out, U0, U0, U0⟩, w.heap.size + 1, 0, 0, v, [], by simp, by simp [dqFn], h3, fun _ => ⟨rfl, fun h => absurd rfl h, g, o, b, h5, by simp, hbo, by omega, by omega, by omega⟩, fun h => (by simp at h), fun h => (by simp at h)⟩, fun k hk => ?_, fun k hk => ?_⟩⟩
  · simp at hk
    rcases hk with rfl | rfl | rfl | rfl
    · exact h3.lt
    · exact h5.row.lt
    · exact h5.wk.lt
    · exact h5.box.lt
  · simp at hk
    have htl := fun x hx => h4.lt x hx
    rcases hk with rfl | rfl | rfl | rfl
    · exact ⟨by omega, .inr ⟨by omega, .inr fun h => by have := htl _ h; omega⟩⟩
    · exact ⟨by omega, .inr ⟨by omega, .inr fun h => (htx _ h).1 rfl⟩⟩
    · exact ⟨by omega, .inr ⟨by omega, .inr fun h => (htx _ h).2.1 rfl⟩⟩
    · exact ⟨by omega, .inr ⟨by omega, .inr fun h => (htx _ h).2.2 rfl⟩⟩

set_option maxHeartbeats 1600000 in
theorem dqSteal1_any (m : Nat) (at_ size : Int) (w : World) (hw : Wk w m wk1) (hr : dqRight at_ size) :
    Calls Try.prog 40 #[.agg #[.pointer (some ⟨m, 0, none⟩), .int .i64 at_, .int .i64 size, .int .u64 0, .int .u64 0, .int .u64 0]] w fun e w' => e = .returned (.tuple #[]) ∧ GoesO dequeM (dqE m) m wk1 [] [] (dqNew at_ size 3 0) w w' := by
  have U0 : M.U 0 := ⟨by decide, by decide⟩
  have hml := hw.lt
  obtain ⟨W2, hW2⟩ : ∃ W2, (w.alloc (.cells #[.pointer (some ⟨m, 0, none⟩), .int .i64 at_, .int .i64 size, .int .u64 0, .int .u64 0, .int .u64 0] 81)).alloc (.cells #[.pointer (some ⟨m, 0, none⟩), .int .i64 at_, .int .i64 size, .int .u64 0, .int .u64 0, .int .u64 0] 87) = W2 := ⟨_, rfl⟩
  have k2 : Keeps [] w W2 := by rw [← hW2]; exact ((Keeps.refl _ _).alloc _).alloc _
  have hp2 : Row W2 (w.heap.size + 1) 87 (stCells m at_ size 0 0 0 []) := by rw [← hW2]; have := Row.new (w.alloc (.cells #[.pointer (some ⟨m, 0, none⟩), .int .i64 at_, .int .i64 size, .int .u64 0, .int .u64 0, .int .u64 0] 81)) #[.pointer (some ⟨m, 0, none⟩), .int .i64 at_, .int .i64 size, .int .u64 0, .int .u64 0, .int .u64 0] 87; simpa [stCells] using this
  have hz2 : W2.heap.size = w.heap.size + 2 := by rw [← hW2]; simp
  have HE := Lib.hid (dqStealBegin m (w.heap.size + 1) at_ size 0 0 0 [] _ wk1 W2 (hw.keeps k2 (by simp)) hp2 (by omega) rfl rfl)
  have HK := Lib.hid k2
  have HR := Lib.hid hr
  clear hw k2 hp2 hr
  go_enter Try.func40, Try.ntmps40
  go_wp2_with fail
  refine HE.out.mono ?_
  rintro e2 w3 ⟨rfl, h2, h3, k3⟩
  have HH : Hid (_ ∧ _ ∧ _) := Lib.hid ⟨h2, h3, k3⟩
  clear h2 h3 k3
  go_wp2
  first | go_end0 | refine bodyPost_ret (results_none rfl _ _ _) rfl ?_
  obtain ⟨h2, h3, k3⟩ := HH.out
  have hN : dqNew at_ size 3 0 = ⟨at_, size, 3, 0, 1, 0, 0, 0, false, none⟩ := by simp [dqNew, HR.out]
  rw [hN]
  refine ⟨rfl, (((HK.out.mono (T := [m, w.heap.size + 1]) (by simp)).trans k3).mono (by intro k hk hl; simp at hk; rcases hk with rfl | rfl; simp; omega)), .slice none 0 0, .slice none 0 0, .inl ⟨_, _, _, _, [w.heap.size + 1], by simp [dequeM, dqWant], rfl, .inl ⟨rfl, by simp [dequeM, dqHeld]⟩, h2, fun _ => ⟨⟨HR.out, .inr (.inr ⟨rfl, .inl rfl⟩), U0, U0, U0, U0⟩, w.heap.size + 1, 0, 0, 0, [], by simp, by simp [dqFn], h3, fun h => (by simp at h), fun h => (by simp at h), fun _ => ⟨fun h => absurd rfl h, fun h => (by simp at h), rfl⟩⟩, fun k hk => ?_, fun k hk => ?_⟩⟩
  · simp at hk; subst hk; exact h3.lt
  · simp at hk; subst hk; exact ⟨by omega, .inr ⟨by omega, .inl rfl⟩⟩

set_option maxHeartbeats 1600000 in
theorem dqPop1_any (m : Nat) (at_ size : Int) (w : World) (hw : Wk w m wk1) (hr : dqRight at_ size) :
    Calls Try.prog 42 #[.agg #[.pointer (some ⟨m, 0, none⟩), .int .i64 at_, .int .i64 size, .int .u64 0, .int .u64 0, .int .u64 0]] w fun e w' => e = .returned (.tuple #[]) ∧ GoesO dequeM (dqE m) m wk1 [] [] (dqNew at_ size 2 0) w w' := by
  have U0 : M.U 0 := ⟨by decide, by decide⟩
  have hml := hw.lt
  obtain ⟨W2, hW2⟩ : ∃ W2, (w.alloc (.cells #[.pointer (some ⟨m, 0, none⟩), .int .i64 at_, .int .i64 size, .int .u64 0, .int .u64 0, .int .u64 0] 81)).alloc (.cells #[.pointer (some ⟨m, 0, none⟩), .int .i64 at_, .int .i64 size, .int .u64 0, .int .u64 0, .int .u64 0, .int .i64 5, .int .u64 0, .slice none 0 0] 90) = W2 := ⟨_, rfl⟩
  have k2 : Keeps [] w W2 := by rw [← hW2]; exact ((Keeps.refl _ _).alloc _).alloc _
  have hp2 : Row W2 (w.heap.size + 1) 90 (stCells m at_ size 0 0 0 [.int .i64 5, .int .u64 0, .slice none 0 0]) := by rw [← hW2]; have := Row.new (w.alloc (.cells #[.pointer (some ⟨m, 0, none⟩), .int .i64 at_, .int .i64 size, .int .u64 0, .int .u64 0, .int .u64 0] 81)) #[.pointer (some ⟨m, 0, none⟩), .int .i64 at_, .int .i64 size, .int .u64 0, .int .u64 0, .int .u64 0, .int .i64 5, .int .u64 0, .slice none 0 0] 90; simpa [stCells] using this
  have hz2 : W2.heap.size = w.heap.size + 2 := by rw [← hW2]; simp
  have HE := Lib.hid (dqPopBegin m (w.heap.size + 1) at_ size 0 0 0 _ _ wk1 W2 (hw.keeps k2 (by simp)) hp2 (by omega) rfl rfl hr.2.1 (by have := hr.1; have := hr.2.2; omega))
  have HK := Lib.hid k2
  have HR := Lib.hid hr
  clear hw k2 hp2 hr
  go_enter Try.func42, Try.ntmps42
  go_wp2_with fail
  refine HE.out.mono ?_
  rintro e2 w3 ⟨rfl, h2, h3, k3⟩
  have HH : Hid (_ ∧ _ ∧ _) := Lib.hid ⟨h2, h3, k3⟩
  clear h2 h3 k3
  go_wp2
  first | go_end0 | refine bodyPost_ret (results_none rfl _ _ _) rfl ?_
  obtain ⟨h2, h3, k3⟩ := HH.out
  have hN : dqNew at_ size 2 0 = ⟨at_, size, 2, 0, 1, 0, 0, 0, false, none⟩ := by simp [dqNew, HR.out]
  rw [hN]
  refine ⟨rfl, (((HK.out.mono (T := [m, w.heap.size + 1]) (by simp)).trans k3).mono (by intro k hk hl; simp at hk; rcases hk with rfl | rfl; simp; omega)), .slice none 0 0, .slice none 0 0, .inl ⟨_, _, _, _, [w.heap.size + 1], by simp [dequeM, dqWant], rfl, .inl ⟨rfl, by simp [dequeM, dqHeld]⟩, h2, fun _ => ⟨⟨HR.out, .inr (.inl ⟨rfl, .inl rfl⟩), U0, U0, U0, U0⟩, w.heap.size + 1, 0, 0, 0, _, by simp, by simp [dqFn], h3, fun h => (by simp at h), fun _ => ⟨fun h => absurd rfl h, fun h => (by simp at h), fun h => (by simp at h), .inr ⟨by simp, rfl, rfl⟩⟩, fun h => (by simp at h)⟩, fun k hk => ?_, fun k hk => ?_⟩⟩
  · simp at hk; subst hk; exact h3.lt
  · simp at hk; subst hk; exact ⟨by omega, .inr ⟨by omega, .inl rfl⟩⟩

set_option maxHeartbeats 1600000 in
theorem along1_any (m bd bb : Nat) (at_ size kind v : Int) (F : FuncId) (ca : Array Value) (w : World) (hw : Wk w m wk1) (hd : Box w bd #[.int .i64 at_, .int .i64 size]) (hb : Box w bb #[.func (.func F) #[] ca]) (hsz : -9223372036854775808 ≤ size)
    (hcf : ∀ args w, (callFunc F args).run Try.prog w = .ok (.enter F args) w)
    (hF : dqRight at_ size → ∀ w1, Wk w1 m wk1 → Keeps [] w w1 → Calls Try.prog F (#[.agg #[.pointer (some ⟨m, 0, none⟩), .int .i64 at_, .int .i64 size, .int .u64 0, .int .u64 0, .int .u64 0]] ++ ca) w1 fun e w2 => e = .returned (.tuple #[]) ∧ GoesO dequeM (dqE m) m wk1 [] [] (dqNew at_ size kind v) w1 w2) :
    Calls Try.prog 53 #[.pointer (some ⟨m, 0, none⟩), .pointer (some ⟨bd, 0, none⟩), .pointer (some ⟨bb, 0, none⟩)] w fun e w' => e = .returned (.tuple #[]) ∧ ∃ st2, Wk w' m st2 ∧ st2.under = 1 ∧ MidO dequeM (dqE m) m [m] [] (dqNew at_ size kind v) w w' st2 := by
  have HR := Lib.hid (fun W => dqRight_any at_ size W hsz)
  have HW := Lib.hid hw
  have hml := hw.lt
  have h0 := hd.cells 0
  have h1 := hd.cells 1
  have h2 := hb.cells 0
  have hdl := hd.lt
  have hbl := hb.lt
  by_cases hr : dqRight at_ size
  · have HF := Lib.hid (hF hr)
    rw [decide_eq_true hr] at HR
    have HRR := Lib.hid hr
    clear hw hd hb hF hr
    go_enter Try.func53, Try.ntmps53
    go_wp2_with fail
    refine (HR.out w).mono ?_
    rintro e1 w1 ⟨rfl, k1⟩
    have a0 := (k1.cell (p := ⟨bd, 0, none⟩) hdl (by simp)).trans h0
    have a1 := (k1.cell (p := ⟨bd, 1, none⟩) hdl (by simp)).trans h1
    have a2 := (k1.cell (p := ⟨bb, 0, none⟩) hbl (by simp)).trans h2
    have HE := Lib.hid (HF.out w1 (HW.out.keeps k1 (by simp)) k1)
    have HK1 := Lib.hid k1
    clear k1
    go_wp2_with fail
    refine HE.out.mono ?_
    rintro e2 w3 ⟨rfl, hg⟩
    have HG := Lib.hid hg
    clear hg
    go_wp2
    first | go_end0 | refine bodyPost_ret (results_none rfl _ _ _) rfl ?_
    have hov : (dqNew at_ size kind v).over = none := by simp [dqNew, HRR.out]
    exact ⟨rfl, GoesO.new (HG.out.from (HK1.out.mono (by simp))) HW.out (dqEnded m) (by simp [dequeM, hov])⟩
  · have HE := Lib.hid (fun W h => wBreak m wk1 2 W h rfl (.inl (by decide)))
    rw [decide_eq_false hr] at HR
    have HRR := Lib.hid hr
    clear hw hd hb hF hr
    go_enter Try.func53, Try.ntmps53
    go_wp2_with fail
    refine (HR.out w).mono ?_
    rintro e1 w1 ⟨rfl, k1⟩
    have HW1 := Lib.hid (HW.out.keeps k1 (by simp))
    have HK1 := Lib.hid k1
    clear k1
    go_wp2_with fail
    refine (HE.out w1 HW1.out).mono ?_
    rintro e2 w3 ⟨rfl, l', hw3, ho3, k3⟩
    have HG : Hid (_ ∧ _ ∧ _) := Lib.hid ⟨hw3, ho3, k3⟩
    clear hw3 ho3 k3
    go_wp2
    first | go_end0 | refine bodyPost_ret (results_none rfl _ _ _) rfl ?_
    obtain ⟨hw3, ho3, k3⟩ := HG.out
    have hov : (dqNew at_ size kind v).over = some ⟨2, 0, []⟩ := by simp [dqNew, HRR.out]
    exact ⟨rfl, _, hw3, rfl, ended_mid hml hw3 (owns_base ho3 HK1.out.size) ((HK1.out.mono (by simp)).trans k3) (by simp [dequeM, hov]) hov (by simp [dequeM, dqHeld, hov]) (dqEnded m)⟩

set_option maxHeartbeats 1600000 in
theorem along_any (at_ size kind v : Int) (F : FuncId) (ca : Array Value) (w : World) (hsz : -9223372036854775808 ≤ size) (hcf : ∀ args w, (callFunc F args).run Try.prog w = .ok (.enter F args) w)
    (hF : dqRight at_ size → ∀ m w1, Wk w1 m wk1 → Keeps [] w w1 → Calls Try.prog F (#[.agg #[.pointer (some ⟨m, 0, none⟩), .int .i64 at_, .int .i64 size, .int .u64 0, .int .u64 0, .int .u64 0]] ++ ca) w1 fun e w2 => e = .returned (.tuple #[]) ∧ GoesO dequeM (dqE m) m wk1 [] [] (dqNew at_ size kind v) w1 w2) :
    Calls Try.prog 37 #[.agg #[.int .i64 at_, .int .i64 size], .func (.func F) #[] ca] w fun e w' => ∃ (m : Nat) (S : List Nat), e = .returned (.pointer (some ⟨m, 0, none⟩)) ∧ LoneIO dequeM (dqE m) m w' S (dqNew at_ size kind v) ∧ Keeps [] w w' ∧ ∀ k ∈ S, w.heap.size ≤ k := by
  obtain ⟨W1, hW1⟩ : ∃ W1, (w.alloc (.cells #[.int .i64 at_, .int .i64 size] 24)).alloc (.cells #[.func (.func F) #[] ca] 85) = W1 := ⟨_, rfl⟩
  have hk1 : Keeps [] w W1 := by rw [← hW1]; exact ((Keeps.refl _ _).alloc _).alloc _
  have hb : Box W1 w.heap.size #[.int .i64 at_, .int .i64 size] := by rw [← hW1]; exact (Box.new _ _ _).alloc _
  have hb1 : Box W1 (w.heap.size + 1) #[.func (.func F) #[] ca] := by rw [← hW1]; have := Box.new (w.alloc (.cells #[.int .i64 at_, .int .i64 size] 24)) #[.func (.func F) #[] ca] 85; simpa using this
  have HN := Lib.hid (new_goesO dequeM (dqE (W1.heap.size + 1)) (dqNew at_ size kind v) 53 #[.pointer (some ⟨w.heap.size, 0, none⟩), .pointer (some ⟨w.heap.size + 1, 0, none⟩)] W1 (dqE_keeps _) (dqEnded _) (fun _ _ => by kernel_rfl)
    (fun w3 h3 k3 => along1_any _ _ _ at_ size kind v F ca w3 h3 (hb.keeps k3 (by simp)) (hb1.keeps k3 (by simp)) hsz hcf (fun hr w4 h4 k4 => hF hr _ w4 h4 (hk1.trans (k3.trans k4)))))
  have HK := Lib.hid hk1
  clear hk1 hb hb1 hF
  go_enter Try.func37, Try.ntmps37
  go_wp2_with fail
  refine HN.out.mono ?_
  rintro e w4 ⟨rfl, S, hI, k4, hS⟩
  have HP : Hid (_ ∧ _ ∧ _) := Lib.hid ⟨hI, HK.out.trans k4, fun k hk => Nat.le_trans HK.out.size (hS k hk)⟩
  clear hI k4 hS
  go_wp2
  go_ret
  exact ⟨_, S, rfl, HP.out⟩

set_option maxHeartbeats 1600000 in
theorem dqPush_made (at_ size v : Int) (w : World) (hsz : -9223372036854775808 ≤ size) (hv : M.U v) :
    Calls Try.prog 20 #[.agg #[.int .i64 at_, .int .i64 size], .int .u64 v] w fun e w' => ∃ (m : Nat) (S : List Nat), e = .returned (.pointer (some ⟨m, 0, none⟩)) ∧ LoneIO dequeM (dqE m) m w' S (dqNew at_ size 1 v) ∧ Keeps [] w w' ∧ ∀ k ∈ S, w.heap.size ≤ k := by
  obtain ⟨W1, hW1⟩ : ∃ W1, (w.alloc (.cells #[.int .i64 at_, .int .i64 size] 24)).alloc (.cells #[.int .u64 v] 38) = W1 := ⟨_, rfl⟩
  have hk1 : Keeps [] w W1 := by rw [← hW1]; exact ((Keeps.refl _ _).alloc _).alloc _
  have hbd : Box W1 w.heap.size #[.int .i64 at_, .int .i64 size] := by rw [← hW1]; exact (Box.new _ _ _).alloc _
  have c0 := hbd.cells 0
  have c1 := hbd.cells 1
  clear hbd
  have hb : Box W1 (w.heap.size + 1) #[.int .u64 v] := by rw [← hW1]; have := Box.new (w.alloc (.cells #[.int .i64 at_, .int .i64 size] 24)) #[.int .u64 v] 38; simpa using this
  have HE := Lib.hid (along_any at_ size 1 v 38 #[.pointer (some ⟨w.heap.size + 1, 0, none⟩)] W1 hsz (fun _ _ => by kernel_rfl) (fun hr m w3 h3 k3 => dqPush1_any m (w.heap.size + 1) at_ size v w3 h3 (hb.keeps k3 (by simp)) hr hv))
  have HK := Lib.hid hk1
  clear hk1 hb hv
  go_enter Try.func20, Try.ntmps20
  go_wp2_with fail
  refine HE.out.mono ?_
  rintro e w4 ⟨m, S, rfl, hI, k4, hS⟩
  have HP : Hid (_ ∧ _ ∧ _) := Lib.hid ⟨hI, HK.out.trans k4, fun k hk => Nat.le_trans HK.out.size (hS k hk)⟩
  clear hI k4 hS
  go_wp2
  go_ret
  exact ⟨_, S, rfl, HP.out⟩
set_option maxHeartbeats 1600000 in
theorem dqPop_made (at_ size : Int) (w : World) (hsz : -9223372036854775808 ≤ size) :
    Calls Try.prog 23 #[.agg #[.int .i64 at_, .int .i64 size]] w fun e w' => ∃ (m : Nat) (S : List Nat), e = .returned (.pointer (some ⟨m, 0, none⟩)) ∧ LoneIO dequeM (dqE m) m w' S (dqNew at_ size 2 0) ∧ Keeps [] w w' ∧ ∀ k ∈ S, w.heap.size ≤ k := by
  obtain ⟨W1, hW1⟩ : ∃ W1, w.alloc (.cells #[.int .i64 at_, .int .i64 size] 24) = W1 := ⟨_, rfl⟩
  have hk1 : Keeps [] w W1 := by rw [← hW1]; exact (Keeps.refl _ _).alloc _
  have hbd : Box W1 w.heap.size #[.int .i64 at_, .int .i64 size] := by rw [← hW1]; exact Box.new _ _ _
  have c0 := hbd.cells 0
  have c1 := hbd.cells 1
  clear hbd
  have HE := Lib.hid (along_any at_ size 2 0 42 #[] W1 hsz (fun _ _ => by kernel_rfl) (fun hr m w3 h3 k3 => dqPop1_any m at_ size w3 h3 hr))
  have HK := Lib.hid hk1
  clear hk1
  go_enter Try.func23, Try.ntmps23
  go_wp2_with fail
  refine HE.out.mono ?_
  rintro e w4 ⟨m, S, rfl, hI, k4, hS⟩
  have HP : Hid (_ ∧ _ ∧ _) := Lib.hid ⟨hI, HK.out.trans k4, fun k hk => Nat.le_trans HK.out.size (hS k hk)⟩
  clear hI k4 hS
  go_wp2
  go_ret
  exact ⟨_, S, rfl, HP.out⟩
set_option maxHeartbeats 1600000 in
theorem dqSteal_made (at_ size : Int) (w : World) (hsz : -9223372036854775808 ≤ size) :
    Calls Try.prog 22 #[.agg #[.int .i64 at_, .int .i64 size]] w fun e w' => ∃ (m : Nat) (S : List Nat), e = .returned (.pointer (some ⟨m, 0, none⟩)) ∧ LoneIO dequeM (dqE m) m w' S (dqNew at_ size 3 0) ∧ Keeps [] w w' ∧ ∀ k ∈ S, w.heap.size ≤ k := by
  obtain ⟨W1, hW1⟩ : ∃ W1, w.alloc (.cells #[.int .i64 at_, .int .i64 size] 24) = W1 := ⟨_, rfl⟩
  have hk1 : Keeps [] w W1 := by rw [← hW1]; exact (Keeps.refl _ _).alloc _
  have hbd : Box W1 w.heap.size #[.int .i64 at_, .int .i64 size] := by rw [← hW1]; exact Box.new _ _ _
  have c0 := hbd.cells 0
  have c1 := hbd.cells 1
  clear hbd
  have HE := Lib.hid (along_any at_ size 3 0 40 #[] W1 hsz (fun _ _ => by kernel_rfl) (fun hr m w3 h3 k3 => dqSteal1_any m at_ size w3 h3 hr))
  have HK := Lib.hid hk1
  clear hk1
  go_enter Try.func22, Try.ntmps22
  go_wp2_with fail
  refine HE.out.mono ?_
  rintro e w4 ⟨m, S, rfl, hI, k4, hS⟩
  have HP : Hid (_ ∧ _ ∧ _) := Lib.hid ⟨hI, HK.out.trans k4, fun k hk => Nat.le_trans HK.out.size (hS k hk)⟩
  clear hI k4 hS
  go_wp2
  go_ret
  exact ⟨_, S, rfl, HP.out⟩
end Go.Proofs.Ytdejgkjckhkihaa
