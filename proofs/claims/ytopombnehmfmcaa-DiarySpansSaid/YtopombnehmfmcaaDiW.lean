import Derived.Test.YtopombnehmfmcaaRows
import Derived.Test.YtopombnehmfmcaaDiN
import Derived.Test.YtopombnehmfmcaaOps
import Derived.LoopTactic
import Derived.OwnWalk
import Derived.WalkSpells
/-
  Contracts of package diary's small functions.
-/
namespace Go.Proofs.Ytopombnehmfmcaa
set_option maxRecDepth 100000
set_option linter.unusedSimpArgs false
set_option linter.unusedVariables false
open Go.ChangeShapes Go.WideShapes Go.ChangeAt Go.RowKit

def DCall.val (x : DCall) : Value := .agg #[.int .i64 x.kind, .int .u64 x.task, .slice x.p x.n x.c]
def DRes.val (x : DRes) : Value := .agg #[.int .i64 x.code, .int .u64 x.v, .slice x.p x.n x.c]
def DEv.val (e : DEv) : Value := .agg #[.int .i64 e.step, .int .i64 e.who, .int .i64 e.nth, .bool e.ends, .int .i64 e.call.kind, .int .u64 e.call.task, .slice e.call.p e.call.n e.call.c, .int .i64 e.res.code, .int .u64 e.res.v, .slice e.res.p e.res.n e.res.c]
def DSp.val (s : DSp) : Value := .agg #[.int .i64 s.who, .int .i64 s.nth, .int .i64 s.lo, .int .i64 s.hi, .int .i64 s.call.kind, .int .u64 s.call.task, .slice s.call.p s.call.n s.call.c, .int .i64 s.res.code, .int .u64 s.res.v, .slice s.res.p s.res.n s.res.c]

/-- A call's victims can be read. -/
def DCall.At (w : World) (x : DCall) : Prop := Sl w 1 (.slice x.p x.n x.c) x.n (ints .i64 x.vs) ∧ x.n ≤ 1000000
def DRes.At (w : World) (x : DRes) : Prop := Sl w 1 (.slice x.p x.n x.c) x.n (ints .u64 x.ls) ∧ x.n ≤ 1000000

set_option maxHeartbeats 400000 in
theorem equalInts_any (v1 v2 : Value) (n1 n2 : Nat) (xs ys : List Int) (w : World) (m1 : n1 ≤ maxLen) (m2 : n2 ≤ maxLen) (h1 : Sl w 1 v1 n1 (ints .i64 xs)) (h2 : Sl w 1 v2 n2 (ints .i64 ys)) :
    Calls Try.prog 50 #[v1, v2] w fun e w' => e = .returned (.bool (decide (xs = ys))) ∧ ∃ m, w.drewN m = w' := by
  have l1 := h1.ints_len
  have l2 := h2.ints_len
  unfold maxLen at m1 m2
  by_cases hn : n1 = n2
  · subst hn
    by_cases h0 : n1 = 0
    · subst h0
      obtain ⟨p1, c1, rfl⟩ := h1.len
      obtain ⟨p2, c2, rfl⟩ := h2.len
      have hx : xs = ys := by rw [List.eq_nil_of_length_eq_zero l1, List.eq_nil_of_length_eq_zero l2]
      have HX := Lib.hid hx
      clear hx l1 l2 h1 h2
      go_enter Try.func50, Try.ntmps50
      go_wp2
      refine wp_loop_rounds 1 ?_
      rw [rounds_succ]
      go_wp2
      go_ret
      exact ⟨ret_bool (decide_eq_true HX.out).symm, 0, rfl⟩
    · obtain ⟨b1, o1, c1, rfl, z1, k1⟩ := h1.some (by omega)
      obtain ⟨b2, o2, c2, rfl, z2, k2⟩ := h2.some (by omega)
      have K1 := Lib.hid k1
      have K2 := Lib.hid k2
      have L1 := Lib.hid l1
      have L2 := Lib.hid l2
      clear h1 h2 l1 l2 k1 k2
      have hnn : ((n1 : Int) != (n1 : Int)) = false := by simp
      go_enter Try.func50, Try.ntmps50
      go_wp2
      go_loopw [13] (fun i wr => ∃ k m : Nat, k ≤ n1 ∧ i = .int .i64 k ∧ xs.take k = ys.take k ∧ wr = w.drewN m) (fun i _ => n1 - (intOf i).toNat)
      case atStart => exact ⟨0, 0, Nat.zero_le _, rfl, rfl, rfl⟩
      case round =>
        obtain ⟨k, m, hk, rfl, htk, rfl⟩ := hrel
        have HT := Lib.hid htk
        clear htk
        by_cases hlt : k < n1
        · have a1 := K1.out k _ (ints_at (by rw [L1.out]; exact hlt))
          have a2 := K2.out k _ (ints_at (by rw [L2.out]; exact hlt))
          obtain ⟨x, hx⟩ : ∃ x, xs.getD k 0 = x := ⟨_, rfl⟩
          obtain ⟨y, hy⟩ : ∃ y, ys.getD k 0 = y := ⟨_, rfl⟩
          rw [hx] at a1
          rw [hy] at a2
          have HX := Lib.hid hx
          have HY := Lib.hid hy
          clear hx hy
          by_cases he : x = y
          · have hb : (x != y) = false := by simp [he]
            have HE := Lib.hid he
            clear he
            go_wp2
            go_quiet (fail)
            go_wp2
            go_roundw
            case rel => exact ⟨k + 1, _, by omega, by go_num, take_eq_step HT.out (by rw [L1.out]; exact hlt) (by rw [L2.out]; exact hlt) (by rw [HX.out, HY.out, HE.out]), rfl⟩
            case measure => simp [intOf]; omega
          · have hb : (x != y) = true := by simp [he]
            have HE := Lib.hid he
            clear he
            go_wp2
            go_quiet (fail)
            go_wp2
            go_ret
            exact ⟨ret_bool (decide_eq_false (ne_of_at (by rw [HX.out, HY.out]; exact HE.out))).symm, by first | exact ⟨_, rfl⟩ | exact dn2 _ _ _⟩
        · obtain rfl : k = n1 := by omega
          go_wp2
          go_ret
          exact ⟨ret_bool (decide_eq_true (by rw [← List.take_of_length_le (l := xs) (Nat.le_of_eq L1.out), HT.out, List.take_of_length_le (Nat.le_of_eq L2.out)])).symm, _, rfl⟩
  · have hb : ((n1 : Int) != (n2 : Int)) = true := by rw [bne_iff_ne]; omega
    obtain ⟨p1, c1, rfl⟩ := h1.len
    obtain ⟨p2, c2, rfl⟩ := h2.len
    have hne : xs ≠ ys := fun h => hn (by rw [← l1, ← l2, h])
    have HN := Lib.hid hne
    clear hne l1 l2 h1 h2 hn
    go_enter Try.func50, Try.ntmps50
    go_wp2
    go_ret
    exact ⟨ret_bool (decide_eq_false HN.out).symm, 0, rfl⟩

theorem elemInt15 : Elem Try.prog 3 (.int .i64 0) 1 8 := ⟨by kernel_rfl, rfl, by decide, by decide⟩
set_option maxHeartbeats 400000 in
theorem cloneInts_sl (v : Value) (n : Nat) (us : List Int) (w : World) (h : Sl w 1 v n (ints .i64 us)) (hn : n ≤ 10000000) :
    Calls Try.prog 27 #[v] w fun e w' => ∃ v', e = .returned v' ∧ w'.ownsRow w.heap.size 3 1 v' n (ints .i64 us) ∧ Keeps [] w w' := by
  have hnil : ∀ (w : World) a l c, (binOp .eql 25 (.slice a l c) (.slice none 0 0)).run Try.prog w = .ok (.bool a.isNone) w := fun w a l c => Lib.run_eql_slice_nil w 25 3 a l c 0 0 Try.underlying25
  obtain ⟨p, c, rfl⟩ := h.len
  cases p with
  | none =>
    have h0 : n = 0 := by rcases h.2 with ⟨_, _, _, h0⟩ | ⟨_, _, _, h1, _⟩; exact h0; cases h1
    subst h0
    have hu : ints .i64 us = [] := List.eq_nil_of_length_eq_zero (by simpa using h.1)
    have HU := Lib.hid hu
    clear hu h
    go_enter Try.func27, Try.ntmps27
    go_wp2
    go_ret
    exact ⟨_, rfl, ⟨by rw [HU.out]; rfl, .inl ⟨rfl, rfl⟩⟩, Keeps.refl _ _⟩
  | some a =>
    have HS := Lib.hid h
    clear h
    go_enter Try.func27, Try.ntmps27
    go_wp2_with (at_builtin; refine wpList_append_sl rfl _ _ 25 rfl w.heap.size 3 _ 1 8 Try.underlying25 elemInt15 _ _ _ rfl (owns_empty w 3 1) _ n (ints .i64 us) rfl (HS.out.below ((Below.refl _ _).alloc (Nat.le_refl _) _) (Nat.le_refl _)) (ints_one .i64 us) ?c1 ?c2 ?_)
    case c1 => omega
    case c2 => simp
    intro v' w1 hown hgrow hne
    try simp only [Nat.zero_add, List.nil_append] at hown
    have hK : Keeps [] w w1 := ((Keeps.refl [] w).alloc _).grown hgrow (fun k hk hl => by simp [Value.ownBlock] at hk; omega)
    have HO := Lib.hid hown
    clear hown hgrow hne
    go_wp2
    go_ret
    exact ⟨_, rfl, HO.out, hK⟩

theorem beq_int_nat (n : Nat) : (((n : Nat) : Int) == 0) = (n == 0) := by
  cases n <;> rfl
theorem beq_dec (a b : List Int) : (a == b) = decide (a = b) := by
  by_cases h : a = b <;> simp [h]
theorem diIsOpen (s : DSp) (w : World) : Calls Try.prog 23 #[s.val] w fun e w' => e = .returned (.bool (decide (s.hi < 0))) ∧ Keeps [] w w' := by
  obtain ⟨who, nth, lo, hi, ⟨kind, task, p, n, c, vs⟩, ⟨code, v, q, m, d, ls⟩⟩ := s
  simp only [DSp.val]
  go_enter Try.func23, Try.ntmps23
  go_wp2
  go_ret
  exact ⟨rfl, (Keeps.refl _ _).alloc _⟩
theorem diIsZero (s : DRes) (w : World) (hn : s.n = s.ls.length) : Calls Try.prog 38 #[s.val] w fun e w' => e = .returned (.bool s.zero) ∧ Keeps [] w w' := by
  obtain ⟨code, v, q, m, d, ls⟩ := s
  simp only at hn
  subst hn
  simp only [DRes.val]
  go_enter Try.func38, Try.ntmps38
  by_cases h1 : code = 0
  · have h1' : (code == 0) = true := by simp [h1]
    by_cases h2 : v = 0
    · have h2' : (v == 0) = true := by simp [h2]
      go_wp2
      go_ret
      exact ⟨ret_bool (by subst h1 h2; simp [DRes.zero]; exact beq_int_nat _), (Keeps.refl _ _).alloc _⟩
    · have h2' : (v == 0) = false := by simp [h2]
      go_wp2
      go_ret
      exact ⟨ret_bool (by simp [DRes.zero, h2]), (Keeps.refl _ _).alloc _⟩
  · have h1' : (code == 0) = false := by simp [h1]
    go_wp2
    go_ret
    exact ⟨ret_bool (by simp [DRes.zero, h1]), (Keeps.refl _ _).alloc _⟩
theorem diIsSame (a b : DCall) (w : World) (ha : a.At w) (hb : b.At w) : Calls Try.prog 37 #[a.val, b.val] w fun e w' => e = .returned (.bool (a.same b)) ∧ Keeps [] w w' := by
  obtain ⟨kind, task, p, n, c, vs⟩ := a
  obtain ⟨kind', task', p', n', c', vs'⟩ := b
  obtain ⟨ha, hn⟩ := ha
  obtain ⟨hb, hm⟩ := hb
  simp only [DCall.val] at ha hb hn hm ⊢
  have k0 := Keeps.alloc (Keeps.alloc (Keeps.refl [] w) (.cells #[.int .i64 kind, .int .u64 task, .slice p n c] 27)) (.cells #[.int .i64 kind', .int .u64 task', .slice p' n' c'] 27)
  have C := equalInts_any (.slice p n c) (.slice p' n' c') n n' vs vs' _ (by unfold maxLen; omega) (by unfold maxLen; omega) (ha.keeps k0 (by simp)) (hb.keeps k0 (by simp))
  have HC := Lib.hid C
  have HK := Lib.hid k0
  clear ha hb C k0
  go_enter Try.func37, Try.ntmps37
  by_cases h1 : kind = kind'
  · have h1' : (kind == kind') = true := by simp [h1]
    have H1 := Lib.hid h1
    clear h1
    by_cases h2 : task = task'
    · have h2' : (task == task') = true := by simp [h2]
      have H2 := Lib.hid h2
      clear h2
      go_wp2_with (go_at_call 50; refine HC.out.mono ?_; rintro e w1 ⟨rfl, q, hw1⟩)
      go_ret
      exact ⟨ret_bool (by simp only [DCall.same, H1.out, H2.out, beq_self_eq_true, Bool.true_and]; exact (beq_dec _ _).symm), by rw [← hw1]; exact HK.out.drewN⟩
    · have h2' : (task == task') = false := by simp [h2]
      have H2 := Lib.hid h2
      clear h2
      go_wp2
      go_ret
      exact ⟨ret_bool (by simp [DCall.same, H1.out, H2.out]), HK.out⟩
  · have h1' : (kind == kind') = false := by simp [h1]
    have H1 := Lib.hid h1
    clear h1
    go_wp2
    go_ret
    exact ⟨ret_bool (by simp [DCall.same, H1.out]), HK.out⟩

theorem diHasPlaces (s : DSp) (w : World) : Calls Try.prog 31 #[s.val] w fun e w' => e = .returned (.bool s.fit) ∧ Keeps [] w w' := by
  have C := fun W => diIsOpen s W
  obtain ⟨who, nth, lo, hi, ⟨kind, task, p, n, c, vs⟩, ⟨code, v, q, m, d, ls⟩⟩ := s
  simp only [DSp.val, DSp.fit] at C ⊢
  obtain ⟨W0, hW0⟩ : ∃ W0, w.alloc (.cells #[.int .i64 who, .int .i64 nth, .int .i64 lo, .int .i64 hi, .int .i64 kind, .int .u64 task, .slice p n c, .int .i64 code, .int .u64 v, .slice q m d] 41) = W0 := ⟨_, rfl⟩
  have HB : Hid (Box W0 w.heap.size #[.int .i64 who, .int .i64 nth, .int .i64 lo, .int .i64 hi, .int .i64 kind, .int .u64 task, .slice p n c, .int .i64 code, .int .u64 v, .slice q m d]) := Lib.hid (by rw [← hW0]; exact Box.new _ _ _)
  have HK : Hid (Keeps [] w W0) := Lib.hid (by rw [← hW0]; exact (Keeps.refl _ _).alloc _)
  have HC := Lib.hid C
  clear C
  go_enter Try.func31, Try.ntmps31
  by_cases h0 : 0 ≤ lo
  · have h0' : decide (lo ≥ 0) = true := by simpa using h0
    by_cases h1 : hi < 0
    · have h1' : decide (hi < 0) = true := by simpa using h1
      have cx := HB.out.cells
      go_wp2_with (go_at_call 23; refine (HC.out _).mono ?_; rintro e w1 ⟨rfl, k1⟩)
      go_ret
      exact ⟨ret_bool (by simp [h0, h1]), HK.out.trans k1⟩
    · have h1' : decide (hi < 0) = false := by simpa using h1
      have cx := HB.out.cells
      by_cases h2 : lo ≤ hi
      · have h2' : decide (hi ≥ lo) = true := by simpa using h2
        go_wp2_with (go_at_call 23; refine (HC.out _).mono ?_; rintro e w1 ⟨rfl, k1⟩; have cy := (HB.out.keeps k1 (by simp)).cells)
        go_ret
        exact ⟨ret_bool (by simp [h0, h1, h2]), HK.out.trans k1⟩
      · have h2' : decide (hi ≥ lo) = false := by simpa using h2
        go_wp2_with (go_at_call 23; refine (HC.out _).mono ?_; rintro e w1 ⟨rfl, k1⟩; have cy := (HB.out.keeps k1 (by simp)).cells)
        go_ret
        exact ⟨ret_bool (by simp [h0, h1, h2]), HK.out.trans k1⟩
  · have h0' : decide (lo ≥ 0) = false := by simpa using h0
    have cx := HB.out.cells
    go_wp2
    go_ret
    exact ⟨ret_bool (by simp [h0]), HK.out⟩
theorem diAhead (s t : DSp) (w : World) : Calls Try.prog 13 #[s.val, t.val] w fun e w' => e = .returned (.bool (decide (0 ≤ s.hi ∧ s.hi < t.lo))) ∧ Keeps [] w w' := by
  have C := fun W => diIsOpen s W
  obtain ⟨who, nth, lo, hi, ⟨kind, task, p, n, c, vs⟩, ⟨code, v, q, m, d, ls⟩⟩ := s
  obtain ⟨who', nth', lo', hi', ⟨kind', task', p', n', c', vs'⟩, ⟨code', v', q', m', d', ls'⟩⟩ := t
  simp only [DSp.val] at C ⊢
  obtain ⟨V0, hV0⟩ : ∃ V0, w.alloc (.cells #[.int .i64 who, .int .i64 nth, .int .i64 lo, .int .i64 hi, .int .i64 kind, .int .u64 task, .slice p n c, .int .i64 code, .int .u64 v, .slice q m d] 41) = V0 := ⟨_, rfl⟩
  have HBs : Hid (Box V0 w.heap.size #[.int .i64 who, .int .i64 nth, .int .i64 lo, .int .i64 hi, .int .i64 kind, .int .u64 task, .slice p n c, .int .i64 code, .int .u64 v, .slice q m d]) := Lib.hid (by rw [← hV0]; exact Box.new _ _ _)
  obtain ⟨W0, hW0⟩ : ∃ W0, V0.alloc (.cells #[.int .i64 who', .int .i64 nth', .int .i64 lo', .int .i64 hi', .int .i64 kind', .int .u64 task', .slice p' n' c', .int .i64 code', .int .u64 v', .slice q' m' d'] 41) = W0 := ⟨_, rfl⟩
  have HB : Hid (Box W0 w.heap.size #[.int .i64 who, .int .i64 nth, .int .i64 lo, .int .i64 hi, .int .i64 kind, .int .u64 task, .slice p n c, .int .i64 code, .int .u64 v, .slice q m d]) := Lib.hid (by rw [← hW0]; exact HBs.out.alloc _)
  have HB' : Hid (Box W0 V0.heap.size #[.int .i64 who', .int .i64 nth', .int .i64 lo', .int .i64 hi', .int .i64 kind', .int .u64 task', .slice p' n' c', .int .i64 code', .int .u64 v', .slice q' m' d']) := Lib.hid (by
    have := Box.new V0 #[.int .i64 who', .int .i64 nth', .int .i64 lo', .int .i64 hi', .int .i64 kind', .int .u64 task', .slice p' n' c', .int .i64 code', .int .u64 v', .slice q' m' d'] 41
    rw [hW0] at this
    exact this)
  have HK : Hid (Keeps [] w W0) := Lib.hid (by rw [← hW0, ← hV0]; exact ((Keeps.refl _ _).alloc _).alloc _)
  have HC := Lib.hid C
  clear C
  go_enter Try.func13, Try.ntmps13
  by_cases h1 : hi < 0
  · have h1' : decide (hi < 0) = true := by simpa using h1
    have cx := HB.out.cells
    go_wp2_with (go_at_call 23; refine (HC.out _).mono ?_; rintro e w1 ⟨rfl, k1⟩)
    go_ret
    exact ⟨ret_bool (by simp; omega), HK.out.trans k1⟩
  · have h1' : decide (hi < 0) = false := by simpa using h1
    have cx := HB.out.cells
    go_wp2_with (go_at_call 23; refine (HC.out _).mono ?_; rintro e w1 ⟨rfl, k1⟩; have cy := (HB.out.keeps k1 (by simp)).cells; have cz := (HB'.out.keeps k1 (by simp)).cells)
    go_ret
    exact ⟨ret_bool (by simp; omega), HK.out.trans k1⟩
end Go.Proofs.Ytopombnehmfmcaa
