/-
  Contracts: Words of package num, over strings.SplitSeq's iterator; the reference's Words and SameTexts.
-/
import Derived.Test.YtcilndnkhfcafaaDoorSplit
import Derived.Test.YtcilndnkhfcafaaDoorRange
import Derived.Test.YtcilndnkhfcafaaDoorNum
import Derived.WalkKit
import Derived.OwnWalkIn
import Derived.TacticsInMore
import Derived.LoopNIn
import Derived.LoopIn
import Derived.Maps.AppendAt
import Derived.Shelf.Abstract
import Derived.Shelf.RegionOpen
namespace Go.Proofs.YtcilndnkhfcafaaDoor
open Go.ChangeShapes Go.WideShapes Go.ChangeAt Go.RowKit Go.Sort Go.Joins Go.Shelf

attribute [local go_sem] Oper.semAt_some

/-- The iterator's three boxes lie as they lay. -/
def Kp3 (hs : Nat) (W W' : World) : Prop := ∀ k, hs ≤ k → k < hs + 3 → W'.heap[k]? = W.heap[k]?

set_option maxRecDepth 100000 in
set_option maxHeartbeats 2000000 in
theorem split_in (n l hs : Nat) (hn : 1 ≤ n) (s0 : List UInt8) (hs0 : s0.length ≤ 1000000) (J : List (List UInt8) → World → Prop) (W : World)
    (hset : ∀ pre W v, J pre W → J pre (W.setCell ⟨hs, 0, none⟩ v))
    (hY : ∀ pre x W1, (pre ++ [x]) <+: D.split s0 → J pre W1 → YieldAt Fence.wide (n - 1) Tryd.prog l #[.string (str x)] W1 fun e W' => e = .returned (.bool true) ∧ J (pre ++ [x]) W' ∧ Kp3 hs W1 W')
    (b0 : Boxed W hs 9 (.string (str s0))) (b1 : Boxed W (hs + 1) 9 (.string ⟨#[32]⟩)) (b2 : Boxed W (hs + 2) 3 (.int .i64 0)) (h0 : J [] W) :
    CallsIn Fence.wide n Tryd.prog 51 #[.func (.yield l) #[] #[], .pointer (some ⟨hs + 1, 0, none⟩), .pointer (some ⟨hs, 0, none⟩), .pointer (some ⟨hs + 2, 0, none⟩)] W fun e W' => (∃ v, e = .returned v) ∧ J (D.split s0) W' := by
  have c1 := b1.cell
  refine callsIn_of_wp Tryd.func51 rfl trivial ?_ rfl
  simp only [Tryd.ntmps51, List.size_toArray, List.length_cons, List.length_nil, Nat.reduceAdd, Nat.reduceSub, Array.replicate_succ, Array.replicate_zero, List.push_toArray, List.append_toArray, List.nil_append, List.cons_append]
  gi_wp2
  gi_loopw [7, 8] (fun _ _ wr => ∃ (pre : List (List UInt8)) (r : List UInt8), r.length ≤ 1000000 ∧ Hid (D.split s0 = pre ++ D.split r) ∧ Boxed wr hs 9 (.string (str r)) ∧ Boxed wr (hs + 1) 9 (.string ⟨#[32]⟩) ∧ Boxed wr (hs + 2) 3 (.int .i64 0) ∧ J pre wr) (fun _ _ wr => leftAt hs wr)
  case atStart => exact ⟨[], s0, hs0, Lib.hid rfl, b0, b1, b2, h0⟩
  case round =>
    obtain ⟨pre, r, hrl, HS, b0, b1, b2, hJ⟩ := hrel
    have c0 := b0.cell
    have c1 := b1.cell
    have c2 := b2.cell
    have f0 := b0.frozen
    have hm := leftAt_of c0
    by_cases hi : Lib.indexByte r 32 = -1
    · have HN := Lib.hid (D.split_none r (D.index_none hi))
      have HI := Lib.hid hi
      clear hi
      obtain ⟨fn, tmps, assign, body, hy, hR⟩ := hY pre r wr (by rw [HS.out, HN.out]; exact List.prefix_rfl) hJ
      gi_wp2_with (refine ⟨trivial, ?_⟩; gi_at_call 53; refine (callsIn_wide.2 (Tryd.strings_Index_one (str r) 32 _)).mono ?_; rw [str_data, HI.out]; rintro e w' ⟨rfl, rfl⟩)
      refine hR.mono ?_
      rintro e W3 ⟨rfl, hJ3, hk3⟩
      gi_wp2
      go_end0
      exact ⟨⟨_, rfl⟩, by rw [HS.out, HN.out]; exact hJ3⟩
    · obtain ⟨i, h1, h2, h3, h4⟩ := D.index_some hi
      have HD := Lib.hid (D.split_at (r.take i) (r.drop (i + 1)) h3)
      have HS2 := Lib.hid (HS.out.trans (by rw [h4, HD.out]))
      have hsl1 := str_slice_to Tryd.underlying9 r i (Nat.le_of_lt h2)
      have hsl2 := str_slice_from Tryd.underlying9 r (i + 1) ((i : Int) + 1) (by omega) h2
      have HI := Lib.hid h1
      clear h3 h4 hi h1
      obtain ⟨fn, tmps, assign, body, hy, hR⟩ := hY pre (r.take i) wr (by rw [HS2.out]; exact ⟨_, by rw [List.append_assoc]; rfl⟩) hJ
      gi_wp2_with (refine ⟨trivial, ?_⟩; gi_at_call 53; refine (callsIn_wide.2 (Tryd.strings_Index_one (str r) 32 _)).mono ?_; rw [str_data, HI.out]; rintro e w' ⟨rfl, rfl⟩)
      refine hR.mono ?_
      rintro e W3 ⟨rfl, hJ3, hk3⟩
      have b0' : Boxed W3 hs 9 (.string (str r)) := (hk3 hs (by omega) (by omega)).trans b0
      have b1' : Boxed W3 (hs + 1) 9 (.string ⟨#[32]⟩) := (hk3 (hs + 1) (by omega) (by omega)).trans b1
      have b2' : Boxed W3 (hs + 2) 3 (.int .i64 0) := (hk3 (hs + 2) (by omega) (by omega)).trans b2
      have d0 := b0'.cell
      have d1 := b1'.cell
      have g0 := b0'.frozen
      gi_wp2
      go_roundw
      case rel => exact ⟨pre ++ [r.take i], r.drop (i + 1), by rw [List.length_drop]; omega, Lib.hid (by rw [HS2.out, List.append_assoc]; rfl), b0'.set _, b1'.other (by omega) _, b2'.other (by omega) _, hset _ _ _ hJ3⟩
      case measure =>
        rw [leftAt_of (b0'.set _).cell, hm]
        simp; omega

/-- Texts, as cells. -/
def texts (l : List (List UInt8)) : List Value := l.map fun x => Value.string (str x)
theorem texts_len (l : List (List UInt8)) : (texts l).length = l.length := by simp [texts]

theorem elemStr : Elem Tryd.prog 9 (.string ⟨#[]⟩) 1 16 := ⟨by kernel_rfl, rfl, by decide, by decide⟩

theorem splitSeq_any (s sep : ByteArray) (w : World) :
    Calls Tryd.prog 30 #[.string s, .string sep] w fun e w' =>
      e = .returned (.func (.func 51) #[] #[.pointer (some ⟨w.heap.size + 1, 0, none⟩), .pointer (some ⟨w.heap.size, 0, none⟩), .pointer (some ⟨w.heap.size + 2, 0, none⟩)]) ∧
      w' = ((w.alloc (.cells #[.string s] 9)).alloc (.cells #[.string sep] 9)).alloc (.cells #[.int .i64 0] 3) := by
  go_enter Tryd.func30, Tryd.ntmps30
  go_wp2
  go_ret
  exact ⟨rfl, rfl⟩

/-- What a round of Words' loop keeps. -/
def WordsI (w : World) (B n₁ : Nat) (t e : TypeId) (pre : List (List UInt8)) (W : World) : Prop :=
  (∃ v, Boxed W B t v ∧ W.ownsRow n₁ e 1 v (D.keep pre).length (texts (D.keep pre)) ∧ True) ∧ Below w.heap.size w W ∧ n₁ ≤ W.heap.size

theorem wordsI_from (w : World) (B n₁ m : Nat) (t e : TypeId) (hm : w.heap.size ≤ m) : OwnFrom m (WordsI w B n₁ t e) :=
  OwnFrom.and (Own.from (holdsRow_own n₁ B t e 1 (fun pre => (D.keep pre).length) (fun pre => texts (D.keep pre)) (fun _ _ => True)) _) (OwnFrom.and (ownFrom_below (Nat.le_refl _) hm) (fun _ _ _ _ hs hg _ => Nat.le_trans hs hg.size))

theorem wordsI_set (w : World) (B n₁ hs : Nat) (t e : TypeId) (h1 : B ≠ hs) (h2 : hs < n₁) (h3 : w.heap.size ≤ hs) (pre : List (List UInt8)) (W : World) (u : Value) (h : WordsI w B n₁ t e pre W) : WordsI w B n₁ t e pre (W.setCell ⟨hs, 0, none⟩ u) := by
  obtain ⟨⟨v, hv, hrow, _⟩, hb, hz⟩ := h
  refine ⟨⟨v, hv.other h1 u, hrow.kept (grownBy_setCell' W hs u) (.inr ?_), trivial⟩, hb.setCell (p := ⟨hs, 0, none⟩) h3 u, Nat.le_trans hz (grownBy_setCell' W hs u).size⟩
  rcases hrow.2 with ⟨rfl, _⟩ | ⟨g, cap, cur, rfl, hg, _, _⟩
  · simp [Value.ownBlock]
  · simp only [Value.ownBlock, ne_eq, Option.some.injEq]
    omega

set_option maxRecDepth 100000 in
set_option maxHeartbeats 4000000 in
theorem words_any (s : ByteArray) (w : World) (hs : s.size ≤ 1000000) :
    Calls Tryd.prog 19 #[.string s] w fun e W' => ∃ v, e = .returned v ∧ Sl W' 1 v (D.wordsL s.data.toList).length (texts (D.wordsL s.data.toList)) ∧ Below w.heap.size w W' := by
  obtain ⟨i0, hi, hz0, hz1, hz2⟩ := elemStr.parts
  have hsl : (D.split s.data.toList).length ≤ 1000001 := Nat.le_trans (D.split_len _) (by rw [← size_list]; omega)
  refine (callsIn_wide (n := 6)).1 ?_
  refine callsIn_of_wp_marks Tryd.func19 rfl trivial ?_ rfl
  simp only [Tryd.ntmps19, List.size_toArray, List.length_cons, List.length_nil, Nat.reduceAdd, Nat.reduceSub, Array.replicate_succ, Array.replicate_zero, List.push_toArray, List.append_toArray, List.nil_append, List.cons_append]
  gi_wp2_with (refine ⟨trivial, ?_⟩; gi_at_call 30; refine (callsIn_wide.2 (splitSeq_any s ⟨#[32]⟩ _)).mono ?_; rintro e w' ⟨rfl, rfl⟩)
  obtain ⟨W0, hW0⟩ : ∃ W0, (((w.alloc (.cells #[.slice none 0 0] 38)).alloc (.cells #[.string s] 9)).alloc (.cells #[.string ⟨#[32]⟩] 9)).alloc (.cells #[.int .i64 0] 3) = W0 := ⟨_, rfl⟩
  have hsz : W0.heap.size = w.heap.size + 4 := by rw [← hW0]; simp
  have bW : Boxed W0 w.heap.size 38 (.slice none 0 0) := by rw [← hW0]; exact (((Boxed.new w _ _).alloc _).alloc _).alloc _
  have bS : Boxed W0 (w.heap.size + 1) 9 (.string (str s.data.toList)) := by
    have := ((Boxed.new (w.alloc (.cells #[.slice none 0 0] 38)) 9 (.string s)).alloc (.cells #[.string ⟨#[32]⟩] 9)).alloc (.cells #[.int .i64 0] 3)
    rw [hW0, World.size_alloc] at this
    rw [str_list]; exact this
  have bP : Boxed W0 (w.heap.size + 1 + 1) 9 (.string ⟨#[32]⟩) := by
    have := (Boxed.new ((w.alloc (.cells #[.slice none 0 0] 38)).alloc (.cells #[.string s] 9)) 9 (.string ⟨#[32]⟩)).alloc (.cells #[.int .i64 0] 3)
    rw [hW0, World.size_alloc, World.size_alloc] at this
    exact this
  have bN : Boxed W0 (w.heap.size + 1 + 2) 3 (.int .i64 0) := by
    have := Boxed.new (((w.alloc (.cells #[.slice none 0 0] 38)).alloc (.cells #[.string s] 9)).alloc (.cells #[.string ⟨#[32]⟩] 9)) 3 (.int .i64 0)
    rw [hW0, World.size_alloc, World.size_alloc, World.size_alloc] at this
    exact this
  have hB0 : Below w.heap.size w W0 := by rw [← hW0]; exact ((((Below.refl _ w).alloc (Nat.le_refl _) _).alloc (by simp) _).alloc (by simp; omega) _).alloc (by simp; omega) _
  rw [hW0]
  have HSL := Lib.hid hsl
  clear hsl
  refine range_set rfl (by decide) (gf := 51) (lb := #[.pointer (some ⟨w.heap.size + 1 + 1, 0, none⟩), .pointer (some ⟨w.heap.size + 1, 0, none⟩), .pointer (some ⟨w.heap.size + 1 + 2, 0, none⟩)]) rfl trivial (enters_of Tryd.func51 (by kernel_rfl) rfl)
    (encs := fun x : List UInt8 => #[Value.string (str x)]) (Kp := Kp3 (w.heap.size + 1)) (p := ⟨w.heap.size + 1, 0, none⟩) (xs := D.split s.data.toList) (by simp [hsz])
    (fun l J W hW hset hY h0 => split_in _ l (w.heap.size + 1) (by decide) s.data.toList (by rw [← size_list]; exact hs) J W hset hY ((hW.block _ (by simp [hsz])).trans bS) ((hW.block _ (by simp [hsz])).trans bP) ((hW.block _ (by simp [hsz])).trans bN) h0)
    (fun h k i h1 h2 => (k i h1 h2).trans (h i h1 h2)) (fun W l o' hl i h1 h2 => World.putObj_heap_other (by omega)) (fun _ => rfl)
    (WordsI w w.heap.size (w.heap.size + 4) 38 9) (wordsI_from w _ _ _ _ _ (by omega)) (fun pre W v h => wordsI_set w _ _ _ _ _ (by omega) (by omega) (by omega) pre W v h)
    ⟨⟨_, bW, World.ownsRow_nil _ _ _ _, trivial⟩, hB0, by omega⟩
    (fun x => { tmps := #[.string s, undef, .slice none 0 0, .pointer (some ⟨w.heap.size, 0, none⟩), .string (str x), .string s, .func (.func 51) #[] #[.pointer (some ⟨w.heap.size + 1 + 1, 0, none⟩), .pointer (some ⟨w.heap.size + 1, 0, none⟩), .pointer (some ⟨w.heap.size + 1 + 2, 0, none⟩)], .string (str x), undef, undef, undef, undef, undef, undef, undef], defers := [] }) ?assign ?body ?done
  case assign =>
    intro l x W K hK
    gi_wp2
    exact hK
  case body =>
    rintro l pre x W ⟨⟨v, hv, hrow, _⟩, hB, hW4⟩ hpx
    have hc := hv.cell
    have hpl : (D.keep pre).length ≤ 1000001 := Nat.le_trans (D.keep_len pre) (by have h1 := hpx.length_le; rw [List.length_append] at h1; exact Nat.le_trans (by omega) HSL.out)
    have hxl := str_toList x
    by_cases hx : x = []
    · subst hx
      gi_wp2
      exact ⟨KeepsFrom.refl _ _, fun _ _ _ => rfl, ⟨v, hv, by rw [D.keep_no]; exact hrow, trivial⟩, hB, hW4⟩
    · have hxe : x.isEmpty = false := by
        cases x with
        | nil => exact absurd rfl hx
        | cons a b => rfl
      have HK := Lib.hid (D.keep_yes pre hx)
      have hbs := hB.size
      clear hx
      gi_wp2_with (gi_at_builtin; refine wpListIn_append_own _ rfl _ _ 38 rfl (w.heap.size + 4) 9 i0 (.string ⟨#[]⟩) 1 16 Tryd.underlying38 hi hz0 hz1 hz2 rfl (by decide) _ _ _ rfl (hrow.alloc _) ⟨W.heap.size, 0, none⟩ 1 1 [.string (str x)] rfl rfl (cell_one_new _ _ _) (by simp [Value.oneCell']) (by unfold maxLen; omega) (by omega) (by simp; omega) ?_; intro v' w1 hown' hgrow _; obtain ⟨g', cap', rfl⟩ := ownsRow_succ hown'; obtain ⟨hv1, hv2, hr2, hk2, hb2⟩ := box_append hv (by decide) hrow hW4 hown' hgrow; have hc1 := hv1.cell; have hf1 := hv1.frozen)
      exact ⟨hk2.from _, fun i h1 h2 => (heap_setCell_other _ _ _ _ (show i ≠ w.heap.size by omega)).trans (hb2.block i (by omega)), ⟨_, hv2, by rw [HK.out]; simpa [texts] using hr2, trivial⟩,
        hB.trans ((hb2.mono (show w.heap.size ≤ w.heap.size + 4 by omega)).setCell (p := ⟨w.heap.size, 0, none⟩) (Nat.le_refl _) _), Nat.le_trans (Nat.le_trans hW4 hb2.size) (grownBy_setCell' w1 w.heap.size _).size⟩
  case done =>
    rintro D W hD ⟨⟨v, hv, hrow, _⟩, hB, _⟩ hK
    have hc := hv.cell
    obtain ⟨pv, cv, rfl⟩ := (Sl.of_owns hrow).len
    gi_wp2
    refine ⟨by simp, .inl ⟨_, _, rfl, run_takeDeferred hK, ?_⟩⟩
    exact ⟨_, results_tmp rfl _ _ _, _, rfl, Sl.of_owns (ownsRow_putObj hrow _ hK rfl), hB.trans (belowK_b (w := w) (Nat.le_refl _) W D _ _ (by omega) hK rfl rfl)⟩

theorem texts_at {l : List (List UInt8)} {j : Nat} (h : j < l.length) : (texts l)[j]? = some (.string (str l[j])) := by simp [texts, h]
theorem texts_keep_snoc (l : List (List UInt8)) (x : List UInt8) : texts (l ++ [x]) = texts l ++ [.string (str x)] := by simp [texts]

theorem str_slice_one {P : Program} {t : TypeId} (ht : P.underlying t = some .string) (s : ByteArray) (k : Nat) (y : Int) (hy : y = (k : Int) + 1) (hk : k < s.size) (W : World) :
    (Instr.slice t (.string s) (some (.int .i64 (k : Int))) (some (.int .i64 y)) none).run P W = .ok (.string (str [s[k]])) W := by
  subst hy
  rw [run_slice_string W t s .i64 .i64 (k : Int) ((k : Int) + 1) ht (by omega) (by omega) (by omega)]
  have : s = ByteArray.mk s.data.toList.toArray := by cases s; rfl
  have key : s.extract k (k + 1) = ByteArray.mk ((s.data.toList.drop k).take 1).toArray := by
    conv => lhs; rw [this]
    rw [ByteArray.extract_mk, show k + 1 - k = 1 by omega]
  rw [Int.toNat_natCast, show ((k : Int) + 1).toNat = k + 1 by omega, key, drop_list s k hk]
  rfl

set_option maxHeartbeats 4000000 in
set_option maxRecDepth 100000 in
theorem refWords_any (s : ByteArray) (w : World) (hs : s.size ≤ 1000000) :
    Calls Tryd.prog 20 #[.string s] w fun e W' => ∃ v, e = .returned v ∧ Sl W' 1 v (D.wordsL s.data.toList).length (texts (D.wordsL s.data.toList)) ∧ Below w.heap.size w W' := by
  have hsl : (D.split s.data.toList).length ≤ 1000001 := Nat.le_trans (D.split_len _) (by rw [← size_list]; omega)
  have HSL := Lib.hid hsl
  clear hsl
  have hown := owns_empty w 9 1
  go_enter Tryd.func20, Tryd.ntmps20
  go_wp2
  go_loopw [3, 4, 5] (fun o x i wr => ∃ (k : Nat) (pre : List (List UInt8)) (a : List UInt8), k ≤ s.size ∧ a.length ≤ k ∧ i = .int .i64 k ∧ x = .string (str a) ∧ Hid (D.split s.data.toList = pre ++ D.split (a ++ s.data.toList.drop k)) ∧ Hid (∀ c ∈ a, c ≠ 32) ∧
      wr.ownsRow w.heap.size 9 1 o (D.keep pre).length (texts (D.keep pre)) ∧ Below w.heap.size w wr) (fun _ _ i _ => s.size - (intOf i).toNat)
  case atStart => exact ⟨0, [], [], Nat.zero_le _, Nat.zero_le _, rfl, rfl, Lib.hid rfl, Lib.hid (by simp), hown, (Below.refl _ _).alloc (Nat.le_refl _) _⟩
  case round =>
    obtain ⟨k, pre, a, hk, hak, rfl, rfl, HS, HA, hrow, hb⟩ := hrel
    have hbs := hb.size
    obtain ⟨pv, cv, rfl⟩ := (Sl.of_owns hrow).len
    clear hown
    have hal := str_toList a
    by_cases hlt : k < s.size
    · have hd := Lib.hid (drop_list s k hlt)
      have hpl : (D.keep pre).length ≤ 1000001 := Nat.le_trans (D.keep_len pre) (by have h1 := HS.out; have h2 := congrArg List.length h1; rw [List.length_append] at h2; exact Nat.le_trans (by omega) HSL.out)
      by_cases h32 : s[k] = 32
      · have hb32 : s[k].toNat = 32 := by rw [h32]; rfl
        have HS2 := Lib.hid (HS.out.trans (congrArg (pre ++ ·) ((congrArg D.split (congrArg (a ++ ·) (hd.out.trans (congrArg (· :: s.data.toList.drop (k + 1)) h32)))).trans (D.split_at a _ HA.out))))
        clear h32
        by_cases ha : a = []
        · subst ha
          go_wp2
          go_roundw
          case rel => exact ⟨k + 1, pre ++ [[]], [], by omega, by simp, by go_num, rfl, Lib.hid (by rw [HS2.out]; simp), Lib.hid (by simp), by rw [D.keep_no]; exact hrow, hb⟩
          case measure => simp [intOf]; omega
        · have hae : a.isEmpty = false := by
            cases a with
            | nil => exact absurd rfl ha
            | cons x y => rfl
          have HK := Lib.hid (D.keep_yes pre ha)
          clear ha
          go_wp2_with (at_builtin; refine append_one rfl _ _ 38 rfl w.heap.size 9 _ 1 16 Tryd.underlying38 elemStr _ _ _ rfl hrow #[.string (str a)] rfl rfl (by simp [Value.oneCell']) (by omega) hbs ?_; intro v' w2 hown2 hbel2)
          go_roundw
          case rel => exact ⟨k + 1, pre ++ [a], [], by omega, by simp, by go_num, rfl, Lib.hid (by rw [HS2.out]; simp), Lib.hid (by simp), by rw [HK.out, texts_keep_snoc]; simpa using hown2, hb.trans hbel2⟩
          case measure => simp [intOf]; omega
      · have hb32 : ((s[k].toNat : Int) != 32) = true := by
          rw [bne_iff_ne]
          intro h
          exact h32 (UInt8.toNat_inj.1 (by rw [show (32 : UInt8).toNat = 32 from rfl]; omega))
        have hsl1 := str_slice_one Tryd.underlying9 s k ((k : Int) + 1) rfl hlt
        have hadd := add_str (P := Tryd.prog) a [s[k]] (by simp; omega)
        have HS2 := Lib.hid (HS.out.trans (congrArg (pre ++ ·) (congrArg D.split ((congrArg (a ++ ·) hd.out).trans (by simp : a ++ s[k] :: s.data.toList.drop (k + 1) = a ++ [s[k]] ++ s.data.toList.drop (k + 1))))))
        have HA2 : Hid (∀ c ∈ a ++ [s[k]], c ≠ 32) := Lib.hid (by
          intro c hc
          rcases List.mem_append.1 hc with h | h
          · exact HA.out c h
          · rw [List.mem_singleton] at h; rw [h]; exact h32)
        clear h32
        go_wp2
        go_roundw
        case rel => exact ⟨k + 1, pre, a ++ [s[k]], by omega, by simp; omega, by go_num, rfl, HS2, HA2, hrow, hb⟩
        case measure => simp [intOf]; omega
    · obtain rfl : k = s.size := by omega
      have HE := Lib.hid (HS.out.trans (congrArg (pre ++ ·) ((congrArg D.split ((congrArg (a ++ ·) (List.drop_eq_nil_of_le (by rw [size_list]; exact Nat.le_refl _))).trans (List.append_nil a))).trans (D.split_none a HA.out))))
      have hpl : (D.keep pre).length ≤ 1000001 := Nat.le_trans (D.keep_len pre) (by have h1 := HS.out; have h2 := congrArg List.length h1; rw [List.length_append] at h2; exact Nat.le_trans (by omega) HSL.out)
      by_cases ha : a = []
      · subst ha
        have HW := Lib.hid ((congrArg D.keep HE.out).trans (D.keep_no pre))
        go_wp2
        go_ret
        exact ⟨_, rfl, by rw [D.wordsL, HW.out]; exact Sl.of_owns hrow, hb⟩
      · have hae : a.isEmpty = false := by
          cases a with
          | nil => exact absurd rfl ha
          | cons x y => rfl
        have HW := Lib.hid ((congrArg D.keep HE.out).trans (D.keep_yes pre ha))
        clear ha
        go_wp2_with (at_builtin; refine append_one rfl _ _ 38 rfl w.heap.size 9 _ 1 16 Tryd.underlying38 elemStr _ _ _ rfl hrow #[.string (str a)] rfl rfl (by simp [Value.oneCell']) (by omega) hbs ?_; intro v' w2 hown2 hbel2)
        obtain ⟨pv2, cv2, rfl⟩ := (Sl.of_owns hown2).len
        go_wp2
        go_ret
        exact ⟨_, rfl, by rw [D.wordsL, HW.out, texts_keep_snoc]; simpa using Sl.of_owns hown2, hb.trans hbel2⟩

theorem Sl.texts_len {w : World} {n : Nat} {v : Value} {xs : List (List UInt8)} (h : Sl w 1 v n (texts xs)) : xs.length = n := by
  have := h.1; rw [Go.Proofs.YtcilndnkhfcafaaDoor.texts_len] at this; omega
theorem take_step {xs ys : List (List UInt8)} {k : Nat} (h : xs.take k = ys.take k) (hx : k < xs.length) (hy : k < ys.length) (he : xs[k] = ys[k]) : xs.take (k + 1) = ys.take (k + 1) := by
  rw [List.take_succ_eq_append_getElem hx, List.take_succ_eq_append_getElem hy, h, he]

set_option maxHeartbeats 1000000 in
theorem sameTexts_any (v1 v2 : Value) (n1 n2 : Nat) (xs ys : List (List UInt8)) (w : World) (m1 : n1 ≤ maxLen) (m2 : n2 ≤ maxLen) (h1 : Sl w 1 v1 n1 (texts xs)) (h2 : Sl w 1 v2 n2 (texts ys)) :
    Calls Tryd.prog 18 #[v1, v2] w fun e w' => e = .returned (.bool (decide (xs = ys))) ∧ ∃ m, w.drewN m = w' := by
  have l1 := h1.texts_len
  have l2 := h2.texts_len
  unfold maxLen at m1 m2
  by_cases hn : n1 = n2
  · subst hn
    by_cases h0 : n1 = 0
    · subst h0
      obtain ⟨p1, c1, rfl⟩ := h1.len
      obtain ⟨p2, c2, rfl⟩ := h2.len
      have hx : xs = ys := by rw [List.eq_nil_of_length_eq_zero l1, List.eq_nil_of_length_eq_zero l2]
      have HX := Lib.hid hx
      clear hx l1 l2 h1 h2
      go_enter Tryd.func18, Tryd.ntmps18
      go_wp2
      refine wp_loop_rounds 1 ?_
      rw [rounds_succ]
      go_wp2
      go_ret
      exact ⟨ret_bool (decide_eq_true HX.out).symm, 0, rfl⟩
    · obtain ⟨b1, o1, c1, rfl, z1, k1⟩ := h1.some (by omega)
      obtain ⟨b2, o2, c2, rfl, z2, k2⟩ := h2.some (by omega)
      have K1 := Lib.hid k1
      have K2 := Lib.hid k2
      have L1 := Lib.hid l1
      have L2 := Lib.hid l2
      clear h1 h2 l1 l2 k1 k2
      have hnn : ((n1 : Int) != (n1 : Int)) = false := by simp
      go_enter Tryd.func18, Tryd.ntmps18
      go_wp2
      go_loopw [5] (fun i wr => ∃ k m : Nat, k ≤ n1 ∧ i = .int .i64 k ∧ xs.take k = ys.take k ∧ wr = w.drewN m) (fun i _ => n1 - (intOf i).toNat)
      case atStart => exact ⟨0, 0, Nat.zero_le _, rfl, rfl, rfl⟩
      case round =>
        obtain ⟨k, m, hk, rfl, htk, rfl⟩ := hrel
        have HT := Lib.hid htk
        clear htk
        by_cases hlt : k < n1
        · have hx1 : k < xs.length := by rw [L1.out]; exact hlt
          have hy1 : k < ys.length := by rw [L2.out]; exact hlt
          have a1 := K1.out k _ (texts_at hx1)
          have a2 := K2.out k _ (texts_at hy1)
          obtain ⟨x, hx⟩ : ∃ x, xs[k] = x := ⟨_, rfl⟩
          obtain ⟨y, hy⟩ : ∃ y, ys[k] = y := ⟨_, rfl⟩
          rw [hx] at a1
          rw [hy] at a2
          have HX := Lib.hid hx
          have HY := Lib.hid hy
          have HX1 := Lib.hid hx1
          have HY1 := Lib.hid hy1
          clear hx hy
          have sx := str_toList x
          have sy := str_toList y
          by_cases he : x = y
          · subst he
            go_wp2
            go_quiet (fail)
            go_wp2
            go_roundw
            case rel => exact ⟨k + 1, _, by omega, by go_num, take_step HT.out HX1.out HY1.out (by rw [HX.out, HY.out]), rfl⟩
            case measure => simp [intOf]; omega
          · have hb : (x == y) = false := by simpa using he
            have HE := Lib.hid he
            clear he
            go_wp2
            go_quiet (fail)
            go_wp2
            go_ret
            exact ⟨ret_bool (decide_eq_false (fun h => HE.out (by rw [← HX.out, ← HY.out]; subst h; rfl))).symm, by first | exact ⟨_, rfl⟩ | exact dn2 _ _ _⟩
        · obtain rfl : k = n1 := by omega
          go_wp2
          go_ret
          exact ⟨ret_bool (decide_eq_true (by rw [← List.take_of_length_le (l := xs) (Nat.le_of_eq L1.out), HT.out, List.take_of_length_le (Nat.le_of_eq L2.out)])).symm, _, rfl⟩
  · have hb : ((n1 : Int) != (n2 : Int)) = true := by rw [bne_iff_ne]; omega
    obtain ⟨p1, c1, rfl⟩ := h1.len
    obtain ⟨p2, c2, rfl⟩ := h2.len
    have hne : xs ≠ ys := fun h => hn (by rw [← l1, ← l2, h])
    have HN := Lib.hid hne
    clear hne l1 l2 h1 h2 hn
    go_enter Tryd.func18, Tryd.ntmps18
    go_wp2
    go_ret
    exact ⟨ret_bool (decide_eq_false HN.out).symm, 0, rfl⟩
end Go.Proofs.YtcilndnkhfcafaaDoor
