/-
  The law RingPlays of the statements holds for every input: the call returns true, and the arguments read as before.
-/
import Derived.Test.YtjbgkaleickknaaGreatRgNg
import Derived.Test.YtjbgkaleickknaaGreatRgA
import Derived.Test.YtjbgkaleickknaaGreatRgB
import Derived.Test.YtjbgkaleickknaaGreatRef8a
import Derived.Test.YtjbgkaleickknaaGreatOpenA
import Derived.Test.YtjbgkaleickknaaGreatAt
import Derived.Test.YtjbgkaleickknaaGreatLook
import Derived.Test.YtjbgkaleickknaaGreatOpen
import Derived.Test.YtjbgkaleickknaaGreatAcc
import Derived.Test.YtjbgkaleickknaaGreatMem3
import Derived.Maps.OwnSet
import Derived.Test.YtjbgkaleickknaaGreatRows
import Derived.WalkKit
import Derived.ProofKit
import Derived.OpenShut
import Derived.ShutString
import Derived.ChangeOld
import Derived.Below
import Derived.Test.YtjbgkaleickknaaGreatOpen
namespace Go.Proofs.YtjbgkaleickknaaGreat.ringPlays
open Go.ChangeShapes Go.WideShapes Go.ChangeAt Go.RowKit
open Go.ChangeMaps (open_string shut_string)
set_option linter.unusedVariables false
set_option linter.unusedSimpArgs false

theorem own : ownKnob Tryz.prog.godebug = none := by kernel_rfl
theorem laidOut : laidOutB Tryz.prog = true := by kernel_rfl

-- wants (so that fillauto keeps them): append_one' owns_empty Keeps.of_below Below.grown zeroCells_u64 append_zeros append_row owns_some fill_any loomNew_any busy_at start_at pick_step steps_l run_makeMap Crew.result Crew.put RgOut.law RgPlay.step RgPlay.start RgPlay.done RgPlay.more RgPlay.skip RgPlay.same RgLastly RgCame cntAdd dist_zero dist busy_at all_own CntX.cnt CntX.keeps rgLeft Row.sl Sl.at Sl.some ints_at texts_at wpList_put_cntx wpList_look_cnt make_row made_words all_own refPair_any rRight8_any wpList_look_cnt wpList_put_cntx CntX.len dist_all rBegun_any rCame_any rgAll_any
theorem owns_ne {w : World} {b b' s s' n n' : Nat} {e e' : TypeId} {v v' : Value} {xs xs' : List Value} (h : w.ownsRow b e s v n xs) (h' : w.ownsRow b' e' s' v' n' xs') (he : e ≠ e') : ∀ g, v.ownBlock = some g → g ∉ v'.ownBlock.toList := by
  intro g hg hm
  have hg' : v'.ownBlock = some g := (ownBlock_toList _ _).1 hm
  rcases h.2 with ⟨rfl, -⟩ | ⟨g1, cap, cur, rfl, -, h1, -⟩
  · cases hg
  · cases hg
    rcases h'.2 with ⟨rfl, -⟩ | ⟨g2, cap2, cur2, rfl, -, h2, -⟩
    · cases hg'
    · cases hg'
      rw [h1] at h2
      cases h2
      exact he rfl
theorem grown_keeps {w w' : World} {o : Option Nat} (h : w.grownBy w' o) : Keeps o.toList w w' := (Keeps.refl _ w).grown h fun k hk _ => by simpa using hk
theorem CntX.block {w w' : World} {b n sz : Nat} {cnt : Int → Int} (h : CntX w b n cnt sz) (hb : w'.heap[b]? = w.heap[b]?) : CntX w' b n cnt sz := by
  obtain ⟨D, h0, ⟨es, clock, h1, F, hs, hD⟩, h2⟩ := h
  exact ⟨D, h0, ⟨es, clock, hb.trans h1, F, hs, hD⟩, h2⟩
theorem RgCame_len {who : Nat} {p : Bool} {c V v : Int} {L gone : List Int} (h : RgCame who p c V v L gone) : gone.length ≤ 1 + L.length := by
  rcases h with ⟨-, -, ⟨-, rfl⟩ | ⟨-, rfl⟩ | ⟨-, rfl⟩⟩ | ⟨-, ⟨-, rfl⟩ | ⟨-, rfl⟩ | ⟨-, -, -, rfl⟩⟩ <;> simp <;> omega
/-- One more of those that came out. -/
theorem cntAdd_take (cnt : Int → Int) (gone : List Int) {j : Nat} (hj : j < gone.length) {x : Int} (hx : gone.getD j 0 = x) (h1 : gone.count x = 1) (h0 : cnt x = 0) : cntAdd cnt (gone.take j) x = 0 ∧ updZ (cntAdd cnt (gone.take j)) x 1 = cntAdd cnt (gone.take (j + 1)) := by
  have hgx : gone[j] = x := by rw [← hx, List.getD, List.getElem?_eq_getElem hj]; rfl
  have e : gone.take (j + 1) = gone.take j ++ [x] := by rw [← List.take_append_getElem hj, hgx]
  have h2 : (gone.take (j + 1)).count x ≤ gone.count x := (List.take_sublist _ _).count_le _
  rw [e, List.count_append, List.count_singleton_self] at h2
  have h3 : (gone.take j).count x = 0 := by omega
  refine ⟨by simp [cntAdd, h3, h0], ?_⟩
  funext v
  by_cases ev : v = x
  · subst ev
    rw [updZ_same, e]
    simp [cntAdd, h3, h0]
  · rw [updZ_ne _ _ ev, e]
    simp [cntAdd, List.count_cons_of_ne (Ne.symm ev)]
theorem sumR_part {f : Nat → Nat} {i : Nat} : ∀ n, i < n → sumR f i + f i ≤ sumR f n
  | 0, h => by omega
  | n + 1, h => by
    rw [sumR]
    by_cases e : i = n
    · subst e; omega
    · have := sumR_part (f := f) n (show i < n by omega); omega
/-- How often each has come, when the first i rings' rests are counted, too. -/
def cntLeft (cnt : Int → Int) (g : RgG) (i : Nat) : Int → Int := fun v => cnt v + (sumR (fun j => (rgLeft g j).count v) i : Nat)
theorem cntLeft_zero (cnt : Int → Int) (g : RgG) : cntLeft cnt g 0 = cnt := by funext v; simp [cntLeft, sumR]
theorem cntLeft_succ (cnt : Int → Int) (g : RgG) (i : Nat) : cntAdd (cntLeft cnt g i) (rgLeft g i) = cntLeft cnt g (i + 1) := by
  funext v
  simp only [cntAdd, cntLeft, sumR]
  omega
theorem wpList_len_cntx (w : World) {ops : Array Oper} {rest : List Oper} {o : Oper} {a : Act} {Q : Exit → Act → World → Prop} (hg : o.guard = none) (m : Operand) (hop : o.op = Op.call { callee := Callee.builtin Builtin.len, args := #[m], argTypes := #[40] }) (b n sz : Nat) (cnt : Int → Int)
    (hm : a.eval m = .map (some b)) (hc : CntX w b n cnt sz) (hK : wpList Tryz.prog ops Q rest (a.put o.dst (.int .i64 (sz : Int))) w) : wpList Tryz.prog ops Q (o :: rest) a w := by
  obtain ⟨D, h0, h1, h2, h3, h4⟩ := hc
  refine wpList_len_own w hg m _ hop 34 3 Tryz.underlying40 _ b n D hm h1 ?_
  rw [h4]
  exact hK
set_option maxHeartbeats 25600000 in
set_option maxRecDepth 200000 in
theorem walk (th size from_ : Int) (pp : Option Addr) (q cp : Nat) (ys : List Int) (w : World) (hwt : (Lit.int .i64 th).wf = true) (hws : (Lit.int .i64 size).wf = true) (hwf : (Lit.int .u32 from_).wf = true) (hp : Sl w 1 (.slice pp q cp) q (ints .u8 ys)) (hq : q ≤ maxLen) (hy : ∀ y ∈ ys, (Lit.int .u8 y).wf = true) :
    Calls Tryz.prog 3 #[.int .i64 th, .int .i64 size, .int .u32 from_, .slice pp q cp] w fun e w' => e = .returned (.bool true) ∧ Below w.heap.size w w' := by
  obtain ⟨B, hB⟩ : ∃ B, w.heap.size = B := ⟨_, rfl⟩
  rw [hB]
  have HY : Hid (∀ y ∈ ys, 0 ≤ y ∧ y < 256) := Lib.hid fun y h => by
    have := bounds_u8 (hy y h)
    omega
  have HF : Hid (0 ≤ from_ ∧ from_ < 4294967296) := Lib.hid (by
    simp only [Lit.wf, Bool.and_eq_true, decide_eq_true_eq] at hwf
    have e1 : IntKind.u32.min = 0 := by decide
    have e2 : IntKind.u32.max = 4294967295 := by decide
    omega)
  have HSP := Lib.hid hp
  have HLP := Lib.hid hp.ints_len
  unfold maxLen at hq
  have hmm := @run_makeMap Tryz.prog
  clear hp hy hws hwf hwt
  go_enter Tryz.func3, Tryz.ntmps3
  go_wp2_with fail
  refine (awake8 w).mono ?_
  rintro e w1 ⟨rfl, b1⟩
  rw [hB] at b1
  have HB1 := Lib.hid b1
  clear b1
  have s1 := HB1.out.size
  by_cases h1 : th < 0
  · have d1 : decide (th < 0) = true := decide_eq_true (by omega)
    go_wp2
    go_ret
    exact ⟨rfl, HB1.out⟩
  have d1 : decide (th < 0) = false := decide_eq_false (by omega)
  by_cases h2 : 3 < th
  · have d2 : decide (3 < th) = true := decide_eq_true (by omega)
    go_wp2
    go_ret
    exact ⟨rfl, HB1.out⟩
  have d2 : decide (3 < th) = false := decide_eq_false (by omega)
  obtain ⟨tn, rfl⟩ : ∃ tn : Nat, th = (tn : Int) := ⟨th.toNat, by omega⟩
  obtain ⟨W, hWn⟩ : ∃ W : Nat, tn + 1 = W := ⟨_, rfl⟩
  by_cases hr : dqRight 0 size
  case neg =>
    have HR := Lib.hid (fun W => rRight8_any 0 size W)
    rw [decide_eq_false hr] at HR
    clear hr
    go_wp2_with fail
    refine (HR.out w1).mono ?_
    rintro e w2 ⟨rfl, rfl⟩
    go_wp2
    go_ret
    exact ⟨rfl, HB1.out⟩
  obtain ⟨N, rfl⟩ : ∃ N : Nat, size = (N : Int) := ⟨size.toNat, by have := hr.1; omega⟩
  have HR := Lib.hid (fun W => rRight8_any 0 N W)
  rw [decide_eq_true hr] at HR
  have hpow := hr.1
  by_cases h4 : 16 < (N : Int)
  · have d4 : decide (16 < (N : Int)) = true := decide_eq_true (by omega)
    clear hr hpow
    go_wp2_with fail
    refine (HR.out w1).mono ?_
    rintro e w2 ⟨rfl, rfl⟩
    go_wp2
    go_ret
    exact ⟨rfl, HB1.out⟩
  have d4 : decide (16 < (N : Int)) = false := decide_eq_false (by omega)
  by_cases h5 : 400 < q
  · have d5 : decide ((400 : Int) < q) = true := decide_eq_true (by omega)
    clear hr hpow
    go_wp2_with fail
    refine (HR.out w1).mono ?_
    rintro e w2 ⟨rfl, rfl⟩
    go_wp2
    go_ret
    exact ⟨rfl, HB1.out⟩
  have d5 : decide ((400 : Int) < q) = false := decide_eq_false (by omega)
  have HRg : Hid (∀ i, i < W → dqRight (rgAt N i : Nat) N) := Lib.hid fun i hi => by
    refine ⟨hpow, by omega, ?_⟩
    have : i * (N + 2) ≤ 3 * 18 := Nat.mul_le_mul (by omega) (by omega)
    unfold rgAt
    omega
  have hN2 : 2 ≤ N ∧ N ≤ 16 := by omega
  have hWN : W * (N + 2) ≤ 72 ∧ 1 ≤ W * (N + 2) := ⟨Nat.mul_le_mul (show W ≤ 4 by omega) (show N + 2 ≤ 18 by omega), Nat.mul_pos (by omega) (by omega)⟩
  clear hpow hr
  go_wp2_with fail
  refine (HR.out w1).mono ?_
  rintro e w2 ⟨rfl, rfl⟩
  obtain ⟨nc, hnc⟩ : ∃ nc, W * (N + 2) = nc := ⟨_, rfl⟩
  have hmul : ((N : Int) + 2) * ((tn : Int) + 1) = (nc : Int) := by rw [← hnc, ← hWn, Int.mul_comm, Int.natCast_mul, Int.natCast_add, Int.natCast_add, show ((1 : Nat) : Int) = 1 from rfl, show ((2 : Nat) : Int) = 2 from rfl]
  rw [hnc] at hWN
  have hwm : IntKind.i64.wrap (((N : Int) + 2) * ((tn : Int) + 1)) = (nc : Int) := by rw [hmul]; exact IntWalk.i64_in _ (by omega)
  have HNC := Lib.hid hnc
  have NA := Lib.hid (new_any nc w1 (by omega) (by omega))
  clear hmul hnc
  go_wp2_with fail
  refine NA.out.mono ?_
  clear NA
  rintro e w3 ⟨m, b, rfl, hM, k3, hm, hb⟩
  have HM3 := Lib.hid hM
  have HB3 := Lib.hid (HB1.out.trans (k3.below (by omega) (by simp)))
  have s3 := HB3.out.size
  have hmlt := hM.lt
  clear hM k3 HB1
  obtain ⟨W4, hW4⟩ : ∃ W4, (w3.alloc (.cells #[] 33)).alloc (.cells #[] 34) = W4 := ⟨_, rfl⟩
  have hor : W4.ownsRow w3.heap.size 33 2 (.slice (some ⟨w3.heap.size, 0, none⟩) 0 0) 0 [] := by rw [← hW4]; exact (owns_empty w3 33 2).alloc _
  have hos : W4.ownsRow w3.heap.size 34 1 (.slice (some ⟨w3.heap.size + 1, 0, none⟩) 0 0) 0 [] := by
    rw [← hW4]
    have h := owns_empty (w3.alloc (.cells #[] 33)) 34 1
    rw [show (w3.alloc (.cells #[] 33)).heap.size = w3.heap.size + 1 by simp] at h
    exact ⟨h.1, h.2.imp id fun ⟨g, cap, cur, h1, h2, h3⟩ => ⟨g, cap, cur, h1, by omega, h3⟩⟩
  have hb4 : Below w3.heap.size w3 W4 := by rw [← hW4]; exact ((Below.refl _ _).alloc (Nat.le_refl _) _).alloc (by simp) _
  have hz4 : w3.heap.size ≤ W4.heap.size := hb4.size
  obtain ⟨B4, hB4⟩ : ∃ B4, w3.heap.size = B4 := ⟨_, rfl⟩
  have HF2 : Hid (∀ Wx, Calls Tryz.prog 7 #[.int .u32 from_, .int .u32 from_] Wx fun e w' => e = .returned (.int .u64 (rgPair from_ from_)) ∧ Wx = w') := Lib.hid (fun Wx => refPair_any from_ from_ Wx HF.out.1 HF.out.2 HF.out.1 HF.out.2)
  have HHB4 := Lib.hid hB4
  rw [hB4] at hor hos hb4 hz4
  have hfw : IntKind.u64.wrap from_ = from_ := by show from_ % 18446744073709551616 = _; have := HF.out; omega
  have hpw : M.U (rgPair from_ from_) := rgPair_U HF.out HF.out
  go_wp2
  go_loopw [11, 12, 13] (fun rv sv iv wr => ∃ i : Nat, i ≤ W ∧ iv = .int .i64 (i : Int) ∧ wr.ownsRow B4 33 2 rv i (rgRows N i) ∧ wr.ownsRow B4 34 1 sv (i * (N + 2)) (ints .u64 (rgStart N (rgPair from_ from_) from_ i)) ∧ Below B4 w3 wr ∧ B4 ≤ wr.heap.size) (fun _ _ iv _ => W - (intOf iv).toNat)
  case atStart => exact ⟨0, Nat.zero_le _, rfl, hor, by rw [Nat.zero_mul]; exact hos, hb4, hz4⟩
  case round =>
    obtain ⟨i, hi, rfl, hor', hos', hb', hz'⟩ := hrel
    clear hor hos hb4 hz4
    have HOS := Lib.hid hos'
    have HBr := Lib.hid hb'
    by_cases hlt : i < W
    · have dk : decide ((i : Int) ≤ (tn : Int)) = true := decide_eq_true (by omega)
      have hwi : IntKind.i64.wrap ((i : Int) * ((N : Int) + 2)) = ((rgAt N i : Nat) : Int) := by
        have e : (i : Int) * ((N : Int) + 2) = ((rgAt N i : Nat) : Int) := by unfold rgAt; rw [Int.natCast_mul, Int.natCast_add]; rfl
        have : rgAt N i ≤ 3 * 18 := Nat.mul_le_mul (by omega) (by omega)
        rw [e]
        exact IntWalk.i64_in _ (by omega)
      have hin : i * (N + 2) ≤ 3 * 18 := Nat.mul_le_mul (by omega) (by omega)
      obtain ⟨len1, hlen1⟩ : ∃ l, i * (N + 2) = l := ⟨_, rfl⟩
      have HLen := Lib.hid hlen1
      rw [hlen1] at HOS hin
      clear hos' hb' hlen1
      go_wp2_with (first
        | (at_builtin; refine append_one' rfl _ _ 30 rfl B4 33 _ 2 16 Tryz.underlying30 elemRing _ i _ rfl hor' #[.int .i64 (rgAt N i : Nat), .int .i64 (N : Int)] rfl rfl (by simp [Value.oneCell']) (by omega) hz' ?_; intro v5 w5 o5 g5; have HO5 : Hid (w5.ownsRow B4 33 2 v5 (i + 1) (rgRows N (i + 1))) := Lib.hid o5; have HS5 := Lib.hid (owns_keeps HOS.out (grown_keeps g5) (owns_ne HOS.out hor' (by decide))); have HB5 := Lib.hid (HBr.out.grown g5 hz' (fun k hk => (hor'.lt k hk).1)); have hz5 : B4 ≤ w5.heap.size := Nat.le_trans hz' g5.size; clear g5 o5 hor' HOS HBr)
        | (go_at_call 7; refine (HF2.out _).mono ?_; rintro e w6 ⟨rfl, rfl⟩)
        | (at_builtin; refine append_many' rfl _ _ 31 rfl B4 34 _ 1 8 Tryz.underlying31 elemWd _ len1 _ rfl HS5.out #[.int .u64 (rgPair from_ from_), .int .u64 from_] 2 rfl rfl (by simp [Value.oneCell']) (by omega) hz5 ?_; intro v7 w7 o7 g7; have HO7 := Lib.hid (owns_keeps HO5.out (grown_keeps g7) (owns_ne HO5.out HS5.out (by decide))); have HB7 := Lib.hid (HB5.out.grown g7 hz5 (fun k hk => (HS5.out.lt k hk).1)); have hz7 : B4 ≤ w7.heap.size := Nat.le_trans hz5 g7.size; have HS7 := Lib.hid o7; clear g7 o7 HO5 HS5 HB5)
        | (at_builtin; refine append_zeros rfl _ _ 31 3 rfl B4 34 (.int .u64 0) 1 8 .i64 .i64 Tryz.underlying31 Tryz.underlying3 elemWd _ (len1 + 2) _ rfl HS7.out N (by omega) _ rfl rfl (by rw [zeroCells_u64]; exact ints_oneCell .u64 _) (by omega) hz7 ?_; intro v8 w8 o8 g8; have HO8 := Lib.hid (owns_keeps HO7.out (grown_keeps g8) (owns_ne HO7.out HS7.out (by decide))); have HB8 := Lib.hid (HB7.out.grown g8 hz7 (fun k hk => (HS7.out.lt k hk).1)); have hz8 : B4 ≤ w8.heap.size := Nat.le_trans hz7 g8.size; rw [zeroCells_u64] at o8; have HS8 := Lib.hid o8; clear g8 o8 HO7 HS7 HB7)
        | fail)
      have HS8' : Hid (w8.ownsRow B4 34 1 v8 ((i + 1) * (N + 2)) (ints .u64 (rgStart N (rgPair from_ from_) from_ (i + 1)))) := Lib.hid (by
        have e1 : (i + 1) * (N + 2) = len1 + 2 + N := by rw [← HLen.out, Nat.add_mul]; omega
        have e2 : ints .u64 (rgStart N (rgPair from_ from_) from_ (i + 1)) = ints .u64 (rgStart N (rgPair from_ from_) from_ i) ++ #[Value.int .u64 (rgPair from_ from_), .int .u64 from_].toList ++ ints .u64 (List.replicate N 0) := by simp [ints, rgStart, rgBlk]
        rw [e1, e2]
        exact HS8.out)
      clear HS8
      go_wp2
      go_roundw
      case rel => exact ⟨i + 1, by omega, by go_num, HO8.out, HS8'.out, HB8.out, hz8⟩
      case measure => simp [intOf]; omega
    · obtain rfl : i = W := by omega
      have dk : decide ((i : Int) ≤ (tn : Int)) = false := decide_eq_false (by omega)
      have hnce := HNC.out
      obtain ⟨rb, rcap, rfl, hrr, hrb4⟩ := owns_some hor' (by omega)
      obtain ⟨us, hus⟩ : ∃ us, rgStart N (rgPair from_ from_) from_ i = us := ⟨_, rfl⟩
      have hul : us.length = nc := by rw [← hus, rgStart_len, hnce]
      rw [hus] at HOS
      have husU : ∀ u ∈ us, M.U u := fun u hu => by
        rw [← hus] at hu
        rcases rgStart_mem _ _ _ _ u hu with rfl | rfl | rfl
        · exact hpw
        · exact ⟨HF.out.1, by have := HF.out.2; omega⟩
        · exact ⟨by decide, by decide⟩
      rw [hnce] at HOS
      have hslu := Sl.of_owns HOS.out
      have k34 : Keeps [] w3 wr := Keeps.of_below HBr.out (Nat.le_of_eq HHB4.out)
      have hB4e := HHB4.out
      have hrne : rb ≠ b ∧ rb ≠ m := by omega
      have HFl := Lib.hid (fill_any m b (List.replicate nc 0) us _ nc wr (HM3.out.keeps k34 (by simp) (by simp)) hslu husU (by unfold maxLen; omega))
      have HB5 := Lib.hid (HB3.out.trans (HBr.out.mono (by omega)))
      have hzr := hz'
      have HRw := Lib.hid hrr
      have hrlt := hrr.lt
      obtain ⟨sp, sc, rfl⟩ := (Sl.of_owns HOS.out).len
      have HUs := Lib.hid hus
      clear hor' hrr hos' hb' hslu k34 husU HOS
      go_wp2_with fail
      refine HFl.out.mono ?_
      rintro e w5 ⟨rfl, hM5, k5⟩
      have hfe : C.fill (List.replicate nc 0) us = us := by unfold C.fill; rw [if_neg (by simp [hul])]; simp [hul]
      rw [hfe] at hM5
      have HM5 := Lib.hid hM5
      have HRw5 := Lib.hid (HRw.out.keeps k5 (by simp; exact hrne.1))
      have HB6 := Lib.hid (HB5.out.trans (k5.below (by have := HB5.out.size; omega) (by simp; omega)))
      have s56 := k5.size
      have hml5 := hM5.lt
      have s5 := HB6.out.size
      clear hM5 k5 hfe HFl HRw HB5 HM3 HBr hul
      -- the blocks that nobody writes
      obtain ⟨E, hE⟩ : ∃ E : Nat → Prop, (fun x => x < B ∨ x = rb) = E := ⟨_, rfl⟩
      have HE : Hid ((∀ k, k < B → E k) ∧ E rb ∧ ∀ k, E k → k < B ∨ k = rb) := Lib.hid (by rw [← hE]; exact ⟨fun k hk => .inl hk, .inr rfl, fun k hk => hk⟩)
      clear hE
      have LN := loomNew_any E i m b us w5 HM5.out (by omega) (by omega) (fun k hk => by rcases HE.out.2.2 k hk with h | h <;> omega) (fun hk => by rcases HE.out.2.2 b hk with h | h <;> omega)
      rw [show ((i : Nat) : Int) = (tn : Int) + 1 by omega] at LN
      have HLN := Lib.hid LN
      clear LN
      go_wp2_with fail
      refine HLN.out.mono ?_
      rintro e w6 ⟨l, gl, rfl, hL6, k6⟩
      have HL6 := Lib.hid hL6
      have HRw6 := Lib.hid (HRw5.out.keeps k6 (by simp))
      have HB7 := Lib.hid (HB6.out.trans (k6.below (by omega) (by simp)))
      have s6 := k6.size
      clear hL6 k6 HRw5 HB6 HM5 HLN
      obtain ⟨W7, hW7⟩ : ∃ W7, w6.alloc (.map #[] 0) = W7 := ⟨_, rfl⟩
      have k7 : Keeps [] w6 W7 := by rw [← hW7]; exact (Keeps.refl _ _).alloc _
      have c7 : CntX W7 w6.heap.size 0 (fun _ => 0) 0 := by rw [← hW7]; exact CntX.made w6
      obtain ⟨mb, hmb⟩ : ∃ mb, w6.heap.size = mb := ⟨_, rfl⟩
      rw [hmb] at c7
      have hz7 : W7.heap.size = mb + 1 := by rw [← hW7, ← hmb]; simp
      obtain ⟨w8, hrun8, hrow8, k8, hz8⟩ := make_row (P := Tryz.prog) W7 41 4 (.bool false) 1 1 Tryz.underlying41 elemBool .i64 .i64 i (by omega)
      rw [made_bools, ← rgBools_none, hz7] at hrow8
      rw [hz7] at hrun8
      rw [show ((i : Nat) : Int) = (tn : Int) + 1 by omega] at hrun8
      obtain ⟨hb8, hhb⟩ : ∃ hb8, mb + 1 = hb8 := ⟨_, rfl⟩
      rw [hhb] at hrow8 hrun8
      have hPP : (¬ E mb ∧ mb ≠ m ∧ mb < w8.heap.size) ∧ (¬ E hb8 ∧ hb8 ≠ m ∧ hb8 < w8.heap.size) ∧ mb ≠ hb8 :=
        ⟨⟨fun h => by rcases HE.out.2.2 mb h with h | h <;> omega, by omega, by omega⟩, ⟨fun h => by rcases HE.out.2.2 hb8 h with h | h <;> omega, by omega, by omega⟩, by omega⟩
      have HL8 : Hid (Loom (fun x => E x ∨ x = mb ∨ x = hb8) w8 ⟨l, gl, m, b, us, List.replicate i none, 0⟩) := Lib.hid (HL6.out.widen (k7.trans k8) (fun k hk => by
        rcases hk with hk | hk | hk
        · exact .inl hk
        · exact .inr ⟨by omega, by have := hPP.1.2.2; omega⟩
        · exact .inr ⟨by omega, by have := hPP.2.1.2.2; omega⟩))
      have HC8 : Hid (CntX w8 mb 0 (fun _ => 0) (dist fun _ => 0)) := Lib.hid (by rw [dist_zero]; exact c7.keeps k8 (by simp))
      have HP8 := Lib.hid hPP
      have HH8 := Lib.hid hrow8
      have HRw8 := Lib.hid (HRw6.out.keeps (k7.trans k8) (by simp))
      have HB8 := Lib.hid (HB7.out.trans ((k7.trans k8).below (by omega) (by simp)))
      have HD8 : Hid (RgPlay N i q from_ 0 0 ⟨l, gl, m, b, us, List.replicate i none, 0⟩ (fun _ => none) (rgG0 from_) (fun _ => 0) 0 (fun _ => false)) := Lib.hid (by
        rw [← HUs.out]
        exact RgPlay.init l gl m b (by omega) hN2.2 HRg.out HF.out)
      clear k7 c7 k8 hPP hrow8 HL6 HRw6 HB7 HUs
      have HSPr : Hid (∀ W, Held E w8 W → Sl W 1 (.slice pp q cp) q (ints .u8 ys)) := Lib.hid fun W hW => HSP.out.below (HB8.out.trans (Held.below (hW.narrow (E := (· < B)) (fun k hk => HE.out.1 k hk)))) (by omega)
      have HRwr : Hid (∀ W, Held E w8 W → Row W rb 33 (rgRows N i)) := Lib.hid fun W hW => HRw8.out.block (hW.block rb HE.out.2.1)
      clear hhb hz7 hz8
      go_wp2
      clear hW7 hmb hmm hrun8
      go_loopw [16, 17, 20] (fun nx la iv wr => ∃ k : Nat, k ≤ q + 60 * i ∧ iv = .int .i64 (k : Int) ∧ ∃ (L : LSt) (ss : Nat → Option RgS) (g : RgG) (cnt : Int → Int) (next : Int) (hg : Nat → Bool) (nm : Nat), nx = .int .u64 next ∧ la = .int .u64 g.last ∧
        Held E w8 wr ∧ Loom (fun x => E x ∨ x = mb ∨ x = hb8) wr L ∧ L.l = l ∧ L.mm = m ∧ CntX wr mb nm cnt (dist cnt) ∧ nm ≤ 300 * k ∧ Row wr hb8 4 (rgBools i hg) ∧ RgPlay N i q from_ k k L ss g cnt next hg) (fun _ _ iv _ => q + 60 * i - (intOf iv).toNat)
      case atStart => exact ⟨0, Nat.zero_le _, rfl, _, _, rgG0 from_, _, 0, _, 0, rfl, rfl, Held.refl _ _, HL8.out, rfl, rfl, HC8.out, Nat.le_refl _, HH8.out, HD8.out⟩
      case round =>
        obtain ⟨k, hk, rfl, L, ss, g, cnt, next, hg, nm, rfl, rfl, hh, hL, hLl, hLm, hc, hnm, hbw, hD⟩ := hrel
        have HHr := Lib.hid hh
        have HL := Lib.hid hL
        have HC := Lib.hid hc
        have HBW := Lib.hid hbw
        have HD := Lib.hid hD
        clear hh hL hc hbw hD
        by_cases hlt : k < q + 60 * i
        · have dk : decide ((k : Int) < (q : Int) + 60 * ((tn : Int) + 1)) = true := decide_eq_true (by omega)
          go_upto_region 24 with (fail)
          obtain ⟨late, hlate⟩ : ∃ late, decide (q ≤ k) = late := ⟨_, rfl⟩
          go_cut [21] from 107 to 249 (fun v w' => v = .bool late ∧ wr = w')
          case first =>
            -- << late
            as_aux_lemma =>
              by_cases hl : q ≤ k
              · have d1 : decide ((q : Int) ≤ (k : Int)) = true := decide_eq_true (by omega)
                rw [decide_eq_true hl] at hlate
                subst hlate
                go_wp2
                go_meet
                exact ⟨rfl, rfl⟩
              · have d1 : decide ((q : Int) ≤ (k : Int)) = false := decide_eq_false (by omega)
                rw [decide_eq_false hl] at hlate
                subst hlate
                go_wp2
                go_meet
                exact ⟨rfl, rfl⟩
            -- >> late
          obtain ⟨rfl, rfl⟩ := hcut
          go_upto_if 121 with (fail)
          go_cut [22] from 107 to 249 (fun v w' => ∃ who : Nat, v = .int .i64 (who : Int) ∧ who < i ∧ (k < q ∨ who = (k - q) / 60) ∧ wr = w')
          case first =>
            -- << who
            as_aux_lemma =>
              cases late with
              | true =>
                have hl : q ≤ k := of_decide_eq_true hlate
                have e1 : ((k : Int) - (q : Int)) = ((k - q : Nat) : Int) := by omega
                go_wp2
                go_meet
                refine ⟨(k - q) / 60, ?_, by omega, .inr rfl, rfl⟩
                congr 1
              | false =>
                have hl : ¬ q ≤ k := of_decide_eq_false hlate
                have hsl := HSPr.out wr HHr.out
                obtain ⟨pb, po, pc, he, hpb, hpc⟩ := hsl.some (by omega)
                cases he
                have hkz : k < ys.length := by rw [HLP.out]; omega
                have ay := hpc k _ (ints_at (k := .u8) hkz)
                have hyb := HY.out (ys.getD k 0) (by rw [List.getD, List.getElem?_eq_getElem hkz]; exact List.getElem_mem hkz)
                obtain ⟨y, hy⟩ : ∃ y, ys.getD k 0 = y := ⟨_, rfl⟩
                rw [hy] at ay hyb
                obtain ⟨yn, rfl⟩ : ∃ yn : Nat, y = (yn : Int) := ⟨y.toNat, by omega⟩
                have iq : (k : Int) < (q : Int) := by omega
                clear hpc hsl hy
                go_wp2
                go_meet
                refine ⟨yn % i, ?_, Nat.mod_lt _ (by omega), .inl (by omega), rfl⟩
                rw [Int.natCast_emod, show ((i : Nat) : Int) = (tn : Int) + 1 by omega]
            -- >> who
          obtain ⟨who, rfl, hwn, hwf, rfl⟩ := hcut
          obtain ⟨o, ho, hb⟩ := HD.out.crew.at hwn
          have D := busy_at _ L who o wr HL.out ho
          rw [hLl, hb] at D
          obtain ⟨bb, hbb⟩ : ∃ bb, atWork ringM (ss who) = bb := ⟨_, rfl⟩
          rw [hbb] at D hb
          have HBB := Lib.hid hbb
          have HO := Lib.hid (⟨ho, hb⟩ : _ ∧ _)
          clear ho hb hbb
          go_wp2_with fail
          refine D.mono ?_
          clear D
          rintro e w2 ⟨rfl, k2⟩
          have HL2 := Lib.hid (HL.out.keeps k2)
          have HC2 := Lib.hid (HC.out.keeps k2 (by simp))
          have HBW2 := Lib.hid (HBW.out.keeps k2 (by simp))
          have HH2 := Lib.hid (HHr.out.trans (k2.held (fun k hk => HL.out.dom k (.inl hk)) (by simp)))
          clear k2 HHr HL HC HBW
          go_upto_if 138 with (fail)
          go_cut [16] from 107 to 249 (fun nx' w' => Held E w8 w' ∧ ∃ (L2 : LSt) (ss2 : Nat → Option RgS) (g2 : RgG) (next2 : Int) (hg2 : Nat → Bool) (s : RgS), nx' = .int .u64 next2 ∧ Loom (fun x => E x ∨ x = mb ∨ x = hb8) w' L2 ∧ L2.l = l ∧ L2.mm = m ∧ CntX w' mb nm cnt (dist cnt) ∧ Row w' hb8 4 (rgBools i hg2) ∧
            RgPlay N i q from_ k (k + 1) L2 ss2 g2 cnt next2 hg2 ∧ ss2 who = some s ∧ s.over = none ∧ g2.last = g.last)
          case first =>
            -- << begin
            as_aux_lemma =>
              cases bb with
              | true =>
                obtain ⟨s, hs1, hs2⟩ := rgWork HBB.out
                have HM := Lib.hid (⟨hs1, hs2⟩ : _ ∧ _)
                clear hs1 hs2
                go_wp2
                go_meet
                exact ⟨HH2.out, L, ss, g, next, hg, s, rfl, HL2.out, hLl, hLm, HC2.out, HBW2.out, HD.out.more, HM.out.1, HM.out.2, rfl⟩
              | false =>
                cases late with
                | true =>
                  have hl : q ≤ k := of_decide_eq_true hlate
                  go_wp2
                  go_roundw
                  case rel => exact ⟨k + 1, by omega, by go_num, L, ss, g, cnt, next, hg, nm, rfl, rfl, HH2.out, HL2.out, hLl, hLm, HC2.out, by omega, HBW2.out, HD.out.skip hl (by omega) HBB.out⟩
                  case measure => simp [intOf]; omega
                | false =>
                  have hl : ¬ q ≤ k := of_decide_eq_false hlate
                  have hsl := HSPr.out w2 HH2.out
                  obtain ⟨pb, po, pc, he, hpb, hpc⟩ := hsl.some (by omega)
                  cases he
                  have hkz : k < ys.length := by rw [HLP.out]; omega
                  have ay := hpc k _ (ints_at (k := .u8) hkz)
                  have hyb := HY.out (ys.getD k 0) (by rw [List.getD, List.getElem?_eq_getElem hkz]; exact List.getElem_mem hkz)
                  obtain ⟨y, hy⟩ : ∃ y, ys.getD k 0 = y := ⟨_, rfl⟩
                  rw [hy] at ay hyb
                  obtain ⟨yn, rfl⟩ : ∃ yn : Nat, y = (yn : Int) := ⟨y.toNat, by omega⟩
                  have iq : (k : Int) < (q : Int) := by omega
                  have iw : (who : Int) < (tn : Int) + 1 := by omega
                  have hnxt := HD.out.nx
                  obtain ⟨pp2, hpp2⟩ : ∃ pp2, decide ((100 : Int) ≤ (yn : Int)) = pp2 := ⟨_, rfl⟩
                  have fz := HBW2.out.frozen who
                  have ck := HBW2.out.cell (rgBools_at i hg hwn)
                  clear hpc hsl hy
                  obtain ⟨W9, hW9⟩ : ∃ W9, w2.setCell ⟨hb8, who, none⟩ (.bool pp2) = W9 := ⟨_, rfl⟩
                  have k9 : Keeps [hb8] w2 W9 := by rw [← hW9]; exact (Keeps.refl _ _).set (by simp) _ _
                  have r9 : Row W9 hb8 4 (rgBools i (updG hg who pp2)) := by rw [← hW9, ← rgBools_set i hg hwn pp2]; exact HBW2.out.set who _
                  have HL9 := Lib.hid (HL2.out.apart k9 (fun k hk => by simp at hk; exact .inr (.inr hk)) (by rw [hLm]; simp; exact fun h => HP8.out.2.1.2.1 h.symm))
                  have HH9 := Lib.hid (HH2.out.trans (k9.held (fun k hk => HL2.out.dom k (.inl hk)) (fun k hk => by simp at hk; subst hk; exact HP8.out.2.1.1)))
                  have HC9 := Lib.hid (HC2.out.keeps k9 (by simp; exact HP8.out.2.2))
                  have HR9 := Lib.hid r9
                  have HRw9 := Lib.hid (HRwr.out W9 HH9.out)
                  have u9 : W9.cell? ⟨hb8, who, none⟩ = some (.bool pp2) := by have := r9.cell (rgBools_at i (updG hg who pp2) hwn); rwa [updG_same] at this
                  have HBg : Hid (∀ (Wx : World) (V : Int), Keeps [] W9 Wx → M.U V → Calls Tryz.prog 12 #[.slice (some ⟨rb, 0, none⟩) i rcap, .int .i64 (who : Int), .bool pp2, .int .u64 V] Wx _) := Lib.hid fun Wx V hkx hV => by
                    have hrx := HRw9.out.keeps hkx (by simp)
                    have h0 := rgRows_at N i 0 (by omega)
                    have h1 := rgRows_at N i who hwn
                    have z0 : ((rgAt N 0 : Nat) : Int) = 0 := by simp [rgAt]
                    rw [z0] at h0
                    exact rBegun_any N who rb rcap i pp2 V Wx (by have := HRg.out 0 (by omega); rwa [show rgAt N 0 = 0 by simp [rgAt]] at this) (HRg.out who hwn) hV hwn hrx.lt ⟨hrx.cell (by simpa using h0.1), hrx.cell (by simpa using h0.2), hrx.cell h1.1, hrx.cell h1.2⟩
                  clear k9 r9
                  have HOv : Hid (∀ P V, (rgNew N who P V).over = none) := Lib.hid fun P V => by unfold rgNew; split; split; rfl; rfl; rfl
                  by_cases h0 : who = 0
                  · have hwz : ((who : Int) == 0) = true := by simp [h0]
                    have u90 : W9.cell? ⟨hb8, 0, none⟩ = some (.bool pp2) := by rw [h0] at u9; exact u9
                    have HZ := Lib.hid h0
                    clear h0
                    cases pp2 with
                    | true =>
                      have dy : decide ((100 : Int) ≤ (yn : Int)) = true := hpp2
                      have hwr : IntKind.u64.wrap (next + 1) = next + 1 := by show (next + 1) % 18446744073709551616 = _; omega
                      have HNx : Hid (nxG who true next = next + 1) := Lib.hid (if_pos ⟨HZ.out, rfl⟩)
                      clear hpp2
                      go_wp2_with fail
                      refine (HBg.out _ (next + 1) (by first | exact Keeps.refl _ _ | exact (Keeps.refl _ _).drew) (by have := HD.out.nx; exact ⟨by omega, by omega⟩)).mono ?_
                      rintro e w3 ⟨m3, S3, rfl, i3, k3', s3'⟩
                      have k3 : Keeps [] W9 w3 := by first | exact k3' | exact k3'.undrew
                      have s3 : ∀ x ∈ S3, W9.heap.size ≤ x := s3'
                      have hst := HD.out.start hwn (by omega) HBB.out m3 true (by omega)
                      rw [HNx.out] at hst
                      obtain ⟨g2, hD2, hg2⟩ := hst
                      have HD2 := Lib.hid hD2
                      have HG2 := Lib.hid hg2
                      have D := start_at _ L who o ⟨RgS, ringM, LoneIO ringM (rgE m3) m3, m3, rgRuns m3, rgNew N who true (next + 1)⟩ S3 W9 w3 HL9.out k3 HO.out.1 HO.out.2 i3 s3
                      rw [hLl] at D
                      have HH3 := Lib.hid (HH9.out.trans (k3.held (fun k hk => HL9.out.dom k (.inl hk)) (by simp)))
                      have HC3 := Lib.hid (HC9.out.keeps k3 (by simp))
                      have HR3 := Lib.hid (HR9.out.keeps k3 (by simp))
                      have HG : Hid ((¬ (E L.g ∨ L.g = mb ∨ L.g = hb8)) ∧ ∀ k, E k → k < w3.heap.size) := Lib.hid ⟨HL9.out.base.2.1, fun k hk => Nat.lt_of_lt_of_le (HL9.out.dom k (.inl hk)) k3.size⟩
                      clear i3 k3 k3' s3 s3' hD2 hg2
                      go_wp2_with fail
                      refine D.mono ?_
                      clear D
                      rintro e w4 ⟨rfl, hL4, k4⟩
                      have HL4 := Lib.hid hL4
                      have HH4 := Lib.hid (HH3.out.trans (k4.held HG.out.2 (fun k hk => by simp at hk; subst hk; exact fun h => HG.out.1 (.inl h))))
                      have HC4 := Lib.hid (HC3.out.keeps k4 (by simp; exact fun h => HG.out.1 (.inr (.inl h.symm))))
                      have HR4 := Lib.hid (HR3.out.keeps k4 (by simp; exact fun h => HG.out.1 (.inr (.inr h.symm))))
                      clear hL4 k4
                      go_wp2
                      go_meet
                      exact ⟨HH4.out, _, _, g2, next + 1, _, _, rfl, HL4.out, rfl, hLm, HC4.out, HR4.out, HD2.out.same rfl rfl rfl, updG_same _ _ _, HOv.out _ _, HG2.out⟩
                    | false =>
                      have dy : decide ((100 : Int) ≤ (yn : Int)) = false := hpp2
                      have HNx : Hid (nxG who false next = next) := Lib.hid (if_neg (fun h => absurd h.2 (by decide)))
                      clear hpp2
                      go_wp2_with fail
                      refine (HBg.out _ (next) (by first | exact Keeps.refl _ _ | exact (Keeps.refl _ _).drew) (by have := HD.out.nx; exact ⟨by omega, by omega⟩)).mono ?_
                      rintro e w3 ⟨m3, S3, rfl, i3, k3', s3'⟩
                      have k3 : Keeps [] W9 w3 := by first | exact k3' | exact k3'.undrew
                      have s3 : ∀ x ∈ S3, W9.heap.size ≤ x := s3'
                      have hst := HD.out.start hwn (by omega) HBB.out m3 false (by omega)
                      rw [HNx.out] at hst
                      obtain ⟨g2, hD2, hg2⟩ := hst
                      have HD2 := Lib.hid hD2
                      have HG2 := Lib.hid hg2
                      have D := start_at _ L who o ⟨RgS, ringM, LoneIO ringM (rgE m3) m3, m3, rgRuns m3, rgNew N who false (next)⟩ S3 W9 w3 HL9.out k3 HO.out.1 HO.out.2 i3 s3
                      rw [hLl] at D
                      have HH3 := Lib.hid (HH9.out.trans (k3.held (fun k hk => HL9.out.dom k (.inl hk)) (by simp)))
                      have HC3 := Lib.hid (HC9.out.keeps k3 (by simp))
                      have HR3 := Lib.hid (HR9.out.keeps k3 (by simp))
                      have HG : Hid ((¬ (E L.g ∨ L.g = mb ∨ L.g = hb8)) ∧ ∀ k, E k → k < w3.heap.size) := Lib.hid ⟨HL9.out.base.2.1, fun k hk => Nat.lt_of_lt_of_le (HL9.out.dom k (.inl hk)) k3.size⟩
                      clear i3 k3 k3' s3 s3' hD2 hg2
                      go_wp2_with fail
                      refine D.mono ?_
                      clear D
                      rintro e w4 ⟨rfl, hL4, k4⟩
                      have HL4 := Lib.hid hL4
                      have HH4 := Lib.hid (HH3.out.trans (k4.held HG.out.2 (fun k hk => by simp at hk; subst hk; exact fun h => HG.out.1 (.inl h))))
                      have HC4 := Lib.hid (HC3.out.keeps k4 (by simp; exact fun h => HG.out.1 (.inr (.inl h.symm))))
                      have HR4 := Lib.hid (HR3.out.keeps k4 (by simp; exact fun h => HG.out.1 (.inr (.inr h.symm))))
                      clear hL4 k4
                      go_wp2
                      go_meet
                      exact ⟨HH4.out, _, _, g2, next, _, _, rfl, HL4.out, rfl, hLm, HC4.out, HR4.out, HD2.out.same rfl rfl rfl, updG_same _ _ _, HOv.out _ _, HG2.out⟩
                  · have hwz : ((who : Int) == 0) = false := by simp; omega
                    have HNx : Hid (nxG who pp2 next = next) := Lib.hid (if_neg (fun h => h0 h.1))
                    clear h0
                    go_wp2_with fail
                    refine (HBg.out _ (next) (by first | exact Keeps.refl _ _ | exact (Keeps.refl _ _).drew) (by have := HD.out.nx; exact ⟨by omega, by omega⟩)).mono ?_
                    rintro e w3 ⟨m3, S3, rfl, i3, k3', s3'⟩
                    have k3 : Keeps [] W9 w3 := by first | exact k3' | exact k3'.undrew
                    have s3 : ∀ x ∈ S3, W9.heap.size ≤ x := s3'
                    have hst := HD.out.start hwn (by omega) HBB.out m3 pp2 (by omega)
                    rw [HNx.out] at hst
                    obtain ⟨g2, hD2, hg2⟩ := hst
                    have HD2 := Lib.hid hD2
                    have HG2 := Lib.hid hg2
                    have D := start_at _ L who o ⟨RgS, ringM, LoneIO ringM (rgE m3) m3, m3, rgRuns m3, rgNew N who pp2 (next)⟩ S3 W9 w3 HL9.out k3 HO.out.1 HO.out.2 i3 s3
                    rw [hLl] at D
                    have HH3 := Lib.hid (HH9.out.trans (k3.held (fun k hk => HL9.out.dom k (.inl hk)) (by simp)))
                    have HC3 := Lib.hid (HC9.out.keeps k3 (by simp))
                    have HR3 := Lib.hid (HR9.out.keeps k3 (by simp))
                    have HG : Hid ((¬ (E L.g ∨ L.g = mb ∨ L.g = hb8)) ∧ ∀ k, E k → k < w3.heap.size) := Lib.hid ⟨HL9.out.base.2.1, fun k hk => Nat.lt_of_lt_of_le (HL9.out.dom k (.inl hk)) k3.size⟩
                    clear i3 k3 k3' s3 s3' hD2 hg2
                    go_wp2_with fail
                    refine D.mono ?_
                    clear D
                    rintro e w4 ⟨rfl, hL4, k4⟩
                    have HL4 := Lib.hid hL4
                    have HH4 := Lib.hid (HH3.out.trans (k4.held HG.out.2 (fun k hk => by simp at hk; subst hk; exact fun h => HG.out.1 (.inl h))))
                    have HC4 := Lib.hid (HC3.out.keeps k4 (by simp; exact fun h => HG.out.1 (.inr (.inl h.symm))))
                    have HR4 := Lib.hid (HR3.out.keeps k4 (by simp; exact fun h => HG.out.1 (.inr (.inr h.symm))))
                    clear hL4 k4
                    go_wp2
                    go_meet
                    exact ⟨HH4.out, _, _, g2, next, _, _, rfl, HL4.out, rfl, hLm, HC4.out, HR4.out, HD2.out.same rfl rfl rfl, updG_same _ _ _, HOv.out _ _, HG2.out⟩
            -- >> begin
          obtain ⟨hhc, L2, ss2, g2, next2, hg2, s, rfl, hLc, hl2, hm2, hcc, hbc, hDc, hs2, ho2, hgl⟩ := hcut
          obtain ⟨LM, s', g', gone, hone, hmm, hDn, hout, hkd, htk, hgone⟩ := hDc.step hwn hs2 ho2 hwf (by omega)
          have D := pick_step _ who L2 LM wc hLc hone (by have := hDc.st; omega)
          rw [hl2] at D
          have HMl : Hid (LM.l = l ∧ LM.mm = m) := Lib.hid ⟨hone.l.trans hl2, hmm.trans hm2⟩
          have hnx2 := hDc.nx
          have hmbm : mb ≠ m ∧ hb8 ≠ m := ⟨HP8.out.1.2.1, HP8.out.2.1.2.1⟩
          have HHc := Lib.hid hhc
          have HCc := Lib.hid hcc
          have HBc := Lib.hid hbc
          have HDn := Lib.hid hDn
          have HOut := Lib.hid (hout.law hkd htk)
          have HGo := Lib.hid hgone
          have HLa := Lib.hid hgl
          clear hhc hcc hbc hDc hs2 ho2 hone hmm hDn hout hkd htk hgone hgl hl2 hm2 HL2 HC2 HBW2 HH2 HD HBB HO hwf
          go_wp2_with fail
          refine D.mono ?_
          clear D
          rintro e w7 ⟨rfl, hl7, hh7⟩
          have HL7 := Lib.hid hl7
          have HH7 := Lib.hid (HHc.out.trans (hh7.narrow (fun k hk => .inl hk)))
          have q7 := hh7.block mb (.inr (.inl rfl))
          have HC7 : Hid (CntX w7 mb nm cnt (dist cnt)) := Lib.hid (CntX.block HCc.out q7)
          clear q7
          have HB7c := Lib.hid (HBc.out.block (hh7.block hb8 (.inr (.inr rfl))))
          clear hl7 hh7 hLc HHc HCc HBc
          obtain ⟨hgw, hhgw⟩ : ∃ hgw, hg2 who = hgw := ⟨_, rfl⟩
          rw [hhgw] at HOut
          have HGw := Lib.hid hhgw
          clear hhgw
          rcases HOut.out with ⟨ho', rfl, hgl'⟩ | ⟨c, V, Ls, ho', hLn, hcame, hlast⟩
          · -- << goes
            as_aux_lemma =>
              have HLb : Hid (g'.last = g.last) := Lib.hid (hgl'.trans HLa.out)
              have hrs := HDn.out.crew.result _ w7 HL7.out hwn (updG_same _ _ _) (show ringM.res s' = none from ho')
              rw [HMl.out.1] at hrs
              clear hgl' ho' HOut HLa
              go_wp2_with fail
              refine hrs.mono ?_
              clear hrs
              rintro e w9 ⟨q8, c8, rfl, -, k8⟩
              obtain ⟨W9, hW9⟩ : ∃ W9, w9.alloc (.cells #[.int .i64 0, .int .u64 0, .slice q8 0 c8] 48) = W9 := ⟨_, rfl⟩
              have ka : Keeps [] w9 W9 := by rw [← hW9]; exact (Keeps.refl _ _).alloc _
              have HL9 := Lib.hid (HL7.out.keeps (k8.trans ka))
              have HC9 := Lib.hid (HC7.out.keeps (k8.trans ka) (by simp))
              have HB9 := Lib.hid (HB7c.out.keeps (k8.trans ka) (by simp))
              have HH9 := Lib.hid (HH7.out.trans ((k8.trans ka).held (fun k hk => HL7.out.dom k (.inl hk)) (by simp)))
              clear k8 ka HL7 HC7 HH7 HB7c
              go_wp2
              go_roundw
              case rel => exact ⟨k + 1, by omega, by go_num, LM, _, g', cnt, next2, hg2, nm, rfl, by rw [HLb.out], HH9.out, HL9.out, HMl.out.1, HMl.out.2, HC9.out, by omega, HB9.out, by have := HDn.out; rwa [cntAdd_nil] at this⟩
              case measure => simp [intOf]; omega
            -- >> goes
          · have hgn := RgCame_len hcame
            have HLst := Lib.hid hlast
            have HCm := Lib.hid hcame
            have hrs := HDn.out.crew.result _ w7 HL7.out hwn (updG_same _ _ _) (show ringM.res s' = some ⟨c, V, Ls⟩ from ho')
            rw [HMl.out.1] at hrs
            obtain ⟨ln, hln⟩ : ∃ ln, Ls.length = ln := ⟨_, rfl⟩
            have hrs2 : Calls Tryz.prog 14 #[.pointer (some ⟨l, 0, none⟩), .int .i64 (who : Int)] w7 fun e w' => ∃ q c0, e = .returned (.tuple #[.agg #[.int .i64 c, .int .u64 V, .slice q ln c0], .bool true]) ∧ Sl w' 1 (.slice q ln c0) ln (ints .u64 Ls) ∧ Keeps [] w7 w' := hrs.mono (by
              rintro e w' ⟨q, c0, rfl, h2, h3⟩
              have h4 := Sl.of_owns h2
              simp only [Option.getD_some, hln] at h4
              exact ⟨q, c0, by simp [hln], h4, h3⟩)
            have HLn := Lib.hid hln
            rw [hln] at hgn hLn
            clear hlast hcame HOut ho' hrs hln
            go_wp2_with fail
            refine hrs2.mono ?_
            clear hrs2
            rintro e w9 ⟨q8, c8, rfl, o8, k8⟩
            obtain ⟨W9, hW9⟩ : ∃ W9, w9.alloc (.cells #[.int .i64 c, .int .u64 V, .slice q8 ln c8] 48) = W9 := ⟨_, rfl⟩
            have ka : Keeps [] w9 W9 := by rw [← hW9]; exact (Keeps.refl _ _).alloc _
            have rb9 : Row W9 w9.heap.size 48 [.int .i64 c, .int .u64 V, .slice q8 ln c8] := by rw [← hW9]; exact Row.new _ _ _
            have r0 := rb9.cell (j := 0) rfl
            have r1 := rb9.cell (j := 1) rfl
            have r2 := rb9.cell (j := 2) rfl
            have rlt := rb9.lt
            have HL9 := Lib.hid (HL7.out.keeps (k8.trans ka))
            have HC9 := Lib.hid (HC7.out.keeps (k8.trans ka) (by simp))
            have hB9 := HB7c.out.keeps (k8.trans ka) (by simp)
            have HH9 := Lib.hid (HH7.out.trans ((k8.trans ka).held (fun k hk => HL7.out.dom k (.inl hk)) (by simp)))
            have HCame : Hid (∀ W, Keeps [] W9 W → Calls Tryz.prog 15 #[.agg #[.int .i64 c, .int .u64 V, .slice q8 ln c8], .int .i64 (who : Int), .bool hgw, .int .u64 next2] W fun e w' => ∃ gv, e = .returned (.tuple #[gv, .bool true]) ∧ w'.ownsRow W.heap.size 34 1 gv gone.length (ints .u64 gone) ∧ Keeps [] W w') := Lib.hid fun W hW => by
              have h1 := o8.below ((ka.trans hW).below (Nat.le_refl _) (by simp)) (Nat.le_refl _)
              have h2 := HLn.out
              subst h2
              exact rCame_any who hgw c V Ls q8 c8 next2 gone W h1 (by omega) HCm.out
            have u9 : W9.cell? ⟨hb8, who, none⟩ = some (.bool hgw) := by have := hB9.cell (rgBools_at i hg2 hwn); rwa [HGw.out] at this
            have HB9 := Lib.hid hB9
            clear k8 ka rb9 o8 hB9 HL7 HC7 HH7 HB7c
            have HCk := Lib.hid (fun W (k : Keeps [] W9 W) => show W.cell? ⟨w9.heap.size, 0, none⟩ = some (.int .i64 c) ∧ W.cell? ⟨w9.heap.size, 1, none⟩ = some (.int .u64 V) ∧ W.cell? ⟨w9.heap.size, 2, none⟩ = some (.slice q8 ln c8) ∧ W.cell? ⟨hb8, who, none⟩ = some (.bool hgw) from ⟨(k.cell (p := ⟨w9.heap.size, 0, none⟩) rlt (by simp)).trans r0, (k.cell (p := ⟨w9.heap.size, 1, none⟩) rlt (by simp)).trans r1, (k.cell (p := ⟨w9.heap.size, 2, none⟩) rlt (by simp)).trans r2, (k.cell (p := ⟨hb8, who, none⟩) HB9.out.lt (by simp)).trans u9⟩)
            go_wp2_with fail
            go_region_held3 (fun W => W.cell? ⟨w9.heap.size, 0, none⟩ = some (.int .i64 c) ∧ W.cell? ⟨w9.heap.size, 1, none⟩ = some (.int .u64 V) ∧ W.cell? ⟨w9.heap.size, 2, none⟩ = some (.slice q8 ln c8) ∧ W.cell? ⟨hb8, who, none⟩ = some (.bool hgw))
              (first
                | exact ⟨by assumption, by assumption, by assumption, by assumption⟩
                | exact ⟨by simp only [World.cell?_drew]; assumption, by simp only [World.cell?_drew]; assumption, by simp only [World.cell?_drew]; assumption, by simp only [World.cell?_drew]; assumption⟩
                | exact HCk.out _ hk3
                | fail)
              (first
                | (go_at_call 15; refine (HCame.out _ (by first | exact Keeps.refl _ _ | exact (Keeps.refl _ _).drew)).mono ?_; rintro e w10 ⟨gv, rfl, o10, k10'⟩; have hk3 : Keeps [] W9 w10 := by first | exact k10'.undrew | exact k10')
                | fail)
            have k10 : Keeps [] W9 w10 := by first | exact k10' | exact k10'.undrew
            have HL10 := Lib.hid (HL9.out.keeps k10)
            have HC10 := Lib.hid (HC9.out.keeps k10 (by simp))
            have HB10 := Lib.hid (HB9.out.keeps k10 (by simp))
            have HH10 := Lib.hid (HH9.out.trans (k10.held (fun k hk => HL9.out.dom k (.inl hk)) (by simp)))
            have hmb9 : mb < W9.heap.size := HC9.out.lt
            have hob : gone ≠ [] → ∀ g, gv.ownBlock = some g → g ∉ [mb] := fun hne g hg => by
              rcases o10.2 with ⟨-, h0⟩ | ⟨g2, cap, cur, h2, h3, -⟩
              · exact absurd (List.eq_nil_of_length_eq_zero h0) hne
              · rw [h2] at hg
                cases hg
                simp
                first | omega | (simp at h3; omega)
            have HS10 : Hid (∀ W, Keeps [mb] w10 W → Sl W 1 gv gone.length (ints .u64 gone)) := Lib.hid fun W hk => (Sl.of_owns o10).words hk hob
            obtain ⟨gp, gc, rfl⟩ := (Sl.of_owns o10).len
            obtain ⟨ng, hng⟩ : ∃ ng, gone.length = ng := ⟨_, rfl⟩
            rw [hng] at HS10 hgn ⊢
            have HNg := Lib.hid hng
            have HU0 : Hid (∀ W, Keeps [mb] w10 W → W.cell? ⟨hb8, 0, none⟩ = some (.bool (hg2 0))) := Lib.hid fun W hk => (HB10.out.keeps hk (by simp; exact fun h => HP8.out.2.2 h.symm)).cell (rgBools_at i hg2 (by omega))
            clear HCk
            clear k10 k10' hk3 o10 hob r0 r1 r2 rlt u9 HL9 HC9 HB9 HH9 HCame HCm hng
            go_wp2
            skip
            go_loopw [27] (fun kv wr2 => ∃ j : Nat, j ≤ ng ∧ kv = .int .i64 (j : Int) ∧ Keeps [mb] w10 wr2 ∧ CntX wr2 mb (nm + j) (cntAdd cnt (gone.take j)) (dist (cntAdd cnt (gone.take j)))) (fun kv _ => ng - (intOf kv).toNat)
            case atStart => exact ⟨0, Nat.zero_le _, rfl, Keeps.refl _ _, by rw [List.take_zero, cntAdd_nil]; exact HC10.out⟩
            case round =>
              obtain ⟨j, hj, rfl, kj, hcj⟩ := hrel
              have HCj := Lib.hid hcj
              have HKj := Lib.hid kj
              clear hcj kj
              by_cases hjl : j < ng
              · have hs := HS10.out wr HKj.out
                obtain ⟨lb, lo, lcc, he, hlb, hlc⟩ := hs.some (by omega)
                cases he
                have hjz : j < gone.length := by rw [HNg.out]; exact hjl
                have aj := hlc j _ (ints_at (k := .u64) hjz)
                obtain ⟨x, hx⟩ : ∃ x, gone.getD j 0 = x := ⟨_, rfl⟩
                have hxg : x ∈ gone := by rw [← hx, List.getD, List.getElem?_eq_getElem hjz]; exact List.getElem_mem hjz
                obtain ⟨hx1, hx2, hx3, hx4⟩ := HGo.out x hxg
                obtain ⟨hlook, hnext⟩ := cntAdd_take cnt gone hjz hx hx4 hx3
                have HX := Lib.hid hx
                have HNx := Lib.hid hnext
                rw [hx] at aj
                have hxu : M.U x := ⟨by omega, by omega⟩
                have dx1 : decide (x < 1) = false := decide_eq_false (by omega)
                have dxn : decide (next2 < x) = false := decide_eq_false (by omega)
                have ij : (j : Int) < (ng : Int) := by omega
                clear hlc hs hx hxg hnext hx3 hx4
                go_wp2_with (first
                  | (at_lookup; refine wpList_look_cnt _ rfl _ _ rfl mb (nm + j) _ rfl HCj.out.cnt x 0 rfl hxu hlook ?_)
                  | (at_mapUpdate; refine wpList_put_cntx _ rfl _ _ _ rfl mb (nm + j) _ rfl HCj.out (by unfold maxLen; omega) x 1 rfl rfl ⟨by omega, by omega⟩ (by decide) (by decide) ?_)
                  | fail)
                intro W10 hc10 k10
                have hs := HS10.out W10 (HKj.out.trans k10)
                obtain ⟨lb2, lo2, lcc2, he, hlb, hlc⟩ := hs.some (by omega)
                cases he
                have aj2 := hlc j _ (ints_at (k := .u64) hjz)
                rw [HX.out] at aj2
                have hlk2 := hc10.cnt.look hxu (updZ_same _ x 1)
                rw [HNx.out] at hc10
                have HC11 := Lib.hid hc10
                have HK11 := Lib.hid (HKj.out.trans k10)
                clear hlc hs hc10 k10 aj
                skip
                go_wp2
                go_roundw
                case rel => exact ⟨j + 1, by omega, by go_num, HK11.out, HC11.out⟩
                case measure => simp [intOf]; omega
              · obtain rfl : ng = j := by omega
                have htk : gone.take ng = gone := by rw [← HNg.out]; exact List.take_length
                have dj : decide ((ng : Int) < (ng : Int)) = false := decide_eq_false (by omega)
                have hc12 := HCj.out
                rw [htk] at hc12
                have HC12 := Lib.hid hc12
                have HL12 := Lib.hid (HL10.out.apart HKj.out (fun k hk => by simp at hk; exact .inr (.inl hk)) (by rw [HMl.out.2]; simp; exact fun h => HP8.out.1.2.1 h.symm))
                have HH12 := Lib.hid (HH10.out.trans (HKj.out.held (fun k hk => HL10.out.dom k (.inl hk)) (fun k hk => by simp at hk; subst hk; exact HP8.out.1.1)))
                have HB12 := Lib.hid (HB10.out.keeps HKj.out (by simp; exact fun h => HP8.out.2.2 h.symm))
                have u0 := HU0.out wr HKj.out
                have HSg := Lib.hid (HS10.out wr HKj.out)
                clear hc12 htk HC10 HL10 HH10 HB10 HS10 HU0 HCj HKj
                obtain ⟨hz0, hhz0⟩ : ∃ hz0, hg2 0 = hz0 := ⟨_, rfl⟩
                rw [hhz0] at u0
                by_cases hz : who = 0
                · have hwz : ((who : Int) == 0) = true := by simp [hz]
                  have hgz : hgw = hz0 := by rw [← HGw.out, hz, hhz0]
                  cases hz0 with
                  | true =>
                    have HLl : Hid (g'.last = g.last) := Lib.hid (by
                      rcases HLst.out with ⟨-, h, -⟩ | ⟨-, h⟩
                      · rw [hgz] at h; cases h
                      · rw [h, HLa.out])
                    clear hz hgz hhz0
                    go_wp2
                    go_roundw
                    case rel => exact ⟨k + 1, by omega, by go_num, LM, _, g', _, next2, hg2, nm + ng, rfl, by rw [HLl.out], HH12.out, HL12.out, HMl.out.1, HMl.out.2, HC12.out, by omega, HB12.out, HDn.out⟩
                    case measure => simp [intOf]; omega
                  | false =>
                    rcases HLst.out with ⟨-, -, ⟨hgn0, hl0⟩ | ⟨hgn1, hl1⟩⟩ | ⟨hno, -⟩
                    · have HLl : Hid (g'.last = g.last) := Lib.hid (by rw [hl0, HLa.out])
                      have hn0 : ng = 0 := by rw [← HNg.out, hgn0]; rfl
                      have dl : ((ng : Int) == 1) = false := by simp [hn0]
                      clear hz hgz hhz0 hgn0 hl0 hn0
                      go_wp2
                      go_roundw
                      case rel => exact ⟨k + 1, by omega, by go_num, LM, _, g', _, next2, hg2, nm + ng, rfl, by rw [HLl.out], HH12.out, HL12.out, HMl.out.1, HMl.out.2, HC12.out, by omega, HB12.out, HDn.out⟩
                      case measure => simp [intOf]; omega
                    · have hn1 : ng = 1 := by rw [← HNg.out, hgn1]; rfl
                      have dl : ((ng : Int) == 1) = true := by simp [hn1]
                      obtain ⟨lb, lo, lcc, he, hlb, hlc⟩ := HSg.out.some (by omega)
                      cases he
                      have a0 := hlc 0 (.int .u64 g'.last) (by rw [hgn1]; rfl)
                      have dll : decide (g'.last ≤ g.last) = false := decide_eq_false (by have := HLa.out; omega)
                      have i0 : (0 : Int) < (ng : Int) := by omega
                      simp only [Nat.add_zero] at a0
                      clear hz hgz hhz0 hgn1 hl1 hn1 hlc
                      go_wp2
                      go_roundw
                      case rel => exact ⟨k + 1, by omega, by go_num, LM, _, g', _, next2, hg2, nm + ng, rfl, rfl, HH12.out, HL12.out, HMl.out.1, HMl.out.2, HC12.out, by omega, HB12.out, HDn.out⟩
                      case measure => simp [intOf]; omega
                    · exact absurd ⟨hz, hgz⟩ hno
                · have hwz : ((who : Int) == 0) = false := by simp [hz]
                  have HLl : Hid (g'.last = g.last) := Lib.hid (by
                    rcases HLst.out with ⟨h, -⟩ | ⟨-, h⟩
                    · exact absurd h hz
                    · rw [h, HLa.out])
                  clear hz hhz0
                  go_wp2
                  go_roundw
                  case rel => exact ⟨k + 1, by omega, by go_num, LM, _, g', _, next2, hg2, nm + ng, rfl, by rw [HLl.out], HH12.out, HL12.out, HMl.out.1, HMl.out.2, HC12.out, by omega, HB12.out, HDn.out⟩
                  case measure => simp [intOf]; omega
        · -- the end
          -- << end
          as_aux_lemma =>
            have hkq : k = q + 60 * i := by omega
            have dk : decide ((k : Int) < (q : Int) + 60 * ((tn : Int) + 1)) = false := decide_eq_false (by omega)
            obtain ⟨hidle, hall, hsum⟩ := HD.out.done (by omega) hkq
            have hnx := HD.out.nx
            have hpos := HD.out.pos
            have hcrew := HD.out.crew
            have hinv := HD.out.inv
            have HBu : Hid (∀ j, j < i → ∃ o, L.ts[j]? = some o ∧ busy o = false) := Lib.hid fun j hj => by
              obtain ⟨o, h1, h2⟩ := hcrew.at hj
              exact ⟨o, h1, h2.trans (hidle j hj)⟩
            have HAl : Hid (∀ j, j < i → rgAllOf (rgAt N j : Nat) N L.us = some (rgLeft g j) ∧ (rgLeft g j).length ≤ 256 ∧ ∀ x ∈ rgLeft g j, 1 ≤ x ∧ x ≤ next ∧ (rgLeft g j).count x = 1 ∧ cntLeft cnt g j x = 0) := Lib.hid fun j hj => by
              obtain ⟨h1, h2, h3⟩ := hall j hj
              refine ⟨h1, h3, fun x hx => ?_⟩
              obtain ⟨h4, h5⟩ := h2 x hx
              have a := hsum x
              rw [if_pos ⟨h4, h5⟩] at a
              have b := hpos x
              have c := sumR_part (f := fun j => (rgLeft g j).count x) i hj
              have d := List.one_le_count_iff.2 hx
              refine ⟨h4, h5, by omega, ?_⟩
              unfold cntLeft
              omega
            have HFin : Hid (∀ v, cntLeft cnt g i v = if 1 ≤ v ∧ v ≤ next then 1 else 0) := Lib.hid hsum
            have HLen : Hid (∀ j, j < i → rgAt N j + N + 1 < L.us.length) := Lib.hid fun j hj => by
              have := hinv.mem.len
              have := rgAt_apart N hj
              unfold rgAt at *
              omega
            clear hidle hall hsum hpos hcrew hinv HD hkq
            go_wp2
            skip
            go_loopw [28] (fun iv wr => ∃ j : Nat, j ≤ i ∧ iv = .int .i64 (j : Int) ∧ Held E w8 wr ∧ Loom (fun x => E x ∨ x = mb ∨ x = hb8) wr L ∧ CntX wr mb (nm + 256 * j) (cntLeft cnt g j) (dist (cntLeft cnt g j))) (fun iv _ => i - (intOf iv).toNat)
            case atStart => exact ⟨0, Nat.zero_le _, rfl, HHr.out, HL.out, by rw [cntLeft_zero]; exact HC.out⟩
            case round =>
              obtain ⟨j, hj, rfl, hhj, hLj, hcj⟩ := hrel
              have HHj := Lib.hid hhj
              have HLj := Lib.hid hLj
              have HCj := Lib.hid hcj
              clear hhj hLj hcj HHr HL HC
              by_cases hjl : j < i
              · have dj : decide ((j : Int) ≤ (tn : Int)) = true := decide_eq_true (by omega)
                have ij : (j : Int) < (tn : Int) + 1 := by omega
                have ij2 : (j : Int) < (i : Int) := by omega
                obtain ⟨o, ho, hb⟩ := HBu.out j hjl
                have D := busy_at _ L j o wr HLj.out ho
                rw [hLl, hb] at D
                clear ho hb
                obtain ⟨hal, hfew, hmem⟩ := HAl.out j hjl
                have HMem := Lib.hid hmem
                clear hmem
                go_wp2_with fail
                refine D.mono ?_
                clear D
                rintro e w2 ⟨rfl, k2⟩
                have HL2 := Lib.hid (HLj.out.keeps k2)
                have HC2 := Lib.hid (HCj.out.keeps k2 (by simp))
                have HH2 := Lib.hid (HHj.out.trans (k2.held (fun k hk => HLj.out.dom k (.inl hk)) (by simp)))
                have hrw := HRwr.out w2 HH2.out
                have g0 := hrw.cell (rgRows_at N i j hjl).1
                have g1 := hrw.cell (rgRows_at N i j hjl).2
                have hm2 := HL2.out.mem
                rw [hLm] at hm2
                have HAll := Lib.hid (fun W (hk : Keeps [] w2 W) => rgAll_any (rgAt N j) N m L.b L.us W (hm2.keeps hk (by simp) (by simp)) (HRg.out j hjl) (by have := HLen.out j hjl; omega))
                rw [hal] at HAll
                obtain ⟨lf, hlf⟩ : ∃ lf, rgLeft g j = lf := ⟨_, rfl⟩
                have HLf := Lib.hid hlf
                rw [hlf] at HAll hfew HMem
                clear k2 hrw hm2 hal hlf HLj HCj HHj
                go_wp2_with fail
                skip
                refine (HAll.out _ (by first | exact Keeps.refl _ _ | exact (Keeps.refl _ _).drew)).mono ?_
                rintro e w16 ⟨k16', t16⟩
                have k16 : Keeps [] w2 w16 := by first | exact k16' | exact k16'.undrew
                obtain ⟨l16, rfl, o16⟩ := t16.2 _ rfl
                have hmbw : mb < w2.heap.size := HC2.out.lt
                have hob : lf ≠ [] → ∀ g, l16.ownBlock = some g → g ∉ [mb] := fun hne g hg => by
                  rcases o16.2 with ⟨-, h0⟩ | ⟨g2, cap, cur, h2, h3, -⟩
                  · exact absurd (List.eq_nil_of_length_eq_zero h0) hne
                  · rw [h2] at hg
                    cases hg
                    simp
                    first | omega | (simp at h3; omega)
                have HS16 : Hid (∀ W, Keeps [mb] w16 W → Sl W 1 l16 lf.length (ints .u64 lf)) := Lib.hid fun W hk => (Sl.of_owns o16).words hk hob
                obtain ⟨lp16, lc16, rfl⟩ := (Sl.of_owns o16).len
                obtain ⟨n16, hn16⟩ : ∃ n16, lf.length = n16 := ⟨_, rfl⟩
                rw [hn16] at HS16 hfew ⊢
                have HNl := Lib.hid hn16
                have HC16 := Lib.hid (HC2.out.keeps k16 (by simp))
                have HL16 := Lib.hid (HL2.out.keeps k16)
                have HH16 := Lib.hid (HH2.out.trans (k16.held (fun k hk => HL2.out.dom k (.inl hk)) (by simp)))
                clear k16 k16' t16 o16 hob hn16 g0 g1 HL2 HC2 HH2 HAll hmbw
                go_wp2
                go_loopw [31] (fun i2 wr2 => ∃ t : Nat, t ≤ n16 ∧ i2 = .int .i64 (t : Int) ∧ Keeps [mb] w16 wr2 ∧ CntX wr2 mb (nm + 256 * j + t) (cntAdd (cntLeft cnt g j) (lf.take t)) (dist (cntAdd (cntLeft cnt g j) (lf.take t)))) (fun i2 _ => n16 - (intOf i2).toNat)
                case atStart => exact ⟨0, Nat.zero_le _, rfl, Keeps.refl _ _, by rw [List.take_zero, cntAdd_nil]; exact HC16.out⟩
                case round =>
                  obtain ⟨t, ht, rfl, kt, hct⟩ := hrel
                  have HCt := Lib.hid hct
                  have HKt := Lib.hid kt
                  clear hct kt
                  by_cases htl : t < n16
                  · have hs := HS16.out wr HKt.out
                    obtain ⟨lb, lo, lcc, he, hlb, hlc⟩ := hs.some (by omega)
                    cases he
                    have hjz : t < lf.length := by rw [HNl.out]; exact htl
                    have aj := hlc t _ (ints_at (k := .u64) hjz)
                    obtain ⟨x, hx⟩ : ∃ x, lf.getD t 0 = x := ⟨_, rfl⟩
                    have hxg : x ∈ lf := by rw [← hx, List.getD, List.getElem?_eq_getElem hjz]; exact List.getElem_mem hjz
                    obtain ⟨hx1, hx2, hx3, hx4⟩ := HMem.out x hxg
                    obtain ⟨hlook, hnext⟩ := cntAdd_take (cntLeft cnt g j) lf hjz hx hx3 hx4
                    have HNx := Lib.hid hnext
                    rw [hx] at aj
                    have hxu : M.U x := ⟨by omega, by omega⟩
                    have it : (t : Int) < (n16 : Int) := by omega
                    clear hlc hs hx hxg hnext hx3 hx4
                    go_wp2_with (first
                      | (at_lookup; refine wpList_look_cnt _ rfl _ _ rfl mb (nm + 256 * j + t) _ rfl HCt.out.cnt x 0 rfl hxu hlook ?_)
                      | (at_mapUpdate; refine wpList_put_cntx _ rfl _ _ _ rfl mb (nm + 256 * j + t) _ rfl HCt.out (by unfold maxLen; omega) x 1 rfl rfl ⟨by omega, by omega⟩ (by decide) (by decide) ?_)
                      | fail)
                    intro W10 hc10 k10
                    rw [HNx.out] at hc10
                    have HC11 := Lib.hid hc10
                    have HK11 := Lib.hid (HKt.out.trans k10)
                    clear hc10 k10 aj
                    go_wp2
                    go_roundw
                    case rel => exact ⟨t + 1, by omega, by go_num, HK11.out, HC11.out⟩
                    case measure => simp [intOf]; omega
                  · obtain rfl : n16 = t := by omega
                    have dt : decide ((n16 : Int) < (n16 : Int)) = false := decide_eq_false (by omega)
                    have htk : lf.take n16 = lf := by rw [← HNl.out]; exact List.take_length
                    have hc12 := HCt.out
                    rw [htk, ← HLf.out, cntLeft_succ] at hc12
                    have HC12 := Lib.hid (hc12.mono (show nm + 256 * j + n16 ≤ nm + 256 * (j + 1) by omega))
                    have HL12 := Lib.hid (HL16.out.apart HKt.out (fun k hk => by simp at hk; exact .inr (.inl hk)) (by rw [hLm]; simp; exact fun h => HP8.out.1.2.1 h.symm))
                    have HH12 := Lib.hid (HH16.out.trans (HKt.out.held (fun k hk => HL16.out.dom k (.inl hk)) (fun k hk => by simp at hk; subst hk; exact HP8.out.1.1)))
                    clear hc12 htk
                    go_wp2
                    go_roundw
                    case rel => exact ⟨j + 1, by omega, by go_num, HH12.out, HL12.out, HC12.out⟩
                    case measure => simp [intOf]; omega
              · obtain rfl : i = j := by omega
                have dj : decide ((i : Int) ≤ (tn : Int)) = false := decide_eq_false (by omega)
                obtain ⟨nx, rfl⟩ : ∃ nx : Nat, next = (nx : Int) := ⟨next.toNat, by omega⟩
                have hF1 : ∀ v : Int, 1 ≤ v → v ≤ (nx : Int) → cntLeft cnt g i v = 1 := fun v h1 h2 => by rw [HFin.out, if_pos ⟨h1, h2⟩]
                have HF1 := Lib.hid hF1
                have hds : dist (cntLeft cnt g i) = nx := dist_all (by omega) HFin.out
                have hcw := HCj.out
                rw [hds] at hcw
                have HCw := Lib.hid hcw
                clear hF1 hds hcw HCj
                go_wp2
                skip
                go_loopw [32] (fun v2 wr3 => ∃ v : Nat, 1 ≤ v ∧ v ≤ nx + 1 ∧ v2 = .int .u64 (v : Int) ∧ wr3 = wr) (fun v2 _ => nx + 1 - (intOf v2).toNat)
                case atStart => exact ⟨1, Nat.le_refl _, by omega, rfl, rfl⟩
                case round =>
                  obtain ⟨v, hv1, hv2, rfl, rfl⟩ := hrel
                  by_cases hvn : v ≤ nx
                  · have hvU : M.U (v : Int) := ⟨by omega, by omega⟩
                    have hfin := HF1.out v (by omega) (by omega)
                    have dv : decide ((v : Int) ≤ (nx : Int)) = true := decide_eq_true (by omega)
                    have hwv : IntKind.u64.wrap ((v : Int) + 1) = (v : Int) + 1 := by show ((v : Int) + 1) % 18446744073709551616 = _; omega
                    go_wp2_with (first
                      | (at_lookup; refine wpList_look_cnt _ rfl _ _ rfl mb (nm + 256 * i) _ rfl HCw.out.cnt (v : Int) 1 rfl hvU hfin ?_)
                      | fail)
                    go_roundw
                    case rel => exact ⟨v + 1, by omega, by omega, by go_num, by first | rfl | trivial⟩
                    case measure => simp [intOf]; omega
                  · have dv : decide ((v : Int) ≤ (nx : Int)) = false := decide_eq_false (by omega)
                    have hwn2 : IntKind.i64.wrap (nx : Int) = (nx : Int) := IntWalk.i64_in _ (by omega)
                    go_wp2_with (first | (at_len; refine wpList_len_cntx _ rfl _ rfl mb _ nx _ rfl HCw.out ?_) | fail)
                    go_ret
                    exact ⟨by first | rfl | simp, HB8.out.trans (Held.below (HHj.out.narrow (E := (· < B)) (fun k hk => HE.out.1 k hk)))⟩
          -- >> end

set_option maxRecDepth 100000 in
theorem lifted (os : Os) (started : os.Started) (H : Type) (enc : TypeId × Value → H) :
    ReturnsInHanded {} Tryz.checked os 3 .any (Rows.ringPlaysSpec.pre6 enc Tryz.prog Tryz.f3 Rows.ringPlaysRow.domain false) (Rows.ringPlaysSpec.post enc Tryz.prog Tryz.f3 false true false false) := by
  refine returnsInHanded_of_change (C := Tryz.checked) own started (by kernel_rfl) Tryz.func3
    (ChangeSpec.witness6 (enc := enc) (C := Tryz.checked) false ⟨#[], #[.int .i64 0, .int .i64 0, .int .u32 0, .slice none 0 0], []⟩ 8 (by kernel_rfl) (by kernel_rfl) (by kernel_rfl) (by kernel_rfl)) ?_
  intro W base args ds gs before hval0 hW hcnd _
  have hval : ∀ (j : Nat) t v, Tryz.f3.params[j]? = some t → args[j]? = some v → Value.okWide Tryz.prog W .any base t v := hval0
  have hW' := hW
  obtain ⟨p, q, hA0, hV, rfl, hfz, hnd⟩ := hW
  have hA : DataW.TrodAll enc Tryz.prog W 0 (fun _ => true) true Tryz.f3.params.toList args.toList ds p := hA0
  rw [Tryz.params3] at hA hval
  obtain ⟨v0, vs0, d0, ds0, q0, qs0, hargs, rfl, rfl, h0, r0⟩ := trodAll_cons hA
  obtain ⟨v1, vs1, d1, ds1, q1, qs1, rfl, rfl, rfl, h1, r1⟩ := trodAll_cons r0
  obtain ⟨v2, vs2, d2, ds2, q2, qs2, rfl, rfl, rfl, h2, r2⟩ := trodAll_cons r1
  obtain ⟨v3, vs3, d3, ds3, q3, qs3, rfl, rfl, rfl, h3, r3⟩ := trodAll_cons r2
  obtain ⟨rfl, rfl, rfl⟩ := trodAll_nil r3
  obtain rfl : args = #[v0, v1, v2, v3] := by cases args; simp_all
  obtain ⟨rfl, rfl⟩ := trodVars_none hV
  obtain ⟨a0, rfl, rfl, rfl, w0⟩ := open_int Tryz.underlying3 (hval 0 3 v0 rfl rfl) h0
  obtain ⟨a1, rfl, rfl, rfl, w1⟩ := open_int Tryz.underlying3 (hval 1 3 v1 rfl rfl) h1
  obtain ⟨a2, rfl, rfl, rfl, w2⟩ := open_int Tryz.underlying22 (hval 2 22 v2 rfl rfl) h2
  obtain ⟨p3, n3, c3, rfl⟩ := okWide_slice Tryz.underlying23 (hval 3 23 v3 rfl rfl)
  have k3 := h3
  have lt3 : ∀ x ∈ q3, x.block < W.heap.size := by obtain ⟨m, hm⟩ := k3; exact DataW.trod_lt m _ _ _ hm
  obtain ⟨z3, s3, m3, b3⟩ := (by obtain ⟨fu, hf⟩ := h3; exact sl_ints Tryz.underlying23 Tryz.underlying5 (by kernel_rfl) hf : ∃ zs : List Int, Sl W 1 (.slice p3 n3 c3) n3 (ints .u8 zs) ∧ n3 ≤ maxLen ∧ ∀ z ∈ zs, (Lit.int .u8 z).wf = true)
  clear hA0 hval0
  simp only [List.append_nil] at hW'
  refine (walk a0 a1 a2 p3 n3 c3 z3 W w0 w1 w2 s3 m3 b3).mono fun e W' ⟨he, bel⟩ => ?_
  subst he
  exact ⟨_, rfl, _, _, _, [], _, [], hW', trodAll_mk1 (shut_bool Tryz.underlying4 _), (trodAll_cons_mk (shut_int Tryz.underlying3 w0) (trodAll_cons_mk (shut_int Tryz.underlying3 w1) (trodAll_cons_mk (shut_int Tryz.underlying22 w2) (trodAll_cons_mk (Below.trod laidOut (by kernel_rfl) (of_decide_eq_true (by kernel_rfl)) k3 bel lt3) trodAll_mk0)))), rfl, bel.frame _, fun h => by cases h⟩

theorem proved : Rows.RingPlaysSaid :=
  OpenClaim.holds_of_wide 3 Tryz.f3 rfl rfl rfl rfl rfl rfl rfl ⟨rfl, rfl, rfl, rfl, rfl⟩ rfl rfl rfl rfl rfl (by kernel_rfl) Tryz.func3 (by kernel_rfl)
    (of_decide_eq_true (by kernel_rfl)) (by unfold Func.isWrapper; first | (rw [if_pos (by decide +kernel)]; kernel_rfl) | (rw [if_neg (by decide +kernel)]; exact ⟨rfl, rfl⟩))
    (fun os started H enc _ => lifted os started H enc)
#print axioms proved
end Go.Proofs.YtjbgkaleickknaaGreat.ringPlays
