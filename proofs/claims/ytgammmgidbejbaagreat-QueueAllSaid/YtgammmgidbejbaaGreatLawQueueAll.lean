/-
  The law QueueAll of the statements holds for every input: the call returns true, and the arguments read as before.
-/
import Derived.Test.YtgammmgidbejbaaGreatQuC
import Derived.Test.YtgammmgidbejbaaGreatQuF
import Derived.Test.YtgammmgidbejbaaGreatRef9a
import Derived.Test.YtgammmgidbejbaaGreatOpenA
import Derived.Test.YtgammmgidbejbaaGreatLook
import Derived.Test.YtgammmgidbejbaaGreatOpen
import Derived.Test.YtgammmgidbejbaaGreatAcc
import Derived.Test.YtgammmgidbejbaaGreatMem3
import Derived.Test.YtgammmgidbejbaaGreatRows
import Derived.WalkKit
import Derived.ProofKit
import Derived.OpenShut
import Derived.ShutString
import Derived.ChangeOld
import Derived.Below
import Derived.Test.YtgammmgidbejbaaGreatOpen
namespace Go.Proofs.YtgammmgidbejbaaGreat.queueAll
open Go.ChangeShapes Go.WideShapes Go.ChangeAt Go.RowKit
open Go.ChangeMaps (open_string shut_string)
set_option linter.unusedVariables false
set_option linter.unusedSimpArgs false

theorem own : ownKnob Tryz.prog.godebug = none := by kernel_rfl
theorem laidOut : laidOutB Tryz.prog = true := by kernel_rfl

-- caps
theorem fill_all (us zs : List Int) (h : us.length = zs.length) : C.fill us zs = zs := by
  unfold C.fill
  rw [if_neg (by omega)]
  simp [← h]
/-- What is in a queue depends on its cells alone. -/
theorem follow_sub (a n : Nat) (us : List Int) (hl : a + 3 * n + 2 < us.length) : ∀ (f : Nat) (i : Int) (l : List Int), 0 ≤ i → quFollow ((us.drop a).take (3 * n + 3)) 0 n f i l = quFollow us a n f i l
  | 0, i, l, h0 => rfl
  | f + 1, i, l, h0 => by
    have hg : ∀ j, j < 3 * n + 3 → ((us.drop a).take (3 * n + 3)).getD j 0 = us.getD (a + j) 0 := fun j hj => by
      simp [List.getD, List.getElem?_take, hj, List.getElem?_drop]
    unfold quFollow
    by_cases hz : i = 0
    · rw [if_pos hz, if_pos hz]
    · rw [if_neg hz, if_neg hz]
      by_cases hr : 1 ≤ i ∧ i ≤ n
      · rw [if_pos hr, if_pos hr]
        have e1 : quNx ((us.drop a).take (3 * n + 3)) 0 n i = quNx us a n i := by
          unfold quNx; rw [hg _ (by omega)]; congr 2; omega
        have e2 : quTk ((us.drop a).take (3 * n + 3)) 0 n i = quTk us a n i := by
          unfold quTk; rw [hg _ (by omega)]; congr 1; omega
        rw [e1, e2]
        exact follow_sub a n us hl f _ _ (quNode_nn _).1
      · rw [if_neg hr, if_neg hr]
theorem allOf_sub (a n : Nat) (us : List Int) (hl : a + 3 * n + 2 < us.length) : quAllOf ((us.drop a).take (3 * n + 3)) 0 n = quAllOf us a n := by
  have hg : ∀ j, j < 3 * n + 3 → ((us.drop a).take (3 * n + 3)).getD j 0 = us.getD (a + j) 0 := fun j hj => by
    simp [List.getD, List.getElem?_take, hj, List.getElem?_drop]
  unfold quAllOf
  rw [hg 0 (by omega), Nat.add_zero]
  by_cases hr : 1 ≤ quNode (us.getD a 0) ∧ quNode (us.getD a 0) ≤ n
  · rw [if_pos hr, if_pos hr, follow_sub a n us hl _ _ _ (show 0 ≤ quNx _ _ _ _ from (quNode_nn _).1)]
    have e1 : quNx ((us.drop a).take (3 * n + 3)) 0 n (quNode (us.getD a 0)) = quNx us a n (quNode (us.getD a 0)) := by
      unfold quNx; rw [hg _ (by omega)]; congr 2; omega
    rw [e1]
  · rw [if_neg hr, if_neg hr]
theorem follow_len (us : List Int) (a n : Nat) : ∀ (f : Nat) (i : Int) (l xs : List Int), quFollow us a n f i l = some xs → xs.length ≤ l.length + f
  | 0, i, l, xs, h => by
    unfold quFollow at h
    split at h
    · cases h; omega
    · cases h
  | f + 1, i, l, xs, h => by
    unfold quFollow at h
    split at h
    · cases h; omega
    · split at h
      · have := follow_len us a n f _ _ _ h; simp at this; omega
      · cases h
theorem allOf_len (a n : Nat) (us xs : List Int) (h : quAllOf us a n = some xs) : xs.length ≤ n := by
  unfold quAllOf at h
  split at h
  · have := follow_len us a n _ _ _ _ h; simp at this; omega
  · cases h

set_option maxHeartbeats 12800000 in
set_option maxRecDepth 200000 in
theorem walk (pp : Option Addr) (q cp : Nat) (zs : List Int) (at_ N : Int) (w : World) (hsl : Sl w 1 (.slice pp q cp) q (ints .u64 zs)) (hq : q ≤ maxLen) (hz : ∀ z ∈ zs, (Lit.int .u64 z).wf = true) (hcap : q ≤ cp ∧ cp ≤ maxLen)
    (haw : (Lit.int .i64 at_).wf = true) (hsw : (Lit.int .i64 N).wf = true) :
    Calls Tryz.prog 5 #[.slice pp q cp, .agg #[.int .i64 at_, .int .i64 N]] w fun e w' => e = .returned (.bool true) ∧ Below w.heap.size w w' := by
  have HSl := Lib.hid hsl
  have hzl := hsl.ints_len
  have HZ : Hid (∀ z ∈ zs, M.U z) := Lib.hid fun z h => M.U.wf (hz z h)
  have bs := bounds_i64 hsw
  have ba := bounds_i64 haw
  unfold maxLen at hq hcap
  clear hsl hz haw hsw
  obtain ⟨W0, hW0⟩ : ∃ W0, w.alloc (.cells #[.int .i64 at_, .int .i64 N] 23) = W0 := ⟨_, rfl⟩
  have HB0 : Hid (Box W0 w.heap.size #[.int .i64 at_, .int .i64 N]) := Lib.hid (by rw [← hW0]; exact Box.new _ _ _)
  have HK0 : Hid (Keeps [] w W0) := Lib.hid (by rw [← hW0]; exact (Keeps.refl _ _).alloc _)
  go_enter Tryz.func5, Tryz.ntmps5
  go_wp2_with fail
  clear hW0
  refine (awake9 W0).mono ?_
  rintro e w1 ⟨rfl, k1⟩
  have kk1 : Keeps [] W0 w1 := ⟨k1.os, k1.tape, k1.output, k1.size, fun k hk _ => k1.block k hk⟩
  have HB1 := Lib.hid (HB0.out.keeps kk1 (by simp))
  have HK1 := Lib.hid (HK0.out.trans kk1)
  clear k1 kk1 HK0 HB0
  obtain ⟨ab, hab⟩ : ∃ ab, w.heap.size = ab := ⟨_, rfl⟩
  have HAB := Lib.hid hab
  rw [hab] at HB1 ⊢
  have hablt := HB1.out.lt
  clear hab
  by_cases h1 : q < 1
  · have d1 : decide ((q : Int) < 1) = true := decide_eq_true (by omega)
    go_wp2
    go_ret
    exact ⟨rfl, HK1.out.end⟩
  have d1 : decide ((q : Int) < 1) = false := decide_eq_false (by omega)
  by_cases h2 : 120 < q
  · have d2 : decide (120 < (q : Int)) = true := decide_eq_true (by omega)
    go_wp2
    go_ret
    exact ⟨rfl, HK1.out.end⟩
  have d2 : decide (120 < (q : Int)) = false := decide_eq_false (by omega)
  have NA := Lib.hid (new_any q w1 (by omega) (by omega))
  go_wp2_with fail
  refine NA.out.mono ?_
  rintro e w2 ⟨m, b, rfl, hM, k2, hm, hb⟩
  have HM2 := Lib.hid hM
  have HK2 := Lib.hid k2
  clear hM k2 NA
  go_wp2_with fail
  refine (fill_any m b _ zs _ q w2 HM2.out (HSl.out.below (HK1.out.trans HK2.out).end (Nat.le_refl _)) HZ.out (by unfold maxLen; omega)).mono ?_
  rintro e w3 ⟨rfl, hM3, k3⟩
  rw [fill_all _ zs (by simp; omega)] at hM3
  have HM3 := Lib.hid hM3
  have HK3 : Hid (Keeps [] w1 w3) := Lib.hid (HK2.out.step k3 (by intro k hk; simp at hk; omega))
  have b3 := HB1.out.keeps HK3.out (by simp)
  have c0 := b3.cells 0
  have c1 := b3.cells 1
  simp at c0 c1
  clear hM3 k3 HM2 HK2 b3
  have HRR := Lib.hid (fun W => refRight9_any at_ N W)
  have HNil := Lib.hid (fun W => quAll_nil at_ N W)
  have HBx : Hid (∀ W, Keeps [] w3 W → W.cell? ⟨ab, 0, none⟩ = some (.int .i64 at_) ∧ W.cell? ⟨ab, 1, none⟩ = some (.int .i64 N)) := Lib.hid fun W hk =>
    ⟨(hk.cell (p := ⟨ab, 0, none⟩) (Nat.lt_of_lt_of_le hablt HK3.out.size) (by simp)).trans c0, (hk.cell (p := ⟨ab, 1, none⟩) (Nat.lt_of_lt_of_le hablt HK3.out.size) (by simp)).trans c1⟩
  have hzq : zs.length = q := hzl
  by_cases hr : quRight at_ N
  · obtain ⟨r1, r2, r3, r4⟩ := hr
    obtain ⟨a, rfl⟩ := Int.eq_ofNat_of_zero_le r3
    obtain ⟨sz, rfl⟩ := Int.eq_ofNat_of_zero_le (show 0 ≤ N by omega)
    have hrr : quRight (a : Int) (sz : Int) := ⟨r1, r2, r3, r4⟩
    have hsz4 : sz ≤ 4096 := by omega
    have ha6 : a < 65536 := by omega
    rw [decide_eq_true hrr] at HRR
    have w62 : IntKind.i64.wrap (3 * (sz : Int)) = 3 * (sz : Int) := IntWalk.i64_in _ (by omega)
    have w63 : IntKind.i64.wrap ((a : Int) + 3 * (sz : Int)) = (a : Int) + 3 * (sz : Int) := IntWalk.i64_in _ (by omega)
    have w64 : IntKind.i64.wrap ((a : Int) + 3 * (sz : Int) + 2) = (a : Int) + 3 * (sz : Int) + 2 := IntWalk.i64_in _ (by omega)
    have w65 : IntKind.i64.wrap ((a : Int) + 3 * (sz : Int) + 3) = (a : Int) + 3 * (sz : Int) + 3 := IntWalk.i64_in _ (by omega)
    by_cases hl : (q : Int) ≤ (a : Int) + 3 * sz + 2
    · have d3 : decide ((q : Int) ≤ (a : Int) + 3 * (sz : Int) + 2) = true := decide_eq_true hl
      have HA := Lib.hid (quAll_refused m b zs a sz 3 w3 HM3.out (by rw [if_pos hrr, if_pos (by omega)]) (by decide))
      clear r4
      go_wp2_with fail
      refine HA.out.mono ?_
      rintro e w4 ⟨rfl, k4⟩
      obtain ⟨b40, b41⟩ := HBx.out w4 k4
      have HK4 := Lib.hid k4
      clear k4
      go_wp2_with fail
      refine (HNil.out w4).mono ?_
      rintro e w5 ⟨rfl, k5⟩
      obtain ⟨b50, b51⟩ := HBx.out w5 (HK4.out.trans k5)
      have HK5 := Lib.hid (HK4.out.trans k5)
      clear k5
      go_wp2_with fail
      refine (HRR.out w5).mono ?_
      rintro e w6 ⟨rfl, rfl⟩
      go_wp2
      go_ret
      exact ⟨rfl, ((HK1.out.trans HK3.out).trans HK5.out).end⟩
    · have d3 : decide ((q : Int) ≤ (a : Int) + 3 * (sz : Int) + 2) = false := decide_eq_false hl
      have HA := Lib.hid (quAll_any m b a sz zs w3 HM3.out hrr (by omega))
      obtain ⟨sb, so, hpp, hsb, hsc⟩ : ∃ sb so, pp = some ⟨sb, so, none⟩ ∧ sb < w.heap.size ∧ ∀ j u, (ints .u64 zs)[j]? = some u → w.cell? ⟨sb, so + j, none⟩ = some u := by
        rcases HSl.out.2 with ⟨p', c', -, h0⟩ | ⟨b', off', cap', hv, hb', hc'⟩
        · omega
        · cases hv; exact ⟨b', off', rfl, hb', hc'⟩
      subst hpp
      have HU : Hid (∀ i : Nat, i < zs.length → M.U (zs.getD i 0)) := Lib.hid fun i hi => HZ.out _ (by simp [List.getD, hi])
      obtain ⟨us, hus⟩ : ∃ us, (zs.drop a).take (3 * sz + 3) = us := ⟨_, rfl⟩
      have hul : us.length = 3 * sz + 3 := by rw [← hus]; simp; omega
      have hug : ∀ j : Nat, j < us.length → us.getD j 0 = zs.getD (a + j) 0 := fun j hj => by rw [← hus]; simp [List.getD, List.getElem?_take, show j < 3 * sz + 3 by omega, List.getElem?_drop]
      have hO : quAllOf us 0 sz = quAllOf zs a sz := by rw [← hus]; exact allOf_sub a sz zs (by omega)
      obtain ⟨O, hOO⟩ : ∃ O, quAllOf zs a sz = O := ⟨_, rfl⟩
      have HOL : Hid (∀ xs, O = some xs → xs.length ≤ 4096) := Lib.hid fun xs h => Nat.le_trans (allOf_len a sz zs xs (hOO.trans h)) hsz4
      rw [hOO] at HA hO
      have HRA : Hid (∀ W, Keeps [] w W → Calls Tryz.prog 27 #[.slice (some ⟨sb, so + a, none⟩) (3 * sz + 3) (cp - a), .int .i64 (sz : Int)] W fun e w' => Keeps [] W w' ∧ refTold9 W w' e O) := Lib.hid fun W hk => by
        rw [← hO]
        refine refAll9_any _ us sz W ⟨by rw [ints_length, hul]; omega, .inr ⟨sb, so + a, cp - a, by rw [hul], Nat.lt_of_lt_of_le hsb hk.size, fun j u hu => ?_⟩⟩ hul (by omega) hsz4 (fun u hu => ?_)
        · have hj : j < us.length := by have := (List.getElem?_eq_some_iff.1 hu).1; rwa [ints_length] at this
          have hu' := ints_at (k := .u64) hj
          rw [hu'] at hu
          cases hu
          rw [hug j hj]
          refine (hk.cell (p := ⟨sb, so + a + j, none⟩) hsb (by simp)).trans ?_
          have := hsc (a + j) (.int .u64 (zs.getD (a + j) 0)) (by simp [ints, List.getD, show a + j < zs.length by omega])
          rwa [← Nat.add_assoc] at this
        · obtain ⟨j, hj, rfl⟩ := List.getElem_of_mem hu
          have := hug j hj
          rw [List.getD, List.getElem?_eq_getElem hj] at this
          simp only [Option.getD_some] at this
          rw [this]
          exact HU.out _ (by omega)
      clear hus hul hug hO hOO hsc r4
      have hca : (cp = a) = False := eq_false (by omega)
      have hac : a ≤ cp := by omega
      have x1 : (a : Int) + 3 * (sz : Int) + 3 ≤ (cp : Int) := by omega
      have x2 : (a : Int) ≤ (a : Int) + 3 * (sz : Int) + 3 := by omega
      have x3 : 0 ≤ (a : Int) + 3 * (sz : Int) + 3 := by omega
      have x4 : ((a : Int) + 3 * (sz : Int) + 3).toNat = a + 3 * sz + 3 := by omega
      have x5 : a + 3 * sz + 3 ≤ cp := by omega
      have x6 : a ≤ a + 3 * sz + 3 := by omega
      go_wp2_with fail
      refine HA.out.mono ?_
      rintro e w4 ⟨k4, ht4⟩
      obtain ⟨b40, b41⟩ := HBx.out w4 k4
      have HK4 := Lib.hid k4
      have HTo : Hid ((∃ lo nn, e = .returned (.tuple #[lo, .int .i64 9]) ∧ O = none ∧ lo = .slice none 0 0 ∧ nn = (0 : Nat)) ∨ ∃ xs p4 c4, O = some xs ∧ e = .returned (.tuple #[.slice p4 xs.length c4, .int .i64 0]) ∧ w4.ownsRow w3.heap.size 64 1 (.slice p4 xs.length c4) xs.length (ints .u64 xs)) := Lib.hid (by
        cases hO : O with
        | none => exact .inl ⟨_, 0, ht4.1 hO, rfl, rfl, rfl⟩
        | some xs =>
          obtain ⟨l4, e4, o4⟩ := ht4.2 xs hO
          obtain ⟨p4, c4, rfl⟩ := (Sl.of_owns o4).len
          exact .inr ⟨xs, p4, c4, rfl, e4, o4⟩)
      clear k4 ht4
      rcases HTo.out with ⟨lo, nn, rfl, hO, rfl, -⟩ | ⟨xs, p4, c4, hO, rfl, o4⟩
      · go_wp2_with fail
        refine (HNil.out w4).mono ?_
        rintro e w5 ⟨rfl, k5⟩
        obtain ⟨b50, b51⟩ := HBx.out w5 (HK4.out.trans k5)
        have HK5 := Lib.hid (HK4.out.trans k5)
        clear k5
        go_wp2_with fail
        refine (HRR.out w5).mono ?_
        rintro e w6 ⟨rfl, rfl⟩
        go_wp2
        have hkd := ((HK1.out.trans HK3.out).trans HK5.out).drew
        go_region_held3 (fun w' => w'.cell? ⟨ab, 0, none⟩ = some (.int .i64 (a : Int)) ∧ w'.cell? ⟨ab, 1, none⟩ = some (.int .i64 (sz : Int)))
          (first
            | exact HBx.out _ hk7
            | exact ⟨b50, b51⟩
            | fail)
          (first
            | (go_at_call 27; (try rw [show a + 3 * sz + 3 - a = 3 * sz + 3 by omega]); refine (HRA.out _ hkd).mono ?_; rintro e w7 ⟨k7', t7⟩; have k7 := k7'.undrew; have hk7 := HK5.out.trans k7; obtain rfl := t7.1 hO; clear k7' t7)
            | fail)
        have HK7 := Lib.hid (HK5.out.trans k7)
        clear k7 hk7 hkd
        go_wp2
        go_ret
        exact ⟨rfl, ((HK1.out.trans HK3.out).trans HK7.out).end⟩
      · have hxl := HOL.out xs hO
        have HO4 := Lib.hid o4
        clear o4
        go_wp2_with fail
        refine (HNil.out w4).mono ?_
        rintro e w5 ⟨rfl, k5⟩
        obtain ⟨b50, b51⟩ := HBx.out w5 (HK4.out.trans k5)
        have HO5 := Lib.hid (owns_keeps HO4.out k5 (by simp))
        have HK5 := Lib.hid (HK4.out.trans k5)
        clear k5
        go_wp2_with fail
        refine (HRR.out w5).mono ?_
        rintro e w6 ⟨rfl, rfl⟩
        go_wp2
        have hkd := ((HK1.out.trans HK3.out).trans HK5.out).drew
        go_region_held3 (fun w' => w'.cell? ⟨ab, 0, none⟩ = some (.int .i64 (a : Int)) ∧ w'.cell? ⟨ab, 1, none⟩ = some (.int .i64 (sz : Int)))
          (first
            | exact HBx.out _ hk7
            | exact ⟨b50, b51⟩
            | fail)
          (first
            | (go_at_call 27; (try rw [show a + 3 * sz + 3 - a = 3 * sz + 3 by omega]); refine (HRA.out _ hkd).mono ?_; rintro e w7 ⟨k7', t7⟩; have k7 := k7'.undrew; have hk7 := HK5.out.trans k7; obtain ⟨l7, rfl, o7⟩ := t7.2 xs hO; clear k7' t7)
            | fail)
        have HS7 := Lib.hid (sameWords_any _ _ _ _ xs xs w7 (by unfold maxLen; omega) (by unfold maxLen; omega) (Sl.of_owns (owns_keeps HO5.out k7 (by simp))) (Sl.of_owns o7))
        have HK7 := Lib.hid (HK5.out.trans k7)
        clear k7 hk7 hkd o7
        go_wp2_with fail
        refine HS7.out.mono ?_
        rintro e w8 ⟨rfl, nd, rfl⟩
        rw [show decide True = true from rfl]
        go_wp2
        go_ret
        exact ⟨rfl, ((HK1.out.trans HK3.out).trans HK7.out.drewN).end⟩
  · rw [decide_eq_false hr] at HRR
    have HA := Lib.hid (quAll_refused m b zs at_ N 2 w3 HM3.out (by rw [if_neg hr]) (by decide))
    clear hr
    go_wp2_with fail
    refine HA.out.mono ?_
    rintro e w4 ⟨rfl, k4⟩
    obtain ⟨b40, b41⟩ := HBx.out w4 k4
    have HK4 := Lib.hid k4
    clear k4
    go_wp2_with fail
    refine (HNil.out w4).mono ?_
    rintro e w5 ⟨rfl, k5⟩
    obtain ⟨b50, b51⟩ := HBx.out w5 (HK4.out.trans k5)
    have HK5 := Lib.hid (HK4.out.trans k5)
    clear k5
    go_wp2_with fail
    refine (HRR.out w5).mono ?_
    rintro e w6 ⟨rfl, rfl⟩
    go_wp2
    go_ret
    exact ⟨rfl, ((HK1.out.trans HK3.out).trans HK5.out).end⟩

set_option maxRecDepth 100000 in
theorem lifted (os : Os) (started : os.Started) (H : Type) (enc : TypeId × Value → H) :
    ReturnsInHanded {} Tryz.checked os 5 .any (Rows.queueAllSpec.pre6 enc Tryz.prog Tryz.f5 Rows.queueAllRow.domain false) (Rows.queueAllSpec.post enc Tryz.prog Tryz.f5 false true false false) := by
  refine returnsInHanded_of_change (C := Tryz.checked) own started (by kernel_rfl) Tryz.func5
    (ChangeSpec.witness6 (enc := enc) (C := Tryz.checked) false ⟨#[], #[.slice none 0 0, .agg #[.int .i64 0, .int .i64 0]], []⟩ 8 (by kernel_rfl) (by kernel_rfl) (by kernel_rfl) (by kernel_rfl)) ?_
  intro W base args ds gs before hval0 hW hcnd _
  have hval : ∀ (j : Nat) t v, Tryz.f5.params[j]? = some t → args[j]? = some v → Value.okWide Tryz.prog W .any base t v := hval0
  have hW' := hW
  obtain ⟨p, q, hA0, hV, rfl, hfz, hnd⟩ := hW
  have hA : DataW.TrodAll enc Tryz.prog W 0 (fun _ => true) true Tryz.f5.params.toList args.toList ds p := hA0
  rw [Tryz.params5] at hA hval
  obtain ⟨v0, vs0, d0, ds0, q0, qs0, hargs, rfl, rfl, h0, r0⟩ := trodAll_cons hA
  obtain ⟨v1, vs1, d1, ds1, q1, qs1, rfl, rfl, rfl, h1, r1⟩ := trodAll_cons r0
  obtain ⟨rfl, rfl, rfl⟩ := trodAll_nil r1
  obtain rfl : args = #[v0, v1] := by cases args; simp_all
  obtain ⟨rfl, rfl⟩ := trodVars_none hV
  obtain ⟨p0, n0, c0, rfl⟩ := okWide_slice Tryz.underlying24 (hval 0 24 v0 rfl rfl)
  have k0 := h0
  have lt0 : ∀ x ∈ q0, x.block < W.heap.size := by obtain ⟨m, hm⟩ := k0; exact DataW.trod_lt m _ _ _ hm
  obtain ⟨z0, s0, m0, b0⟩ := (by obtain ⟨fu, hf⟩ := h0; exact sl_ints Tryz.underlying24 Tryz.underlying64 (by kernel_rfl) hf : ∃ zs : List Int, Sl W 1 (.slice p0 n0 c0) n0 (ints .u64 zs) ∧ n0 ≤ maxLen ∧ ∀ z ∈ zs, (Lit.int .u64 z).wf = true)
  have cc0 : n0 ≤ c0 ∧ c0 ≤ maxLen := by obtain ⟨fu, hf⟩ := h0; exact sl_caps Tryz.underlying24 Tryz.underlying64 (by kernel_rfl) hf
  have k1 := h1
  have lt1 : ∀ x ∈ q1, x.block < W.heap.size := by obtain ⟨m, hm⟩ := k1; exact DataW.trod_lt m _ _ _ hm
  obtain ⟨a1, n1, rfl, b1, c1⟩ := open_line (hval 1 23 v1 rfl rfl) h1
  clear hA0 hval0
  simp only [List.append_nil] at hW'
  refine (walk p0 n0 c0 z0 a1 n1 W s0 m0 b0 cc0 b1 c1).mono fun e W' ⟨he, bel⟩ => ?_
  subst he
  exact ⟨_, rfl, _, _, _, [], _, [], hW', trodAll_mk1 (shut_bool Tryz.underlying4 _), (trodAll_cons_mk (Below.trod laidOut (by kernel_rfl) (of_decide_eq_true (by kernel_rfl)) k0 bel lt0) (trodAll_cons_mk (Below.trod laidOut (by kernel_rfl) (of_decide_eq_true (by kernel_rfl)) k1 bel lt1) trodAll_mk0)), rfl, bel.frame _, fun h => by cases h⟩

theorem proved : Rows.QueueAllSaid :=
  OpenClaim.holds_of_wide 5 Tryz.f5 rfl rfl rfl rfl rfl rfl rfl ⟨rfl, rfl, rfl, rfl, rfl⟩ rfl rfl rfl rfl rfl (by kernel_rfl) Tryz.func5 (by kernel_rfl)
    (of_decide_eq_true (by kernel_rfl)) (by unfold Func.isWrapper; first | (rw [if_pos (by decide +kernel)]; kernel_rfl) | (rw [if_neg (by decide +kernel)]; exact ⟨rfl, rfl⟩))
    (fun os started H enc _ => lifted os started H enc)
#print axioms proved
end Go.Proofs.YtgammmgidbejbaaGreat.queueAll
