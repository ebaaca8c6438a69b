/-
  The law CellsFill of the statements holds for every input: the call returns true, and the arguments read as before.
-/
import Derived.Test.YtcimaamccdedcaaAwake3
import Derived.Test.YtcimaamccdedcaaMem3
import Derived.Test.YtcimaamccdedcaaMem2
import Derived.Test.YtcimaamccdedcaaAcc
import Derived.Test.YtcimaamccdedcaaApart
import Derived.Test.YtcimaamccdedcaaOps
import Derived.Test.YtcimaamccdedcaaRows
import Derived.WalkKit
import Derived.ProofKit
import Derived.OpenShut
import Derived.ShutString
import Derived.ChangeOld
import Derived.Below
import Derived.Test.YtcimaamccdedcaaOpen
namespace Go.Proofs.Ytcimaamccdedcaa.cellsFill
open Go.ChangeShapes Go.WideShapes Go.ChangeAt Go.RowKit
open Go.ChangeMaps (open_string shut_string)
set_option linter.unusedVariables false

theorem own : ownKnob Try.prog.godebug = none := by kernel_rfl
theorem laidOut : laidOutB Try.prog = true := by kernel_rfl

theorem replicate_top (n : Nat) : ∀ u ∈ List.replicate n (0 : Int), M.U u := by
  intro u hu; obtain rfl := List.eq_of_mem_replicate hu; exact ⟨by decide, by decide⟩
theorem fill_short {us zs : List Int} (h : zs.length ≤ us.length) : C.fill us zs = zs ++ us.drop zs.length := by rw [C.fill, if_neg (by omega)]
theorem fill_long {us zs : List Int} (h : us.length < zs.length) : C.fill us zs = us := by rw [C.fill, if_pos h]
theorem set_top {us : List Int} {i : Nat} {u : Int} (h : ∀ x ∈ us, M.U x) (hu : M.U u) : ∀ x ∈ us.set i u, M.U x := fun x hx => by
  rcases List.mem_or_eq_of_mem_set hx with hx | rfl
  · exact h x hx
  · exact hu

set_option maxHeartbeats 3200000 in
set_option maxRecDepth 100000 in
theorem walk (n : Int) (p : Option Addr) (len c : Nat) (zs : List Int) (x : C.Acc) (w : World) (hnw : (Lit.int .i64 n).wf = true) (hsl : Sl w 1 (.slice p len c) len (ints .u64 zs)) (hlen : len ≤ maxLen) (hz : ∀ z ∈ zs, (Lit.int .u64 z).wf = true) (hx : x.ok) :
    Calls Try.prog 4 #[.int .i64 n, .slice p len c, .agg #[.int .i64 x.k, .int .i64 x.c, .int .u64 x.a, .int .u64 x.b]] w fun e w' => e = .returned (.bool true) ∧ Below w.heap.size w w' := by
  clear hnw
  unfold maxLen at hlen
  have HL := Lib.hid hsl.ints_len
  have HS := Lib.hid hsl
  have HZ : Hid (∀ z ∈ zs, M.U z) := Lib.hid fun z h => M.U.wf (hz z h)
  have HX := Lib.hid hx
  clear hsl hz hx
  obtain ⟨W0, hW0⟩ : ∃ W0, w.alloc (.cells #[.int .i64 x.k, .int .i64 x.c, .int .u64 x.a, .int .u64 x.b] 34) = W0 := ⟨_, rfl⟩
  have HB0 : Hid (Box W0 w.heap.size #[.int .i64 x.k, .int .i64 x.c, .int .u64 x.a, .int .u64 x.b]) := Lib.hid (by rw [← hW0]; exact Box.new _ _ _)
  have HK0 : Hid (Keeps [] w W0) := Lib.hid (by rw [← hW0]; exact (Keeps.refl _ _).alloc _)
  have s0 : w.heap.size < W0.heap.size := by rw [← hW0]; simp
  go_enter Try.func4, Try.ntmps4
  go_wp2_with fail
  clear hW0
  refine (awake3 W0).mono ?_
  rintro e w1 ⟨rfl, hk1⟩
  have HB1 := Lib.hid (HB0.out.keeps hk1 (by simp))
  have HK1 := Lib.hid (HK0.out.trans hk1)
  have s1 := hk1.size
  clear HB0 HK0 hk1
  by_cases h1 : n < 1
  · go_wp2
    go_ret
    exact ⟨rfl, HK1.out.end⟩
  by_cases h2 : 200 < n
  · go_wp2
    go_ret
    exact ⟨rfl, HK1.out.end⟩
  have d1 : decide (n < 1) = false := decide_eq_false (by omega)
  have d2 : decide (200 < n) = false := decide_eq_false (by omega)
  by_cases h3 : 400 < len
  · go_wp2
    go_ret
    exact ⟨rfl, HK1.out.end⟩
  have d3 : decide ((400 : Int) < len) = false := decide_eq_false (by omega)
  obtain ⟨N, rfl⟩ : ∃ N : Nat, n = (N : Int) := ⟨n.toNat, by omega⟩
  have b1 : 1 ≤ N := by omega
  have b2 : N ≤ 200 := by omega
  clear h1 h2
  go_wp2_with fail
  clear d1 d2 d3
  refine (new_any N w1 b1 (by omega)).mono ?_
  rintro e w2 ⟨m, bm, rfl, M2, k2, lm, lbm⟩
  have HB2 := Lib.hid (HB1.out.keeps k2 (by simp))
  have HK2 := Lib.hid (HK1.out.trans k2)
  have HM2 := Lib.hid M2
  have s2 := k2.size
  have HS2 := Lib.hid (HS.out.below HK2.out.end (Nat.le_refl _))
  have ltm := M2.lt
  clear HB1 HK1 M2 k2
  go_wp2_with (at_builtin; refine wpList_append_sl rfl _ _ 29 rfl w2.heap.size 30 _ 1 8 Try.underlying29 elemWord _ _ _ rfl (owns_empty w2 30 1) _ len (ints .u64 zs) rfl (HS2.out.below ((Below.refl _ _).alloc (Nat.le_refl _) _) (Nat.le_refl _)) (ints_oneCell .u64 zs) ?c1 ?c2 ?_)
  case c1 => omega
  case c2 => simp
  intro v3 w3 hown hgrow hne
  obtain ⟨g, cap3, rfl, lg⟩ := owns_at' hown hne
  try simp only [Nat.zero_add, List.nil_append] at hown
  have k3 : Keeps [] w2 w3 := ((Keeps.refl [] w2).alloc _).grown hgrow (fun k hk hl => by simp [Value.ownBlock] at hk; omega)
  have HB3 := Lib.hid (HB2.out.keeps k3 (by simp))
  have HK3 := Lib.hid (HK2.out.trans k3)
  have HM3 := Lib.hid (HM2.out.keeps k3 (by simp) (by simp))
  have HG3 := Lib.hid (Row.of_owns hown)
  have s3 := k3.size
  have nmg : m ≠ g := by omega
  have nbg : bm ≠ g := by omega
  clear HB2 HK2 HM2 HS2 hown hgrow hne k3 ltm
  have ltg := HG3.out.lt
  go_wp2_with fail
  refine (fill_any m bm _ zs (.slice (some ⟨g, 0, none⟩) len cap3) len w3 HM3.out (HG3.out.sl (by rw [ints_length, HL.out]; omega)) HZ.out (by unfold maxLen; omega)).mono ?_
  rw [List.length_replicate]
  rintro e w4 ⟨rfl, M4, k4⟩
  have HB4 := Lib.hid (HB3.out.keeps k4 (by simp; omega))
  have HK4 := Lib.hid (HK3.out.step k4 (by simp; omega))
  have HM4 := Lib.hid M4
  have HG4 := Lib.hid (HG3.out.keeps k4 (by simp; omega))
  have s4 := k4.size
  clear HB3 HK3 HM3 HG3 M4 k4
  obtain ⟨bw, hbw⟩ : ∃ bw, w4.heap.size = bw := ⟨_, rfl⟩
  obtain ⟨w5, hrun, hrow, hk, hs⟩ := make_row (P := Try.prog) w4 29 30 _ 1 8 Try.underlying29 elemWord .i64 .i64 N (by omega)
  rw [made_words] at hrow
  rw [hbw] at hrun hrow
  have nmw : m ≠ bw := by have := HM4.out.lt; omega
  have nbw : bm ≠ bw := by have := HM4.out.lt; omega
  have ngw : g ≠ bw := by have := HG4.out.lt; omega
  have lbw : w.heap.size < bw := by omega
  have HB5 := Lib.hid (HB4.out.keeps hk (by simp))
  have HK5 := Lib.hid (HK4.out.trans hk)
  have HM5 := Lib.hid (HM4.out.keeps hk (by simp) (by simp))
  have HG5 := Lib.hid (HG4.out.keeps hk (by simp))
  have HW5 := Lib.hid hrow
  have s5 := hk.size
  clear HB4 HK4 HM4 HG4 hk hrow hbw hs ltg
  obtain ⟨us, hus⟩ : ∃ us, C.fill (List.replicate N 0) zs = us := ⟨_, rfl⟩
  have HUS := Lib.hid hus
  have HUL : Hid (us.length = N) := Lib.hid (by rw [← hus, C.fill_len, List.length_replicate])
  rw [hus] at HM5
  clear hus
  by_cases hlN : N < len
  case' pos =>
    have d1 : decide ((N : Int) < len) = true := decide_eq_true (by omega)
    have d2 : decide ((len : Int) ≤ N) = false := decide_eq_false (by omega)
    have HW6 : Hid (Row w5 bw 30 (ints .u64 us)) := Lib.hid (by rw [← HUS.out, fill_long (by rw [List.length_replicate, HL.out]; exact hlN)]; exact HW5.out)
    rw [if_pos hlN]
    clear HW5
    go_wp2
    obtain ⟨w6, rfl⟩ : ∃ w6 : World, w6 = w5 := ⟨_, rfl⟩
    have s6 : w4.heap.size ≤ w6.heap.size := s5
    have HB6 := HB5
    have HK6 := HK5
    have HM6 := HM5
    have HG6 := HG5
    clear HB5 HK5 HM5 HG5
  case' neg =>
    have d1 : decide ((N : Int) < len) = false := decide_eq_false (by omega)
    have d2 : decide ((len : Int) ≤ N) = true := decide_eq_true (by omega)
    rw [if_neg hlN]
    have HS5 := Lib.hid (HS.out.below HK5.out.end (Nat.le_refl _))
    go_wp2_with (refine wpList_copy_sl rfl (.tmp 69) (.tmp 70) 29 rfl 30 Try.underlying29 (by kernel_rfl) bw N N _ rfl HW5.out (by rw [ints_length, List.length_replicate]) _ len (ints .u64 zs) rfl HS5.out (ints_oneCell .u64 zs) (by omega) ?_)
    intro w6 hrow6 k6 hs6
    have HW6 : Hid (Row w6 bw 30 (ints .u64 us)) := Lib.hid (by
      have := hrow6
      rw [← HUS.out, fill_short (by rw [List.length_replicate, HL.out]; omega), HL.out]
      simpa [ints] using this)
    have s6 : w4.heap.size ≤ w6.heap.size := Nat.le_trans s5 k6.size
    have HB6 := Lib.hid (HB5.out.keeps k6 (by simp; omega))
    have HK6 := Lib.hid (HK5.out.step k6 (by simp; omega))
    have HM6 := Lib.hid (HM5.out.keeps k6 (by simp; omega) (by simp; omega))
    have HG6 := Lib.hid (HG5.out.keeps k6 (by simp; omega))
    clear hrow6 k6 hs6 HS5 HW5 HB5 HK5 HM5 HG5
    go_wp2
  all_goals
    clear d1 d2 hlN hrun
    go_loopw [12] (fun i wr => ∃ (k : Nat) (ys : List Int), k ≤ len ∧ i = .int .i64 k ∧ ys.length = len ∧ (∀ y ∈ ys, M.U y) ∧ Row wr g 30 (ints .u64 ys) ∧ Keeps [g] w6 wr) (fun i _ => len - (intOf i).toNat)
    case atStart => exact ⟨0, zs, Nat.zero_le _, rfl, HL.out, HZ.out, HG6.out, Keeps.refl _ _⟩
    case round =>
      obtain ⟨k, ys, hk, rfl, hyl, hyu, R, K⟩ := hrel
      have HR := Lib.hid R
      have HY := Lib.hid hyu
      have HYL := Lib.hid hyl
      have HKr := Lib.hid K
      have hgl := R.lt
      clear R hyu hyl K
      by_cases hlt : k < len
      · have a1 := HR.out.cell (ints_at (k := .u64) (by rw [HYL.out]; exact hlt))
        have f1 := HR.out.frozen k
        have hyk : M.U (ys.getD k 0) := HY.out _ (by rw [List.getD, List.getElem?_eq_getElem (by rw [HYL.out]; exact hlt)]; exact List.getElem_mem _)
        obtain ⟨y, hy⟩ : ∃ y, ys.getD k 0 = y := ⟨_, rfl⟩
        rw [hy] at a1 hyk
        have y0 := hyk.nn
        have y1 := hyk.lt
        clear hy hyk
        go_wp2
        go_roundw
        case rel => exact ⟨k + 1, ys.set k ((y + 1) % 18446744073709551616), by omega, by go_num, by rw [List.length_set, HYL.out], set_top HY.out ⟨by omega, by omega⟩, by rw [ints_set]; exact HR.out.set k _, HKr.out.setCell (fun _ => by simp) _⟩
        case measure => simp [intOf]; omega
      · obtain rfl : len = k := by omega
        have HB7 := Lib.hid (HB6.out.keeps HKr.out (by simp; omega))
        have HK7 := Lib.hid (HK6.out.step HKr.out (by simp; omega))
        have HM7 := Lib.hid (HM6.out.keeps HKr.out (by simp; omega) (by simp; omega))
        have HW7 := Lib.hid (HW6.out.keeps HKr.out (by simp; omega))
        have s7 := HKr.out.size
        clear HR HY HYL HKr hlt hk HB6 HK6 HM6 HW6 HG6
        obtain ⟨w7, rfl⟩ : ∃ w7 : World, w7 = wr := ⟨_, rfl⟩
        go_wp2_with fail
        refine (all_any m bm us w7 HM7.out).mono ?_
        rw [HUL.out]
        rintro e w8 ⟨g2, cap8, rfl, R8, k8, lg2⟩
        have HB8 := Lib.hid (HB7.out.keeps k8 (by simp))
        have HK8 := Lib.hid (HK7.out.trans k8)
        have HM8 := Lib.hid (HM7.out.keeps k8 (by simp) (by simp))
        have HW8 := Lib.hid (HW7.out.keeps k8 (by simp))
        have HG8 := Lib.hid R8
        have s8 := k8.size
        have mlt := HM7.out.lt
        have wlt := HW7.out.lt
        have blt := HB7.out.lt
        have n1 : m ≠ g2 := by omega
        have n2 : bm ≠ g2 := by omega
        have n3 : bw ≠ g2 := by omega
        have n4 : w.heap.size ≠ g2 := by omega
        have n5 : w.heap.size ≤ g2 := by omega
        clear HB7 HK7 HM7 HW7 R8 k8 mlt wlt blt
        go_wp2_with fail
        have D := sameWords_any (.slice (some ⟨g2, 0, none⟩) N cap8) (.slice (some ⟨bw, 0, none⟩) N N) N N us us w8 (by unfold maxLen; omega) (by unfold maxLen; omega) (HG8.out.sl (by rw [ints_length, HUL.out]; omega)) (HW8.out.sl (by rw [ints_length, HUL.out]; omega))
        rw [decide_eq_true rfl] at D
        refine D.mono ?_
        clear D
        rintro e w9 ⟨rfl, j9, hw9⟩
        have k9 : Keeps [] w8 w9 := by rw [← hw9]; exact Keeps.of_drewN _ _
        have HB9 := Lib.hid (HB8.out.keeps k9 (by simp))
        have HK9 := Lib.hid (HK8.out.trans k9)
        have HM9 := Lib.hid (HM8.out.keeps k9 (by simp) (by simp))
        have HW9 := Lib.hid (HW8.out.keeps k9 (by simp))
        have HG9 := Lib.hid (HG8.out.keeps k9 (by simp))
        have s9 := k9.size
        clear HB8 HK8 HM8 HW8 HG8 k9 hw9
        go_wp2
        go_loopw [14] (fun i wr => ∃ (k : Nat) (ys : List Int), k ≤ N ∧ i = .int .i64 k ∧ ys.length = N ∧ Row wr g2 30 (ints .u64 ys) ∧ Keeps [g2] w9 wr) (fun i _ => N - (intOf i).toNat)
        case atStart => exact ⟨0, us, Nat.zero_le _, rfl, HUL.out, HG9.out, Keeps.refl _ _⟩
        case round =>
          obtain ⟨k, ys, hk, rfl, hyl, R, K⟩ := hrel
          have HR := Lib.hid R
          have HYL := Lib.hid hyl
          have HKr := Lib.hid K
          have hgl2 := R.lt
          clear R hyl K
          by_cases hlt : k < N
          · have a1 := HR.out.cell (ints_at (k := .u64) (by rw [HYL.out]; exact hlt))
            have f1 := HR.out.frozen k
            go_wp2
            go_roundw
            case rel => exact ⟨k + 1, ys.set k 77, by omega, by go_num, by rw [List.length_set, HYL.out], by rw [ints_set]; exact HR.out.set k _, HKr.out.setCell (fun _ => by simp) _⟩
            case measure => simp [intOf]; omega
          · obtain rfl : N = k := by omega
            have HB10 := Lib.hid (HB9.out.keeps HKr.out (by simp; omega))
            have HK10 := Lib.hid (HK9.out.step HKr.out (by simp; omega))
            have HM10 := Lib.hid (HM9.out.keeps HKr.out (by simp; omega) (by simp; omega))
            have HW10 := Lib.hid (HW9.out.keeps HKr.out (by simp; omega))
            have s10 := HKr.out.size
            clear HR HYL HKr hlt hk HB9 HK9 HM9 HW9 HG9
            obtain ⟨w10, rfl⟩ : ∃ w10 : World, w10 = wr := ⟨_, rfl⟩
            go_wp2_with fail
            refine (copy_any m bm us w10 HM10.out).mono ?_
            rintro e w11 ⟨m2, b2, rfl, C11, k11, lm2, lb2⟩
            have HB11 := Lib.hid (HB10.out.keeps k11 (by simp))
            have HK11 := Lib.hid (HK10.out.trans k11)
            have HM11 := Lib.hid (HM10.out.keeps k11 (by simp) (by simp))
            have HW11 := Lib.hid (HW10.out.keeps k11 (by simp))
            have HC11 := Lib.hid C11
            have s11 := k11.size
            have mlt := HM10.out.lt
            have wlt := HW10.out.lt
            have blt := HB10.out.lt
            have q1 : m ≠ b2 := by omega
            have q2 : bm ≠ b2 := by omega
            have q3 : bw ≠ b2 := by omega
            have q4 : w.heap.size ≠ b2 := by omega
            have q5 : w.heap.size ≤ b2 := by omega
            clear HB10 HK10 HM10 HW10 C11 k11 mlt wlt blt
            go_wp2_with fail
            have D := memSame_any m2 b2 m bm us us w11 HC11.out HM11.out
            rw [decide_eq_true rfl] at D
            refine D.mono ?_
            clear D
            rintro e w12 ⟨rfl, j12, hw12⟩
            have k12 : Keeps [] w11 w12 := by rw [← hw12]; exact Keeps.of_drewN _ _
            have HB12 := Lib.hid (HB11.out.keeps k12 (by simp))
            have HK12 := Lib.hid (HK11.out.trans k12)
            have HM12 := Lib.hid (HM11.out.keeps k12 (by simp) (by simp))
            have HW12 := Lib.hid (HW11.out.keeps k12 (by simp))
            have HC12 := Lib.hid (HC11.out.keeps k12 (by simp) (by simp))
            clear HB11 HK11 HM11 HW11 HC11 k12 hw12
            have cx := HB12.out.cells
            go_wp2_with fail
            refine (do_any m2 b2 us x w12 HC12.out HX.out).mono ?_
            rintro e w13 ⟨rfl, C13, k13⟩
            have HK13 := Lib.hid (HK12.out.step k13 (by simp; omega))
            have HM13 := Lib.hid (HM12.out.keeps k13 (by simp; omega) (by simp; omega))
            have HW13 := Lib.hid (HW12.out.keeps k13 (by simp; omega))
            have HC13 := Lib.hid C13
            obtain ⟨vs, hvs⟩ : ∃ vs, C.next us x = vs := ⟨_, rfl⟩
            have HVL : Hid (vs.length = N) := Lib.hid (by rw [← hvs, C.next_len, HUL.out])
            rw [hvs] at HC13
            clear cx HB12 HK12 HM12 HW12 HC12 C13 k13 hvs
            go_wp2_with fail
            refine (all_any m2 b2 vs w13 HC13.out).mono ?_
            rw [HVL.out]
            rintro e w14 ⟨g3, cap14, rfl, R14, k14, -⟩
            have HK14 := Lib.hid (HK13.out.trans k14)
            have HM14 := Lib.hid (HM13.out.keeps k14 (by simp) (by simp))
            have HW14 := Lib.hid (HW13.out.keeps k14 (by simp))
            have HC14 := Lib.hid (HC13.out.keeps k14 (by simp) (by simp))
            have HG14 := Lib.hid R14
            clear HK13 HM13 HW13 HC13 R14 k14
            go_wp2_with fail
            refine (all_any m bm us w14 HM14.out).mono ?_
            rw [HUL.out]
            rintro e w15 ⟨g4, cap15, rfl, R15, k15, -⟩
            have HK15 := Lib.hid (HK14.out.trans k15)
            have HM15 := Lib.hid (HM14.out.keeps k15 (by simp) (by simp))
            have HW15 := Lib.hid (HW14.out.keeps k15 (by simp))
            have HC15 := Lib.hid (HC14.out.keeps k15 (by simp) (by simp))
            have HG15 := Lib.hid (HG14.out.keeps k15 (by simp))
            have HH15 := Lib.hid R15
            clear HK14 HM14 HW14 HC14 HG14 R15 k15
            obtain ⟨bb, hbb⟩ : ∃ bb, decide (vs = us) = bb := ⟨_, rfl⟩
            have HBB := Lib.hid hbb
            clear hbb
            go_wp2_with fail
            have D := sameWords_any (.slice (some ⟨g3, 0, none⟩) N cap14) (.slice (some ⟨g4, 0, none⟩) N cap15) N N vs us w15 (by unfold maxLen; omega) (by unfold maxLen; omega) (HG15.out.sl (by rw [ints_length, HVL.out]; omega)) (HH15.out.sl (by rw [ints_length, HUL.out]; omega))
            rw [HBB.out] at D
            refine D.mono ?_
            clear D
            rintro e w16 ⟨rfl, j16, hw16⟩
            have k16 : Keeps [] w15 w16 := by rw [← hw16]; exact Keeps.of_drewN _ _
            have HK16 := Lib.hid (HK15.out.trans k16)
            have HM16 := Lib.hid (HM15.out.keeps k16 (by simp) (by simp))
            have HW16 := Lib.hid (HW15.out.keeps k16 (by simp))
            have HC16 := Lib.hid (HC15.out.keeps k16 (by simp) (by simp))
            clear HK15 HM15 HW15 HC15 HG15 HH15 k16 hw16
            go_wp2_with fail
            refine (all_any m bm us w16 HM16.out).mono ?_
            rw [HUL.out]
            rintro e w17 ⟨g5, cap17, rfl, R17, k17, -⟩
            have HK17 := Lib.hid (HK16.out.trans k17)
            have HM17 := Lib.hid (HM16.out.keeps k17 (by simp) (by simp))
            have HW17 := Lib.hid (HW16.out.keeps k17 (by simp))
            have HC17 := Lib.hid (HC16.out.keeps k17 (by simp) (by simp))
            have HG17 := Lib.hid R17
            clear HK16 HM16 HW16 HC16 R17 k17
            go_wp2_with fail
            have D := sameWords_any (.slice (some ⟨g5, 0, none⟩) N cap17) (.slice (some ⟨bw, 0, none⟩) N N) N N us us w17 (by unfold maxLen; omega) (by unfold maxLen; omega) (HG17.out.sl (by rw [ints_length, HUL.out]; omega)) (HW17.out.sl (by rw [ints_length, HUL.out]; omega))
            rw [decide_eq_true rfl] at D
            refine D.mono ?_
            clear D
            rintro e w18 ⟨rfl, j18, hw18⟩
            have k18 : Keeps [] w17 w18 := by rw [← hw18]; exact Keeps.of_drewN _ _
            have HK18 := Lib.hid (HK17.out.trans k18)
            have HM18 := Lib.hid (HM17.out.keeps k18 (by simp) (by simp))
            have HC18 := Lib.hid (HC17.out.keeps k18 (by simp) (by simp))
            clear HK17 HM17 HW17 HC17 HG17 k18 hw18
            go_wp2_with fail
            have D := memSame_any m2 b2 m bm vs us w18 HC18.out HM18.out
            rw [HBB.out] at D
            refine D.mono ?_
            clear D
            rintro e w19 ⟨rfl, j19, hw19⟩
            have k19 : Keeps [] w18 w19 := by rw [← hw19]; exact Keeps.of_drewN _ _
            have HK19 := Lib.hid (HK18.out.trans k19)
            have HM19 := Lib.hid (HM18.out.keeps k19 (by simp) (by simp))
            have HC19 := Lib.hid (HC18.out.keeps k19 (by simp) (by simp))
            clear HK18 HM18 HC18 k19 hw19
            go_wp2_with fail
            have D := memSame_any m bm m2 b2 us vs w19 HM19.out HC19.out
            rw [show decide (us = vs) = bb by rw [← HBB.out]; exact decide_eq_decide.2 eq_comm] at D
            refine D.mono ?_
            clear D
            rintro e w20 ⟨rfl, j20, rfl⟩
            go_wp2
            go_ret
            exact ⟨rfl, HK19.out.drewN.end⟩

set_option maxRecDepth 100000 in
theorem lifted (os : Os) (started : os.Started) (H : Type) (enc : TypeId × Value → H) :
    ReturnsInHanded {} Try.checked os 4 .any (Rows.cellsFillSpec.pre6 enc Try.prog Try.f4 Rows.cellsFillRow.domain false) (Rows.cellsFillSpec.post enc Try.prog Try.f4 false true false false) := by
  refine returnsInHanded_of_change (C := Try.checked) own started (by kernel_rfl) Try.func4
    (ChangeSpec.witness6 (enc := enc) (C := Try.checked) false ⟨#[], #[.int .i64 0, .slice none 0 0, .agg #[.int .i64 0, .int .i64 0, .int .u64 0, .int .u64 0]], []⟩ 8 (by kernel_rfl) (by kernel_rfl) (by kernel_rfl) (by kernel_rfl)) ?_
  intro W base args ds gs before hval0 hW hcnd _
  have hval : ∀ (j : Nat) t v, Try.f4.params[j]? = some t → args[j]? = some v → Value.okWide Try.prog W .any base t v := hval0
  have hW' := hW
  obtain ⟨p, q, hA0, hV, rfl, hfz, hnd⟩ := hW
  have hA : DataW.TrodAll enc Try.prog W 0 (fun _ => true) true Try.f4.params.toList args.toList ds p := hA0
  rw [Try.params4] at hA hval
  obtain ⟨v0, vs0, d0, ds0, q0, qs0, hargs, rfl, rfl, h0, r0⟩ := trodAll_cons hA
  obtain ⟨v1, vs1, d1, ds1, q1, qs1, rfl, rfl, rfl, h1, r1⟩ := trodAll_cons r0
  obtain ⟨v2, vs2, d2, ds2, q2, qs2, rfl, rfl, rfl, h2, r2⟩ := trodAll_cons r1
  obtain ⟨rfl, rfl, rfl⟩ := trodAll_nil r2
  obtain rfl : args = #[v0, v1, v2] := by cases args; simp_all
  obtain ⟨rfl, rfl⟩ := trodVars_none hV
  obtain ⟨a0, rfl, rfl, rfl, w0⟩ := open_int Try.underlying3 (hval 0 3 v0 rfl rfl) h0
  obtain ⟨p1, n1, c1, rfl⟩ := okWide_slice Try.underlying29 (hval 1 29 v1 rfl rfl)
  have k1 := h1
  have lt1 : ∀ x ∈ q1, x.block < W.heap.size := by obtain ⟨m, hm⟩ := k1; exact DataW.trod_lt m _ _ _ hm
  obtain ⟨z1, s1, m1, b1⟩ := (by obtain ⟨fu, hf⟩ := h1; exact sl_ints Try.underlying29 Try.underlying30 (by kernel_rfl) hf : ∃ zs : List Int, Sl W 1 (.slice p1 n1 c1) n1 (ints .u64 zs) ∧ n1 ≤ maxLen ∧ ∀ z ∈ zs, (Lit.int .u64 z).wf = true)
  have k2 := h2
  have lt2 : ∀ x ∈ q2, x.block < W.heap.size := by obtain ⟨m, hm⟩ := k2; exact DataW.trod_lt m _ _ _ hm
  obtain ⟨x2, rfl, b2⟩ := open_acc (hval 2 34 v2 rfl rfl) h2
  clear hA0 hval0
  simp only [List.append_nil] at hW'
  refine (walk a0 p1 n1 c1 z1 x2 W w0 s1 m1 b1 b2).mono fun e W' ⟨he, bel⟩ => ?_
  subst he
  exact ⟨_, rfl, _, _, _, [], _, [], hW', trodAll_mk1 (shut_bool Try.underlying4 _), (trodAll_cons_mk (shut_int Try.underlying3 w0) (trodAll_cons_mk (Below.trod laidOut (by kernel_rfl) (of_decide_eq_true (by kernel_rfl)) k1 bel lt1) (trodAll_cons_mk (Below.trod laidOut (by kernel_rfl) (of_decide_eq_true (by kernel_rfl)) k2 bel lt2) trodAll_mk0))), rfl, bel.frame _, fun h => by cases h⟩

theorem proved : Rows.CellsFillSaid :=
  OpenClaim.holds_of_wide 4 Try.f4 rfl rfl rfl rfl rfl rfl rfl ⟨rfl, rfl, rfl, rfl, rfl⟩ rfl rfl rfl rfl rfl (by kernel_rfl) Try.func4 (by kernel_rfl)
    (of_decide_eq_true (by kernel_rfl)) (by unfold Func.isWrapper; first | (rw [if_pos (by decide +kernel)]; kernel_rfl) | (rw [if_neg (by decide +kernel)]; exact ⟨rfl, rfl⟩))
    (fun os started H enc _ => lifted os started H enc)
#print axioms proved
end Go.Proofs.Ytcimaamccdedcaa.cellsFill
