/-
  The law CellsPlay of the statements holds for every input: the call returns true, and the arguments read as before.
-/
import Derived.Test.YtcimaamccdedcaaAwake3
import Derived.Test.YtcimaamccdedcaaMem3
import Derived.Test.YtcimaamccdedcaaMem2
import Derived.Test.YtcimaamccdedcaaAcc
import Derived.Test.YtcimaamccdedcaaApart
import Derived.Test.YtcimaamccdedcaaRows
import Derived.WalkKit
import Derived.ProofKit
import Derived.OpenShut
import Derived.ShutString
import Derived.ChangeOld
import Derived.Below
import Derived.Test.YtcimaamccdedcaaOpen
namespace Go.Proofs.Ytcimaamccdedcaa.cellsPlay
open Go.ChangeShapes Go.WideShapes Go.ChangeAt Go.RowKit
open Go.ChangeMaps (open_string shut_string)
set_option linter.unusedVariables false

theorem own : ownKnob Try.prog.godebug = none := by kernel_rfl
theorem laidOut : laidOutB Try.prog = true := by kernel_rfl

theorem replicate_top (n : Nat) : ∀ u ∈ List.replicate n (0 : Int), M.U u := by
  intro u hu; obtain rfl := List.eq_of_mem_replicate hu; exact ⟨by decide, by decide⟩

set_option maxHeartbeats 1600000 in
set_option maxRecDepth 100000 in
theorem walk (n : Int) (p : Option Addr) (len c : Nat) (xs : List C.Acc) (w : World) (hnw : (Lit.int .i64 n).wf = true) (hsl : Sl w 4 (.slice p len c) len (accs xs)) (hxl : xs.length = len) (hlen : len ≤ maxLen) (hok : ∀ x ∈ xs, x.ok) :
    Calls Try.prog 3 #[.int .i64 n, .slice p len c] w fun e w' => e = .returned (.bool true) ∧ Below w.heap.size w w' := by
  clear hnw
  unfold maxLen at hlen
  have HS := Lib.hid hsl
  have HL := Lib.hid hxl
  have HO := Lib.hid hok
  clear hsl hxl hok
  by_cases h1 : 200 < len
  · go_enter Try.func3, Try.ntmps3
    go_wp2_with (go_at_call 7; refine (awake3 _).mono ?_; rintro e w1 ⟨rfl, hk1⟩)
    go_ret
    exact ⟨rfl, hk1.end⟩
  have d1 : decide ((200 : Int) < len) = false := decide_eq_false (by omega)
  by_cases h2 : 2000 < n ∧ n ≤ 65536
  · obtain ⟨h2, h3⟩ := h2
    go_enter Try.func3, Try.ntmps3
    go_wp2_with (go_at_call 7; refine (awake3 _).mono ?_; rintro e w1 ⟨rfl, hk1⟩)
    go_ret
    exact ⟨rfl, hk1.end⟩
  by_cases h3 : n < 1 ∨ 65536 < n
  · have NB := fun W => new_bad n W h3
    have HNB := Lib.hid NB
    clear NB
    rcases h3 with h3 | h3
    · have h4 : n ≤ 2000 := by omega
      clear h2
      have d2 : decide (2000 < n) = false := decide_eq_false (by omega)
      have d3 : decide (n < 1) = true := decide_eq_true h3
      go_enter Try.func3, Try.ntmps3
      go_wp2_with (first
        | (go_at_call 7; refine (awake3 _).mono ?_; rintro e w1 ⟨rfl, hk1⟩)
        | (go_at_call 8; refine (HNB.out _).mono ?_; rintro e w1 ⟨rfl, rfl⟩))
      go_ret
      exact ⟨rfl, hk1.end⟩
    · have h4 : 2000 < n := by omega
      clear h2
      have d2 : decide (n ≤ 65536) = false := decide_eq_false (by omega)
      have d3 : decide (n < 1) = false := decide_eq_false (by omega)
      go_enter Try.func3, Try.ntmps3
      go_wp2_with (first
        | (go_at_call 7; refine (awake3 _).mono ?_; rintro e w1 ⟨rfl, hk1⟩)
        | (go_at_call 8; refine (HNB.out _).mono ?_; rintro e w1 ⟨rfl, rfl⟩))
      go_ret
      exact ⟨rfl, hk1.end⟩
  obtain ⟨N, rfl⟩ : ∃ N : Nat, n = (N : Int) := ⟨n.toNat, by omega⟩
  have b1 : 1 ≤ N := by omega
  have b2 : N ≤ 2000 := by omega
  have d2 : decide ((2000 : Int) < N) = false := decide_eq_false (by omega)
  have d3 : decide ((N : Int) < 1) = false := decide_eq_false (by omega)
  have d4 : decide ((65536 : Int) < N) = false := decide_eq_false (by omega)
  have NA := fun W => new_any N W b1 (by omega)
  have HNA := Lib.hid NA
  clear h2 h3 NA
  go_enter Try.func3, Try.ntmps3
  go_wp2_with (go_at_call 7; refine (awake3 _).mono ?_; rintro e w1 ⟨rfl, hk1⟩)
  have HK1 := Lib.hid hk1
  have s1 := hk1.size
  clear hk1
  refine (HNA.out w1).mono ?_
  rintro e w2 ⟨m, bm, rfl, M2, k2, lm, lbm⟩
  have HK2 := Lib.hid (HK1.out.trans k2)
  have s2 := k2.size
  have HM2 := Lib.hid M2
  clear HK1 k2 M2
  go_wp2_with fail
  refine (len_any m bm _ w2 HM2.out).mono ?_
  rw [List.length_replicate]
  rintro e w3 ⟨rfl, rfl⟩
  obtain ⟨w4, hrun, hrow, hk, hs⟩ := make_row (P := Try.prog) w2 29 30 _ 1 8 Try.underlying29 elemWord .i64 .i64 N (by omega)
  rw [made_words] at hrow
  obtain ⟨bw, hbw⟩ : ∃ bw, w2.heap.size = bw := ⟨_, rfl⟩
  rw [hbw] at hrun hrow
  have ltm := HM2.out.lt
  have lbw : w.heap.size ≤ bw := by omega
  have lm0 : w.heap.size ≤ m := by omega
  have lbm0 : w.heap.size ≤ bm := by omega
  have nmw : m ≠ bw := by omega
  have nbw : bm ≠ bw := by omega
  have HK4 := Lib.hid (HK2.out.trans hk)
  have HR4 := Lib.hid hrow
  have HM4 := Lib.hid (HM2.out.keeps hk (by simp) (by simp))
  have HBW := Lib.hid hbw
  clear HK2 HM2 hk hs hrow ltm hbw s2 s1
  go_wp2
  go_loopw [8] (fun i wr => ∃ (k : Nat) (us : List Int), k ≤ len ∧ i = .int .i64 k ∧ Mem wr m bm us ∧ Row wr bw 30 (ints .u64 us) ∧ us.length = N ∧ Keeps [] w wr) (fun i _ => len - (intOf i).toNat)
  case atStart => exact ⟨0, List.replicate N 0, Nat.zero_le _, rfl, HM4.out, HR4.out, List.length_replicate .., HK4.out⟩
  case round =>
    clear HM4 HR4 HK4 hrun
    obtain ⟨k, us, hk, rfl, M, R, hus, K⟩ := hrel
    have HT := Lib.hid M.top
    have HM := Lib.hid M
    have HR := Lib.hid R
    have HU := Lib.hid hus
    have HK := Lib.hid K
    clear M R hus K
    by_cases hlt : k < len
    · obtain ⟨b, o, c', hpv, hbl, hc⟩ := HS.out.some (by omega)
      obtain ⟨rfl, rfl⟩ : p = some ⟨b, o, none⟩ ∧ c = c' := by cases hpv; exact ⟨rfl, rfl⟩
      clear hpv
      have hxk : xs[k]? = some (xs[k]'(by rw [HL.out]; exact hlt)) := List.getElem?_eq_getElem _
      obtain ⟨x, hx⟩ : ∃ x, xs[k]'(by rw [HL.out]; exact hlt) = x := ⟨_, rfl⟩
      rw [hx] at hxk
      have xok : Hid x.ok := Lib.hid (HO.out x (hx ▸ List.getElem_mem _))
      obtain ⟨q0, q1, q2, q3⟩ := accs_at xs k x hxk
      have HC : Hid (∀ W, Keeps [] w W → W.cell? ⟨b, o + k * 4, none⟩ = some (.int .i64 x.k) ∧ W.cell? ⟨b, o + k * 4 + 1, none⟩ = some (.int .i64 x.c) ∧ W.cell? ⟨b, o + k * 4 + 2, none⟩ = some (.int .u64 x.a) ∧ W.cell? ⟨b, o + k * 4 + 3, none⟩ = some (.int .u64 x.b)) :=
        Lib.hid fun W hW => ⟨(hW.cell (p := ⟨b, o + k * 4, none⟩) hbl (by simp)).trans (hc _ _ q0), (hW.cell (p := ⟨b, o + k * 4 + 1, none⟩) hbl (by simp)).trans (hc _ _ q1), (hW.cell (p := ⟨b, o + k * 4 + 2, none⟩) hbl (by simp)).trans (hc _ _ q2), (hW.cell (p := ⟨b, o + k * 4 + 3, none⟩) hbl (by simp)).trans (hc _ _ q3)⟩
      clear hx hxk q0 q1 q2 q3 hc
      obtain ⟨a0, a1, a2, a3⟩ := HC.out _ HK.out
      go_wp2_with fail
      refine (do_any m bm us x wr HM.out xok.out).mono ?_
      rintro e w5 ⟨rfl, M5, k5⟩
      have HM5 := Lib.hid M5
      have HR5 := Lib.hid (HR.out.keeps k5 (by simp; omega))
      have HK5 := Lib.hid (HK.out.step k5 (by simp; omega))
      clear M5 k5 HM HR HK a0 a1 a2 a3
      obtain ⟨a0, a1, a2, a3⟩ := HC.out _ HK5.out
      go_wp2_with fail
      have D := refDo_any bw N us x w5 HR5.out (fun u hu => HT.out u hu) (by rw [HU.out]; omega) xok.out
      rw [HU.out] at D
      refine D.mono ?_
      clear D
      rintro e w6 ⟨rfl, R6, k6⟩
      have HM6 := Lib.hid (HM5.out.keeps k6 (by simp; omega) (by simp; omega))
      have HR6 := Lib.hid R6
      have HK6 := Lib.hid (HK5.out.step k6 (by simp; omega))
      have HU6 : Hid ((C.next us x).length = N) := Lib.hid (by rw [C.next_len, HU.out])
      clear R6 k6 HM5 HR5 HK5 a0 a1 a2 a3
      go_wp2
      go_roundw
      case rel => exact ⟨k + 1, C.next us x, by omega, by go_num, HM6.out, HR6.out, HU6.out, HK6.out⟩
      case measure => simp [intOf]; omega
    · obtain rfl : k = len := by omega
      go_wp2_with fail
      refine (all_any m bm us wr HM.out).mono ?_
      rw [HU.out]
      rintro e w5 ⟨g, cap, rfl, R5, k5, hg⟩
      have HR5 := Lib.hid (HR.out.keeps k5 (by simp))
      have HG5 := Lib.hid R5
      have HK5 := Lib.hid (HK.out.trans k5)
      clear R5 k5
      go_wp2_with fail
      have D := sameWords_any (.slice (some ⟨g, 0, none⟩) N cap) (.slice (some ⟨bw, 0, none⟩) N N) N N us us w5 (by unfold maxLen; omega) (by unfold maxLen; omega) (HG5.out.sl (by rw [ints_length, HU.out]; omega)) (HR5.out.sl (by rw [ints_length, HU.out]; omega))
      rw [decide_eq_true rfl] at D
      refine D.mono ?_
      clear D
      rintro e w6 ⟨rfl, j, rfl⟩
      go_wp2
      go_ret
      exact ⟨rfl, HK5.out.drewN.end⟩

set_option maxRecDepth 100000 in
theorem lifted (os : Os) (started : os.Started) (H : Type) (enc : TypeId × Value → H) :
    ReturnsInHanded {} Try.checked os 3 .any (Rows.cellsPlaySpec.pre6 enc Try.prog Try.f3 Rows.cellsPlayRow.domain false) (Rows.cellsPlaySpec.post enc Try.prog Try.f3 false true false false) := by
  refine returnsInHanded_of_change (C := Try.checked) own started (by kernel_rfl) Try.func3
    (ChangeSpec.witness6 (enc := enc) (C := Try.checked) false ⟨#[], #[.int .i64 0, .slice none 0 0], []⟩ 8 (by kernel_rfl) (by kernel_rfl) (by kernel_rfl) (by kernel_rfl)) ?_
  intro W base args ds gs before hval0 hW hcnd _
  have hval : ∀ (j : Nat) t v, Try.f3.params[j]? = some t → args[j]? = some v → Value.okWide Try.prog W .any base t v := hval0
  have hW' := hW
  obtain ⟨p, q, hA0, hV, rfl, hfz, hnd⟩ := hW
  have hA : DataW.TrodAll enc Try.prog W 0 (fun _ => true) true Try.f3.params.toList args.toList ds p := hA0
  rw [Try.params3] at hA hval
  obtain ⟨v0, vs0, d0, ds0, q0, qs0, hargs, rfl, rfl, h0, r0⟩ := trodAll_cons hA
  obtain ⟨v1, vs1, d1, ds1, q1, qs1, rfl, rfl, rfl, h1, r1⟩ := trodAll_cons r0
  obtain ⟨rfl, rfl, rfl⟩ := trodAll_nil r1
  obtain rfl : args = #[v0, v1] := by cases args; simp_all
  obtain ⟨rfl, rfl⟩ := trodVars_none hV
  obtain ⟨a0, rfl, rfl, rfl, w0⟩ := open_int Try.underlying3 (hval 0 3 v0 rfl rfl) h0
  obtain ⟨p1, n1, c1, rfl⟩ := okWide_slice Try.underlying22 (hval 1 22 v1 rfl rfl)
  have k1 := h1
  have lt1 : ∀ x ∈ q1, x.block < W.heap.size := by obtain ⟨m, hm⟩ := k1; exact DataW.trod_lt m _ _ _ hm
  obtain ⟨z1, s1, l1, m1, b1⟩ := (by obtain ⟨fu, hf⟩ := h1; exact sl_accs Try.underlying22 hf : ∃ xs : List C.Acc, Sl W 4 (.slice p1 n1 c1) n1 (accs xs) ∧ xs.length = n1 ∧ n1 ≤ maxLen ∧ ∀ x ∈ xs, x.ok)
  clear hA0 hval0
  simp only [List.append_nil] at hW'
  refine (walk a0 p1 n1 c1 z1 W w0 s1 l1 m1 b1).mono fun e W' ⟨he, bel⟩ => ?_
  subst he
  exact ⟨_, rfl, _, _, _, [], _, [], hW', trodAll_mk1 (shut_bool Try.underlying4 _), (trodAll_cons_mk (shut_int Try.underlying3 w0) (trodAll_cons_mk (Below.trod laidOut (by kernel_rfl) (of_decide_eq_true (by kernel_rfl)) k1 bel lt1) trodAll_mk0)), rfl, bel.frame _, fun h => by cases h⟩

theorem proved : Rows.CellsPlaySaid :=
  OpenClaim.holds_of_wide 3 Try.f3 rfl rfl rfl rfl rfl rfl rfl ⟨rfl, rfl, rfl, rfl, rfl⟩ rfl rfl rfl rfl rfl (by kernel_rfl) Try.func3 (by kernel_rfl)
    (of_decide_eq_true (by kernel_rfl)) (by unfold Func.isWrapper; first | (rw [if_pos (by decide +kernel)]; kernel_rfl) | (rw [if_neg (by decide +kernel)]; exact ⟨rfl, rfl⟩))
    (fun os started H enc _ => lifted os started H enc)
#print axioms proved
end Go.Proofs.Ytcimaamccdedcaa.cellsPlay
