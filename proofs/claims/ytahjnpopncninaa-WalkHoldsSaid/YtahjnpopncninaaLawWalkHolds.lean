/-
  The law WalkHolds of the statements holds for every input: the call returns true, and the arguments read as before.
-/
import Derived.Test.YtahjnpopncninaaAwake4
import Derived.Test.YtahjnpopncninaaKinds4
import Derived.Test.YtahjnpopncninaaLook
import Derived.Test.YtahjnpopncninaaOpen
import Derived.Test.YtahjnpopncninaaAcc
import Derived.Deep.CutRange
import Derived.Test.YtahjnpopncninaaRows
import Derived.WalkKit
import Derived.ProofKit
import Derived.OpenShut
import Derived.ShutString
import Derived.ChangeOld
import Derived.Below
import Derived.Test.YtahjnpopncninaaOpen
namespace Go.Proofs.Ytahjnpopncninaa.walkHolds
open Go.ChangeShapes Go.WideShapes Go.ChangeAt Go.RowKit
open Go.ChangeMaps (open_string shut_string)
set_option linter.unusedVariables false

theorem own : ownKnob Try.prog.godebug = none := by kernel_rfl
theorem laidOut : laidOutB Try.prog = true := by kernel_rfl

/-- The accesses of which the walk is made. -/
def Few (w1 : World) (v : Value) (w' : World) : Prop := ∃ (xs : List C.Acc) (q : Option Addr) (c : Nat), v = .slice q xs.length c ∧ Sl w' 4 v xs.length (accs xs) ∧ xs.length ≤ 1 ∧ Keeps [] w1 w'
theorem few_load (w1 : World) (cap : Nat) : Few w1 (.slice (some ⟨w1.heap.size + 1 + 1, 0, none⟩) 1 cap)
    (((w1.alloc (.cells #[] 37)).alloc (.cells #[.int .i64 1, .int .i64 0, .int .u64 0, .int .u64 0] 37)).alloc (.cells (#[.int .i64 1, .int .i64 0, .int .u64 0, .int .u64 0] ++ Builtin.zeroCells #[.int .i64 0, .int .i64 0, .int .u64 0, .int .u64 0] (cap - 1)) 37)).drew := by
  refine ⟨[⟨1, 0, 0, 0⟩], _, _, rfl, ⟨rfl, .inr ⟨w1.heap.size + 1 + 1, 0, _, rfl, by simp, fun j u hu => ?_⟩⟩, by simp, (((Keeps.refl _ _).alloc _).alloc _).alloc _ |>.drew⟩
  have hj : j < 4 := by have := (List.getElem?_eq_some_iff.1 hu).1; simpa [accs] using this
  rw [Nat.zero_add]
  refine Eq.trans (World.cell?_alloc_at _ _ _ _ (by simp)) ?_
  rw [Array.getElem?_append_left (by simpa using hj), ← Array.getElem?_toList]
  exact hu
theorem ints_set' (k : IntKind) (us : List Int) (i : Nat) (u : Int) : ints k (us.set i u) = (ints k us).set i (.int k u) := by simp [ints, List.map_set]
theorem row_set {w : World} {g n : Nat} {e : TypeId} {us : List Int} (h : Row w g e (ints .u64 us)) (hl : us.length = n) (k : Nat) (z : Int) : ∃ us' : List Int, us'.length = n ∧ Row (w.setCell ⟨g, k, none⟩ (.int .u64 z)) g e (ints .u64 us') :=
  ⟨us.set k z, by rw [List.length_set]; exact hl, by rw [ints_set']; exact h.set k _⟩
def plainHold (s : PlainS) (us : List Int) : PlainS := { s with held := us }

set_option maxHeartbeats 3200000 in
set_option maxRecDepth 100000 in
theorem walk (pa : Option Addr) (na ca : Nat) (za : List Int) (pb : Option Addr) (nb cb : Nat) (zb : List Int) (ended : Bool) (w : World) (ha : Sl w 1 (.slice pa na ca) na (ints .u64 za)) (hna : na ≤ maxLen) (hza : ∀ z ∈ za, (Lit.int .u64 z).wf = true)
    (hb : Sl w 1 (.slice pb nb cb) nb (ints .u64 zb)) (hnb : nb ≤ maxLen) (hzb : ∀ z ∈ zb, (Lit.int .u64 z).wf = true) :
    Calls Try.prog 7 #[.slice pa na ca, .slice pb nb cb, .bool ended] w fun e w' => e = .returned (.bool true) ∧ Below w.heap.size w w' := by
  unfold maxLen at hna hnb
  have HA := Lib.hid ha
  have HB := Lib.hid hb
  have HLA := Lib.hid ha.ints_len
  have HLB := Lib.hid hb.ints_len
  clear ha hb hza hzb
  go_enter Try.func7, Try.ntmps7
  go_wp2_with fail
  refine (awake4 w).mono ?_
  rintro e w1 ⟨rfl, k1⟩
  have HK1 := Lib.hid k1
  clear k1
  by_cases h0 : 100 < na
  · have d0 : decide ((100 : Int) < na) = true := decide_eq_true (by omega)
    go_wp2
    go_ret
    exact ⟨rfl, HK1.out.end⟩
  have d0 : decide ((100 : Int) < na) = false := decide_eq_false (by omega)
  by_cases h1 : 100 < nb
  · have d1 : decide ((100 : Int) < nb) = true := decide_eq_true (by omega)
    go_wp2
    go_ret
    exact ⟨rfl, HK1.out.end⟩
  have d1 : decide ((100 : Int) < nb) = false := decide_eq_false (by omega)
  go_upto_if 26 with (fail)
  go_cut [7] from 14 to 87 (fun v w' => Few w1 v w')
  case first =>
    cases ended
    · go_wp2_with fail
      go_meet
      exact few_load w1 _
    · go_wp2_with fail
      go_meet
      exact ⟨[], _, 0, rfl, Sl.of_owns (owns_empty w1 37 4), by simp, (Keeps.refl _ _).alloc _⟩
  obtain ⟨xs, q, c, rfl, hsl, hxn, k2⟩ := hcut
  have HK2 := Lib.hid (HK1.out.trans k2)
  have HSL := Lib.hid hsl
  clear hsl k2 HK1
  go_wp2_with fail
  refine (wPlain _ xs wc HSL.out (by omega)).mono ?_
  rintro e w3 ⟨m, S3, rfl, hI, k3, hS⟩
  have HK3 := Lib.hid (HK2.out.trans k3)
  have HI3 := Lib.hid hI
  have HS3 := Lib.hid (fun k hk => Nat.le_trans HK2.out.size (hS k hk))
  clear hI k3 hS HK2 HSL
  have HH := Lib.hid (fun W U s l us h hl hn => lone_hold plainM (plainE m) m plainHold (plainE_keeps m) (fun _ _ => rfl) (fun _ _ _ _ _ h => h) W U s l us h hl hn)
  have HR := Lib.hid (plainRuns m)
  go_wp2_with fail
  have hA3 : Sl w3 1 (.slice pa na ca) za.length (ints .u64 za) := by rw [HLA.out]; exact HA.out.below HK3.out.end (Nat.le_refl _)
  refine (HH.out w3 S3 _ _ za HI3.out hA3 (by have := HLA.out; omega)).mono ?_
  clear hA3
  rintro e w4 ⟨rfl, S4, hI, k4, hm, hn4⟩
  have HK4 := Lib.hid (HK3.out.step k4 (fun k hk => by simp at hk; subst hk; exact HS3.out _ hm))
  have HI4 := Lib.hid hI
  have HS4 : Hid (∀ k ∈ S4, w.heap.size ≤ k) := Lib.hid fun k hk => by rcases hn4 k hk with h | h; exact HS3.out k h; exact Nat.le_trans HK3.out.size h
  clear hI k4 hm hn4 HI3 HK3 HS3
  go_wp2_with fail
  refine (HR.out.held w4 S4 _ HI4.out).mono ?_
  rintro e w5 ⟨f1, rfl, own5, k5⟩
  have own5' : w5.ownsRow w4.heap.size 35 1 f1 za.length (ints .u64 za) := own5
  obtain ⟨q5, c5, rfl⟩ := (Sl.of_owns own5').len
  have HF5 := Lib.hid own5'
  have HK5 := Lib.hid (HK4.out.trans k5)
  have HI5 := Lib.hid (HR.out.frame HI4.out k5 (by simp))
  have hlt4 : ∀ k ∈ S4, k < w4.heap.size := HR.out.lt HI4.out
  have HLT4 := Lib.hid hlt4
  have h45 := k5.size
  clear own5 own5' k5 HI4 HK4 hlt4
  have hB5 : Sl w5 1 (.slice pb nb cb) nb (ints .u64 zb) := HB.out.below HK5.out.end (Nat.le_refl _)
  have HB5 := Lib.hid hB5
  clear hB5
  go_wp2_with (at_builtin; refine wpList_append_sl rfl _ _ 26 rfl w5.heap.size 35 _ 1 8 Try.underlying26 elemWd _ _ _ rfl (owns_empty w5 35 1) _ nb (ints .u64 zb) rfl (HB5.out.below ((Below.refl _ _).alloc (Nat.le_refl _) _) (Nat.le_refl _)) (ints_one .u64 zb) ?c1 ?c2 ?_)
  case c1 => omega
  case c2 => simp
  intro v6 w6 own6 grow6 ne6
  try simp only [Nat.zero_add, List.nil_append] at own6
  obtain ⟨g, cap, rfl, hg5⟩ := owns_at' own6 (by simpa using ne6)
  have k6 : Keeps [] w5 w6 := ((Keeps.refl [] w5).alloc _).grown grow6 (fun k hk hl => by simp [Value.ownBlock] at hk; omega)
  have hg6 := (own6.lt g rfl).2
  have HG6 := Lib.hid (Row.of_owns own6)
  have HI6 := Lib.hid (HR.out.frame HI5.out k6 (by simp))
  have HK6 := Lib.hid (HK5.out.trans k6)
  have HF6 := Lib.hid (owns_keeps HF5.out k6 (by simp))
  have HF5lt := Lib.hid (show ∀ k, (Value.slice q5 za.length c5).ownBlock = some k → w4.heap.size ≤ k ∧ k < w5.heap.size from HF5.out.lt)
  clear own6 grow6 ne6 k6 HI5 HK5 HF5 HB5
  go_wp2_with fail
  have hsl6 : Sl w6 1 (.slice (some ⟨g, 0, none⟩) nb cap) zb.length (ints .u64 zb) := by rw [HLB.out]; exact HG6.out.sl (by rw [ints_length, HLB.out]; omega)
  refine (HH.out w6 S4 _ _ zb HI6.out hsl6 (by have := HLB.out; omega)).mono ?_
  clear hsl6
  rintro e w7 ⟨rfl, S7, hI, k7, hm, hn7⟩
  have hm4 := HLT4.out m hm
  have s7 := k7.size
  have HI7 := Lib.hid hI
  have HG7 := Lib.hid (HG6.out.keeps k7 (by simp; omega))
  have HF7 := Lib.hid (owns_keeps HF6.out k7 (fun k hk => by have := (HF5lt.out k hk).1; simp; omega))
  have HK7 := Lib.hid (HK6.out.step k7 (fun k hk => by simp at hk; subst hk; exact HS4.out _ hm))
  have hgS : g ∉ S7 := fun h => by
    rcases hn7 g h with h | h
    · have := HLT4.out g h; omega
    · omega
  have HGS := Lib.hid hgS
  have HS7 : Hid (∀ k ∈ S7, w.heap.size ≤ k) := Lib.hid fun k hk => by rcases hn7 k hk with h | h; exact HS4.out k h; exact Nat.le_trans HK6.out.size h
  have hwg : w.heap.size ≤ g := by have := HK6.out.size; have := HS4.out m hm; omega
  clear hI k7 hm hn7 HI6 HG6 HF6 HK6 hgS
  have hSame : ∀ W u1 u2 us, us.length ≤ 100 → Sl W 1 u1 us.length (ints .u64 us) → Sl W 1 u2 us.length (ints .u64 us) → Calls Try.prog 22 #[u1, u2] W fun e w' => e = .returned (.bool true) ∧ Keeps [] W w' := by
    intro W u1 u2 us hl h1 h2
    have := sameWords_any u1 u2 _ _ us us W (by unfold maxLen; omega) (by unfold maxLen; omega) h1 h2
    simp only [decide_true] at this
    exact this.mono fun e w' ⟨he, j, hw⟩ => ⟨he, by rw [← hw]; exact Keeps.of_drewN _ _⟩
  have HSame := Lib.hid hSame
  clear hSame
  go_wp2
  go_loopw [11] (fun i wr => ∃ k : Nat, k ≤ nb ∧ i = .int .i64 k ∧ Keeps [g] w7 wr ∧ ∃ us : List Int, us.length = nb ∧ Row wr g 35 (ints .u64 us)) (fun i _ => nb - (intOf i).toNat)
  case atStart => exact ⟨0, Nat.zero_le _, rfl, Keeps.refl _ _, zb, HLB.out, HG7.out⟩
  case round =>
    obtain ⟨k, hk, rfl, hkr, us, hul, hrow⟩ := hrel
    have HKR := Lib.hid hkr
    have HROW := Lib.hid hrow
    have HUL := Lib.hid hul
    clear hkr hrow hul
    by_cases hlt : k < nb
    · have a1 := HROW.out.cell (ints_at (k := .u64) (by rw [HUL.out]; exact hlt))
      have af := HROW.out.frozen k
      go_wp2
      go_roundw
      case rel => exact ⟨k + 1, by omega, by go_num, HKR.out.set (.head _) _ _, row_set HROW.out HUL.out k _⟩
      case measure => simp [intOf]; omega
    · obtain rfl : nb = k := by omega
      have HK8 := Lib.hid (HK7.out.step HKR.out (by simp; omega))
      have HI8 := Lib.hid (HR.out.frame HI7.out HKR.out (fun k hk h => by simp at h; exact HGS.out (h ▸ hk)))
      have HF8 := Lib.hid (owns_keeps HF7.out HKR.out (fun k hk => by have := (HF5lt.out k hk).2; simp; omega))
      clear HKR HROW HUL HI7 HF7 HG7 HK7
      go_wp2_with fail
      refine (HR.out.held wr S7 _ HI8.out).mono ?_
      rintro e w9 ⟨f2, rfl, own9, k9⟩
      have own9' : w9.ownsRow wr.heap.size 35 1 f2 zb.length (ints .u64 zb) := own9
      have hlt8 : ∀ k ∈ S7, k < wr.heap.size := HR.out.lt HI8.out
      have HLT8 := Lib.hid hlt8
      have hwr : w.heap.size ≤ wr.heap.size := HK8.out.size
      have HF9 := Lib.hid (owns_keeps HF8.out k9 (by simp))
      have HI9 := Lib.hid (HR.out.frame HI8.out k9 (by simp))
      have HK9 := Lib.hid (HK8.out.trans k9)
      have HO9 := Lib.hid own9'
      clear own9 k9 HF8 HI8 HK8 hlt8
      obtain ⟨q9, c9, rfl⟩ := (Sl.of_owns own9').len
      clear own9'
      go_wp2_with fail
      have hA9 : Sl w9 1 (.slice pa na ca) za.length (ints .u64 za) := by rw [HLA.out]; exact HA.out.below HK9.out.end (Nat.le_refl _)
      refine (HSame.out w9 _ _ za (by have := HLA.out; omega) (Sl.of_owns HF9.out) hA9).mono ?_
      clear hA9
      rintro e w10 ⟨rfl, k10⟩
      have HI10 := Lib.hid (HR.out.frame HI9.out k10 (by simp))
      have HK10 := Lib.hid (HK9.out.trans k10)
      have HO10 := Lib.hid (owns_keeps HO9.out k10 (by simp))
      clear k10 HI9 HK9 HO9 HF9
      go_wp2_with fail
      have hB10 : Sl w10 1 (.slice pb nb cb) zb.length (ints .u64 zb) := by rw [HLB.out]; exact HB.out.below HK10.out.end (Nat.le_refl _)
      refine (HSame.out w10 _ _ zb (by have := HLB.out; omega) (Sl.of_owns HO10.out) hB10).mono ?_
      clear hB10
      rintro e w11 ⟨rfl, k11⟩
      have HI11 := Lib.hid (HR.out.frame HI10.out k11 (by simp))
      have HK11 := Lib.hid (HK10.out.trans k11)
      have own11 := owns_keeps HO10.out k11 (by simp)
      have HO11 := Lib.hid own11
      clear k11 HI10 HK10 HO10 
      go_wp2_with fail
      have hlo11 := HO11.out.lt
      have hz0 : zb.length = nb := HLB.out
      have HSU := Lib.hid (Sl.of_owns HO11.out)
      by_cases hz : nb = 0
      · have dz : decide ((0 : Int) < (zb.length : Int)) = false := decide_eq_false (by omega)
        have dz2 : ¬ 0 < zb.length := by omega
        have HZ := Lib.hid hz
        clear own11 hlo11 hz0 hz
        refine wp_loop_rounds 1 ?_
        rw [rounds_succ]
        go_wp2_with fail
        refine (HR.out.held w11 S7 _ HI11.out).mono ?_
        rintro e w13 ⟨f3, rfl, own13, k13⟩
        have own13' : w13.ownsRow (World.heap w11).size 35 1 f3 zb.length (ints .u64 zb) := own13
        obtain ⟨q13, c13, rfl⟩ := (Sl.of_owns own13').len
        have HK13 := Lib.hid (HK11.out.trans k13)
        have HO13 := Lib.hid own13'
        clear own13 own13' k13
        go_wp2_with fail
        have hB13 : Sl w13 1 (.slice pb nb cb) zb.length (ints .u64 zb) := by rw [HLB.out]; exact HB.out.below HK13.out.end (Nat.le_refl _)
        refine (HSame.out w13 _ _ zb (by have := HLB.out; omega) (Sl.of_owns HO13.out) hB13).mono ?_
        clear hB13
        rintro e w14 ⟨rfl, k14⟩
        have HK14 := Lib.hid (HK13.out.trans k14)
        clear k14
        go_wp2
        go_ret
        exact ⟨rfl, HK14.out.end⟩
      · obtain ⟨g9, o9, cc9, he9, hb9, -⟩ := HSU.out.some (by omega)
        have ho9 : o9 = 0 := by
          rcases HO11.out.2 with ⟨h1, _⟩ | ⟨g', cap', cur, h1, _⟩
          · rw [h1] at he9; cases he9
          · rw [h1] at he9; cases he9; rfl
        subst ho9
        cases he9
        have hg9 := hlo11 g9 rfl
        have HG9 := Lib.hid (Row.of_owns HO11.out)
        have hg9S : g9 ∉ S7 := fun h => by have := HLT8.out g9 h; omega
        have HGS9 := Lib.hid hg9S
        have HLZ := Lib.hid hz0
        clear own11 hlo11 HSU HO11 hz0 hg9S
        go_loopw [13] (fun i wr => ∃ k : Nat, k ≤ nb ∧ i = .int .i64 k ∧ Keeps [g9] w11 wr ∧ ∃ us : List Int, us.length = nb ∧ Row wr g9 35 (ints .u64 us)) (fun i _ => nb - (intOf i).toNat)
        case atStart => exact ⟨0, Nat.zero_le _, rfl, Keeps.refl _ _, zb, HLB.out, HG9.out⟩
        case round =>
          obtain ⟨k, hk, rfl, hkr, us, hul, hrow⟩ := hrel
          have HKR := Lib.hid hkr
          have HROW := Lib.hid hrow
          have HUL := Lib.hid hul
          clear hkr hrow hul
          by_cases hlt : k < nb
          · have a1 := HROW.out.cell (ints_at (k := .u64) (by rw [HUL.out]; exact hlt))
            have af := HROW.out.frozen k
            have hlt2 : k < zb.length := by rw [HLZ.out]; exact hlt
            go_wp2
            go_roundw
            case rel => exact ⟨k + 1, by omega, by go_num, HKR.out.set (.head _) _ _, row_set HROW.out HUL.out k _⟩
            case measure => simp [intOf]; omega
          · obtain rfl : nb = k := by omega
            have hlt2 : ¬ nb < zb.length := by rw [HLZ.out]; omega
            have HK12 := Lib.hid (HK11.out.step HKR.out (by simp; omega))
            have HI12 := Lib.hid (HR.out.frame HI11.out HKR.out (fun k hk h => by simp at h; exact HGS9.out (h ▸ hk)))
            clear HKR HROW HUL HI11 HK11
            go_wp2_with fail
            refine (HR.out.held wr S7 _ HI12.out).mono ?_
            rintro e w13 ⟨f3, rfl, own13, k13⟩
            have own13' : w13.ownsRow (World.heap wr).size 35 1 f3 zb.length (ints .u64 zb) := own13
            obtain ⟨q13, c13, rfl⟩ := (Sl.of_owns own13').len
            have HK13 := Lib.hid (HK12.out.trans k13)
            have HO13 := Lib.hid own13'
            clear own13 own13' k13
            go_wp2_with fail
            have hB13 : Sl w13 1 (.slice pb nb cb) zb.length (ints .u64 zb) := by rw [HLB.out]; exact HB.out.below HK13.out.end (Nat.le_refl _)
            refine (HSame.out w13 _ _ zb (by have := HLB.out; omega) (Sl.of_owns HO13.out) hB13).mono ?_
            clear hB13
            rintro e w14 ⟨rfl, k14⟩
            have HK14 := Lib.hid (HK13.out.trans k14)
            clear k14
            go_wp2
            go_ret
            exact ⟨rfl, HK14.out.end⟩

set_option maxRecDepth 100000 in
theorem lifted (os : Os) (started : os.Started) (H : Type) (enc : TypeId × Value → H) :
    ReturnsInHanded {} Try.checked os 7 .any (Rows.walkHoldsSpec.pre6 enc Try.prog Try.f7 Rows.walkHoldsRow.domain false) (Rows.walkHoldsSpec.post enc Try.prog Try.f7 false true false false) := by
  refine returnsInHanded_of_change (C := Try.checked) own started (by kernel_rfl) Try.func7
    (ChangeSpec.witness6 (enc := enc) (C := Try.checked) false ⟨#[], #[.slice none 0 0, .slice none 0 0, .bool false], []⟩ 8 (by kernel_rfl) (by kernel_rfl) (by kernel_rfl) (by kernel_rfl)) ?_
  intro W base args ds gs before hval0 hW hcnd _
  have hval : ∀ (j : Nat) t v, Try.f7.params[j]? = some t → args[j]? = some v → Value.okWide Try.prog W .any base t v := hval0
  have hW' := hW
  obtain ⟨p, q, hA0, hV, rfl, hfz, hnd⟩ := hW
  have hA : DataW.TrodAll enc Try.prog W 0 (fun _ => true) true Try.f7.params.toList args.toList ds p := hA0
  rw [Try.params7] at hA hval
  obtain ⟨v0, vs0, d0, ds0, q0, qs0, hargs, rfl, rfl, h0, r0⟩ := trodAll_cons hA
  obtain ⟨v1, vs1, d1, ds1, q1, qs1, rfl, rfl, rfl, h1, r1⟩ := trodAll_cons r0
  obtain ⟨v2, vs2, d2, ds2, q2, qs2, rfl, rfl, rfl, h2, r2⟩ := trodAll_cons r1
  obtain ⟨rfl, rfl, rfl⟩ := trodAll_nil r2
  obtain rfl : args = #[v0, v1, v2] := by cases args; simp_all
  obtain ⟨rfl, rfl⟩ := trodVars_none hV
  obtain ⟨p0, n0, c0, rfl⟩ := okWide_slice Try.underlying26 (hval 0 26 v0 rfl rfl)
  have k0 := h0
  have lt0 : ∀ x ∈ q0, x.block < W.heap.size := by obtain ⟨m, hm⟩ := k0; exact DataW.trod_lt m _ _ _ hm
  obtain ⟨z0, s0, m0, b0⟩ := (by obtain ⟨fu, hf⟩ := h0; exact sl_ints Try.underlying26 Try.underlying35 (by kernel_rfl) hf : ∃ zs : List Int, Sl W 1 (.slice p0 n0 c0) n0 (ints .u64 zs) ∧ n0 ≤ maxLen ∧ ∀ z ∈ zs, (Lit.int .u64 z).wf = true)
  obtain ⟨p1, n1, c1, rfl⟩ := okWide_slice Try.underlying26 (hval 1 26 v1 rfl rfl)
  have k1 := h1
  have lt1 : ∀ x ∈ q1, x.block < W.heap.size := by obtain ⟨m, hm⟩ := k1; exact DataW.trod_lt m _ _ _ hm
  obtain ⟨z1, s1, m1, b1⟩ := (by obtain ⟨fu, hf⟩ := h1; exact sl_ints Try.underlying26 Try.underlying35 (by kernel_rfl) hf : ∃ zs : List Int, Sl W 1 (.slice p1 n1 c1) n1 (ints .u64 zs) ∧ n1 ≤ maxLen ∧ ∀ z ∈ zs, (Lit.int .u64 z).wf = true)
  obtain ⟨a2, rfl, rfl, rfl⟩ := open_bool Try.underlying4 (hval 2 4 v2 rfl rfl) h2
  clear hA0 hval0
  simp only [List.append_nil] at hW'
  refine (walk p0 n0 c0 z0 p1 n1 c1 z1 a2 W s0 m0 b0 s1 m1 b1).mono fun e W' ⟨he, bel⟩ => ?_
  subst he
  exact ⟨_, rfl, _, _, _, [], _, [], hW', trodAll_mk1 (shut_bool Try.underlying4 _), (trodAll_cons_mk (Below.trod laidOut (by kernel_rfl) (of_decide_eq_true (by kernel_rfl)) k0 bel lt0) (trodAll_cons_mk (Below.trod laidOut (by kernel_rfl) (of_decide_eq_true (by kernel_rfl)) k1 bel lt1) (trodAll_cons_mk (shut_bool Try.underlying4 _) trodAll_mk0))), rfl, bel.frame _, fun h => by cases h⟩

theorem proved : Rows.WalkHoldsSaid :=
  OpenClaim.holds_of_wide 7 Try.f7 rfl rfl rfl rfl rfl rfl rfl ⟨rfl, rfl, rfl, rfl, rfl⟩ rfl rfl rfl rfl rfl (by kernel_rfl) Try.func7 (by kernel_rfl)
    (of_decide_eq_true (by kernel_rfl)) (by unfold Func.isWrapper; first | (rw [if_pos (by decide +kernel)]; kernel_rfl) | (rw [if_neg (by decide +kernel)]; exact ⟨rfl, rfl⟩))
    (fun os started H enc _ => lifted os started H enc)
#print axioms proved
end Go.Proofs.Ytahjnpopncninaa.walkHolds
