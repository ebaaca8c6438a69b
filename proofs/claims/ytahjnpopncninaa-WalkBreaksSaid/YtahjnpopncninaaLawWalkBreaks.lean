/-
  The law WalkBreaks of the statements holds for every input: the call returns true, and the arguments read as before.
-/
import Derived.Test.YtahjnpopncninaaAwake4
import Derived.Test.YtahjnpopncninaaKinds4
import Derived.Test.YtahjnpopncninaaLook
import Derived.Test.YtahjnpopncninaaOpen
import Derived.Test.YtahjnpopncninaaAcc
import Derived.IntWalk
import Derived.Deep.CutRange
import Derived.Deep.CutBlock
import Derived.Test.YtahjnpopncninaaRows
import Derived.WalkKit
import Derived.ProofKit
import Derived.OpenShut
import Derived.ShutString
import Derived.ChangeOld
import Derived.Below
import Derived.Test.YtahjnpopncninaaOpen
namespace Go.Proofs.Ytahjnpopncninaa.walkBreaks
open Go.ChangeShapes Go.WideShapes Go.ChangeAt Go.RowKit
open Go.ChangeMaps (open_string shut_string)
set_option linter.unusedVariables false

theorem own : ownKnob Try.prog.godebug = none := by kernel_rfl
theorem laidOut : laidOutB Try.prog = true := by kernel_rfl

def upto (k : Nat) : List Int := (List.range k).map (fun i : Nat => (i : Int))
theorem upto_len (k : Nat) : (upto k).length = k := by simp [upto]
theorem upto_succ (k : Nat) : upto (k + 1) = upto k ++ [(k : Int)] := by simp [upto, List.range_succ]
theorem upto_at {k i : Nat} (h : i < k) : (ints .u64 (upto k))[i]? = some (.int .u64 (i : Int)) := by simp [upto, ints, h]
theorem row_setv {w : World} {g : Nat} {e : TypeId} {cs : List Value} {n : Nat} (h : Row w g e cs) (hl : cs.length = n) (k : Nat) (u : Value) : ∃ cs' : List Value, cs'.length = n ∧ Row (w.setCell ⟨g, k, none⟩ u) g e cs' :=
  ⟨cs.set k u, by rw [List.length_set]; exact hl, h.set k u⟩
def Tail (n k : Nat) (us : List Int) : Prop := us.length = n ∧ ∀ j, k ≤ j → j < n → us[j]? = some (j : Int)
theorem row_tail {w : World} {g n k : Nat} {e : TypeId} {us : List Int} (h : Row w g e (ints .u64 us)) (ht : Tail n k us) (z : Int) : ∃ us' : List Int, Tail n (k + 1) us' ∧ Row (w.setCell ⟨g, k, none⟩ (.int .u64 z)) g e (ints .u64 us') :=
  ⟨us.set k z, ⟨by rw [List.length_set]; exact ht.1, fun j h1 h2 => by rw [List.getElem?_set_ne (by omega)]; exact ht.2 j (by omega) h2⟩, by rw [show ints .u64 (us.set k z) = (ints .u64 us).set k (.int .u64 z) by simp [ints, List.map_set]]; exact h.set k _⟩

set_option maxHeartbeats 3200000 in
set_option maxRecDepth 100000 in
theorem walk (q : Option Addr) (nq cq : Nat) (xs : List C.Acc) (ai : Int) (code : Int) (w : World) (hxs : Sl w 4 (.slice q nq cq) nq (accs xs)) (hxl : xs.length = nq) (hxn : nq ≤ maxLen) (hxo : ∀ x ∈ xs, x.ok) (hai : (Lit.int .i64 ai).wf = true) (hco : (Lit.int .i64 code).wf = true) :
    Calls Try.prog 5 #[.slice q nq cq, .int .i64 ai, .int .i64 code] w fun e w' => e = .returned (.bool true) ∧ Below w.heap.size w w' := by
  subst hxl
  unfold maxLen at hxn
  have HX := Lib.hid hxs
  clear hxs hxo hai hco
  go_enter Try.func5, Try.ntmps5
  go_wp2_with fail
  refine (awake4 w).mono ?_
  rintro e w1 ⟨rfl, k1⟩
  have HK1 := Lib.hid k1
  clear k1
  by_cases h0 : 100 < xs.length
  · have d0 : decide ((100 : Int) < xs.length) = true := decide_eq_true (by omega)
    go_wp2
    go_ret
    exact ⟨rfl, HK1.out.end⟩
  have d0 : decide ((100 : Int) < xs.length) = false := decide_eq_false (by omega)
  by_cases h1 : ai < 0
  · have d1 : decide (ai < 0) = true := decide_eq_true h1
    go_wp2
    go_ret
    exact ⟨rfl, HK1.out.end⟩
  have d1 : decide (ai < 0) = false := decide_eq_false h1
  by_cases h2 : (xs.length : Int) < ai
  · have d2 : decide ((xs.length : Int) < ai) = true := decide_eq_true h2
    go_wp2
    go_ret
    exact ⟨rfl, HK1.out.end⟩
  obtain ⟨A, rfl⟩ : ∃ A : Nat, ai = (A : Int) := ⟨ai.toNat, by omega⟩
  have hA : A ≤ xs.length := by omega
  have d2 : decide (xs.length < A) = false := decide_eq_false (by omega)
  have d2' : ¬ xs.length < A := by omega
  clear h1 h2
  have HX1 := Lib.hid (HX.out.below HK1.out.end (Nat.le_refl _))
  go_wp2_with (at_builtin; refine wpList_append_sl rfl _ _ 22 rfl w1.heap.size 37 _ 4 32 Try.underlying22 elemAcc _ _ _ rfl (owns_empty w1 37 4) _ xs.length (accs xs) rfl (HX1.out.below ((Below.refl _ _).alloc (Nat.le_refl _) _) (Nat.le_refl _)) (accs_one xs) ?c1 ?c2 ?_)
  case c1 => omega
  case c2 => simp
  intro v2 w2 own2 grow2 ne2
  try simp only [Nat.zero_add, List.nil_append] at own2
  obtain ⟨g, cap, rfl, hg1⟩ := owns_at' own2 (by simpa using ne2)
  have k2 : Keeps [] w1 w2 := ((Keeps.refl [] w1).alloc _).grown grow2 (fun k hk hl => by simp [Value.ownBlock] at hk; omega)
  have hg2 := (own2.lt g rfl).2
  have HG2 := Lib.hid (Row.of_owns own2)
  have HK2 := Lib.hid (HK1.out.trans k2)
  have hwg : w.heap.size ≤ g := by have := HK1.out.size; omega
  clear own2 grow2 ne2 k2 HX1 HK1
  go_wp2_with fail
  refine (wPlain _ xs w2 (HG2.out.sl (by rw [accs_len])) (by omega)).mono ?_
  rintro e w3 ⟨m, S, rfl, hI, k3, hS⟩
  have HG3 := Lib.hid (HG2.out.keeps k3 (by simp))
  have HK3 := Lib.hid (HK2.out.trans k3)
  have HI3 := Lib.hid (show LoneI plainM (plainE m) m w3 S ⟨xs, upto 0, []⟩ from hI)
  have hw2 := HK2.out.size
  have HS := Lib.hid (show ∀ k ∈ S, w.heap.size ≤ k ∧ k ≠ g from fun k hk => by have := hS k hk; omega)
  clear hI k3 hS HG2 HK2
  have HR := Lib.hid (plainRuns m)
  go_wp2
  go_loopw [9] (fun i wr => ∃ k : Nat, k ≤ xs.length ∧ i = .int .i64 k ∧ Keeps [g] w3 wr ∧ ∃ cs : List Value, cs.length = xs.length * 4 ∧ Row wr g 37 cs) (fun i _ => xs.length - (intOf i).toNat)
  case atStart => exact ⟨0, Nat.zero_le _, rfl, Keeps.refl _ _, accs xs, accs_len xs, HG3.out⟩
  case round =>
    obtain ⟨k, hk, rfl, hkr, cs, hcl, hrow⟩ := hrel
    have HKR := Lib.hid hkr
    have HROW := Lib.hid hrow
    have HCL := Lib.hid hcl
    clear hkr hrow hcl
    by_cases hlt : k < xs.length
    · obtain ⟨u, hu⟩ : ∃ u, cs[k * 4 + 1]? = some u := ⟨_, List.getElem?_eq_getElem (by rw [HCL.out]; omega)⟩
      have a1 := HROW.out.cell hu
      have af := HROW.out.frozen (k * 4 + 1)
      clear hu
      go_wp2
      go_roundw
      case rel => exact ⟨k + 1, by omega, by go_num, HKR.out.set (.head _) _ _, row_setv HROW.out HCL.out _ _⟩
      case measure => simp [intOf]; omega
    · have hkn : k = xs.length := by omega
      have HKN := Lib.hid hkn
      have HK4 := Lib.hid (HK3.out.step HKR.out (by simp; omega))
      have HI4 := Lib.hid (HR.out.frame HI3.out HKR.out (fun k hk h => by simp at h; exact (HS.out k hk).2 h))
      clear HKR HROW HCL HI3 HG3 HK3 hkn
      go_wp2
      obtain ⟨W4, hW4⟩ : ∃ W4, W4 = wr := ⟨_, rfl⟩
      rw [← hW4] at HK4 HI4
      go_loopw [10] (fun i wx => ∃ j : Nat, j ≤ A ∧ i = .int .i64 j ∧ ∃ S', LoneI plainM (plainE m) m wx S' ⟨xs, upto j, []⟩ ∧ Keeps [] w wx ∧ ∀ k ∈ S', w.heap.size ≤ k) (fun i _ => A - (intOf i).toNat)
      case atStart => exact ⟨0, Nat.zero_le _, rfl, S, by rw [← hW4]; exact HI4.out, by rw [← hW4]; exact HK4.out, fun k hk => (HS.out k hk).1⟩
      case round =>
        obtain ⟨j, hj, rfl, S', hI, hK, hSn⟩ := hrel
        have HI5 := Lib.hid hI
        have HK5 := Lib.hid hK
        have HS5 := Lib.hid hSn
        clear hI hK hSn
        by_cases hlt2 : j < A
        · obtain ⟨x, hx⟩ : ∃ x, xs[j]? = some x := ⟨_, List.getElem?_eq_getElem (by omega)⟩
          have hwant : plainM.want ⟨xs, upto j, []⟩ = some x := by show xs[(upto j).length]? = some x; rw [upto_len]; exact hx
          have D := HR.out.want _ S' _ HI5.out
          rw [hwant] at D
          obtain ⟨b, o, cc, he, hb, hc⟩ := HX.out.some (by omega)
          cases he
          obtain ⟨q0, q1, q2, q3⟩ := accs_at xs j x hx
          have HC := Lib.hid (⟨hc _ _ q0, hc _ _ q1, hc _ _ q2, hc _ _ q3⟩ : _ ∧ _ ∧ _ ∧ _)
          have hu : M.U (j : Int) := ⟨by omega, by omega⟩
          have hgive : plainM.give ⟨xs, upto j, []⟩ (j : Int) true = ⟨xs, upto (j + 1), []⟩ := by
            simp only [plainM, upto_len]; rw [if_pos (by omega), upto_succ]
          have HGV := Lib.hid hgive
          have HU := Lib.hid hu
          have HD := Lib.hid D
          clear D hwant hc q0 q1 q2 q3 hx hgive hu
          go_wp2_with fail
          refine HD.out.mono ?_
          clear HD
          rintro e w6 ⟨rfl, k6⟩
          have HI6 := Lib.hid (HR.out.frame HI5.out k6 (by simp))
          have HK6 := Lib.hid (HK5.out.trans k6)
          clear k6
          go_upto_region 15 with (fail)
          generalize hW7 : World.alloc _ _ = W7
          have hb7 : Box W7 w6.heap.size #[.int .i64 x.k, .int .i64 x.c, .int .u64 x.a, .int .u64 x.b] := by rw [← hW7]; exact Box.new _ _ _
          have hk7 : Keeps [] w6 W7 := by rw [← hW7]; exact (Keeps.refl _ _).alloc _
          have HI7 := Lib.hid (HR.out.frame HI6.out hk7 (by simp))
          have hkk := HK6.out.trans hk7
          have a0 := hb7.cells 0
          have a1 := hb7.cells 1
          have a2 := hb7.cells 2
          have a3 := hb7.cells 3
          simp at a0 a1 a2 a3
          have c0 : W7.cell? ⟨b, o + j * 4, none⟩ = some (.int .i64 x.k) := (hkk.cell (p := ⟨b, _, none⟩) hb (by simp)).trans HC.out.1
          have c1 : W7.cell? ⟨b, o + j * 4 + 1, none⟩ = some (.int .i64 x.c) := (hkk.cell (p := ⟨b, _, none⟩) hb (by simp)).trans (by rw [Nat.add_assoc]; exact HC.out.2.1)
          have c2 : W7.cell? ⟨b, o + j * 4 + 2, none⟩ = some (.int .u64 x.a) := (hkk.cell (p := ⟨b, _, none⟩) hb (by simp)).trans (by rw [Nat.add_assoc]; exact HC.out.2.2.1)
          have c3 : W7.cell? ⟨b, o + j * 4 + 3, none⟩ = some (.int .u64 x.b) := (hkk.cell (p := ⟨b, _, none⟩) hb (by simp)).trans (by rw [Nat.add_assoc]; exact HC.out.2.2.2)
          have HKK := Lib.hid hkk
          have i0 : (0 : Int) ≤ (j : Int) := by omega
          have i1 : (j : Int) < (xs.length : Int) := by omega
          have i2 : j < xs.length := by omega
          have iu : IntKind.u64.wrap (j : Int) = (j : Int) := IntWalk.u64_in _ (by omega)
          clear hW7 hb7 hk7 hkk HI6 HK6 HI5 HK5
          go_quiet (fail)
          go_wp2_with fail
          refine (HR.out.give _ S' _ (j : Int) true (HR.out.frame HI7.out (Keeps.refl [] W7).drewN (by simp)) HU.out).mono ?_
          rintro e w8 ⟨rfl, S8, hI, k8, n8⟩
          have hsz := HKK.out.size
          have HP := Lib.hid (show ∃ S'', LoneI plainM (plainE m) m w8 S'' ⟨xs, upto (j + 1), []⟩ ∧ Keeps [] w w8 ∧ ∀ k ∈ S'', w.heap.size ≤ k from ⟨S8, by rw [← HGV.out]; exact hI, HKK.out.drewN.step k8 HS5.out, fun k hk => by rcases n8 k hk with h | h; exact HS5.out k h; exact Nat.le_trans hsz h⟩)
          clear hI k8 n8 a0 a1 a2 a3 c0 c1 c2 c3 iu
          go_wp2
          go_roundw
          case rel => exact ⟨j + 1, by omega, by go_num, HP.out⟩
          case measure => simp [intOf]; omega
        · obtain rfl : A = j := by omega
          have hml : m ∈ S' := by obtain ⟨S1, T1, st, rfl, hL, -⟩ := HI5.out; exact List.mem_append_left _ hL.mem
          have hwm : w.heap.size ≤ m := HS5.out m hml
          clear HI4 HK4 hW4 HKN hml
          by_cases hAn : A < xs.length
          · obtain ⟨S1, T1, st, hU, hL, -, -, -, -⟩ := HI5.out
            have hov : st.over = false := by
              rw [hL.over]; simp [Mach.face, plainM, upto_len]; omega
            have HBk := Lib.hid (wBreak m st code _ hL.wk hov (.inr ⟨hL.under, hL.outer⟩))
            have HSUB := Lib.hid hL.sub
            clear hL hov hU
            go_wp2_with fail
            refine HBk.out.mono ?_
            clear HBk
            rintro e w6 ⟨rfl, l', hwk, hown, k6⟩
            have HK6 := Lib.hid (HK5.out.step k6 (by simp; omega))
            have HW6 := Lib.hid hwk
            have HL6 := Lib.hid hown
            clear hwk hown k6
            go_wp2_with fail
            refine (wWantNone m _ w6 HW6.out HSUB.out rfl).mono ?_
            rintro e w7 ⟨rfl, k7⟩
            have HK7 := Lib.hid (HK6.out.trans k7)
            have HW7 := Lib.hid (HW6.out.keeps k7 (by simp))
            have HL7 := Lib.hid (owns_keeps HL6.out k7 (by simp))
            clear k7 HK6 HW6 HL6
            go_wp2_with fail
            generalize hW8 : World.alloc _ _ = W8
            have hk8 : Keeps [] w7 W8 := by rw [← hW8]; exact (Keeps.refl _ _).alloc _
            have HK8 := Lib.hid (HK7.out.trans hk8)
            have HW8 := Lib.hid (HW7.out.keeps hk8 (by simp))
            have HL8 := Lib.hid (owns_keeps HL7.out hk8 (by simp))
            clear hk8 hW8 HK7 HW7 HL7
            refine (wResult m _ 0 [] W8 HW8.out rfl (Sl.of_owns HL8.out) (by simp)).mono ?_
            rintro e w9 ⟨l2, rfl, own9, k9⟩
            obtain ⟨q9, c9, rfl⟩ := (Sl.of_owns own9).len
            have HK9 := Lib.hid (HK8.out.trans k9)
            have HO9 := Lib.hid own9
            clear k9 own9 HK8 HW8 HL8
            have dA : decide (A < xs.length) = true := decide_eq_true hAn
            go_wp2_with fail
            generalize hW10 : World.alloc _ _ = W10
            have HK10 := Lib.hid (show Keeps [] w W10 by rw [← hW10]; exact HK9.out.alloc _)
            have HO10 : Hid (Sl W10 1 (.slice q9 0 c9) 0 (ints .u64 [])) := Lib.hid ⟨rfl, .inl ⟨_, _, rfl, rfl⟩⟩
            clear hW10
            refine (sameResult_any code 0 (.slice q9 0 c9) (.slice none 0 0) 0 0 [] W10 (Nat.zero_le _) (Nat.zero_le _) HO10.out ⟨rfl, .inl ⟨_, _, rfl, rfl⟩⟩).mono ?_
            rintro e w11 ⟨rfl, k11⟩
            have HK11 := Lib.hid (HK10.out.trans k11)
            clear k11
            go_wp2
            go_ret
            exact ⟨rfl, HK11.out.end⟩
          · have hAx : A = xs.length := by omega
            have hres : plainM.res ⟨xs, upto A, []⟩ = some ⟨0, (upto A).getLast?.getD 0, upto A⟩ := by simp [plainM, upto_len, hAx]
            have hwant : plainM.want ⟨xs, upto A, []⟩ = none := by simp [plainM, upto_len, hAx]
            have hov : ∃ st, Wk wr m st ∧ st.over = true := by
              obtain ⟨S1, T1, st, hU, hL, -, -, -, -⟩ := HI5.out
              exact ⟨st, hL.wk, by rw [hL.over]; show (plainM.res _).isSome = true; rw [hres]; rfl⟩
            obtain ⟨st, hwk, ho⟩ := hov
            have HBk := Lib.hid (wBreakOver m st code _ hwk ho)
            have HRES : Hid (∀ W, LoneI plainM (plainE m) m W S' ⟨xs, upto A, []⟩ → Calls Try.prog 17 #[.pointer (some ⟨m, 0, none⟩)] W fun e w' => ∃ q c,
                e = .returned (.tuple #[.agg #[.int .i64 0, .int .u64 ((upto A).getLast?.getD 0), .slice q A c], .bool true]) ∧ w'.ownsRow W.heap.size 35 1 (.slice q A c) A (ints .u64 (upto A)) ∧ Keeps [] W w') := Lib.hid fun W hW => by
              have D := HR.out.result W S' _ hW
              rw [hres] at D
              refine D.mono ?_
              rintro e w' ⟨l, rfl, h1, h2⟩
              have h1' : w'.ownsRow W.heap.size 35 1 l A (ints .u64 (upto A)) := by have := h1; simpa [upto_len] using this
              obtain ⟨q, c, rfl⟩ := (Sl.of_owns h1').len
              exact ⟨q, c, rfl, h1', h2⟩
            have DW := fun W (hW : LoneI plainM (plainE m) m W S' ⟨xs, upto A, []⟩) => HR.out.want W S' _ hW
            rw [hwant] at DW
            have HDW := Lib.hid DW
            have HAX := Lib.hid hAx
            have dA : decide (A < xs.length) = false := decide_eq_false hAn
            have dA2 : ¬ A < xs.length := hAn
            obtain ⟨vl, hvl⟩ : ∃ vl, (upto A).getLast?.getD 0 = vl := ⟨_, rfl⟩
            rw [hvl] at HRES
            have HVL := Lib.hid hvl
            clear hres hwant hwk ho DW hAx hAn hvl
            go_wp2_with fail
            refine HBk.out.mono ?_
            clear HBk
            rintro e w6 ⟨rfl, k6⟩
            have HK6 := Lib.hid (HK5.out.trans k6)
            have HI6 := Lib.hid (HR.out.frame HI5.out k6 (by simp))
            clear k6
            go_wp2_with fail
            refine (HDW.out w6 HI6.out).mono ?_
            rintro e w7 ⟨rfl, k7⟩
            have HK7 := Lib.hid (HK6.out.trans k7)
            have HI7 := Lib.hid (HR.out.frame HI6.out k7 (by simp))
            clear k7 HK6 HI6
            go_wp2_with fail
            generalize hW8 : World.alloc _ _ = W8
            have hk8 : Keeps [] w7 W8 := by rw [← hW8]; exact (Keeps.refl _ _).alloc _
            have HK8 := Lib.hid (HK7.out.trans hk8)
            have HI8 := Lib.hid (HR.out.frame HI7.out hk8 (by simp))
            clear hk8 hW8 HK7 HI7
            refine (HRES.out W8 HI8.out).mono ?_
            rintro e w9 ⟨q9, c9, rfl, own9, k9⟩
            have HK9 := Lib.hid (HK8.out.trans k9)
            have HI9 := Lib.hid (HR.out.frame HI8.out k9 (by simp))
            have HO9 := Lib.hid own9
            have hlt8 : ∀ k ∈ S', k < W8.heap.size := HR.out.lt HI8.out
            have HLT8 := Lib.hid hlt8
            clear k9 own9 hlt8
            have hAA : ((A : Int) != (A : Int)) = false := by simp
            obtain ⟨br, hbr⟩ : ∃ br, w9.heap.size = br := ⟨_, rfl⟩
            obtain ⟨W10, hW10⟩ : ∃ W10, w9.alloc (.cells #[.int .i64 0, .int .u64 vl, .slice q9 A c9] 49) = W10 := ⟨_, rfl⟩
            have hb10 : Row W10 br 49 [.int .i64 0, .int .u64 vl, .slice q9 A c9] := by rw [← hW10, ← hbr]; exact Row.new _ _ _
            have hk10 : Keeps [] w9 W10 := by rw [← hW10]; exact (Keeps.refl _ _).alloc _
            have r0 := hb10.cell (j := 0) rfl
            have r2 := hb10.cell (j := 2) rfl
            have HB10 := Lib.hid hb10
            have HK10 := Lib.hid (HK9.out.trans hk10)
            have HI10 := Lib.hid (HR.out.frame HI9.out hk10 (by simp))
            have HO10 := Lib.hid (owns_keeps HO9.out hk10 (by simp))
            have hbr9 : ∀ k, (Value.slice q9 A c9).ownBlock = some k → W8.heap.size ≤ k ∧ k < br := fun k hk => by rw [← hbr]; exact HO9.out.lt k hk
            have HBR9 := Lib.hid hbr9
            clear hb10 hk10 HK9 HI9 HO9 hbr9
            go_wp2_with fail
            clear hW10
            by_cases hA0 : A = 0
            · have z0 : ¬ 0 < A := by omega
              have z1 : (A == 0) = true := by simp [hA0]
              have z2 : ((A : Int) == 0) = true := by simp [hA0]
              have HA0 := Lib.hid hA0
              clear hA0
              refine wp_loop_rounds 1 ?_
              rw [rounds_succ]
              go_wp2_with fail
              refine (HRES.out W10 HI10.out).mono ?_
              rintro e w13 ⟨q13, c13, rfl, own13, k13⟩
              have HK13 := Lib.hid (HK10.out.trans k13)
              have HO13 := Lib.hid own13
              clear own13 k13
              go_wp2
              go_ret
              exact ⟨rfl, (HK13.out.alloc _).end⟩
            · obtain ⟨g9, o9, cc9, he9, hb9, -⟩ := (Sl.of_owns HO10.out).some (by omega)
              have ho9 : o9 = 0 := by
                rcases HO10.out.2 with ⟨h1, _⟩ | ⟨g', cap', cur, h1, _⟩
                · rw [h1] at he9; cases he9
                · rw [h1] at he9; cases he9; rfl
              subst ho9
              cases he9
              have hg9 := HBR9.out g9 rfl
              have HG9 := Lib.hid (Row.of_owns HO10.out)
              have hg9S : g9 ∉ S' := fun h => by have := HLT8.out g9 h; omega
              have HGS9 := Lib.hid hg9S
              have hg9w : w.heap.size ≤ g9 := by have := HK8.out.size; omega
              have hgb : br ≠ g9 := by omega
              have HGB := Lib.hid hgb
              clear hg9S HO10 r0 r2 hgb
              go_loopw [17] (fun i wx => ∃ k : Nat, k ≤ A ∧ i = .int .i64 k ∧ Keeps [g9] W10 wx ∧ ∃ us : List Int, Tail A k us ∧ Row wx g9 35 (ints .u64 us)) (fun i _ => A - (intOf i).toNat)
              case atStart => exact ⟨0, Nat.zero_le _, rfl, Keeps.refl _ _, upto A, ⟨upto_len A, fun j _ hj => by simp [upto, hj]⟩, HG9.out⟩
              case round =>
                obtain ⟨i, hi, rfl, hkr, us, hul, hrow⟩ := hrel
                have HKR := Lib.hid hkr
                have HROW := Lib.hid hrow
                have HUL := Lib.hid hul
                have r2 := (HB10.out.keeps hkr (by simpa using HGB.out)).cell (j := 2) rfl
                clear hkr hrow hul
                by_cases hlt3 : i < A
                · have hui := HUL.out.2 i (Nat.le_refl _) hlt3
                  have hcell : (ints .u64 us)[i]? = some (.int .u64 (i : Int)) := by simp [ints, List.getElem?_map, hui]
                  have a1 := HROW.out.cell hcell
                  have af := HROW.out.frozen i
                  have iu : IntKind.u64.wrap (i : Int) = (i : Int) := IntWalk.u64_in _ (by omega)
                  clear hui hcell
                  go_wp2
                  go_roundw
                  case rel => exact ⟨i + 1, by omega, by go_num, HKR.out.set (.head _) _ _, row_tail HROW.out HUL.out _⟩
                  case measure => simp [intOf]; omega
                · have hiA : ¬ i < A := hlt3
                  have HK12 := Lib.hid (HK10.out.step HKR.out (by simp; omega))
                  have HI12 := Lib.hid (HR.out.frame HI10.out HKR.out (fun k hk h => by simp at h; exact HGS9.out (h ▸ hk)))
                  clear HKR HROW HUL HI10 HK10
                  go_wp2_with fail
                  refine (HRES.out _ HI12.out).mono ?_
                  rintro e w13 ⟨q13, c13, rfl, own13, k13⟩
                  have HK13 := Lib.hid (HK12.out.trans k13)
                  have HO13 := Lib.hid own13
                  clear own13 k13
                  obtain ⟨g13, o13, cc13, he13, hb13, hc13⟩ := (Sl.of_owns HO13.out).some (by omega)
                  have hc0 := hc13 0 _ (upto_at (by omega))
                  have ho13 : o13 = 0 := by
                    rcases HO13.out.2 with ⟨h1, _⟩ | ⟨g', cap', cur, h1, _⟩
                    · rw [h1] at he13; cases he13
                    · rw [h1] at he13; cases he13; rfl
                  subst ho13
                  cases he13
                  simp only [Nat.add_zero, Int.natCast_zero] at hc0
                  have z1 : ((A : Int) == 0) = false := by simp; omega
                  have z2 : (A == 0) = false := by simp; omega
                  have z3 : (0 : Int) < (A : Int) := by omega
                  have z4 : 0 < A := by omega
                  clear hc13 HO13
                  go_wp2
                  go_ret
                  exact ⟨rfl, (HK13.out.alloc _).end⟩

set_option maxRecDepth 100000 in
theorem lifted (os : Os) (started : os.Started) (H : Type) (enc : TypeId × Value → H) :
    ReturnsInHanded {} Try.checked os 5 .any (Rows.walkBreaksSpec.pre6 enc Try.prog Try.f5 Rows.walkBreaksRow.domain false) (Rows.walkBreaksSpec.post enc Try.prog Try.f5 false true false false) := by
  refine returnsInHanded_of_change (C := Try.checked) own started (by kernel_rfl) Try.func5
    (ChangeSpec.witness6 (enc := enc) (C := Try.checked) false ⟨#[], #[.slice none 0 0, .int .i64 0, .int .i64 0], []⟩ 8 (by kernel_rfl) (by kernel_rfl) (by kernel_rfl) (by kernel_rfl)) ?_
  intro W base args ds gs before hval0 hW hcnd _
  have hval : ∀ (j : Nat) t v, Try.f5.params[j]? = some t → args[j]? = some v → Value.okWide Try.prog W .any base t v := hval0
  have hW' := hW
  obtain ⟨p, q, hA0, hV, rfl, hfz, hnd⟩ := hW
  have hA : DataW.TrodAll enc Try.prog W 0 (fun _ => true) true Try.f5.params.toList args.toList ds p := hA0
  rw [Try.params5] at hA hval
  obtain ⟨v0, vs0, d0, ds0, q0, qs0, hargs, rfl, rfl, h0, r0⟩ := trodAll_cons hA
  obtain ⟨v1, vs1, d1, ds1, q1, qs1, rfl, rfl, rfl, h1, r1⟩ := trodAll_cons r0
  obtain ⟨v2, vs2, d2, ds2, q2, qs2, rfl, rfl, rfl, h2, r2⟩ := trodAll_cons r1
  obtain ⟨rfl, rfl, rfl⟩ := trodAll_nil r2
  obtain rfl : args = #[v0, v1, v2] := by cases args; simp_all
  obtain ⟨rfl, rfl⟩ := trodVars_none hV
  obtain ⟨p0, n0, c0, rfl⟩ := okWide_slice Try.underlying22 (hval 0 22 v0 rfl rfl)
  have k0 := h0
  have lt0 : ∀ x ∈ q0, x.block < W.heap.size := by obtain ⟨m, hm⟩ := k0; exact DataW.trod_lt m _ _ _ hm
  obtain ⟨z0, s0, l0, m0, b0⟩ := (by obtain ⟨fu, hf⟩ := h0; exact sl_accs Try.underlying22 hf : ∃ xs : List C.Acc, Sl W 4 (.slice p0 n0 c0) n0 (accs xs) ∧ xs.length = n0 ∧ n0 ≤ maxLen ∧ ∀ x ∈ xs, x.ok)
  obtain ⟨a1, rfl, rfl, rfl, w1⟩ := open_int Try.underlying3 (hval 1 3 v1 rfl rfl) h1
  obtain ⟨a2, rfl, rfl, rfl, w2⟩ := open_int Try.underlying43 (hval 2 43 v2 rfl rfl) h2
  clear hA0 hval0
  simp only [List.append_nil] at hW'
  refine (walk p0 n0 c0 z0 a1 a2 W s0 l0 m0 b0 w1 w2).mono fun e W' ⟨he, bel⟩ => ?_
  subst he
  exact ⟨_, rfl, _, _, _, [], _, [], hW', trodAll_mk1 (shut_bool Try.underlying4 _), (trodAll_cons_mk (Below.trod laidOut (by kernel_rfl) (of_decide_eq_true (by kernel_rfl)) k0 bel lt0) (trodAll_cons_mk (shut_int Try.underlying3 w1) (trodAll_cons_mk (shut_int Try.underlying43 w2) trodAll_mk0))), rfl, bel.frame _, fun h => by cases h⟩

theorem proved : Rows.WalkBreaksSaid :=
  OpenClaim.holds_of_wide 5 Try.f5 rfl rfl rfl rfl rfl rfl rfl ⟨rfl, rfl, rfl, rfl, rfl⟩ rfl rfl rfl rfl rfl (by kernel_rfl) Try.func5 (by kernel_rfl)
    (of_decide_eq_true (by kernel_rfl)) (by unfold Func.isWrapper; first | (rw [if_pos (by decide +kernel)]; kernel_rfl) | (rw [if_neg (by decide +kernel)]; exact ⟨rfl, rfl⟩))
    (fun os started H enc _ => lifted os started H enc)
#print axioms proved
end Go.Proofs.Ytahjnpopncninaa.walkBreaks
