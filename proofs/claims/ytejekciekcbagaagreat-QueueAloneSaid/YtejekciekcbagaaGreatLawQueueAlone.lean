/-
  The law QueueAlone of the statements holds for every input: the call returns true, and the arguments read as before.
-/
import Derived.Test.YtejekciekcbagaaGreatQuC
import Derived.Test.YtejekciekcbagaaGreatQuF
import Derived.Test.YtejekciekcbagaaGreatQuA
import Derived.Test.YtejekciekcbagaaGreatQuB
import Derived.Test.YtejekciekcbagaaGreatAtR
import Derived.Test.YtejekciekcbagaaGreatZeros
import Derived.Test.YtejekciekcbagaaGreatSolo
import Derived.Test.YtejekciekcbagaaGreatRef9a
import Derived.Test.YtejekciekcbagaaGreatArF
import Derived.Test.YtejekciekcbagaaGreatArG
import Derived.Test.YtejekciekcbagaaGreatOpenA
import Derived.Test.YtejekciekcbagaaGreatLook
import Derived.Test.YtejekciekcbagaaGreatOpen
import Derived.Test.YtejekciekcbagaaGreatAcc
import Derived.Test.YtejekciekcbagaaGreatMem3
import Derived.IntWalk
import Derived.Deep.CutRange
import Derived.Deep.CutBlock
import Derived.Test.YtejekciekcbagaaGreatRows
import Derived.WalkKit
import Derived.ProofKit
import Derived.OpenShut
import Derived.ShutString
import Derived.ChangeOld
import Derived.Below
import Derived.Test.YtejekciekcbagaaGreatOpen
namespace Go.Proofs.YtejekciekcbagaaGreat.queueAlone
open Go.ChangeShapes Go.WideShapes Go.ChangeAt Go.RowKit
open Go.ChangeMaps (open_string shut_string)
set_option linter.unusedVariables false
set_option linter.unusedSimpArgs false

theorem own : ownKnob Tryz.prog.godebug = none := by kernel_rfl
theorem laidOut : laidOutB Tryz.prog = true := by kernel_rfl

/-- A list of words, as an own list of the law's. -/
theorem wds_tail (x : Int) (xs : List Int) : ints .u64 (x :: xs) = .int .u64 x :: ints .u64 xs := rfl
theorem wds_len (xs : List Int) : (ints .u64 xs).length = xs.length := by simp [ints]
theorem wds_app (xs zs : List Int) : ints .u64 (xs ++ zs) = ints .u64 xs ++ ints .u64 zs := by simp [ints]
/-- The first j tasks of the deed k. -/
def qaL (k j : Nat) : List Int := (List.range j).map fun i : Nat => 100 * (k : Int) + (i : Int)
theorem qaL_len (k j : Nat) : (qaL k j).length = j := by simp [qaL]
theorem qaL_snoc (k j : Nat) : qaL k (j + 1) = qaL k j ++ [100 * (k : Int) + (j : Int)] := by simp [qaL, List.range_succ]
theorem qaL_U (k j : Nat) (hk : k ≤ 80) (hj : j ≤ 3) : ∀ v ∈ qaL k j, M.U v := by
  intro v hv
  simp only [qaL, List.mem_map, List.mem_range] at hv
  obtain ⟨i, hi, rfl⟩ := hv
  exact ⟨by omega, by omega⟩

set_option maxHeartbeats 25600000 in
set_option maxRecDepth 200000 in
theorem walk (size : Int) (pp : Option Addr) (q cp : Nat) (ys : List Int) (w : World) (hws : (Lit.int .i64 size).wf = true) (hp : Sl w 1 (.slice pp q cp) q (ints .u8 ys)) (hq : q ≤ maxLen) (hy : ∀ y ∈ ys, (Lit.int .u8 y).wf = true) :
    Calls Tryz.prog 8 #[.int .i64 size, .slice pp q cp] w fun e w' => e = .returned (.bool true) ∧ Below w.heap.size w w' := by
  obtain ⟨B, hB⟩ : ∃ B, w.heap.size = B := ⟨_, rfl⟩
  rw [hB]
  have HY : Hid (∀ y ∈ ys, 0 ≤ y ∧ y < 256) := Lib.hid fun y h => by
    have := bounds_u8 (hy y h)
    omega
  have HSP := Lib.hid hp
  have HLP := Lib.hid hp.ints_len
  unfold maxLen at hq
  clear hp hy hws
  go_enter Tryz.func8, Tryz.ntmps8
  go_wp2_with fail
  refine (awake9 w).mono ?_
  rintro e w1 ⟨rfl, b1⟩
  rw [hB] at b1
  have HB1 := Lib.hid b1
  clear b1
  by_cases h1 : size < 2
  · have d1 : decide (size < 2) = true := decide_eq_true (by omega)
    go_wp2
    go_ret
    exact ⟨rfl, HB1.out⟩
  have d1 : decide (size < 2) = false := decide_eq_false (by omega)
  by_cases h2 : 20 < size
  · have d2 : decide (20 < size) = true := decide_eq_true (by omega)
    go_wp2
    go_ret
    exact ⟨rfl, HB1.out⟩
  have d2 : decide (20 < size) = false := decide_eq_false (by omega)
  by_cases h5 : 80 < q
  · have d5 : decide ((80 : Int) < q) = true := decide_eq_true (by omega)
    go_wp2
    go_ret
    exact ⟨rfl, HB1.out⟩
  have d5 : decide ((80 : Int) < q) = false := decide_eq_false (by omega)
  obtain ⟨n, rfl⟩ : ∃ n : Nat, size = (n : Int) := ⟨size.toNat, by omega⟩
  have hn2 : 2 ≤ n := by omega
  have hn20 : n ≤ 20 := by omega
  have s1 := HB1.out.size
  obtain ⟨W2, hW⟩ : ∃ W2, w1.alloc (.cells #[.int .i64 0, .int .i64 (n : Int)] 23) = W2 := ⟨_, rfl⟩
  have k2 : Keeps [] w1 W2 := by rw [← hW]; exact (Keeps.refl _ _).alloc _
  have bx : Box W2 w1.heap.size #[.int .i64 0, .int .i64 (n : Int)] := by rw [← hW]; exact Box.new _ _ _
  obtain ⟨ab, hab⟩ : ∃ ab, w1.heap.size = ab := ⟨_, rfl⟩
  rw [hab] at bx
  have HBx2 := Lib.hid bx
  have HB2 := Lib.hid (HB1.out.trans (k2.below (by omega) (by simp)))
  have hablt := HBx2.out.lt
  have s2 := HB2.out.size
  clear bx k2 HB1 hq
  have NA := new_any (3 * n + 3) W2 (by omega) (by omega)
  rw [show ((3 * n + 3 : Nat) : Int) = 3 * (n : Int) + 3 by omega] at NA
  have HNA := Lib.hid NA
  clear NA
  go_wp2_with fail
  clear hW
  refine HNA.out.mono ?_
  clear HNA
  rintro e w3 ⟨m, b, rfl, hM, k3, hm, hb⟩
  have HM3 := Lib.hid hM
  have HB3 := Lib.hid (HB2.out.trans (k3.below (by omega) (by simp)))
  have HBx3 := Lib.hid (HBx2.out.keeps k3 (by simp))
  have s3 := HB3.out.size
  have hmlt := hM.lt
  clear hM k3 HB2 HBx2
  obtain ⟨E, hE⟩ : ∃ E : Nat → Prop, (fun x => x < B ∨ x = ab) = E := ⟨_, rfl⟩
  have HE : Hid ((∀ k, k < B → E k) ∧ E ab ∧ ∀ k, E k → k < B ∨ k = ab) := Lib.hid (by rw [← hE]; exact ⟨fun k hk => .inl hk, .inr rfl, fun k hk => hk⟩)
  clear hE
  have LN := loomNew_any E 1 m b (List.replicate (3 * n + 3) 0) w3 HM3.out (by omega) (by omega) (fun k hk => by rcases HE.out.2.2 k hk with h | h <;> omega) (fun hk => by rcases HE.out.2.2 b hk with h | h <;> omega)
  have HLN := Lib.hid LN
  clear LN
  go_wp2_with fail
  refine HLN.out.mono ?_
  rintro e w6 ⟨l, gl, rfl, hL6, k6⟩
  have HL6 := Lib.hid hL6
  have HBx6 := Lib.hid (HBx3.out.keeps k6 (by simp))
  have HB6 := Lib.hid (HB3.out.trans (k6.below (by omega) (by simp)))
  have s6 := HB6.out.size
  have s36 := k6.size
  clear hL6 k6 HBx3 HB3 HM3 HLN
  have hrr : quRight 0 (n : Int) := ⟨by omega, by omega, by omega, by omega⟩
  have NI := quInit_ok m b 0 n (List.replicate (3 * n + 3) 0) w6 HL6.out.mem hrr (by simp)
  have hrow : laidAt (List.replicate (3 * n + 3) 0) (quRow n) 0 (3 * n + 3) = quRow n := by
    apply getD_ext
    · simp [laidAt_len, quRow_len]
    · intro j hj
      rw [laidAt_len] at hj
      simp only [List.length_replicate] at hj
      rw [laidAt_at _ _ _ _ _ (by simpa using hj), if_pos (by omega), Nat.sub_zero]
  rw [hrow] at NI
  have b0 := HBx6.out.cells 0
  have b1 := HBx6.out.cells 1
  have HNI := Lib.hid NI
  have HRr := Lib.hid hrr
  clear NI hrow hrr
  simp at b0 b1
  go_wp2_with fail
  refine HNI.out.mono ?_
  clear HNI
  rintro e w5 ⟨rfl, hM5, k5⟩
  have HL5 := Lib.hid (HL6.out.setMem k5 hM5)
  have hbab : b ≠ ab := by omega
  have HBx5 := Lib.hid (HBx6.out.keeps k5 (by simp; exact Ne.symm hbab))
  have HB5 := Lib.hid (HB6.out.trans (k5.below (by omega) (by simp; omega)))
  have s5 := HB5.out.size
  have s56 := k5.size
  clear hM5 k5 HL6 HBx6 HB6 b0 b1
  obtain ⟨W7, hW7⟩ : ∃ W7, w5.alloc (.cells #[] 64) = W7 := ⟨_, rfl⟩
  have k7 : Keeps [] w5 W7 := by rw [← hW7]; exact (Keeps.refl _ _).alloc _
  obtain ⟨P, hP⟩ : ∃ P, w5.heap.size = P := ⟨_, rfl⟩
  have i7 : InAt W7 P 0 0 64 (ints .u64 []) := by rw [← hW7, ← hP]; exact InAt.empty w5 64
  have hPP : ¬ E P ∧ P ≠ m ∧ P < W7.heap.size := ⟨fun h => by rcases HE.out.2.2 P h with h | h <;> omega, by omega, i7.lt⟩
  have HL7 : Hid (Loom (fun x => E x ∨ x = P) W7 ⟨l, gl, m, b, quRow n, List.replicate 1 none, 0⟩) := Lib.hid (HL5.out.widen k7 (fun k hk => by
    rcases hk with hk | hk
    · exact .inl hk
    · subst hk; exact .inr ⟨by omega, hPP.2.2⟩))
  have HI7 := Lib.hid i7
  have HP7 := Lib.hid hPP
  have HBx7 := Lib.hid (HBx5.out.keeps k7 (by simp))
  have HB7 := Lib.hid (HB5.out.trans (k7.below (by omega) (by simp)))
  have HQ7 := Lib.hid (QuInv.new (n := n) hn2 (by omega))
  clear k7 i7 hPP HL5 HBx5 HB5
  go_wp2
  go_loopw [10, 11] (fun v i wr => ∃ k : Nat, k ≤ q ∧ i = .int .i64 (k : Int) ∧ ∃ (L : LSt) (o : Option Strand) (xs : List Int) (g off cap : Nat) (D F : List Nat), v = .slice (some ⟨g, off, none⟩) xs.length cap ∧ (¬ E g ∧ g ≠ m) ∧ InAt wr g off cap 64 (ints .u64 xs) ∧ Held E W7 wr ∧
    Loom (fun x => E x ∨ x = g) wr L ∧ L.l = l ∧ L.mm = m ∧ L.ts[0]? = some o ∧ busy o = false ∧ L.steps ≤ 200 * k ∧ QuInv n L.us D xs F []) (fun _ i _ => q - (intOf i).toNat)
  case atStart => exact ⟨0, Nat.zero_le _, rfl, _, none, [], P, 0, 0, _, _, rfl, ⟨HP7.out.1, HP7.out.2.1⟩, HI7.out, Held.refl _ _, HL7.out, rfl, rfl, rfl, rfl, Nat.le_refl _, HQ7.out⟩
  case round =>
    obtain ⟨k, hk, rfl, L, o, xs, g, off, cap, D, F, rfl, hgE, hin, hh, hL, hLl, hLm, ho, hbo, hst, hQ⟩ := hrel
    obtain ⟨wq, rfl⟩ : ∃ wq, wq = wr := ⟨_, rfl⟩
    have hcnt := hQ.frees
    have hfew : xs.length + 1 ≤ n := by omega
    have hcap := hin.few
    have hfit := hin.fits
    rw [wds_len] at hfit
    have HQ := Lib.hid hQ
    have HIn := Lib.hid hin
    have HHr := Lib.hid hh
    have HL := Lib.hid hL
    have HEd : Hid (∀ x, E x → x < wq.heap.size) := Lib.hid fun x hx => HL.out.dom x (.inl hx)
    have hgw := hin.lt
    have HBxr : Hid (∀ W, Held E wq W → W.cell? ⟨ab, 0, none⟩ = some (.int .i64 0) ∧ W.cell? ⟨ab, 1, none⟩ = some (.int .i64 (n : Int))) := Lib.hid fun W hW => by
      have hbx := HBx7.out.block (HHr.out.trans hW).size ((HHr.out.trans hW).block ab HE.out.2.1)
      exact ⟨hbx.cells 0, hbx.cells 1⟩
    have HSlr : Hid (∀ W, Held E wq W → Sl W 1 (.slice pp q cp) q (ints .u8 ys)) := Lib.hid fun W hW => HSP.out.below (HB7.out.trans (Held.below ((HHr.out.trans hW).narrow (E := (· < B)) (fun k hk => HE.out.1 k hk)))) (by omega)
    clear hQ hin hh hL hcnt
    unfold maxLen at hcap
    by_cases hlt : k < q
    · have hsl := HSlr.out wq (Held.refl _ _)
      obtain ⟨pb2, po, pc, he, hpb2, hpc⟩ := hsl.some (by omega)
      cases he
      have hkz : k < ys.length := by rw [HLP.out]; exact hlt
      have ay := hpc k _ (ints_at (k := .u8) hkz)
      have hyb := HY.out (ys.getD k 0) (by rw [List.getD, List.getElem?_eq_getElem hkz]; exact List.getElem_mem hkz)
      obtain ⟨y, hyk⟩ : ∃ y, ys.getD k 0 = y := ⟨_, rfl⟩
      rw [hyk] at ay hyb
      obtain ⟨yn, rfl⟩ : ∃ yn : Nat, y = (yn : Int) := ⟨y.toNat, by omega⟩
      obtain ⟨kk, hkk⟩ : ∃ kk, yn % 4 = kk := ⟨_, rfl⟩
      have hk3 : kk ≤ 3 := by omega
      have ek : (yn : Int).tmod 4 = (kk : Int) := by rw [← hkk, Int.tmod_eq_emod_of_nonneg (by omega)]; omega
      have iq : (k : Int) < (q : Int) := by omega
      have hown := owns_empty wq 64 1
      obtain ⟨hyb0, hyb1⟩ := hyb
      clear hpc hsl hyk hkk
      go_wp2
      go_loopw [13, 14] (fun v j wi => ∃ jj : Nat, jj ≤ kk ∧ j = .int .i64 (jj : Int) ∧ ∃ (tb tc : Nat), v = .slice (some ⟨tb, 0, none⟩) jj tc ∧ wi.ownsRow wq.heap.size 64 1 v jj (ints .u64 (qaL k jj)) ∧ Below wq.heap.size wq wi ∧ wq.heap.size ≤ wi.heap.size) (fun _ j _ => kk - (intOf j).toNat)
      case atStart => exact ⟨0, by omega, rfl, _, _, rfl, hown, (Below.refl _ _).alloc (Nat.le_refl _) _, by simp⟩
      case round =>
        obtain ⟨jj, hjj, rfl, tb, tc, rfl, hown', hbel', hsz'⟩ := hrel
        clear hown
        by_cases hjl : jj < kk
        · have ij : (jj : Int) < (kk : Int) := by omega
          have hwt : IntKind.u64.wrap (100 * (k : Int) + (jj : Int)) = 100 * (k : Int) + (jj : Int) := by show (100 * (k : Int) + (jj : Int)) % 18446744073709551616 = _; omega
          go_wp2_with (at_builtin; refine append_one rfl _ _ 24 rfl wq.heap.size 64 _ 1 8 Tryz.underlying24 elemWord _ _ _ rfl hown' #[.int .u64 (100 * (k : Int) + (jj : Int))] rfl rfl (by simp [Value.oneCell']) (by omega) hsz' ?_; intro v' w2 hown3 hbel3)
          obtain ⟨tb', tc', rfl, -, -⟩ := owns_some hown3 (by omega)
          go_roundw
          case rel =>
            refine ⟨jj + 1, by omega, by go_num, _, _, rfl, ?_, hbel'.trans hbel3, Nat.le_trans hsz' hbel3.size⟩
            rw [qaL_snoc, wds_app]
            exact hown3
          case measure => simp [intOf]; omega
        · obtain rfl : kk = jj := by omega
          obtain ⟨wt, rfl⟩ : ∃ wt, wt = wr := ⟨_, rfl⟩
          have htb := hown'.lt tb (by simp [Value.ownBlock])
          have hkt : Keeps [] wq wt := Keeps.of_below hbel' (Nat.le_refl _)
          have hht : Held E wq wt := hkt.held HEd.out (by simp)
          have HRt := Lib.hid (Row.of_owns hown')
          have HLt : Hid (Loom (fun x => E x ∨ x = g ∨ x = tb) wt L) := Lib.hid (HL.out.widen hkt (fun x hx => by
            rcases hx with hx | hx | hx
            · exact .inl (.inl hx)
            · exact .inl (.inr hx)
            · subst hx; exact .inr htb))
          have HIt := Lib.hid (HIn.out.keeps hkt (by simp))
          have HHt := Lib.hid hht
          obtain ⟨b0, b1⟩ := HBxr.out wt hht
          clear hkt hht hbel' hown' HL HIn
          go_wp2_with fail
          refine (quTake_made 0 n wt).mono ?_
          rintro e v1 ⟨mm0, S0, rfl, hI0, k10, hS0⟩
          have hh1 := HHt.out.trans (k10.held (fun x hx => HLt.out.dom x (.inl hx)) (by simp))
          obtain ⟨b10, b11⟩ := HBxr.out v1 hh1
          have HI0 := Lib.hid (show _ ∧ _ ∧ _ from ⟨hI0, k10, hS0⟩)
          clear hI0 k10 hS0 b0 b1 hh1
          go_upto_if 88 with (fail)
          go_cut [15] from 59 to 174 (fun wv w' => ∃ (mm : Nat) (S : List Nat), wv = .pointer (some ⟨mm, 0, none⟩) ∧ quI mm w' S (if (qaL k kk).length = 0 then quTake 0 n else quPut 0 n (qaL k kk)) ∧ Keeps [] wt w' ∧ ∀ x ∈ S, wt.heap.size ≤ x)
          case first =>
            -- << which
            as_aux_lemma =>
              by_cases hk0 : kk = 0
              · have dz : decide ((0 : Int) < (kk : Int)) = false := decide_eq_false (by omega)
                go_wp2
                go_meet
                exact ⟨mm0, S0, rfl, by rw [if_pos (by rw [qaL_len]; exact hk0)]; exact HI0.out.1, HI0.out.2.1, HI0.out.2.2⟩
              · have dz : decide ((0 : Int) < (kk : Int)) = true := decide_eq_true (by omega)
                have HPM := Lib.hid (quPut_made 0 n (.slice (some ⟨tb, 0, none⟩) kk tc) kk (qaL k kk) v1 ((HRt.out.keeps HI0.out.2.1 (by simp)).sl (by rw [wds_len, qaL_len]; omega)) (by unfold maxLen; omega) (qaL_U k kk (by omega) hk3))
                go_wp2_with fail
                refine HPM.out.mono ?_
                rintro e v5 ⟨mm, S, rfl, hI, k5, hS⟩
                have HP : Hid (_ ∧ _ ∧ _) := Lib.hid ⟨hI, HI0.out.2.1.trans k5, fun x hx => Nat.le_trans HI0.out.2.1.size (hS x hx)⟩
                clear hI k5 hS
                go_wp2
                go_meet
                exact ⟨mm, S, rfl, by rw [if_neg (by rw [qaL_len]; exact hk0)]; exact HP.out.1, HP.out.2.1, HP.out.2.2⟩
            -- >> which
          obtain ⟨mm1, S1, rfl, i1, k11, s1'⟩ := hcut
          obtain ⟨cnt, us', s', D', F', c, u, xs', hsolo, n0, n2, hover, hQ', hdeed⟩ := HQ.out.deed (qaL k kk) (by rw [qaL_len]; exact hk3) (qaL_U k kk (by omega) hk3)
          obtain ⟨L1, M, o', hM, hSt, hDo⟩ := hsolo.begun (I := quI mm1) (m := mm1) (R := quRuns mm1) (fun x => E x ∨ x = g ∨ x = tb) 0 200 c u o S1 wt wc HLt.out k11 ho hbo i1 s1' n0 n2 (by omega) (by omega) hover
          rw [hLl] at hSt hDo
          have HSt := Lib.hid hSt
          have HAl := Lib.hid hDo.1
          have HRe := Lib.hid hDo.2
          have HNew : Hid (M.l = l ∧ M.mm = m ∧ M.ts[0]? = some o' ∧ busy o' = false ∧ M.steps ≤ 200 * (k + 1) ∧ QuInv n M.us D' xs' F' []) := Lib.hid
            ⟨hM.1.trans hLl, hM.2.2.1.trans hLm, hM.2.2.2.2.2.2.1, hM.2.2.2.2.2.2.2.1, by have := hM.2.2.2.2.2.1; omega, by rw [hM.2.2.2.2.1]; exact hQ'⟩
          have HDeed := Lib.hid hdeed
          clear n0 n2 hsolo hover hQ' hM hSt hDo i1 k11 s1' hdeed HI0 b10 b11 HQ
          go_wp2_with fail
          refine HSt.out.mono ?_
          rintro e w12 ⟨rfl, hL2, hh2⟩
          have HL2 := Lib.hid hL2
          have HH2 := Lib.hid hh2
          clear hL2 hh2
          go_wp2_with fail
          refine (HAl.out _ w12 HL2.out).mono ?_
          rintro e w13 ⟨rfl, hL3, hh3⟩
          have HL3 := Lib.hid hL3
          have HH3 := Lib.hid (HH2.out.trans hh3)
          clear hL3 hh3
          go_wp2_with fail
          refine (HRe.out _ w13 HL3.out).mono ?_
          rintro e w14 ⟨rq, rc, rfl, k14⟩
          obtain ⟨rb, hrb⟩ : ∃ rb, w14.heap.size = rb := ⟨_, rfl⟩
          obtain ⟨W15, hW15⟩ : ∃ W15, w14.alloc (.cells #[.int .i64 c, .int .u64 u, .slice rq 0 rc] 76) = W15 := ⟨_, rfl⟩
          have k15 : Keeps [] w14 W15 := by rw [← hW15]; exact (Keeps.refl _ _).alloc _
          have r15 : Row W15 rb 76 [.int .i64 c, .int .u64 u, .slice rq 0 rc] := by rw [← hW15, ← hrb]; exact Row.new _ _ _
          obtain ⟨wb, hwb⟩ : ∃ wb, W15.heap.size = wb := ⟨_, rfl⟩
          go_upto_region 27 with (fail)
          obtain ⟨W16, hW16⟩ : ∃ W16, W15.alloc (.cells #[.int .i64 0, .int .u64 0, .slice none 0 0] 76) = W16 := ⟨_, rfl⟩
          have k16 : Keeps [] W15 W16 := by rw [← hW16]; exact (Keeps.refl _ _).alloc _
          have r16 : Row W16 wb 76 [.int .i64 0, .int .u64 0, .slice none 0 0] := by rw [← hW16, ← hwb]; exact Row.new _ _ _
          have k136 := (k14.trans k15).trans k16
          have hh16 := HH3.out.trans (k136.held (fun k hk => HL3.out.dom k hk) (by simp))
          have hrl := r15.lt
          have hwl := r16.lt
          have hL16 : Loom (fun x => E x ∨ x = g ∨ x = tb ∨ x = wb) W16 M := HL3.out.widen k136 (fun x hx => by
            rcases hx with hx | hx | hx | hx
            · exact .inl (.inl hx)
            · exact .inl (.inr (.inl hx))
            · exact .inl (.inr (.inr hx))
            · subst hx; exact .inr ⟨by have := (k14.trans k15).size; omega, hwl⟩)
          have HR16 := Lib.hid (⟨r15.keeps k16 (by simp), r16⟩ : _ ∧ _)
          have HI16 := Lib.hid (HIt.out.block (hh16.block g (.inr (.inl rfl))))
          have HT16 := Lib.hid (HRt.out.block (hh16.block tb (.inr (.inr rfl))))
          have HH16 := Lib.hid (HHt.out.trans (hh16.narrow (E := E) (fun k hk => .inl hk)))
          have HL16 := Lib.hid hL16
          have hg3 : g < w13.heap.size := HL3.out.dom g (.inr (.inl rfl))
          have hm3 : m < w13.heap.size := by have := HL3.out.mem.lt.1; rwa [HNew.out.2.1] at this
          have ht3 : tb < w13.heap.size := HL3.out.dom tb (.inr (.inr rfl))
          have hE3 : Hid (∀ x, E x → x < w13.heap.size) := Lib.hid fun x hx => HL3.out.dom x (.inl hx)
          have s34 := k14.size
          have s45 := k15.size
          clear k14 k15 k16 k136 hh16 hL16 r15 r16 HL2 HH2 HL3 HH3 HSt HAl HRe HLt HHt HRt HIt
          rw [hW16]
          clear hW16
          obtain ⟨b27, hb27⟩ : ∃ b, decide (0 < kk ∧ xs.length + kk < n) = b := ⟨_, rfl⟩
          go_cut [113] from 59 to 174 (fun v w' => v = .bool b27 ∧ W16 = w')
          case first =>
            -- << b27
            as_aux_lemma =>
              by_cases hk0 : kk = 0
              · have dz : decide ((0 : Int) < (kk : Int)) = false := decide_eq_false (by omega)
                obtain rfl : b27 = false := by rw [← hb27]; exact decide_eq_false (by omega)
                go_wp2
                go_meet
                exact ⟨rfl, rfl⟩
              · have dz : decide ((0 : Int) < (kk : Int)) = true := decide_eq_true (by omega)
                have wx : IntKind.i64.wrap ((xs.length : Int) + (kk : Int)) = (xs.length : Int) + (kk : Int) := IntWalk.i64_in _ (by omega)
                have wn : IntKind.i64.wrap ((n : Int) - 1) = (n : Int) - 1 := IntWalk.i64_in _ (by omega)
                by_cases hx : xs.length + kk < n
                · have dx : decide ((xs.length : Int) + (kk : Int) ≤ (n : Int) - 1) = true := decide_eq_true (by omega)
                  obtain rfl : b27 = true := by rw [← hb27]; exact decide_eq_true (by omega)
                  go_wp2
                  go_meet
                  exact ⟨rfl, rfl⟩
                · have dx : decide ((xs.length : Int) + (kk : Int) ≤ (n : Int) - 1) = false := decide_eq_false (by omega)
                  obtain rfl : b27 = false := by rw [← hb27]; exact decide_eq_false (by omega)
                  go_wp2
                  go_meet
                  exact ⟨rfl, rfl⟩
            -- >> b27
          obtain ⟨rfl, rfl⟩ := hcut
          go_upto_if 113 with (fail)
          go_cut [10] from 59 to 174 (fun v w' => ∃ (g' off' cap' : Nat), v = .slice (some ⟨g', off', none⟩) xs'.length cap' ∧ (¬ E g' ∧ g' ≠ m) ∧ InAt w' g' off' cap' 64 (ints .u64 xs') ∧ Held E wq w' ∧ Loom (fun x => E x ∨ x = g') w' M ∧
            Row w' rb 76 [.int .i64 c, .int .u64 u, .slice rq 0 rc] ∧ Row w' wb 76 [.int .i64 c, .int .u64 u, .slice none 0 0])
          case first =>
            have hwm : wb ≠ m := by omega
            have hwg : wb ≠ g := by omega
            have hrw : rb ≠ wb := by omega
            have hrg : rb ≠ g := by omega
            have hMm : M.mm = m := HNew.out.2.1
            have c0 := HR16.out.2.cell (j := 0) rfl
            have c1 := HR16.out.2.cell (j := 1) rfl
            have c2 := HR16.out.2.cell (j := 2) rfl
            have f0 := HR16.out.2.frozen 0
            have f1 := HR16.out.2.frozen 1
            have HSt : Hid (∀ (i : Nat) (v : Value) (r : List Value), [Value.int .i64 0, .int .u64 0, .slice none 0 0].set i v = r → InAt (W16.setCell ⟨wb, i, none⟩ v) g off cap 64 (ints .u64 xs) ∧ Held E wq (W16.setCell ⟨wb, i, none⟩ v) ∧ Loom (fun x => E x ∨ x = g) (W16.setCell ⟨wb, i, none⟩ v) M ∧
                Row (W16.setCell ⟨wb, i, none⟩ v) rb 76 [.int .i64 c, .int .u64 u, .slice rq 0 rc] ∧ Row (W16.setCell ⟨wb, i, none⟩ v) wb 76 r) := Lib.hid fun i v r hr => by
              have kS : Keeps [wb] W16 (W16.setCell ⟨wb, i, none⟩ v) := (Keeps.refl [wb] W16).setCell (fun _ => by simp) _
              refine ⟨HI16.out.keeps kS (by simp; exact Ne.symm hwg), HH16.out.trans (kS.held (fun x hx => by have := hE3.out x hx; omega) (fun x hx hE => by simp at hx; subst hx; have := hE3.out _ hE; omega)), ?_, HR16.out.1.keeps kS (by simpa using hrw), by rw [← hr]; exact HR16.out.2.set i v⟩
              have hl := HL16.out.apart kS (fun x hx => by simp at hx; exact .inr (.inr (.inr hx))) (by rw [hMm]; simp; exact Ne.symm hwm)
              exact hl.widen (Keeps.refl _ _) (fun x hx => by
                rcases hx with hx | hx
                · exact .inl (.inl hx)
                · exact .inl (.inr (.inl hx)))
            cases HDeed.out with
            | full hk1 hk2 =>
              -- << full
              as_aux_lemma =>
                rw [qaL_len] at hk1 hk2
                have dz : decide ((0 : Int) < (kk : Int)) = true := decide_eq_true (by omega)
                obtain rfl : b27 = false := by rw [← hb27]; exact decide_eq_false (by omega)
                obtain ⟨z1, z2, z3, z4, z5⟩ := HSt.out 0 (.int .i64 7) _ rfl
                have HZ := Lib.hid (show _ ∧ _ ∧ _ ∧ _ ∧ _ from ⟨z1, z2, z3, z4, z5⟩)
                clear z1 z2 z3 z4 z5
                go_wp2
                go_meet
                exact ⟨g, off, cap, rfl, hgE, HZ.out.1, HZ.out.2.1, HZ.out.2.2.1, HZ.out.2.2.2.1, HZ.out.2.2.2.2⟩
              -- >> full
            | put hk1 hk2 =>
              -- << put
              as_aux_lemma =>
                rw [qaL_len] at hk1 hk2
                obtain rfl : b27 = true := by rw [← hb27]; exact decide_eq_true (by omega)
                go_wp2_with (at_builtin; refine append_at_row rfl _ _ 24 rfl 64 _ 8 Tryz.underlying24 elemWord g off cap xs.length (ints .u64 xs) rfl (wds_len xs) HI16.out tb kk tc (ints .u64 (qaL k kk)) rfl (by rw [wds_len, qaL_len]) HT16.out (ints_oneCell .u64 _) (by omega) ?_; intro g2 off2 cap2 w20 in20 k20 hg20)
                rw [← wds_app] at in20
                have hg16 : g < W16.heap.size := HI16.out.lt
                go_meet
                refine ⟨g2, off2, cap2, by rw [List.length_append, qaL_len], ?_, in20, HH16.out.trans (k20.held (fun x hx => by have := hE3.out x hx; omega) (fun x hx hE => by simp at hx; subst hx; exact hgE.1 hE)), ?_, HR16.out.1.keeps k20 (by simpa using hrg), HR16.out.2.keeps k20 (by simpa using hwg)⟩
                · rcases hg20 with rfl | h
                  · exact hgE
                  · exact ⟨fun hE => by have := hE3.out _ hE; omega, by omega⟩
                · exact HL16.out.widenX k20 (fun x hx => by simp at hx; exact .inr (.inl hx)) (by rw [hMm]; simp; exact Ne.symm hgE.2) (fun x hx => by
                    rcases hx with hx | rfl
                    · exact .inl (.inl hx)
                    · rcases hg20 with rfl | h
                      · exact .inl (.inr (.inl rfl))
                      · exact .inr ⟨h, in20.lt⟩)
              -- >> put
            | empty hk1 hx0 =>
              -- << empty
              as_aux_lemma =>
                rw [qaL_len] at hk1
                have dz : decide ((0 : Int) < (kk : Int)) = false := decide_eq_false (by omega)
                obtain rfl : b27 = false := by rw [← hb27]; exact decide_eq_false (by omega)
                have dl : ((xs.length : Int) == 0) = true := by simp [hx0]
                obtain ⟨z1, z2, z3, z4, z5⟩ := HSt.out 0 (.int .i64 5) _ rfl
                have HZ := Lib.hid (show _ ∧ _ ∧ _ ∧ _ ∧ _ from ⟨z1, z2, z3, z4, z5⟩)
                clear z1 z2 z3 z4 z5 hx0
                go_wp2
                go_meet
                exact ⟨g, off, cap, rfl, hgE, HZ.out.1, HZ.out.2.1, HZ.out.2.2.1, HZ.out.2.2.2.1, HZ.out.2.2.2.2⟩
              -- >> empty
            | take _ xs' hk1 hx0 =>
              -- << take
              as_aux_lemma =>
                rw [qaL_len] at hk1
                have dz : decide ((0 : Int) < (kk : Int)) = false := decide_eq_false (by omega)
                obtain rfl : b27 = false := by rw [← hb27]; exact decide_eq_false (by omega)
                subst hx0
                have dl : (((u :: xs').length : Int) == 0) = false := by simp; omega
                have hin2 := HI16.out
                rw [wds_tail] at hin2
                have cL := hin2.cell (i := 0) (u := .int .u64 u) rfl
                have cL' := cL
                rw [Nat.add_zero] at cL'
                obtain ⟨z1, z2, z3, z4, z5⟩ := HSt.out 1 (.int .u64 u) _ rfl
                rw [wds_tail] at z1
                have HZ := Lib.hid (show _ ∧ _ ∧ _ ∧ _ from ⟨z2, z3, z4, z5⟩)
                have hi2 := z1.tail
                clear z1 z2 z3 z4 z5 hin2
                by_cases hc1 : cap = 1
                · rw [if_pos hc1] at hi2
                  have HIn3 := Lib.hid hi2
                  clear hi2
                  subst hc1
                  go_wp2
                  go_meet
                  exact ⟨g, off, 0, rfl, hgE, HIn3.out, HZ.out.1, HZ.out.2.1, HZ.out.2.2.1, HZ.out.2.2.2⟩
                · rw [if_neg hc1] at hi2
                  have HIn3 := Lib.hid hi2
                  clear hi2
                  go_wp2
                  go_meet
                  exact ⟨g, off + 1, cap - 1, rfl, hgE, HIn3.out, HZ.out.1, HZ.out.2.1, HZ.out.2.2.1, HZ.out.2.2.2⟩
              -- >> take
          obtain ⟨g', off', cap', rfl, hg', hinz, hhz, hlz, hrz, hwz⟩ := hcut
          -- << rest
          have HLz := Lib.hid hlz
          have HInz := Lib.hid hinz
          have HGz := Lib.hid hg'
          have HHq := Lib.hid hhz
          have HHz := Lib.hid (HHr.out.trans hhz)
          have HRz := Lib.hid (⟨hrz, hwz⟩ : _ ∧ _)
          obtain ⟨y0, y1⟩ := HBxr.out wc hhz
          have hfz := HNew.out.2.2.2.2.2.frees.2.1
          have HAll : Hid (∀ W, Keeps [] wc W → Calls Tryz.prog 24 #[.agg #[.int .i64 0, .int .i64 (n : Int)], .pointer (some ⟨m, 0, none⟩)] W fun e w' => Keeps [] W w' ∧ quTold W w' e (some xs')) := Lib.hid fun W hW => by
            have hm := (HLz.out.keeps hW).mem
            rw [HNew.out.2.1] at hm
            have hq := HNew.out.2.2.2.2.2
            have := quAll_any m M.b 0 n M.us W hm (by simpa using HRr.out) (by rw [hq.len]; omega)
            rw [hq.all] at this
            simpa using this
          have HFr : Hid (∀ W, Keeps [] wc W → Calls Tryz.prog 29 #[.agg #[.int .i64 2, .int .i64 (n : Int)], .pointer (some ⟨m, 0, none⟩)] W fun e w' => ∃ fv, e = .returned (.tuple #[fv, .int .i64 0]) ∧ w'.ownsRow W.heap.size 3 1 fv F'.length (nodes F') ∧ Keeps [] W w') := Lib.hid fun W hW => by
            have hm := (HLz.out.keeps hW).mem
            rw [HNew.out.2.1] at hm
            have hq := HNew.out.2.2.2.2.2
            obtain ⟨q1, q2, q3, q4, q5, q6⟩ := hq.frees
            exact free_any m M.b 2 n M.us F' W hm ⟨by omega, by omega, by omega, by omega⟩ (by rw [hq.len]; omega) q3 q4 q5 (by omega)
          have hAr : Hid (∀ W, Calls Tryz.prog 11 #[.agg #[.int .i64 0, .int .i64 (n : Int)]] W fun e w' => e = .returned (.agg #[.int .i64 2, .int .i64 (n : Int)]) ∧ Keeps [] W w') := Lib.hid fun W => quArena_any 0 n W HRr.out
          clear hlz hinz hg' hhz hrz hwz HR16 HI16 HT16 HH16 HL16 HDeed hb27 hgw hrl hwl
          go_wp2_with fail
          refine (HAll.out _ (Keeps.refl [] wc)).mono ?_
          rintro e w16 ⟨k16, t16⟩
          obtain ⟨l16, rfl, o16⟩ := t16.2 _ rfl
          obtain ⟨lp16, lc16, rfl⟩ := (Sl.of_owns o16).len
          have HO16 := Lib.hid (Sl.of_owns o16)
          have HK16 := Lib.hid k16
          obtain ⟨y2, y3⟩ := HBxr.out w16 (HHq.out.trans (k16.held (fun x hx => HLz.out.dom x (.inl hx)) (by simp)))
          clear k16 t16 o16 y0 y1
          go_wp2_with fail
          refine (hAr.out w16).mono ?_
          rintro e w17 ⟨rfl, k17⟩
          have HK17 := Lib.hid (HK16.out.trans k17)
          have HO17 := Lib.hid (HO16.out.keeps k17 (by simp))
          clear k17 HO16
          go_wp2_with fail
          refine (HFr.out w17 HK17.out).mono ?_
          rintro e w18 ⟨fv, rfl, of18, k18⟩
          obtain ⟨fp, fc, rfl⟩ := (Sl.of_owns of18).len
          have HK18 := Lib.hid (HK17.out.trans k18)
          have HO18 := Lib.hid (HO17.out.keeps k18 (by simp))
          have hr18 := HRz.out.1.keeps HK18.out (by simp)
          have hw18 := HRz.out.2.keeps HK18.out (by simp)
          have r0 := hr18.cell (j := 0) rfl
          have r1 := hr18.cell (j := 1) rfl
          have r2 := hr18.cell (j := 2) rfl
          have x0 := hw18.cell (j := 0) rfl
          have x1 := hw18.cell (j := 1) rfl
          have x2 := hw18.cell (j := 2) rfl
          have HSR := Lib.hid (sameResult_any c u (.slice rq 0 rc) (.slice none 0 0) 0 0 [] w18 (by decide) (by decide) ⟨rfl, .inl ⟨rq, rc, rfl, rfl⟩⟩ ⟨rfl, .inl ⟨none, 0, rfl, rfl⟩⟩)
          have HSW := Lib.hid (fun W (hk : Keeps [] w18 W) => sameWords_any (.slice lp16 xs'.length lc16) (.slice (some ⟨g', off', none⟩) xs'.length cap') xs'.length xs'.length xs' xs' W (by unfold maxLen; omega) (by unfold maxLen; omega) (HO18.out.keeps hk (by simp))
            (by have := ((HInz.out.keeps HK18.out (by simp)).keeps hk (by simp)).sl; rw [wds_len] at this; exact this))
          have wn : IntKind.i64.wrap ((n : Int) - 1) = (n : Int) - 1 := IntWalk.i64_in _ (by omega)
          have wm : IntKind.i64.wrap ((n : Int) - 1 - (xs'.length : Int)) = (n : Int) - 1 - (xs'.length : Int) := IntWalk.i64_in _ (by omega)
          have hne : ((F'.length : Int) != (n : Int) - 1 - (xs'.length : Int)) = false := by simp; omega
          clear k18 of18 hr18 hw18 HO17 y2 y3
          go_wp2_with fail
          refine HSR.out.mono ?_
          rintro e w19 ⟨rfl, k19⟩
          have HK19 := Lib.hid k19
          clear k19
          go_wp2_with fail
          refine (HSW.out w19 HK19.out).mono ?_
          rintro e w20 ⟨rfl, nd, rfl⟩
          rw [show decide True = true from rfl]
          go_wp2
          go_roundw
          case rel =>
            have kz : Keeps [] wc (w19.drewN nd) := (HK18.out.trans HK19.out).drewN
            exact ⟨k + 1, by omega, by go_num, M, o', xs', g', off', cap', D', F', rfl, HGz.out, HInz.out.keeps kz (by simp), HHz.out.trans (kz.held (fun x hx => HLz.out.dom x (.inl hx)) (by simp)), HLz.out.keeps kz, HNew.out.1, HNew.out.2.1, HNew.out.2.2.1, HNew.out.2.2.2.1, HNew.out.2.2.2.2.1, HNew.out.2.2.2.2.2⟩
          case measure => simp [intOf]; omega
          -- >> rest
    · -- << done
      as_aux_lemma =>
        obtain rfl : k = q := by omega
        go_wp2
        go_ret
        exact ⟨rfl, HB7.out.trans (Held.below (HHr.out.narrow (E := (· < B)) (fun k hk => HE.out.1 k hk)))⟩
      -- >> done

set_option maxRecDepth 100000 in
theorem lifted (os : Os) (started : os.Started) (H : Type) (enc : TypeId × Value → H) :
    ReturnsInHanded {} Tryz.checked os 8 .any (Rows.queueAloneSpec.pre6 enc Tryz.prog Tryz.f8 Rows.queueAloneRow.domain false) (Rows.queueAloneSpec.post enc Tryz.prog Tryz.f8 false true false false) := by
  refine returnsInHanded_of_change (C := Tryz.checked) own started (by kernel_rfl) Tryz.func8
    (ChangeSpec.witness6 (enc := enc) (C := Tryz.checked) false ⟨#[], #[.int .i64 0, .slice none 0 0], []⟩ 8 (by kernel_rfl) (by kernel_rfl) (by kernel_rfl) (by kernel_rfl)) ?_
  intro W base args ds gs before hval0 hW hcnd _
  have hval : ∀ (j : Nat) t v, Tryz.f8.params[j]? = some t → args[j]? = some v → Value.okWide Tryz.prog W .any base t v := hval0
  have hW' := hW
  obtain ⟨p, q, hA0, hV, rfl, hfz, hnd⟩ := hW
  have hA : DataW.TrodAll enc Tryz.prog W 0 (fun _ => true) true Tryz.f8.params.toList args.toList ds p := hA0
  rw [Tryz.params8] at hA hval
  obtain ⟨v0, vs0, d0, ds0, q0, qs0, hargs, rfl, rfl, h0, r0⟩ := trodAll_cons hA
  obtain ⟨v1, vs1, d1, ds1, q1, qs1, rfl, rfl, rfl, h1, r1⟩ := trodAll_cons r0
  obtain ⟨rfl, rfl, rfl⟩ := trodAll_nil r1
  obtain rfl : args = #[v0, v1] := by cases args; simp_all
  obtain ⟨rfl, rfl⟩ := trodVars_none hV
  obtain ⟨a0, rfl, rfl, rfl, w0⟩ := open_int Tryz.underlying3 (hval 0 3 v0 rfl rfl) h0
  obtain ⟨p1, n1, c1, rfl⟩ := okWide_slice Tryz.underlying56 (hval 1 56 v1 rfl rfl)
  have k1 := h1
  have lt1 : ∀ x ∈ q1, x.block < W.heap.size := by obtain ⟨m, hm⟩ := k1; exact DataW.trod_lt m _ _ _ hm
  obtain ⟨z1, s1, m1, b1⟩ := (by obtain ⟨fu, hf⟩ := h1; exact sl_ints Tryz.underlying56 Tryz.underlying5 (by kernel_rfl) hf : ∃ zs : List Int, Sl W 1 (.slice p1 n1 c1) n1 (ints .u8 zs) ∧ n1 ≤ maxLen ∧ ∀ z ∈ zs, (Lit.int .u8 z).wf = true)
  clear hA0 hval0
  simp only [List.append_nil] at hW'
  refine (walk a0 p1 n1 c1 z1 W w0 s1 m1 b1).mono fun e W' ⟨he, bel⟩ => ?_
  subst he
  exact ⟨_, rfl, _, _, _, [], _, [], hW', trodAll_mk1 (shut_bool Tryz.underlying4 _), (trodAll_cons_mk (shut_int Tryz.underlying3 w0) (trodAll_cons_mk (Below.trod laidOut (by kernel_rfl) (of_decide_eq_true (by kernel_rfl)) k1 bel lt1) trodAll_mk0)), rfl, bel.frame _, fun h => by cases h⟩

theorem proved : Rows.QueueAloneSaid :=
  OpenClaim.holds_of_wide 8 Tryz.f8 rfl rfl rfl rfl rfl rfl rfl ⟨rfl, rfl, rfl, rfl, rfl⟩ rfl rfl rfl rfl rfl (by kernel_rfl) Tryz.func8 (by kernel_rfl)
    (of_decide_eq_true (by kernel_rfl)) (by unfold Func.isWrapper; first | (rw [if_pos (by decide +kernel)]; kernel_rfl) | (rw [if_neg (by decide +kernel)]; exact ⟨rfl, rfl⟩))
    (fun os started H enc _ => lifted os started H enc)
#print axioms proved
end Go.Proofs.YtejekciekcbagaaGreat.queueAlone
