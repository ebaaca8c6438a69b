/-
  The law LocalPeeks of the statements holds for every input: the call returns true, and the arguments read as before.
-/
import Derived.Test.YtjfgpplnlepnoaaGreatLcB
import Derived.Test.YtjfgpplnlepnoaaGreatLcA
import Derived.Test.YtjfgpplnlepnoaaGreatLcP
import Derived.Test.YtjfgpplnlepnoaaGreatOpenA
import Derived.Test.YtjfgpplnlepnoaaGreatLook
import Derived.Test.YtjfgpplnlepnoaaGreatOpen
import Derived.Test.YtjfgpplnlepnoaaGreatAcc
import Derived.Test.YtjfgpplnlepnoaaGreatMem3
import Derived.IntWalk
import Derived.Test.YtjfgpplnlepnoaaGreatRows
import Derived.WalkKit
import Derived.ProofKit
import Derived.OpenShut
import Derived.ShutString
import Derived.ChangeOld
import Derived.Below
import Derived.Test.YtjfgpplnlepnoaaGreatOpen
namespace Go.Proofs.YtjfgpplnlepnoaaGreat.localPeeks
open Go.ChangeShapes Go.WideShapes Go.ChangeAt Go.RowKit
open Go.ChangeMaps (open_string shut_string)
set_option linter.unusedVariables false
set_option linter.unusedSimpArgs false

theorem own : ownKnob Tryz.prog.godebug = none := by kernel_rfl
theorem laidOut : laidOutB Tryz.prog = true := by kernel_rfl

-- caps
set_option maxHeartbeats 12800000 in
set_option maxRecDepth 200000 in
theorem walk (kind size : Int) (pp : Option Addr) (q cp : Nat) (ys : List Int) (w : World) (hwk : (Lit.int .i64 kind).wf = true) (hws : (Lit.int .i64 size).wf = true) (hsl : Sl w 1 (.slice pp q cp) q (ints .u8 ys)) (hq : q ≤ maxLen) (hy : ∀ y ∈ ys, (Lit.int .u8 y).wf = true) (hcap : q ≤ cp ∧ cp ≤ maxLen) :
    Calls Tryz.prog 5 #[.int .i64 kind, .int .i64 size, .slice pp q cp] w fun e w' => e = .returned (.bool true) ∧ Below w.heap.size w w' := by
  have HSP := Lib.hid hsl
  have HLP := Lib.hid hsl.ints_len
  have HY : Hid (∀ y ∈ ys, 0 ≤ y ∧ y ≤ 255) := Lib.hid fun y h => by
    have := hy y h
    simp [Lit.wf, IntKind.min, IntKind.max, IntKind.signed, IntKind.bits] at this
    omega
  have bs := bounds_i64 hws
  unfold maxLen at hq hcap
  clear hsl hy hwk hws hcap
  obtain ⟨B, hB0⟩ : ∃ B, w.heap.size = B := ⟨_, rfl⟩
  rw [hB0]
  go_enter Tryz.func5, Tryz.ntmps5
  go_wp2_with fail
  refine (awake13 w).mono ?_
  rintro e w1 ⟨rfl, k1⟩
  have HB1 : Hid (Below B w w1) := Lib.hid (by rw [← hB0]; exact k1)
  have hsB : B ≤ w1.heap.size := by rw [← hB0]; exact k1.size
  have hwB : w.heap.size ≤ B := Nat.le_of_eq hB0
  clear k1 hB0
  by_cases g1 : kind < 0
  · have d1 : decide (kind < 0) = true := decide_eq_true g1
    go_wp2
    go_ret
    exact ⟨rfl, HB1.out⟩
  have d1 : decide (kind < 0) = false := decide_eq_false g1
  by_cases g2 : 1 < kind
  · have d2 : decide (1 < kind) = true := decide_eq_true g2
    go_wp2
    go_ret
    exact ⟨rfl, HB1.out⟩
  have d2 : decide (1 < kind) = false := decide_eq_false g2
  have hkk : kind = 0 ∨ kind = 1 := by omega
  have HRR := Lib.hid (fun W => rcRight_any kind 0 size W)
  by_cases hr : lcRight kind 0 size
  case neg =>
    rw [decide_eq_false hr] at HRR
    go_wp2_with fail
    refine (HRR.out w1).mono ?_
    rintro e w2 ⟨rfl, rfl⟩
    go_wp2
    go_ret
    exact ⟨rfl, HB1.out⟩
  rw [decide_eq_true hr] at HRR
  by_cases g3 : 32 < size
  · have d3 : decide (32 < size) = true := decide_eq_true g3
    clear hr
    go_wp2_with fail
    refine (HRR.out w1).mono ?_
    rintro e w2 ⟨rfl, rfl⟩
    go_wp2
    go_ret
    exact ⟨rfl, HB1.out⟩
  have d3 : decide (32 < size) = false := decide_eq_false g3
  by_cases g4 : 60 < q
  · have d4 : decide ((60 : Int) < (q : Int)) = true := decide_eq_true (by omega)
    clear hr
    go_wp2_with fail
    refine (HRR.out w1).mono ?_
    rintro e w2 ⟨rfl, rfl⟩
    go_wp2
    go_ret
    exact ⟨rfl, HB1.out⟩
  have d4 : decide ((60 : Int) < (q : Int)) = false := decide_eq_false (by omega)
  have hdr := hr.2
  have hs2 : 2 ≤ size := by have := hdr.1; omega
  obtain ⟨N, rfl⟩ := Int.eq_ofNat_of_zero_le (show 0 ≤ size by omega)
  have HI0 : Hid (LpHas kind N (List.replicate (2 * N + 4) 0) []) := Lib.hid (LpHas.init hkk hdr (by omega))
  have HK := Lib.hid hkk
  have hN32 : N ≤ 32 := by omega
  have hN2 : 2 ≤ N := by omega
  have wn1 : IntKind.i64.wrap ((N : Int) + 2) = (N : Int) + 2 := by rw [IntKind.wrap_i64]; omega
  have wn2 : IntKind.i64.wrap (2 * (N : Int)) = 2 * (N : Int) := by rw [IntKind.wrap_i64]; omega
  have wn3 : IntKind.i64.wrap (2 * (N : Int) + 4) = 2 * (N : Int) + 4 := by rw [IntKind.wrap_i64]; omega
  clear hr hdr hkk
  go_wp2_with fail
  refine (HRR.out w1).mono ?_
  rintro e w2 ⟨rfl, rfl⟩
  clear HRR
  obtain ⟨ab, hab⟩ : ∃ ab, w1.heap.size = ab := ⟨_, rfl⟩
  obtain ⟨W3, hW3⟩ : ∃ W3, (w1.alloc (.cells #[.int .i64 kind, .int .i64 0, .int .i64 (N : Int)] 23)).alloc (.cells #[.int .i64 kind, .int .i64 ((N : Int) + 2), .int .i64 (N : Int)] 23) = W3 := ⟨_, rfl⟩
  have bx : Box W3 ab #[.int .i64 kind, .int .i64 0, .int .i64 (N : Int)] := by rw [← hW3, ← hab]; exact (Box.new _ _ _).alloc _
  have bx2 : Box W3 (ab + 1) #[.int .i64 kind, .int .i64 ((N : Int) + 2), .int .i64 (N : Int)] := by rw [← hW3, ← hab]; have := Box.new (w1.alloc (.cells #[.int .i64 kind, .int .i64 0, .int .i64 (N : Int)] 23)) #[.int .i64 kind, .int .i64 ((N : Int) + 2), .int .i64 (N : Int)] 23; simpa using this
  have k3 : Keeps [] w1 W3 := by rw [← hW3]; exact ((Keeps.refl _ _).alloc _).alloc _
  have HB3 := Lib.hid (HB1.out.trans (k3.below (by omega) (by simp)))
  have HBx3 := Lib.hid (⟨bx, bx2⟩ : _ ∧ _)
  have hab3 := bx2.lt
  have NA := Lib.hid (new_any (2 * N + 4) W3 (by omega) (by omega))
  rw [show (((2 * N + 4 : Nat)) : Int) = 2 * (N : Int) + 4 by omega] at NA
  have c0 := bx.cells 0
  have c1 := bx.cells 1
  have c2 := bx.cells 2
  simp at c0 c1 c2
  clear bx bx2 k3
  go_wp2_with fail
  refine NA.out.mono ?_
  rintro e w5 ⟨m, b, rfl, hM, k5, hm, hb⟩
  have HM5 := Lib.hid hM
  have HBx5 := Lib.hid (⟨HBx3.out.1.keeps k5 (by simp), HBx3.out.2.keeps k5 (by simp)⟩ : _ ∧ _)
  have s3 := HB3.out.size
  have HB5 := Lib.hid (HB3.out.trans (k5.below (by omega) (by simp)))
  have s5 := HB5.out.size
  have s35 := k5.size
  have hml5 := hM.lt
  clear hM k5 HB3 HBx3 hW3 NA c0 c1 c2
  -- the blocks that nobody writes
  obtain ⟨E, hE⟩ : ∃ E : Nat → Prop, (fun x => x < B ∨ x = ab ∨ x = ab + 1) = E := ⟨_, rfl⟩
  have HE : Hid ((∀ k, k < B → E k) ∧ E ab ∧ E (ab + 1) ∧ ∀ k, E k → k < B ∨ k = ab ∨ k = ab + 1) := Lib.hid (by rw [← hE]; exact ⟨fun k hk => .inl hk, .inr (.inl rfl), .inr (.inr rfl), fun k hk => hk⟩)
  clear hE
  have HLN := Lib.hid (loomNew_any E 1 m b (List.replicate (2 * N + 4) 0) w5 HM5.out (by omega) (by omega) (fun k hk => by rcases HE.out.2.2.2 k hk with h | h | h <;> omega) (fun hk => by rcases HE.out.2.2.2 b hk with h | h | h <;> omega))
  go_wp2_with fail
  refine HLN.out.mono ?_
  rintro e W7 ⟨l, gl, rfl, hL6, k6⟩
  have HL7 := Lib.hid hL6
  have HBx7 := Lib.hid (⟨HBx5.out.1.keeps k6 (by simp), HBx5.out.2.keeps k6 (by simp)⟩ : _ ∧ _)
  have HB7 := Lib.hid (HB5.out.trans (k6.below (by omega) (by simp)))
  clear hL6 k6 HBx5 HB5 HM5 HLN
  go_wp2
  go_loopw [13] (fun i wr => ∃ k : Nat, k ≤ q ∧ i = .int .i64 (k : Int) ∧ Held E W7 wr ∧ ∃ (L : LSt) (o : Option Strand) (xs : List Int),
    Loom E wr L ∧ L.l = l ∧ L.mm = m ∧ L.ts[0]? = some o ∧ busy o = false ∧ L.steps ≤ 60 * k ∧ LpHas kind N L.us xs) (fun i _ => q - (intOf i).toNat)
  case atStart => exact ⟨0, Nat.zero_le _, rfl, Held.refl _ _, _, none, [], HL7.out, rfl, rfl, rfl, rfl, Nat.le_refl _, HI0.out⟩
  case round =>
  obtain ⟨k, hk, rfl, hh, L, o, xs, hL, hLl, hLm, ho, hbo, hst, hQ⟩ := hrel
  have HQ := Lib.hid hQ
  have HHr := Lib.hid hh
  have HL := Lib.hid hL
  have HBxr : Hid (∀ W, Held E wr W → W.cell? ⟨ab, 0, none⟩ = some (.int .i64 kind) ∧ W.cell? ⟨ab, 1, none⟩ = some (.int .i64 0) ∧ W.cell? ⟨ab, 2, none⟩ = some (.int .i64 (N : Int)) ∧ W.cell? ⟨ab + 1, 0, none⟩ = some (.int .i64 kind) ∧ W.cell? ⟨ab + 1, 1, none⟩ = some (.int .i64 ((N : Int) + 2)) ∧ W.cell? ⟨ab + 1, 2, none⟩ = some (.int .i64 (N : Int))) := Lib.hid fun W hW => by
    have hW := HHr.out.trans hW
    have h1 := HBx7.out.1.block hW.size (hW.block ab HE.out.2.1)
    have h2 := HBx7.out.2.block hW.size (hW.block (ab + 1) HE.out.2.2.1)
    exact ⟨h1.cells 0, h1.cells 1, h1.cells 2, h2.cells 0, h2.cells 1, h2.cells 2⟩
  have HSlr : Hid (∀ W, Held E wr W → Sl W 1 (.slice pp q cp) q (ints .u8 ys)) := Lib.hid fun W hW => HSP.out.below (HB7.out.trans (Held.below ((HHr.out.trans hW).narrow (E := (· < B)) (fun k hk => HE.out.1 k hk)))) (by omega)
  have HEd : Hid (∀ x, E x → x < wr.heap.size) := Lib.hid HL.out.dom
  clear hh hL hQ
  by_cases hlt : k < q
  case neg =>
    obtain rfl : k = q := by omega
    go_wp2
    go_ret
    exact ⟨rfl, HB7.out.trans (Held.below (HHr.out.narrow (E := (· < B)) (fun k hk => HE.out.1 k hk)))⟩
  have hkz : k < ys.length := by rw [HLP.out]; exact hlt
  have hyb := HY.out (ys.getD k 0) (by rw [List.getD, List.getElem?_eq_getElem hkz]; exact List.getElem_mem hkz)
  obtain ⟨y, hyk⟩ : ∃ y, ys.getD k 0 = y := ⟨_, rfl⟩
  rw [hyk] at hyb
  obtain ⟨yn, rfl⟩ : ∃ yn : Nat, y = (yn : Int) := ⟨y.toNat, by omega⟩
  obtain ⟨pb, po, hpp⟩ : ∃ pb po, pp = some ⟨pb, po, none⟩ := by
    obtain ⟨pb, po, pc, he, -, -⟩ := (HSlr.out wr (Held.refl _ _)).some (by omega)
    cases he
    exact ⟨_, _, rfl⟩
  subst hpp
  have HAy : Hid (∀ W, Held E wr W → W.cell? ⟨pb, po + k, none⟩ = some (.int .u8 (yn : Int))) := Lib.hid fun W hW => by
    obtain ⟨yb, yo, yc, hye, -, hyc⟩ := (HSlr.out W hW).some (by omega)
    cases hye
    have h1 := hyc k _ (ints_at (k := .u8) hkz)
    rwa [hyk] at h1
  have ay := HAy.out wr (Held.refl _ _)
  have wk : IntKind.u64.wrap (k : Int) = (k : Int) := by show (k : Int) % 18446744073709551616 = _; omega
  have HV : Hid (M.U (k : Int) ∧ N ≤ 32) := Lib.hid ⟨⟨by omega, by omega⟩, hN32⟩
  have hkq : (k : Int) < (q : Int) := by omega
  obtain ⟨b0, b1, b2, dd0, dd1, dd2⟩ := HBxr.out wr (Held.refl _ _)
  have hk4 : yn % 4 = 0 ∨ yn % 4 = 1 ∨ yn % 4 = 2 ∨ yn % 4 = 3 := by omega
  have hq60 : q ≤ 60 := by omega
  clear hkz hyk hyb d1 d2 d3 d4 g1 g2 g3 g4
  rcases hk4 with hk4 | hk4 | hk4 | hk4
  · have hkd : (yn : Int).tmod 4 = 0 := by rw [Int.tmod_eq_emod_of_nonneg (by omega)]; omega
    clear hk4
    go_wp2_with fail
    refine (lcPush_made kind 0 N (k : Int) wr (by omega) HV.out.1).mono ?_
    rintro e w1 ⟨m1, S1, rfl, hI1, k1, hS1⟩
    have hh1 := k1.held HEd.out (by simp)
    obtain ⟨b0, b1, b2, dd0, dd1, dd2⟩ := HBxr.out w1 hh1
    have ay := HAy.out w1 hh1
    obtain ⟨w2, mm, S, hI, hkw, hS, hw2, hmm⟩ : ∃ w2 mm S, lcI mm w2 S (lpBegin kind N 0 (k : Int)) ∧ Keeps [] wr w2 ∧ (∀ x ∈ S, wr.heap.size ≤ x) ∧ w1 = w2 ∧ m1 = mm := ⟨w1, m1, S1, hI1, k1, hS1, rfl, rfl⟩
    subst hw2 hmm
    clear hI1 k1 hS1 hh1
    obtain ⟨w2, hw2⟩ : ∃ w2, w1 = w2 := ⟨_, rfl⟩
    rw [hw2] at hI hkw b0 b1 b2 dd0 dd1 dd2 ay ⊢
    obtain ⟨mm, hmm⟩ : ∃ mm, m1 = mm := ⟨_, rfl⟩
    rw [hmm] at hI ⊢
    clear hw2 hmm
    obtain ⟨n, us', s', r0, xs', n0, n1, hsolo, hres, hQ'⟩ := HQ.out.deed 0 (by decide) (k : Int) HV.out.1 HV.out.2
    obtain ⟨L1, M, o', hM, hSt, hAl⟩ := hsolo.begunL (I := lcI mm) (m := mm) (R := lcRuns mm) E 0 200 r0 o S wr w2 HL.out hkw ho hbo hI hS n0 (by omega) (by omega) (by omega) hres
    rw [hLl] at hSt hAl
    have HSt := Lib.hid hSt
    have HAl := Lib.hid hAl
    have HNew : Hid (M.l = l ∧ M.mm = m ∧ M.ts[0]? = some o' ∧ busy o' = false ∧ M.steps ≤ 60 * k + 50 ∧ LpHas kind N M.us xs') := Lib.hid
      ⟨hM.1.trans hLl, hM.2.1.trans hLm, hM.2.2.2.2.1, hM.2.2.2.2.2.1, by have := hM.2.2.2.1; omega, by rw [hM.2.2.1]; exact hQ'⟩
    clear n0 n1 hsolo hres hQ' hM hSt hAl hI hS hkw b0 b1 b2 dd0 dd1 dd2 ho hbo hst hLl hLm
    go_wp2_with fail
    refine HSt.out.mono ?_
    rintro e w12 ⟨rfl, hL2, hh2⟩
    clear ay
    have HL2 := Lib.hid hL2
    have HH2 := Lib.hid hh2
    clear hL2 hh2
    go_wp2_with fail
    refine (HAl.out w12 HL2.out).mono ?_
    rintro e w13 ⟨rfl, hL3, hh3⟩
    have HL3 := Lib.hid hL3
    have HH3 := Lib.hid (HH2.out.trans hh3)
    clear hL3 hh3
    obtain ⟨b0, b1, b2, dd0, dd1, dd2⟩ := HBxr.out w13 HH3.out
    go_wp2_with fail
    refine (lcPeek_made kind 0 N w13 (by omega)).mono ?_
    rintro e w14 ⟨mp, Sp, rfl, hIp, kp, hSp⟩
    obtain ⟨sp, hsp, hrp⟩ := HNew.out.2.2.2.2.2.peek
    obtain ⟨L4, M4, o4, hM4, hSt4, hDo4⟩ := Solo.begun (I := lcI mp) (m := mp) (R := lcRuns mp) (L := M) hsp E 0 9 _ _ o' Sp w13 w14 HL3.out kp HNew.out.2.2.1 HNew.out.2.2.2.1 hIp hSp (by decide) (by decide) (by decide) (by have := HNew.out.2.2.2.2.1; omega) hrp
    rw [HNew.out.1] at hSt4 hDo4
    obtain ⟨v, hv⟩ : ∃ v, lkV (decide (0 < xs'.length)) = v := ⟨_, rfl⟩
    rw [hv] at hDo4
    have HSt4 := Lib.hid hSt4
    have HDo4 := Lib.hid hDo4
    have HN4 : Hid (M4.l = l ∧ M4.mm = m ∧ M4.ts[0]? = some o4 ∧ busy o4 = false ∧ M4.steps ≤ 60 * (k + 1) ∧ LpHas kind N M4.us xs') := Lib.hid
      ⟨hM4.1.trans HNew.out.1, hM4.2.2.1.trans HNew.out.2.1, hM4.2.2.2.2.2.2.1, hM4.2.2.2.2.2.2.2.1, by have := hM4.2.2.2.2.2.1; have := HNew.out.2.2.2.2.1; omega, by rw [hM4.2.2.2.2.1]; exact HNew.out.2.2.2.2.2⟩
    clear hM4 hSt4 hDo4 hIp hSp hsp hrp kp b0 b1 b2 dd0 dd1 dd2
    go_wp2_with fail
    refine HSt4.out.mono ?_
    rintro e w15 ⟨rfl, hL5, hh5⟩
    have HL5 := Lib.hid hL5
    have HH5 := Lib.hid (HH3.out.trans hh5)
    clear hL5 hh5
    go_wp2_with fail
    refine (HDo4.out.1 E w15 HL5.out).mono ?_
    rintro e w16 ⟨rfl, hL6, hh6⟩
    have HL6 := Lib.hid hL6
    have HH6 := Lib.hid (HH5.out.trans hh6)
    clear hL6 hh6
    go_wp2_with fail
    refine (HDo4.out.2 E w16 HL6.out).mono ?_
    rintro e w17 ⟨rq, rc, rfl, k17⟩
    have HL7 := Lib.hid (HL6.out.keeps k17)
    have HH7 := Lib.hid (HH6.out.trans (k17.held HL6.out.dom (by simp)))
    clear k17
    obtain ⟨z, hz⟩ : ∃ z, w17.heap.size = z := ⟨_, rfl⟩
    obtain ⟨w18, hW18⟩ : ∃ W, w17.alloc (.cells #[.int .i64 0, .int .u64 v, .slice rq 0 rc] 66) = W := ⟨_, rfl⟩
    have k18 : Keeps [] w17 w18 := by rw [← hW18]; exact (Keeps.refl _ _).alloc _
    have HR8 := Lib.hid (show Row w18 z 66 [.int .i64 0, .int .u64 v, .slice rq 0 rc] by rw [← hW18, ← hz]; exact Row.new _ _ _)
    have HL8 := Lib.hid (HL7.out.keeps k18)
    have HH8 := Lib.hid (HH7.out.trans (k18.held HL7.out.dom (by simp)))
    clear k18
    obtain ⟨b0, b1, b2, dd0, dd1, dd2⟩ := HBxr.out w18 HH8.out
    have hM8 := HL8.out.mem
    rw [HN4.out.2.1] at hM8
    obtain ⟨hal, hln, hkk, hrr⟩ := HN4.out.2.2.2.2.2.all
    have HA := lcAll_any kind 0 (N : Int) m M4.b M4.us w18 hM8 ⟨hkk, hrr⟩ (by simp; omega)
    rw [show ((0 : Nat) : Int) = 0 from rfl, hal] at HA
    have HA := Lib.hid HA
    clear hM8 hal hln hkk hrr
    go_wp2_with fail
    refine HA.out.mono ?_
    rintro e w19 ⟨k19, ht⟩
    obtain ⟨lv, rfl, hown⟩ := ht.2 xs' rfl
    obtain ⟨lq, lc, rfl⟩ := (Sl.of_owns hown).len
    have HL9 := Lib.hid (HL8.out.keeps k19)
    have HH9 := Lib.hid (HH8.out.trans (k19.held HL8.out.dom (by simp)))
    have r19 := HR8.out.keeps k19 (by simp)
    have e0 : w19.cell? ⟨z, 0, none⟩ = some (.int .i64 0) := r19.cell (j := 0) rfl
    have e1 : w19.cell? ⟨z, 1, none⟩ = some (.int .u64 v) := r19.cell (j := 1) rfl
    have hvv : (v = 1 ∧ 0 < xs'.length) ∨ (v = 0 ∧ xs'.length = 0) := by
      rw [← hv]
      by_cases h : 0 < xs'.length
      · exact .inl ⟨by simp [lkV, h], h⟩
      · exact .inr ⟨by simp [lkV, h], by omega⟩
    obtain ⟨bb, hb1, hb2, hb3⟩ : ∃ bb, (v == 1) = bb ∧ decide ((0 : Int) < (xs'.length : Int)) = bb ∧ decide ((1 : Int) < v) = false := by
      rcases hvv with ⟨rfl, h⟩ | ⟨rfl, h⟩
      · exact ⟨true, by decide, decide_eq_true (by omega), by decide⟩
      · exact ⟨false, by decide, decide_eq_false (by omega), by decide⟩
    have hb5 : decide (0 < xs'.length) = bb := by rw [← hb2]; exact decide_eq_decide.2 ⟨fun h => by omega, fun h => by omega⟩
    have hb4 : (bb != bb) = false := by simp
    have HF : Hid (∃ (L : LSt) (o : Option Strand) (xs : List Int), Loom E w19 L ∧ L.l = l ∧ L.mm = m ∧ L.ts[0]? = some o ∧ busy o = false ∧ L.steps ≤ 60 * (k + 1) ∧ LpHas kind N L.us xs) := Lib.hid ⟨M4, o4, xs', HL9.out, HN4.out⟩
    have HHF : Hid (Held E W7 w19) := Lib.hid (HHr.out.trans HH9.out)
    clear k19 ht hown r19 hvv hv hz b0 b1 b2 dd0 dd1 dd2
    go_wp2
    go_roundw
    case rel => exact ⟨k + 1, by omega, by go_num, HHF.out, HF.out⟩
    case measure => first | (simp [intOf]; done) | (simp [intOf]; omega)
  · have hkd : (yn : Int).tmod 4 = 1 := by rw [Int.tmod_eq_emod_of_nonneg (by omega)]; omega
    clear hk4
    go_wp2_with fail
    refine (lcPush_made kind 0 N (k : Int) wr (by omega) HV.out.1).mono ?_
    rintro e w1 ⟨m1, S1, rfl, hI1, k1, hS1⟩
    have hh1 := k1.held HEd.out (by simp)
    obtain ⟨b0, b1, b2, dd0, dd1, dd2⟩ := HBxr.out w1 hh1
    have ay := HAy.out w1 hh1
    clear hI1
    go_wp2_with fail
    refine (lcPop_made kind 0 N w1 (by omega)).mono ?_
    rintro e w2 ⟨mm, S, rfl, hI0, k2, hS2⟩
    have hkw : Keeps [] wr w2 := k1.trans k2
    have hS : ∀ x ∈ S, wr.heap.size ≤ x := fun x hx => Nat.le_trans k1.size (hS2 x hx)
    have hI : lcI mm w2 S (lpBegin kind N 1 (k : Int)) := hI0
    have hh2 := hkw.held HEd.out (by simp)
    obtain ⟨b0, b1, b2, dd0, dd1, dd2⟩ := HBxr.out w2 hh2
    have ay := HAy.out w2 hh2
    clear hI0 k1 k2 hS1 hS2 hh1 hh2
    obtain ⟨n, us', s', r0, xs', n0, n1, hsolo, hres, hQ'⟩ := HQ.out.deed 1 (by decide) (k : Int) HV.out.1 HV.out.2
    obtain ⟨L1, M, o', hM, hSt, hAl⟩ := hsolo.begunL (I := lcI mm) (m := mm) (R := lcRuns mm) E 0 200 r0 o S wr w2 HL.out hkw ho hbo hI hS n0 (by omega) (by omega) (by omega) hres
    rw [hLl] at hSt hAl
    have HSt := Lib.hid hSt
    have HAl := Lib.hid hAl
    have HNew : Hid (M.l = l ∧ M.mm = m ∧ M.ts[0]? = some o' ∧ busy o' = false ∧ M.steps ≤ 60 * k + 50 ∧ LpHas kind N M.us xs') := Lib.hid
      ⟨hM.1.trans hLl, hM.2.1.trans hLm, hM.2.2.2.2.1, hM.2.2.2.2.2.1, by have := hM.2.2.2.1; omega, by rw [hM.2.2.1]; exact hQ'⟩
    clear n0 n1 hsolo hres hQ' hM hSt hAl hI hS hkw b0 b1 b2 dd0 dd1 dd2 ho hbo hst hLl hLm
    go_wp2_with fail
    refine HSt.out.mono ?_
    rintro e w12 ⟨rfl, hL2, hh2⟩
    clear ay
    have HL2 := Lib.hid hL2
    have HH2 := Lib.hid hh2
    clear hL2 hh2
    go_wp2_with fail
    refine (HAl.out w12 HL2.out).mono ?_
    rintro e w13 ⟨rfl, hL3, hh3⟩
    have HL3 := Lib.hid hL3
    have HH3 := Lib.hid (HH2.out.trans hh3)
    clear hL3 hh3
    obtain ⟨b0, b1, b2, dd0, dd1, dd2⟩ := HBxr.out w13 HH3.out
    go_wp2_with fail
    refine (lcPeek_made kind 0 N w13 (by omega)).mono ?_
    rintro e w14 ⟨mp, Sp, rfl, hIp, kp, hSp⟩
    obtain ⟨sp, hsp, hrp⟩ := HNew.out.2.2.2.2.2.peek
    obtain ⟨L4, M4, o4, hM4, hSt4, hDo4⟩ := Solo.begun (I := lcI mp) (m := mp) (R := lcRuns mp) (L := M) hsp E 0 9 _ _ o' Sp w13 w14 HL3.out kp HNew.out.2.2.1 HNew.out.2.2.2.1 hIp hSp (by decide) (by decide) (by decide) (by have := HNew.out.2.2.2.2.1; omega) hrp
    rw [HNew.out.1] at hSt4 hDo4
    obtain ⟨v, hv⟩ : ∃ v, lkV (decide (0 < xs'.length)) = v := ⟨_, rfl⟩
    rw [hv] at hDo4
    have HSt4 := Lib.hid hSt4
    have HDo4 := Lib.hid hDo4
    have HN4 : Hid (M4.l = l ∧ M4.mm = m ∧ M4.ts[0]? = some o4 ∧ busy o4 = false ∧ M4.steps ≤ 60 * (k + 1) ∧ LpHas kind N M4.us xs') := Lib.hid
      ⟨hM4.1.trans HNew.out.1, hM4.2.2.1.trans HNew.out.2.1, hM4.2.2.2.2.2.2.1, hM4.2.2.2.2.2.2.2.1, by have := hM4.2.2.2.2.2.1; have := HNew.out.2.2.2.2.1; omega, by rw [hM4.2.2.2.2.1]; exact HNew.out.2.2.2.2.2⟩
    clear hM4 hSt4 hDo4 hIp hSp hsp hrp kp b0 b1 b2 dd0 dd1 dd2
    go_wp2_with fail
    refine HSt4.out.mono ?_
    rintro e w15 ⟨rfl, hL5, hh5⟩
    have HL5 := Lib.hid hL5
    have HH5 := Lib.hid (HH3.out.trans hh5)
    clear hL5 hh5
    go_wp2_with fail
    refine (HDo4.out.1 E w15 HL5.out).mono ?_
    rintro e w16 ⟨rfl, hL6, hh6⟩
    have HL6 := Lib.hid hL6
    have HH6 := Lib.hid (HH5.out.trans hh6)
    clear hL6 hh6
    go_wp2_with fail
    refine (HDo4.out.2 E w16 HL6.out).mono ?_
    rintro e w17 ⟨rq, rc, rfl, k17⟩
    have HL7 := Lib.hid (HL6.out.keeps k17)
    have HH7 := Lib.hid (HH6.out.trans (k17.held HL6.out.dom (by simp)))
    clear k17
    obtain ⟨z, hz⟩ : ∃ z, w17.heap.size = z := ⟨_, rfl⟩
    obtain ⟨w18, hW18⟩ : ∃ W, w17.alloc (.cells #[.int .i64 0, .int .u64 v, .slice rq 0 rc] 66) = W := ⟨_, rfl⟩
    have k18 : Keeps [] w17 w18 := by rw [← hW18]; exact (Keeps.refl _ _).alloc _
    have HR8 := Lib.hid (show Row w18 z 66 [.int .i64 0, .int .u64 v, .slice rq 0 rc] by rw [← hW18, ← hz]; exact Row.new _ _ _)
    have HL8 := Lib.hid (HL7.out.keeps k18)
    have HH8 := Lib.hid (HH7.out.trans (k18.held HL7.out.dom (by simp)))
    clear k18
    obtain ⟨b0, b1, b2, dd0, dd1, dd2⟩ := HBxr.out w18 HH8.out
    have hM8 := HL8.out.mem
    rw [HN4.out.2.1] at hM8
    obtain ⟨hal, hln, hkk, hrr⟩ := HN4.out.2.2.2.2.2.all
    have HA := lcAll_any kind 0 (N : Int) m M4.b M4.us w18 hM8 ⟨hkk, hrr⟩ (by simp; omega)
    rw [show ((0 : Nat) : Int) = 0 from rfl, hal] at HA
    have HA := Lib.hid HA
    clear hM8 hal hln hkk hrr
    go_wp2_with fail
    refine HA.out.mono ?_
    rintro e w19 ⟨k19, ht⟩
    obtain ⟨lv, rfl, hown⟩ := ht.2 xs' rfl
    obtain ⟨lq, lc, rfl⟩ := (Sl.of_owns hown).len
    have HL9 := Lib.hid (HL8.out.keeps k19)
    have HH9 := Lib.hid (HH8.out.trans (k19.held HL8.out.dom (by simp)))
    have r19 := HR8.out.keeps k19 (by simp)
    have e0 : w19.cell? ⟨z, 0, none⟩ = some (.int .i64 0) := r19.cell (j := 0) rfl
    have e1 : w19.cell? ⟨z, 1, none⟩ = some (.int .u64 v) := r19.cell (j := 1) rfl
    have hvv : (v = 1 ∧ 0 < xs'.length) ∨ (v = 0 ∧ xs'.length = 0) := by
      rw [← hv]
      by_cases h : 0 < xs'.length
      · exact .inl ⟨by simp [lkV, h], h⟩
      · exact .inr ⟨by simp [lkV, h], by omega⟩
    obtain ⟨bb, hb1, hb2, hb3⟩ : ∃ bb, (v == 1) = bb ∧ decide ((0 : Int) < (xs'.length : Int)) = bb ∧ decide ((1 : Int) < v) = false := by
      rcases hvv with ⟨rfl, h⟩ | ⟨rfl, h⟩
      · exact ⟨true, by decide, decide_eq_true (by omega), by decide⟩
      · exact ⟨false, by decide, decide_eq_false (by omega), by decide⟩
    have hb5 : decide (0 < xs'.length) = bb := by rw [← hb2]; exact decide_eq_decide.2 ⟨fun h => by omega, fun h => by omega⟩
    have hb4 : (bb != bb) = false := by simp
    have HF : Hid (∃ (L : LSt) (o : Option Strand) (xs : List Int), Loom E w19 L ∧ L.l = l ∧ L.mm = m ∧ L.ts[0]? = some o ∧ busy o = false ∧ L.steps ≤ 60 * (k + 1) ∧ LpHas kind N L.us xs) := Lib.hid ⟨M4, o4, xs', HL9.out, HN4.out⟩
    have HHF : Hid (Held E W7 w19) := Lib.hid (HHr.out.trans HH9.out)
    clear k19 ht hown r19 hvv hv hz b0 b1 b2 dd0 dd1 dd2
    go_wp2
    go_roundw
    case rel => exact ⟨k + 1, by omega, by go_num, HHF.out, HF.out⟩
    case measure => first | (simp [intOf]; done) | (simp [intOf]; omega)
  · have hkd : (yn : Int).tmod 4 = 2 := by rw [Int.tmod_eq_emod_of_nonneg (by omega)]; omega
    clear hk4
    go_wp2_with fail
    refine (lcPush_made kind 0 N (k : Int) wr (by omega) HV.out.1).mono ?_
    rintro e w1 ⟨m1, S1, rfl, hI1, k1, hS1⟩
    have hh1 := k1.held HEd.out (by simp)
    obtain ⟨b0, b1, b2, dd0, dd1, dd2⟩ := HBxr.out w1 hh1
    have ay := HAy.out w1 hh1
    clear hI1
    go_wp2_with fail
    refine (lcSteal_made kind 0 N kind ((N : Int) + 2) N w1 (by omega) (by omega)).mono ?_
    rintro e w2 ⟨mm, S, rfl, hI0, k2, hS2⟩
    have hkw : Keeps [] wr w2 := k1.trans k2
    have hS : ∀ x ∈ S, wr.heap.size ≤ x := fun x hx => Nat.le_trans k1.size (hS2 x hx)
    have hI : lcI mm w2 S (lpBegin kind N 2 (k : Int)) := hI0
    have hh2 := hkw.held HEd.out (by simp)
    obtain ⟨b0, b1, b2, dd0, dd1, dd2⟩ := HBxr.out w2 hh2
    have ay := HAy.out w2 hh2
    clear hI0 k1 k2 hS1 hS2 hh1 hh2
    obtain ⟨n, us', s', r0, xs', n0, n1, hsolo, hres, hQ'⟩ := HQ.out.deed 2 (by decide) (k : Int) HV.out.1 HV.out.2
    obtain ⟨L1, M, o', hM, hSt, hAl⟩ := hsolo.begunL (I := lcI mm) (m := mm) (R := lcRuns mm) E 0 200 r0 o S wr w2 HL.out hkw ho hbo hI hS n0 (by omega) (by omega) (by omega) hres
    rw [hLl] at hSt hAl
    have HSt := Lib.hid hSt
    have HAl := Lib.hid hAl
    have HNew : Hid (M.l = l ∧ M.mm = m ∧ M.ts[0]? = some o' ∧ busy o' = false ∧ M.steps ≤ 60 * k + 50 ∧ LpHas kind N M.us xs') := Lib.hid
      ⟨hM.1.trans hLl, hM.2.1.trans hLm, hM.2.2.2.2.1, hM.2.2.2.2.2.1, by have := hM.2.2.2.1; omega, by rw [hM.2.2.1]; exact hQ'⟩
    clear n0 n1 hsolo hres hQ' hM hSt hAl hI hS hkw b0 b1 b2 dd0 dd1 dd2 ho hbo hst hLl hLm
    go_wp2_with fail
    refine HSt.out.mono ?_
    rintro e w12 ⟨rfl, hL2, hh2⟩
    clear ay
    have HL2 := Lib.hid hL2
    have HH2 := Lib.hid hh2
    clear hL2 hh2
    go_wp2_with fail
    refine (HAl.out w12 HL2.out).mono ?_
    rintro e w13 ⟨rfl, hL3, hh3⟩
    have HL3 := Lib.hid hL3
    have HH3 := Lib.hid (HH2.out.trans hh3)
    clear hL3 hh3
    obtain ⟨b0, b1, b2, dd0, dd1, dd2⟩ := HBxr.out w13 HH3.out
    go_wp2_with fail
    refine (lcPeek_made kind 0 N w13 (by omega)).mono ?_
    rintro e w14 ⟨mp, Sp, rfl, hIp, kp, hSp⟩
    obtain ⟨sp, hsp, hrp⟩ := HNew.out.2.2.2.2.2.peek
    obtain ⟨L4, M4, o4, hM4, hSt4, hDo4⟩ := Solo.begun (I := lcI mp) (m := mp) (R := lcRuns mp) (L := M) hsp E 0 9 _ _ o' Sp w13 w14 HL3.out kp HNew.out.2.2.1 HNew.out.2.2.2.1 hIp hSp (by decide) (by decide) (by decide) (by have := HNew.out.2.2.2.2.1; omega) hrp
    rw [HNew.out.1] at hSt4 hDo4
    obtain ⟨v, hv⟩ : ∃ v, lkV (decide (0 < xs'.length)) = v := ⟨_, rfl⟩
    rw [hv] at hDo4
    have HSt4 := Lib.hid hSt4
    have HDo4 := Lib.hid hDo4
    have HN4 : Hid (M4.l = l ∧ M4.mm = m ∧ M4.ts[0]? = some o4 ∧ busy o4 = false ∧ M4.steps ≤ 60 * (k + 1) ∧ LpHas kind N M4.us xs') := Lib.hid
      ⟨hM4.1.trans HNew.out.1, hM4.2.2.1.trans HNew.out.2.1, hM4.2.2.2.2.2.2.1, hM4.2.2.2.2.2.2.2.1, by have := hM4.2.2.2.2.2.1; have := HNew.out.2.2.2.2.1; omega, by rw [hM4.2.2.2.2.1]; exact HNew.out.2.2.2.2.2⟩
    clear hM4 hSt4 hDo4 hIp hSp hsp hrp kp b0 b1 b2 dd0 dd1 dd2
    go_wp2_with fail
    refine HSt4.out.mono ?_
    rintro e w15 ⟨rfl, hL5, hh5⟩
    have HL5 := Lib.hid hL5
    have HH5 := Lib.hid (HH3.out.trans hh5)
    clear hL5 hh5
    go_wp2_with fail
    refine (HDo4.out.1 E w15 HL5.out).mono ?_
    rintro e w16 ⟨rfl, hL6, hh6⟩
    have HL6 := Lib.hid hL6
    have HH6 := Lib.hid (HH5.out.trans hh6)
    clear hL6 hh6
    go_wp2_with fail
    refine (HDo4.out.2 E w16 HL6.out).mono ?_
    rintro e w17 ⟨rq, rc, rfl, k17⟩
    have HL7 := Lib.hid (HL6.out.keeps k17)
    have HH7 := Lib.hid (HH6.out.trans (k17.held HL6.out.dom (by simp)))
    clear k17
    obtain ⟨z, hz⟩ : ∃ z, w17.heap.size = z := ⟨_, rfl⟩
    obtain ⟨w18, hW18⟩ : ∃ W, w17.alloc (.cells #[.int .i64 0, .int .u64 v, .slice rq 0 rc] 66) = W := ⟨_, rfl⟩
    have k18 : Keeps [] w17 w18 := by rw [← hW18]; exact (Keeps.refl _ _).alloc _
    have HR8 := Lib.hid (show Row w18 z 66 [.int .i64 0, .int .u64 v, .slice rq 0 rc] by rw [← hW18, ← hz]; exact Row.new _ _ _)
    have HL8 := Lib.hid (HL7.out.keeps k18)
    have HH8 := Lib.hid (HH7.out.trans (k18.held HL7.out.dom (by simp)))
    clear k18
    obtain ⟨b0, b1, b2, dd0, dd1, dd2⟩ := HBxr.out w18 HH8.out
    have hM8 := HL8.out.mem
    rw [HN4.out.2.1] at hM8
    obtain ⟨hal, hln, hkk, hrr⟩ := HN4.out.2.2.2.2.2.all
    have HA := lcAll_any kind 0 (N : Int) m M4.b M4.us w18 hM8 ⟨hkk, hrr⟩ (by simp; omega)
    rw [show ((0 : Nat) : Int) = 0 from rfl, hal] at HA
    have HA := Lib.hid HA
    clear hM8 hal hln hkk hrr
    go_wp2_with fail
    refine HA.out.mono ?_
    rintro e w19 ⟨k19, ht⟩
    obtain ⟨lv, rfl, hown⟩ := ht.2 xs' rfl
    obtain ⟨lq, lc, rfl⟩ := (Sl.of_owns hown).len
    have HL9 := Lib.hid (HL8.out.keeps k19)
    have HH9 := Lib.hid (HH8.out.trans (k19.held HL8.out.dom (by simp)))
    have r19 := HR8.out.keeps k19 (by simp)
    have e0 : w19.cell? ⟨z, 0, none⟩ = some (.int .i64 0) := r19.cell (j := 0) rfl
    have e1 : w19.cell? ⟨z, 1, none⟩ = some (.int .u64 v) := r19.cell (j := 1) rfl
    have hvv : (v = 1 ∧ 0 < xs'.length) ∨ (v = 0 ∧ xs'.length = 0) := by
      rw [← hv]
      by_cases h : 0 < xs'.length
      · exact .inl ⟨by simp [lkV, h], h⟩
      · exact .inr ⟨by simp [lkV, h], by omega⟩
    obtain ⟨bb, hb1, hb2, hb3⟩ : ∃ bb, (v == 1) = bb ∧ decide ((0 : Int) < (xs'.length : Int)) = bb ∧ decide ((1 : Int) < v) = false := by
      rcases hvv with ⟨rfl, h⟩ | ⟨rfl, h⟩
      · exact ⟨true, by decide, decide_eq_true (by omega), by decide⟩
      · exact ⟨false, by decide, decide_eq_false (by omega), by decide⟩
    have hb5 : decide (0 < xs'.length) = bb := by rw [← hb2]; exact decide_eq_decide.2 ⟨fun h => by omega, fun h => by omega⟩
    have hb4 : (bb != bb) = false := by simp
    have HF : Hid (∃ (L : LSt) (o : Option Strand) (xs : List Int), Loom E w19 L ∧ L.l = l ∧ L.mm = m ∧ L.ts[0]? = some o ∧ busy o = false ∧ L.steps ≤ 60 * (k + 1) ∧ LpHas kind N L.us xs) := Lib.hid ⟨M4, o4, xs', HL9.out, HN4.out⟩
    have HHF : Hid (Held E W7 w19) := Lib.hid (HHr.out.trans HH9.out)
    clear k19 ht hown r19 hvv hv hz b0 b1 b2 dd0 dd1 dd2
    go_wp2
    go_roundw
    case rel => exact ⟨k + 1, by omega, by go_num, HHF.out, HF.out⟩
    case measure => first | (simp [intOf]; done) | (simp [intOf]; omega)
  · have hkd : (yn : Int).tmod 4 = 3 := by rw [Int.tmod_eq_emod_of_nonneg (by omega)]; omega
    clear hk4
    go_wp2_with fail
    refine (lcPush_made kind 0 N (k : Int) wr (by omega) HV.out.1).mono ?_
    rintro e w1 ⟨m1, S1, rfl, hI1, k1, hS1⟩
    have hh1 := k1.held HEd.out (by simp)
    obtain ⟨b0, b1, b2, dd0, dd1, dd2⟩ := HBxr.out w1 hh1
    have ay := HAy.out w1 hh1
    clear hI1
    go_wp2_with fail
    refine (lcPop_made kind ((N : Int) + 2) N w1 (by omega)).mono ?_
    rintro e w2 ⟨mm, S, rfl, hI0, k2, hS2⟩
    have hkw : Keeps [] wr w2 := k1.trans k2
    have hS : ∀ x ∈ S, wr.heap.size ≤ x := fun x hx => Nat.le_trans k1.size (hS2 x hx)
    have hI : lcI mm w2 S (lpBegin kind N 3 (k : Int)) := hI0
    have hh2 := hkw.held HEd.out (by simp)
    obtain ⟨b0, b1, b2, dd0, dd1, dd2⟩ := HBxr.out w2 hh2
    have ay := HAy.out w2 hh2
    clear hI0 k1 k2 hS1 hS2 hh1 hh2
    obtain ⟨n, us', s', r0, xs', n0, n1, hsolo, hres, hQ'⟩ := HQ.out.deed 3 (by decide) (k : Int) HV.out.1 HV.out.2
    obtain ⟨L1, M, o', hM, hSt, hAl⟩ := hsolo.begunL (I := lcI mm) (m := mm) (R := lcRuns mm) E 0 200 r0 o S wr w2 HL.out hkw ho hbo hI hS n0 (by omega) (by omega) (by omega) hres
    rw [hLl] at hSt hAl
    have HSt := Lib.hid hSt
    have HAl := Lib.hid hAl
    have HNew : Hid (M.l = l ∧ M.mm = m ∧ M.ts[0]? = some o' ∧ busy o' = false ∧ M.steps ≤ 60 * k + 50 ∧ LpHas kind N M.us xs') := Lib.hid
      ⟨hM.1.trans hLl, hM.2.1.trans hLm, hM.2.2.2.2.1, hM.2.2.2.2.2.1, by have := hM.2.2.2.1; omega, by rw [hM.2.2.1]; exact hQ'⟩
    clear n0 n1 hsolo hres hQ' hM hSt hAl hI hS hkw b0 b1 b2 dd0 dd1 dd2 ho hbo hst hLl hLm
    go_wp2_with fail
    refine HSt.out.mono ?_
    rintro e w12 ⟨rfl, hL2, hh2⟩
    clear ay
    have HL2 := Lib.hid hL2
    have HH2 := Lib.hid hh2
    clear hL2 hh2
    go_wp2_with fail
    refine (HAl.out w12 HL2.out).mono ?_
    rintro e w13 ⟨rfl, hL3, hh3⟩
    have HL3 := Lib.hid hL3
    have HH3 := Lib.hid (HH2.out.trans hh3)
    clear hL3 hh3
    obtain ⟨b0, b1, b2, dd0, dd1, dd2⟩ := HBxr.out w13 HH3.out
    go_wp2_with fail
    refine (lcPeek_made kind 0 N w13 (by omega)).mono ?_
    rintro e w14 ⟨mp, Sp, rfl, hIp, kp, hSp⟩
    obtain ⟨sp, hsp, hrp⟩ := HNew.out.2.2.2.2.2.peek
    obtain ⟨L4, M4, o4, hM4, hSt4, hDo4⟩ := Solo.begun (I := lcI mp) (m := mp) (R := lcRuns mp) (L := M) hsp E 0 9 _ _ o' Sp w13 w14 HL3.out kp HNew.out.2.2.1 HNew.out.2.2.2.1 hIp hSp (by decide) (by decide) (by decide) (by have := HNew.out.2.2.2.2.1; omega) hrp
    rw [HNew.out.1] at hSt4 hDo4
    obtain ⟨v, hv⟩ : ∃ v, lkV (decide (0 < xs'.length)) = v := ⟨_, rfl⟩
    rw [hv] at hDo4
    have HSt4 := Lib.hid hSt4
    have HDo4 := Lib.hid hDo4
    have HN4 : Hid (M4.l = l ∧ M4.mm = m ∧ M4.ts[0]? = some o4 ∧ busy o4 = false ∧ M4.steps ≤ 60 * (k + 1) ∧ LpHas kind N M4.us xs') := Lib.hid
      ⟨hM4.1.trans HNew.out.1, hM4.2.2.1.trans HNew.out.2.1, hM4.2.2.2.2.2.2.1, hM4.2.2.2.2.2.2.2.1, by have := hM4.2.2.2.2.2.1; have := HNew.out.2.2.2.2.1; omega, by rw [hM4.2.2.2.2.1]; exact HNew.out.2.2.2.2.2⟩
    clear hM4 hSt4 hDo4 hIp hSp hsp hrp kp b0 b1 b2 dd0 dd1 dd2
    go_wp2_with fail
    refine HSt4.out.mono ?_
    rintro e w15 ⟨rfl, hL5, hh5⟩
    have HL5 := Lib.hid hL5
    have HH5 := Lib.hid (HH3.out.trans hh5)
    clear hL5 hh5
    go_wp2_with fail
    refine (HDo4.out.1 E w15 HL5.out).mono ?_
    rintro e w16 ⟨rfl, hL6, hh6⟩
    have HL6 := Lib.hid hL6
    have HH6 := Lib.hid (HH5.out.trans hh6)
    clear hL6 hh6
    go_wp2_with fail
    refine (HDo4.out.2 E w16 HL6.out).mono ?_
    rintro e w17 ⟨rq, rc, rfl, k17⟩
    have HL7 := Lib.hid (HL6.out.keeps k17)
    have HH7 := Lib.hid (HH6.out.trans (k17.held HL6.out.dom (by simp)))
    clear k17
    obtain ⟨z, hz⟩ : ∃ z, w17.heap.size = z := ⟨_, rfl⟩
    obtain ⟨w18, hW18⟩ : ∃ W, w17.alloc (.cells #[.int .i64 0, .int .u64 v, .slice rq 0 rc] 66) = W := ⟨_, rfl⟩
    have k18 : Keeps [] w17 w18 := by rw [← hW18]; exact (Keeps.refl _ _).alloc _
    have HR8 := Lib.hid (show Row w18 z 66 [.int .i64 0, .int .u64 v, .slice rq 0 rc] by rw [← hW18, ← hz]; exact Row.new _ _ _)
    have HL8 := Lib.hid (HL7.out.keeps k18)
    have HH8 := Lib.hid (HH7.out.trans (k18.held HL7.out.dom (by simp)))
    clear k18
    obtain ⟨b0, b1, b2, dd0, dd1, dd2⟩ := HBxr.out w18 HH8.out
    have hM8 := HL8.out.mem
    rw [HN4.out.2.1] at hM8
    obtain ⟨hal, hln, hkk, hrr⟩ := HN4.out.2.2.2.2.2.all
    have HA := lcAll_any kind 0 (N : Int) m M4.b M4.us w18 hM8 ⟨hkk, hrr⟩ (by simp; omega)
    rw [show ((0 : Nat) : Int) = 0 from rfl, hal] at HA
    have HA := Lib.hid HA
    clear hM8 hal hln hkk hrr
    go_wp2_with fail
    refine HA.out.mono ?_
    rintro e w19 ⟨k19, ht⟩
    obtain ⟨lv, rfl, hown⟩ := ht.2 xs' rfl
    obtain ⟨lq, lc, rfl⟩ := (Sl.of_owns hown).len
    have HL9 := Lib.hid (HL8.out.keeps k19)
    have HH9 := Lib.hid (HH8.out.trans (k19.held HL8.out.dom (by simp)))
    have r19 := HR8.out.keeps k19 (by simp)
    have e0 : w19.cell? ⟨z, 0, none⟩ = some (.int .i64 0) := r19.cell (j := 0) rfl
    have e1 : w19.cell? ⟨z, 1, none⟩ = some (.int .u64 v) := r19.cell (j := 1) rfl
    have hvv : (v = 1 ∧ 0 < xs'.length) ∨ (v = 0 ∧ xs'.length = 0) := by
      rw [← hv]
      by_cases h : 0 < xs'.length
      · exact .inl ⟨by simp [lkV, h], h⟩
      · exact .inr ⟨by simp [lkV, h], by omega⟩
    obtain ⟨bb, hb1, hb2, hb3⟩ : ∃ bb, (v == 1) = bb ∧ decide ((0 : Int) < (xs'.length : Int)) = bb ∧ decide ((1 : Int) < v) = false := by
      rcases hvv with ⟨rfl, h⟩ | ⟨rfl, h⟩
      · exact ⟨true, by decide, decide_eq_true (by omega), by decide⟩
      · exact ⟨false, by decide, decide_eq_false (by omega), by decide⟩
    have hb5 : decide (0 < xs'.length) = bb := by rw [← hb2]; exact decide_eq_decide.2 ⟨fun h => by omega, fun h => by omega⟩
    have hb4 : (bb != bb) = false := by simp
    have HF : Hid (∃ (L : LSt) (o : Option Strand) (xs : List Int), Loom E w19 L ∧ L.l = l ∧ L.mm = m ∧ L.ts[0]? = some o ∧ busy o = false ∧ L.steps ≤ 60 * (k + 1) ∧ LpHas kind N L.us xs) := Lib.hid ⟨M4, o4, xs', HL9.out, HN4.out⟩
    have HHF : Hid (Held E W7 w19) := Lib.hid (HHr.out.trans HH9.out)
    clear k19 ht hown r19 hvv hv hz b0 b1 b2 dd0 dd1 dd2
    go_wp2
    go_roundw
    case rel => exact ⟨k + 1, by omega, by go_num, HHF.out, HF.out⟩
    case measure => first | (simp [intOf]; done) | (simp [intOf]; omega)

set_option maxRecDepth 100000 in
theorem lifted (os : Os) (started : os.Started) (H : Type) (enc : TypeId × Value → H) :
    ReturnsInHanded {} Tryz.checked os 5 .any (Rows.localPeeksSpec.pre6 enc Tryz.prog Tryz.f5 Rows.localPeeksRow.domain false) (Rows.localPeeksSpec.post enc Tryz.prog Tryz.f5 false true false false) := by
  refine returnsInHanded_of_change (C := Tryz.checked) own started (by kernel_rfl) Tryz.func5
    (ChangeSpec.witness6 (enc := enc) (C := Tryz.checked) false ⟨#[], #[.int .i64 0, .int .i64 0, .slice none 0 0], []⟩ 8 (by kernel_rfl) (by kernel_rfl) (by kernel_rfl) (by kernel_rfl)) ?_
  intro W base args ds gs before hval0 hW hcnd _
  have hval : ∀ (j : Nat) t v, Tryz.f5.params[j]? = some t → args[j]? = some v → Value.okWide Tryz.prog W .any base t v := hval0
  have hW' := hW
  obtain ⟨p, q, hA0, hV, rfl, hfz, hnd⟩ := hW
  have hA : DataW.TrodAll enc Tryz.prog W 0 (fun _ => true) true Tryz.f5.params.toList args.toList ds p := hA0
  rw [Tryz.params5] at hA hval
  obtain ⟨v0, vs0, d0, ds0, q0, qs0, hargs, rfl, rfl, h0, r0⟩ := trodAll_cons hA
  obtain ⟨v1, vs1, d1, ds1, q1, qs1, rfl, rfl, rfl, h1, r1⟩ := trodAll_cons r0
  obtain ⟨v2, vs2, d2, ds2, q2, qs2, rfl, rfl, rfl, h2, r2⟩ := trodAll_cons r1
  obtain ⟨rfl, rfl, rfl⟩ := trodAll_nil r2
  obtain rfl : args = #[v0, v1, v2] := by cases args; simp_all
  obtain ⟨rfl, rfl⟩ := trodVars_none hV
  obtain ⟨a0, rfl, rfl, rfl, w0⟩ := open_int Tryz.underlying3 (hval 0 3 v0 rfl rfl) h0
  obtain ⟨a1, rfl, rfl, rfl, w1⟩ := open_int Tryz.underlying3 (hval 1 3 v1 rfl rfl) h1
  obtain ⟨p2, n2, c2, rfl⟩ := okWide_slice Tryz.underlying58 (hval 2 58 v2 rfl rfl)
  have k2 := h2
  have lt2 : ∀ x ∈ q2, x.block < W.heap.size := by obtain ⟨m, hm⟩ := k2; exact DataW.trod_lt m _ _ _ hm
  obtain ⟨z2, s2, m2, b2⟩ := (by obtain ⟨fu, hf⟩ := h2; exact sl_ints Tryz.underlying58 Tryz.underlying5 (by kernel_rfl) hf : ∃ zs : List Int, Sl W 1 (.slice p2 n2 c2) n2 (ints .u8 zs) ∧ n2 ≤ maxLen ∧ ∀ z ∈ zs, (Lit.int .u8 z).wf = true)
  have cc2 : n2 ≤ c2 ∧ c2 ≤ maxLen := by obtain ⟨fu, hf⟩ := h2; exact sl_caps Tryz.underlying58 Tryz.underlying5 (by kernel_rfl) hf
  clear hA0 hval0
  simp only [List.append_nil] at hW'
  refine (walk a0 a1 p2 n2 c2 z2 W w0 w1 s2 m2 b2 cc2).mono fun e W' ⟨he, bel⟩ => ?_
  subst he
  exact ⟨_, rfl, _, _, _, [], _, [], hW', trodAll_mk1 (shut_bool Tryz.underlying4 _), (trodAll_cons_mk (shut_int Tryz.underlying3 w0) (trodAll_cons_mk (shut_int Tryz.underlying3 w1) (trodAll_cons_mk (Below.trod laidOut (by kernel_rfl) (of_decide_eq_true (by kernel_rfl)) k2 bel lt2) trodAll_mk0))), rfl, bel.frame _, fun h => by cases h⟩

theorem proved : Rows.LocalPeeksSaid :=
  OpenClaim.holds_of_wide 5 Tryz.f5 rfl rfl rfl rfl rfl rfl rfl ⟨rfl, rfl, rfl, rfl, rfl⟩ rfl rfl rfl rfl rfl (by kernel_rfl) Tryz.func5 (by kernel_rfl)
    (of_decide_eq_true (by kernel_rfl)) (by unfold Func.isWrapper; first | (rw [if_pos (by decide +kernel)]; kernel_rfl) | (rw [if_neg (by decide +kernel)]; exact ⟨rfl, rfl⟩))
    (fun os started H enc _ => lifted os started H enc)
#print axioms proved
end Go.Proofs.YtjfgpplnlepnoaaGreat.localPeeks
