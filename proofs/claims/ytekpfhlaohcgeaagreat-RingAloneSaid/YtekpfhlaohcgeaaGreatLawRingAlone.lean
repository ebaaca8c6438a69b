/-
  The law RingAlone of the statements holds for every input: the call returns true, and the arguments read as before.
-/
import Derived.Test.YtekpfhlaohcgeaaGreatRgA
import Derived.Test.YtekpfhlaohcgeaaGreatRgB
import Derived.Test.YtekpfhlaohcgeaaGreatRgD
import Derived.Test.YtekpfhlaohcgeaaGreatRgE
import Derived.Test.YtekpfhlaohcgeaaGreatRef8a
import Derived.Test.YtekpfhlaohcgeaaGreatOpenD
import Derived.Test.YtekpfhlaohcgeaaGreatAt
import Derived.Test.YtekpfhlaohcgeaaGreatLook
import Derived.Test.YtekpfhlaohcgeaaGreatOpen
import Derived.Test.YtekpfhlaohcgeaaGreatAcc
import Derived.Test.YtekpfhlaohcgeaaGreatMem3
import Derived.Test.YtekpfhlaohcgeaaGreatWord
import Derived.IntWalk
import Derived.Deep.CutRange
import Derived.Deep.CutBlock
import Derived.Deep.RegionLaw
import Derived.Test.YtekpfhlaohcgeaaGreatRows
import Derived.WalkKit
import Derived.ProofKit
import Derived.OpenShut
import Derived.ShutString
import Derived.ChangeOld
import Derived.Below
import Derived.Test.YtekpfhlaohcgeaaGreatOpen
namespace Go.Proofs.YtekpfhlaohcgeaaGreat.ringAlone
open Go.ChangeShapes Go.WideShapes Go.ChangeAt Go.RowKit
open Go.ChangeMaps (open_string shut_string)
set_option linter.unusedVariables false
set_option linter.unusedSimpArgs false

theorem own : ownKnob Tryz.prog.godebug = none := by kernel_rfl
theorem laidOut : laidOutB Tryz.prog = true := by kernel_rfl

/-- A list of words, as an own list of the law's. -/
theorem wds_tail (x : Int) (xs : List Int) : ints .u64 (x :: xs) = .int .u64 x :: ints .u64 xs := rfl
theorem wds_snoc (xs : List Int) (x : Int) : ints .u64 (xs ++ [x]) = ints .u64 xs ++ [.int .u64 x] := by simp [ints]
theorem wds_len (xs : List Int) : (ints .u64 xs).length = xs.length := by simp [ints]

set_option maxHeartbeats 25600000 in
set_option maxRecDepth 200000 in
theorem walk (size from_ : Int) (pp : Option Addr) (q cp : Nat) (ys : List Int) (w : World) (hws : (Lit.int .i64 size).wf = true) (hwf : (Lit.int .u32 from_).wf = true) (hp : Sl w 1 (.slice pp q cp) q (ints .u8 ys)) (hq : q ≤ maxLen) (hy : ∀ y ∈ ys, (Lit.int .u8 y).wf = true) :
    Calls Tryz.prog 6 #[.int .i64 size, .int .u32 from_, .slice pp q cp] w fun e w' => e = .returned (.bool true) ∧ Below w.heap.size w w' := by
  obtain ⟨B, hB⟩ : ∃ B, w.heap.size = B := ⟨_, rfl⟩
  rw [hB]
  have HY : Hid (∀ y ∈ ys, 0 ≤ y ∧ y < 256) := Lib.hid fun y h => by
    have := bounds_u8 (hy y h)
    omega
  have HF : Hid (0 ≤ from_ ∧ from_ < 4294967296) := Lib.hid (by have := bounds_u32 hwf; omega)
  have HSP := Lib.hid hp
  have HLP := Lib.hid hp.ints_len
  unfold maxLen at hq
  clear hp hy hws hwf
  go_enter Tryz.func6, Tryz.ntmps6
  go_wp2_with fail
  refine (awake8 w).mono ?_
  rintro e w1 ⟨rfl, b1⟩
  rw [hB] at b1
  have HB1 := Lib.hid b1
  clear b1
  by_cases hr : dqRight 0 size
  case neg =>
    have HR := Lib.hid (fun W => rRight8_any 0 size W)
    rw [decide_eq_false hr] at HR
    clear hr
    go_wp2_with fail
    refine (HR.out w1).mono ?_
    rintro e w2 ⟨rfl, rfl⟩
    go_wp2
    go_ret
    exact ⟨rfl, HB1.out⟩
  obtain ⟨N, rfl⟩ : ∃ N : Nat, size = (N : Int) := ⟨size.toNat, by have := hr.1; omega⟩
  have HR := Lib.hid (fun W => rRight8_any 0 N W)
  rw [decide_eq_true hr] at HR
  have hsz := rgSz (a := 0) hr
  by_cases h2 : 32 < N
  · have d2 : decide ((32 : Int) < N) = true := decide_eq_true (by omega)
    go_wp2_with fail
    refine (HR.out w1).mono ?_
    rintro e w2 ⟨rfl, rfl⟩
    go_wp2
    go_ret
    exact ⟨rfl, HB1.out⟩
  have d2 : decide ((32 : Int) < N) = false := decide_eq_false (by omega)
  by_cases h5 : 100 < q
  · have d5 : decide ((100 : Int) < q) = true := decide_eq_true (by omega)
    go_wp2_with fail
    refine (HR.out w1).mono ?_
    rintro e w2 ⟨rfl, rfl⟩
    go_wp2
    go_ret
    exact ⟨rfl, HB1.out⟩
  have d5 : decide ((100 : Int) < q) = false := decide_eq_false (by omega)
  have hra : dqRight ((0 : Nat) : Int) N := hr
  have hrb : dqRight ((N + 2 : Nat) : Int) N := ⟨hr.1, by omega, by omega⟩
  have HRr := Lib.hid (⟨hra, hrb⟩ : _ ∧ _)
  have hN2 : 2 ≤ N ∧ N ≤ 32 := by omega
  clear hsz hr hra hrb
  go_wp2_with fail
  refine (HR.out w1).mono ?_
  rintro e w2 ⟨rfl, rfl⟩
  have s1 := HB1.out.size
  go_wp2_with fail
  generalize hW : World.alloc _ _ = W2
  have k2 : Keeps [] w1 W2 := by rw [← hW]; exact ((Keeps.refl _ _).alloc _).alloc _
  have bx : Box W2 w1.heap.size #[.int .i64 0, .int .i64 (N : Int)] := by rw [← hW]; exact (Box.new _ _ _).alloc _
  have by2 : Box W2 (w1.heap.size + 1) #[.int .i64 ((N : Int) + 2), .int .i64 (N : Int)] := by rw [← hW]; have := Box.new (w1.alloc (.cells #[.int .i64 0, .int .i64 (N : Int)] 23)) #[.int .i64 ((N : Int) + 2), .int .i64 (N : Int)] 23; simpa using this
  obtain ⟨ab, hab⟩ : ∃ ab, w1.heap.size = ab := ⟨_, rfl⟩
  rw [hab] at bx by2 ⊢
  have HBx2 := Lib.hid (⟨bx, by2⟩ : _ ∧ _)
  have HB2 := Lib.hid (HB1.out.trans (k2.below (by omega) (by simp)))
  have hablt := by2.lt
  have s2 := HB2.out.size
  clear hW bx by2 k2 HB1
  have NA := new_any (2 * N + 4) W2 (by omega) (by omega)
  rw [show ((2 * N + 4 : Nat) : Int) = 2 * (N : Int) + 4 by omega] at NA
  refine NA.mono ?_
  clear NA
  rintro e w3 ⟨m, b, rfl, hM, k3, hm, hb⟩
  have HM3 := Lib.hid hM
  have HB3 := Lib.hid (HB2.out.trans (k3.below (by omega) (by simp)))
  have HBx3 := Lib.hid (⟨HBx2.out.1.keeps k3 (by simp), HBx2.out.2.keeps k3 (by simp)⟩ : _ ∧ _)
  have s3 := HB3.out.size
  have hmlt := hM.lt
  clear hM k3 HB2 HBx2
  have HPr := Lib.hid (fun W => refPair_any from_ from_ W HF.out.1 HF.out.2 HF.out.1 HF.out.2)
  go_wp2_with fail
  obtain ⟨hd, hhd⟩ : ∃ hd, rgPair from_ from_ = hd := ⟨_, rfl⟩
  have hhU : M.U hd := hhd ▸ rgPair_U HF.out HF.out
  have hfU : M.U from_ := ⟨HF.out.1, by have := HF.out.2; omega⟩
  have hwc : IntKind.u64.wrap from_ = from_ := by show from_ % 18446744073709551616 = _; have := HF.out; omega
  refine (HPr.out w3).mono ?_
  rintro e w' ⟨rfl, rfl⟩
  rw [show from_ * 4294967296 + from_ = hd from hhd]
  go_wp2_with fail
  obtain ⟨W4, hW4⟩ : ∃ W4, w3.alloc (.cells #[.int .u64 hd, .int .u64 from_] 24) = W4 := ⟨_, rfl⟩
  have k4 : Keeps [] w3 W4 := by rw [← hW4]; exact (Keeps.refl _ _).alloc _
  have r4 : Sl W4 1 (.slice (some ⟨w3.heap.size, 0, none⟩) 2 2) 2 (ints .u64 [hd, from_]) := by rw [← hW4]; exact (Row.new w3 #[.int .u64 hd, .int .u64 from_] 24).sl (n := 2) (cap := 2) rfl
  have HFl := Lib.hid (fill_any m b (List.replicate (2 * N + 4) 0) [hd, from_] _ 2 W4 (HM3.out.keeps k4 (by simp) (by simp)) r4 (fun u hu => by simp at hu; rcases hu with rfl | rfl; exact hhU; exact hfU) (by unfold maxLen; omega))
  have HB4 := Lib.hid (HB3.out.trans (k4.below (by omega) (by simp)))
  have HBx4 := Lib.hid (⟨HBx3.out.1.keeps k4 (by simp), HBx3.out.2.keeps k4 (by simp)⟩ : _ ∧ _)
  have s4 := HB4.out.size
  have hab4 := HBx4.out.2.lt
  have hm34 := k4.size
  rw [hW4]
  clear k4 r4 hW4 HB3 HBx3
  refine HFl.out.mono ?_
  rintro e w5 ⟨rfl, hM5, k5⟩
  obtain ⟨us, hus⟩ : ∃ us, C.fill (List.replicate (2 * N + 4) 0) [hd, from_] = us := ⟨_, rfl⟩
  have hus2 : us = hd :: from_ :: List.replicate (2 * N + 2) 0 := by rw [← hus]; unfold C.fill; simp [List.replicate_succ] <;> omega
  rw [hus] at hM5
  have HQ5 : Hid (RgTwo N us [] []) := Lib.hid (by
    have hg : ∀ j, 2 ≤ j → us.getD j 0 = 0 := fun j hj => by
      rw [hus2]
      obtain ⟨i, rfl⟩ : ∃ i, j = i + 2 := ⟨j - 2, by omega⟩
      simp [List.getD, List.getElem?_replicate]
      split <;> rfl
    refine ⟨by rw [hus2]; simp <;> omega, from_, 0, .new HRr.out.1 (by rw [hus2]; simp <;> omega) HF.out (by rw [hus2, hhd]; rfl) (by rw [hus2]; rfl), .new HRr.out.2 (by rw [hus2]; simp <;> omega) (by omega) ?_ ?_⟩
    · rw [hg _ (by omega)]; rfl
    · rw [hg _ (by omega)])
  have HM5 := Lib.hid hM5
  have hbab : b ≠ ab ∧ b ≠ ab + 1 := by omega
  have HBx5 := Lib.hid (⟨HBx4.out.1.keeps k5 (by simp; exact Ne.symm hbab.1), HBx4.out.2.keeps k5 (by simp; exact Ne.symm hbab.2)⟩ : _ ∧ _)
  have HB5 := Lib.hid (HB4.out.trans (k5.below (by omega) (by simp; omega)))
  have s5 := HB5.out.size
  have hab5 := HBx5.out.2.lt
  have hml5 := hM5.lt
  clear hM5 k5 hus hus2 HB4 HBx4 HM3 hhd hhU hfU hwc HPr
  -- the blocks that nobody writes
  obtain ⟨E, hE⟩ : ∃ E : Nat → Prop, (fun x => x < B ∨ x = ab ∨ x = ab + 1) = E := ⟨_, rfl⟩
  have HE : Hid ((∀ k, k < B → E k) ∧ E ab ∧ E (ab + 1) ∧ ∀ k, E k → k < B ∨ k = ab ∨ k = ab + 1) := Lib.hid (by rw [← hE]; exact ⟨fun k hk => .inl hk, .inr (.inl rfl), .inr (.inr rfl), fun k hk => hk⟩)
  clear hE
  have LN := loomNew_any E 1 m b us w5 HM5.out (by omega) (by omega) (fun k hk => by rcases HE.out.2.2.2 k hk with h | h | h <;> omega) (fun hk => by rcases HE.out.2.2.2 b hk with h | h | h <;> omega)
  have HLN := Lib.hid LN
  clear LN
  go_wp2_with fail
  refine HLN.out.mono ?_
  rintro e w6 ⟨l, gl, rfl, hL6, k6⟩
  have HL6 := Lib.hid hL6
  have HBx6 := Lib.hid (⟨HBx5.out.1.keeps k6 (by simp), HBx5.out.2.keeps k6 (by simp)⟩ : _ ∧ _)
  have HB6 := Lib.hid (HB5.out.trans (k6.below (by omega) (by simp)))
  have s6 := HB6.out.size
  have s56 := k6.size
  clear hL6 k6 HBx5 HB5 HM5 HLN HFl
  obtain ⟨W7, hW7⟩ : ∃ W7, (w6.alloc (.cells #[] 24)).alloc (.cells #[] 24) = W7 := ⟨_, rfl⟩
  have k7 : Keeps [] w6 W7 := by rw [← hW7]; exact ((Keeps.refl _ _).alloc _).alloc _
  obtain ⟨P, hP⟩ : ∃ P, w6.heap.size = P := ⟨_, rfl⟩
  have i7 : InAt W7 P 0 0 24 (ints .u64 []) := by rw [← hW7, ← hP]; exact (InAt.empty w6 24).keeps ((Keeps.refl [] _).alloc _) (by simp)
  have j7 : InAt W7 (P + 1) 0 0 24 (ints .u64 []) := by rw [← hW7, ← hP]; have := InAt.empty (w6.alloc (.cells #[] 24)) 24; simpa [ints] using this
  have hPP : (¬ E P ∧ P ≠ m) ∧ (¬ E (P + 1) ∧ P + 1 ≠ m) ∧ P + 1 < W7.heap.size := ⟨⟨fun h => by rcases HE.out.2.2.2 P h with h | h | h <;> omega, by omega⟩, ⟨fun h => by rcases HE.out.2.2.2 (P + 1) h with h | h | h <;> omega, by omega⟩, j7.lt⟩
  have HL7 : Hid (Loom (fun x => E x ∨ x = P ∨ x = P + 1) W7 ⟨l, gl, m, b, us, List.replicate 1 none, 0⟩) := Lib.hid (HL6.out.widen k7 (fun k hk => by
    rcases hk with hk | hk
    · exact .inl hk
    · exact .inr ⟨by omega, by have := hPP.2.2; omega⟩))
  have HI7 := Lib.hid (⟨i7, j7⟩ : _ ∧ _)
  have HP7 := Lib.hid hPP
  have HBx7 := Lib.hid (⟨HBx6.out.1.keeps k7 (by simp), HBx6.out.2.keeps k7 (by simp)⟩ : _ ∧ _)
  have HB7 := Lib.hid (HB6.out.trans (k7.below (by omega) (by simp)))
  clear k7 i7 j7 hPP HL6 HBx6 HB6
  go_wp2
  go_loopw [13, 14, 15] (fun v v2 i wr => ∃ k : Nat, k ≤ q ∧ i = .int .i64 (k : Int) ∧ ∃ (L : LSt) (o : Option Strand) (xs ts : List Int) (g off cap h off2 cap2 : Nat), v = .slice (some ⟨g, off, none⟩) xs.length cap ∧ v2 = .slice (some ⟨h, off2, none⟩) ts.length cap2 ∧ ((¬ E g ∧ g ≠ m) ∧ (¬ E h ∧ h ≠ m) ∧ g ≠ h) ∧
    InAt wr g off cap 24 (ints .u64 xs) ∧ InAt wr h off2 cap2 24 (ints .u64 ts) ∧ Held E W7 wr ∧
    Loom (fun x => E x ∨ x = g ∨ x = h) wr L ∧ L.l = l ∧ L.mm = m ∧ L.ts[0]? = some o ∧ busy o = false ∧ L.steps ≤ 42 * k ∧ RgTwo N L.us xs ts) (fun _ _ i _ => q - (intOf i).toNat)
  case atStart => exact ⟨0, Nat.zero_le _, rfl, _, none, [], [], P, 0, 0, P + 1, 0, 0, rfl, rfl, ⟨HP7.out.1, HP7.out.2.1, by omega⟩, HI7.out.1, HI7.out.2, Held.refl _ _, HL7.out, rfl, rfl, rfl, rfl, Nat.le_refl _, HQ5.out⟩
  case round =>
    obtain ⟨k, hk, rfl, L, o, xs, ts, g, off, cap, h, off2, cap2, rfl, rfl, hgE, hin, hto, hh, hL, hLl, hLm, ho, hbo, hst, hQ⟩ := hrel
    obtain ⟨hgE, hhE, hgh⟩ := hgE
    have hcap := hin.few
    have hfit := hin.fits
    have hcap2 := hto.few
    have hfit2 := hto.fits
    rw [wds_len] at hfit hfit2
    unfold maxLen at hcap hcap2
    have HG := Lib.hid (⟨hgE, hhE, hgh⟩ : _ ∧ _ ∧ _)
    have HQ := Lib.hid hQ
    have HIn := Lib.hid hin
    have HTo := Lib.hid hto
    have HHr := Lib.hid hh
    have HL := Lib.hid hL
    have HBxr : Hid (∀ W, Held E wr W → W.cell? ⟨ab, 0, none⟩ = some (.int .i64 0) ∧ W.cell? ⟨ab, 1, none⟩ = some (.int .i64 (N : Int)) ∧ W.cell? ⟨ab + 1, 0, none⟩ = some (.int .i64 ((N : Int) + 2)) ∧ W.cell? ⟨ab + 1, 1, none⟩ = some (.int .i64 (N : Int))) := Lib.hid fun W hW => by
      have hW := HHr.out.trans hW
      have h1 := HBx7.out.1.block hW.size (hW.block ab HE.out.2.1)
      have h2 := HBx7.out.2.block hW.size (hW.block (ab + 1) HE.out.2.2.1)
      exact ⟨h1.cells 0, h1.cells 1, h2.cells 0, h2.cells 1⟩
    have HSlr : Hid (∀ W, Held E wr W → Sl W 1 (.slice pp q cp) q (ints .u8 ys)) := Lib.hid fun W hW => HSP.out.below (HB7.out.trans (Held.below ((HHr.out.trans hW).narrow (E := (· < B)) (fun k hk => HE.out.1 k hk)))) (by omega)
    have HEd : Hid (∀ x, E x → x < wr.heap.size) := Lib.hid fun x hx => HL.out.dom x (.inl hx)
    clear hgE hhE hgh hin hto hh hL hQ
    by_cases hlt : k < q
    case neg =>
      obtain rfl : k = q := by omega
      go_wp2
      go_ret
      exact ⟨rfl, HB7.out.trans (Held.below (HHr.out.narrow (E := (· < B)) (fun k hk => HE.out.1 k hk)))⟩
    have hsl := HSlr.out wr (Held.refl _ _)
    obtain ⟨pb, po, pc, he, hpb, hpc⟩ := hsl.some (by omega)
    cases he
    have hkz : k < ys.length := by rw [HLP.out]; exact hlt
    have ay := hpc k _ (ints_at (k := .u8) hkz)
    have hyb := HY.out (ys.getD k 0) (by rw [List.getD, List.getElem?_eq_getElem hkz]; exact List.getElem_mem hkz)
    obtain ⟨y, hyk⟩ : ∃ y, ys.getD k 0 = y := ⟨_, rfl⟩
    rw [hyk] at ay hyb
    obtain ⟨yn, rfl⟩ : ∃ yn : Nat, y = (yn : Int) := ⟨y.toNat, by omega⟩
    have HAy : Hid (∀ W, Held E wr W → W.cell? ⟨pb, po + k, none⟩ = some (.int .u8 (yn : Int))) := Lib.hid fun W hW => by
      obtain ⟨yb, yo, yc, hye, -, hyc⟩ := (HSlr.out W hW).some (by omega)
      cases hye
      have h1 := hyc k _ (ints_at (k := .u8) hkz)
      rwa [hyk] at h1
    have hwv : IntKind.u64.wrap ((yn : Int) * 5) = (yn : Int) * 5 := by show ((yn : Int) * 5) % 18446744073709551616 = _; omega
    have hwy : IntKind.u64.wrap (yn : Int) = (yn : Int) := by show (yn : Int) % 18446744073709551616 = _; omega
    have hvU : M.U ((yn : Int) * 5) := ⟨by omega, by omega⟩
    obtain ⟨v, hv⟩ : ∃ v, (yn : Int) * 5 = v := ⟨_, rfl⟩
    rw [hv] at hwv hvU
    have HV := Lib.hid (⟨hvU, hv⟩ : _ ∧ _)
    clear hpc hsl hvU
    have b0 := (HBxr.out wr (Held.refl _ _)).1
    have b1 := (HBxr.out wr (Held.refl _ _)).2.1
    have b2 := (HBxr.out wr (Held.refl _ _)).2.2.1
    have b3 := (HBxr.out wr (Held.refl _ _)).2.2.2
    go_upto_region 17 with (fail)
    go_cut [17] from 71 to 223 (fun sv w' => ∃ bl : Nat, sv = .slice (some ⟨bl, 0, none⟩) 5 5 ∧ Keeps [] wr w' ∧ ∀ j : Nat, j < 5 → ∃ mm : Nat, w'.cell? ⟨bl, j, none⟩ = some (.pointer (some ⟨mm, 0, none⟩)) ∧ RaWalk wr w' mm v N j)
    case first =>
      -- << made
        have hk0 : Keeps [] wr wr := Keeps.refl _ _
        have HS : Hid (∀ W, Keeps [] wr W → W.cell? ⟨ab, 0, none⟩ = some (.int .i64 0) ∧ W.cell? ⟨ab, 1, none⟩ = some (.int .i64 (N : Int)) ∧ W.cell? ⟨ab + 1, 0, none⟩ = some (.int .i64 ((N : Int) + 2)) ∧ W.cell? ⟨ab + 1, 1, none⟩ = some (.int .i64 (N : Int))) := Lib.hid fun W hk => HBxr.out W (hk.held HEd.out (by simp))
        have hlo : (-9223372036854775808 : Int) ≤ N := by omega
        go_region_held3 (fun w' => w'.cell? ⟨ab, 0, none⟩ = some (.int .i64 0) ∧ w'.cell? ⟨ab, 1, none⟩ = some (.int .i64 (N : Int)) ∧ w'.cell? ⟨ab + 1, 0, none⟩ = some (.int .i64 ((N : Int) + 2)) ∧ w'.cell? ⟨ab + 1, 1, none⟩ = some (.int .i64 (N : Int)))
          (first
            | exact HS.out _ (hk5.alloc _)
            | exact HS.out _ hk5
            | exact HS.out _ hk4
            | exact HS.out _ hk3
            | exact HS.out _ hk2
            | exact HS.out _ hk1
            | exact HS.out _ hk0.drew
            | fail)
          (first
            | (have _ := H4; go_at_call 14; refine (rgPop_made ((N : Int) + 2) N _ hlo).mono ?_; rintro e w5 ⟨m5, S5, rfl, i5, k5, s5⟩; have hk5 : Keeps [] wr w5 := hk4.trans k5; have H5 := Lib.hid (RaWalk.other (v := v) HRr.out.2 i5 (fun x hx => Nat.le_trans hk4.size (s5 x hx))); have HK5 := Lib.hid k5; clear i5 k5 s5)
            | (have _ := H3; go_at_call 15; refine (rgSteal_made 0 N ((N : Int) + 2) N _ hlo hlo).mono ?_; rintro e w4 ⟨m4, S4, rfl, i4, k4, s4⟩; have hk4 : Keeps [] wr w4 := hk3.trans k4; have H4 := Lib.hid (RaWalk.steal (v := v) HRr.out.1 HRr.out.2 i4 (fun x hx => Nat.le_trans hk3.size (s4 x hx))); have HK4 := Lib.hid k4; clear i4 k4 s4)
            | (have _ := H2; go_at_call 14; refine (rgPop_made 0 N _ hlo).mono ?_; rintro e w3 ⟨m3, S3, rfl, i3, k3, s3⟩; have hk3 : Keeps [] wr w3 := hk2.trans k3; have H3 := Lib.hid (RaWalk.pop (v := v) HRr.out.1 i3 (fun x hx => Nat.le_trans hk2.size (s3 x hx))); have HK3 := Lib.hid k3; clear i3 k3 s3)
            | (have _ := H1; go_at_call 11; refine (rgPush_made 0 N v _ hlo HV.out.1).mono ?_; rintro e w2 ⟨m2, S2, rfl, i2, k2, s2⟩; have hk2 : Keeps [] wr w2 := hk1.trans k2; have H2 := Lib.hid (RaWalk.push (k := 1) (by omega) HRr.out.1 i2 (fun x hx => Nat.le_trans hk1.size (s2 x hx))); have HK2 := Lib.hid k2; clear i2 k2 s2)
            | (go_at_call 11; refine (rgPush_made 0 N v _ hlo HV.out.1).mono ?_; rintro e w1 ⟨m1, S1, rfl, i1, k1, s1⟩; have hk1 : Keeps [] wr w1 := k1.undrew; have H1 := Lib.hid (RaWalk.push (w0 := wr) (k := 0) (by omega) HRr.out.1 i1 s1); clear i1 k1 s1)
            | fail)
        all_goals (obtain ⟨W6, hW6⟩ : ∃ W6, w5.alloc (.cells #[.pointer (some ⟨m1, 0, none⟩), .pointer (some ⟨m2, 0, none⟩), .pointer (some ⟨m3, 0, none⟩), .pointer (some ⟨m4, 0, none⟩), .pointer (some ⟨m5, 0, none⟩)] 29) = W6 := ⟨_, rfl⟩)
        all_goals (have r6 : Row W6 w5.heap.size 29 [.pointer (some ⟨m1, 0, none⟩), .pointer (some ⟨m2, 0, none⟩), .pointer (some ⟨m3, 0, none⟩), .pointer (some ⟨m4, 0, none⟩), .pointer (some ⟨m5, 0, none⟩)] := by rw [← hW6]; exact Row.new _ _ _)
        all_goals (have k6 : Keeps [] w5 W6 := by rw [← hW6]; exact (Keeps.refl _ _).alloc _)
        all_goals (have HM : Hid (_ ∧ _ ∧ _) := Lib.hid ⟨r6, hk5.trans k6, k6⟩)
        all_goals rw [hW6]
        all_goals clear hW6 r6 k6 hk1 hk2 hk3 hk4 hk5
        all_goals go_wp2
        all_goals go_meet
        all_goals (obtain ⟨r6, k6, k56⟩ := HM.out)
        all_goals refine ⟨_, rfl, k6, fun j hj => ?_⟩
        all_goals rcases (show j = 0 ∨ j = 1 ∨ j = 2 ∨ j = 3 ∨ j = 4 by omega) with rfl | rfl | rfl | rfl | rfl
        all_goals first
          | exact ⟨m1, r6.cell (j := 0) rfl, ((((H1.out.keeps HK2.out).keeps HK3.out).keeps HK4.out).keeps HK5.out).keeps k56⟩
          | exact ⟨m2, r6.cell (j := 1) rfl, (((H2.out.keeps HK3.out).keeps HK4.out).keeps HK5.out).keeps k56⟩
          | exact ⟨m3, r6.cell (j := 2) rfl, ((H3.out.keeps HK4.out).keeps HK5.out).keeps k56⟩
          | exact ⟨m4, r6.cell (j := 3) rfl, (H4.out.keeps HK5.out).keeps k56⟩
          | exact ⟨m5, r6.cell (j := 4) rfl, H5.out.keeps k56⟩
      -- >> made
    obtain ⟨bl, rfl, kw, hmk⟩ := hcut
    obtain ⟨kn, hkn⟩ : ∃ kn, yn % 5 = kn := ⟨_, rfl⟩
    have hk5 : kn < 5 := by omega
    have hkd : (yn : Int).tmod 5 = (kn : Int) := by rw [← hkn]; rfl
    obtain ⟨mm, cm, S, hI, hS⟩ := hmk kn hk5
    obtain ⟨n, us', s', c, u, lr, xs', ts', n0, n1, hsolo, hover, hQ', hdeed⟩ := HQ.out.deed kn hk5 v HV.out.1
    obtain ⟨L1, M, o', hM, hSt, hAl⟩ := hsolo.begunM (I := LoneIO ringM (rgE mm) mm) (m := mm) (R := rgRuns mm) (fun x => E x ∨ x = g ∨ x = h) 0 200 ⟨c, u, lr⟩ o S wr wc HL.out kw ho hbo hI hS n0 (by omega) (by omega) (by omega) hover
    rw [hLl] at hSt hAl
    have HSt := Lib.hid hSt
    have HAl := Lib.hid hAl
    have HNew : Hid (M.l = l ∧ M.mm = m ∧ M.ts[0]? = some o' ∧ busy o' = false ∧ M.steps ≤ 42 * (k + 1) ∧ RgTwo N M.us xs' ts') := Lib.hid
      ⟨hM.1.trans hLl, hM.2.1.trans hLm, hM.2.2.2.2.1, hM.2.2.2.2.2.1, by have := hM.2.2.2.1; omega, by rw [hM.2.2.1]; exact hQ'⟩
    have HRes : Hid (o'.bind Strand.res = some ⟨c, u, lr⟩) := Lib.hid hM.2.2.2.2.2.2
    have HDeed := Lib.hid hdeed
    have hkw := kw.held HEd.out (by simp)
    have ayc := HAy.out wc hkw
    have ibl : (kn : Int) < 5 := by omega
    clear n0 n1 hsolo hover hQ' hM hSt hAl hI hS hmk hdeed kw hkw b0 b1 b2 b3 ay hkn
    go_wp2_with fail
    refine HSt.out.mono ?_
    rintro e w12 ⟨rfl, hL2, hh2⟩
    have HL2 := Lib.hid hL2
    have HH2 := Lib.hid hh2
    clear hL2 hh2 cm ayc
    go_wp2_with fail
    refine (HAl.out w12 HL2.out).mono ?_
    rintro e w13 ⟨rfl, hL3, hh3⟩
    have HL3 := Lib.hid hL3
    have HH3 := Lib.hid (HH2.out.trans hh3)
    clear hL3 hh3
    have HR3 := loomResult_at _ M 0 o' w13 HL3.out HNew.out.2.2.1
    rw [HRes.out, HNew.out.1] at HR3
    simp only [Option.getD_some, Option.isSome_some] at HR3
    have HR3 := Lib.hid HR3
    go_wp2_with fail
    refine HR3.out.mono ?_
    rintro e w14 ⟨lv, rfl, hown, k14⟩
    obtain ⟨lq, lc, rfl⟩ := (Sl.of_owns hown).len
    have hmb : m < wr.heap.size := by have := HL.out.mem.lt.1; rwa [hLm] at this
    have s314 := k14.size
    have s313 := HH3.out.size
    go_upto_block 2 with (fail)
    obtain ⟨z, hz⟩ : ∃ z, w14.heap.size = z := ⟨_, rfl⟩
    obtain ⟨W15, hW15⟩ : ∃ W15, (w14.alloc (.cells #[.int .i64 c, .int .u64 u, .slice lq lr.length lc] 65)).alloc (.cells #[.int .i64 0, .int .u64 0, .slice none 0 0] 65) = W15 := ⟨_, rfl⟩
    have k15 : Keeps [] w14 W15 := by rw [← hW15]; exact ((Keeps.refl _ _).alloc _).alloc _
    have r15 : Row W15 z 65 [.int .i64 c, .int .u64 u, .slice lq lr.length lc] := by rw [← hW15, ← hz]; exact (Row.new _ _ _).alloc _
    have q15 : Row W15 (z + 1) 65 [.int .i64 0, .int .u64 0, .slice none 0 0] := by rw [← hW15, ← hz]; have := Row.new (w14.alloc (.cells #[.int .i64 c, .int .u64 u, .slice lq lr.length lc] 65)) #[.int .i64 0, .int .u64 0, .slice none 0 0] 65; simpa using this
    rw [hW15, hz]
    have hL15 : Loom (fun x => E x ∨ x = g ∨ x = h ∨ x = z + 1) W15 M := (HL3.out.keeps k14).widen k15 (fun x hx => by
      rcases hx with hx | hx | hx | hx
      · exact .inl (.inl hx)
      · exact .inl (.inr (.inl hx))
      · exact .inl (.inr (.inr hx))
      · have := q15.lt; exact .inr ⟨by omega, by omega⟩)
    have hh15 := HH3.out.trans ((k14.trans k15).held (fun k hk => HL3.out.dom k hk) (by simp))
    have hbg := hh15.block g (.inr (.inl rfl))
    have hbh := hh15.block h (.inr (.inr rfl))
    have HH15 := Lib.hid (hh15.narrow (E := E) (fun k hk => .inl hk))
    have HIn15 := Lib.hid (HIn.out.block hbg)
    have HTo15 := Lib.hid (HTo.out.block hbh)
    have HL15 := Lib.hid hL15
    have HR15 := Lib.hid (⟨r15, q15⟩ : _ ∧ _)
    have hzw : z + 1 < W15.heap.size := q15.lt
    have HLr : Hid (∀ (W : World) (X : List Nat), Keeps X W15 W → (lr = [] ∨ ∀ x ∈ X, x = z + 1) → Sl W 1 (.slice lq lr.length lc) lr.length (ints .u64 lr)) := Lib.hid fun W X hk hX => by
      refine ⟨(Sl.of_owns hown).1, ?_⟩
      rcases (Sl.of_owns hown).2 with ⟨p, c1, h1, h2⟩ | ⟨b1, o1, c1, h1, h2, h3⟩
      · exact .inl ⟨p, c1, h1, h2⟩
      · rcases hX with hX | hX
        · exact .inl ⟨lq, lc, by rw [hX]; rfl, by rw [hX]; rfl⟩
        · have hk15 := k15.size
          have hks := hk.size
          exact .inr ⟨b1, o1, c1, h1, by omega, fun j y hy => ((hk.cell (p := ⟨b1, o1 + j, none⟩) (show b1 < _ by omega) (fun h => by have := hX b1 h; omega)).trans (k15.cell (p := ⟨b1, o1 + j, none⟩) h2 (by simp))).trans (h3 j y hy)⟩
    have hgz : g < z ∧ h < z := ⟨by have := HL3.out.dom g (.inr (.inl rfl)); omega, by have := HL3.out.dom h (.inr (.inr rfl)); omega⟩
    have hmz : m < z := by omega
    have hEz : Hid (∀ x, E x → x < z) := Lib.hid fun x hx => by have := HEd.out x hx; omega
    have HFin : Hid (∀ (W' : World) (X : List Nat) (g' h' : Nat), Keeps X W15 W' → (∀ x ∈ X, x = g ∨ x = z + 1) → (g' = g ∨ W15.heap.size ≤ g' ∧ g' < W'.heap.size) → (h' = h ∨ W15.heap.size ≤ h' ∧ h' < W'.heap.size) → g' ≠ h' →
        ((¬ E g' ∧ g' ≠ m) ∧ (¬ E h' ∧ h' ≠ m) ∧ g' ≠ h') ∧ Held E wr W' ∧ Loom (fun x => E x ∨ x = g' ∨ x = h') W' M ∧ Row W' z 65 [.int .i64 c, .int .u64 u, .slice lq lr.length lc]) := Lib.hid fun W' X g' h' hk hX hg' hh' hne =>
      have hf := raFin HG.out hEz.out hgz hmz hzw HH15.out HL15.out HNew.out.2.1 hk hX hg' hh' hne
      ⟨hf.1, hf.2.1, hf.2.2.1, HR15.out.1.keeps hk hf.2.2.2⟩
    have f0 := q15.cell (j := 0) rfl
    have f1 := q15.cell (j := 1) rfl
    have f2 := q15.cell (j := 2) rfl
    have e0 := q15.frozen 0
    have e1 := q15.frozen 1
    have e2 := q15.frozen 2
    clear k14 k15 hL15 hh15 r15 q15 hown HL2 HH2 HL3 HH3 HSt HAl HR3 hbg hbh hW15 hz HRes HIn HTo HL s314 s313
    go_cut [13, 14] from 71 to 223 (fun v1 v2 w' => ∃ (g' off' cap' h' off2' cap2' : Nat) (lp : Option Addr) (lc2 : Nat), v1 = .slice (some ⟨g', off', none⟩) xs'.length cap' ∧ v2 = .slice (some ⟨h', off2', none⟩) ts'.length cap2' ∧ ((¬ E g' ∧ g' ≠ m) ∧ (¬ E h' ∧ h' ≠ m) ∧ g' ≠ h') ∧
      InAt w' g' off' cap' 24 (ints .u64 xs') ∧ InAt w' h' off2' cap2' 24 (ints .u64 ts') ∧ Held E wr w' ∧ Loom (fun x => E x ∨ x = g' ∨ x = h') w' M ∧
      Row w' z 65 [.int .i64 c, .int .u64 u, .slice lq lr.length lc] ∧ Row w' (z + 1) 65 [.int .i64 c, .int .u64 u, .slice lp lr.length lc2] ∧ Sl w' 1 (.slice lq lr.length lc) lr.length (ints .u64 lr) ∧ Sl w' 1 (.slice lp lr.length lc2) lr.length (ints .u64 lr))
    case first =>
      rcases (show kn < 2 ∨ kn = 2 ∨ kn = 3 ∨ kn = 4 by omega) with hk2 | hk2 | hk2 | hk2
      ·
        -- << push
        as_aux_lemma =>
          have HT : Hid (((kn : Int) == 0) = true ∨ ((kn : Int) == 0) = false ∧ ((kn : Int) == 1) = true) := Lib.hid (by
            rcases (show kn = 0 ∨ kn = 1 by omega) with h1 | h1
            · exact .inl (by simp [h1])
            · exact .inr ⟨by simp [h1], by simp [h1]⟩)
          rcases HDeed.out.pushed hk2 with ⟨hlen, hc, hu, hl, hxs, hts⟩ | ⟨hlen, hc, hu, hl, hxs, hts⟩
          · subst hc hu hl hxs hts
            have d6 : decide ((xs.length : Int) < (N : Int)) = true := decide_eq_true (by omega)
            have hln : (xs.length + 1) * 8 ≤ 140737488355328 := by omega
            have HLn := Lib.hid hln
            clear hk2 f0 f1 f2 e0 e1 e2 hln
            rcases HT.out with t0 | ⟨t0, t1⟩
            all_goals
              go_wp2_with (at_builtin; refine append_at rfl _ _ 39 rfl 24 _ 8 Tryz.underlying39 elemWdR g off cap xs.length (ints .u64 xs) rfl (wds_len xs) HIn15.out (.int .u64 v) rfl rfl HLn.out ?_)
              intro g2 o2 c2 w20 in20 k20 hg20
              rw [← wds_snoc] at in20
              have hg2 : g2 = g ∨ W15.heap.size ≤ g2 ∧ g2 < w20.heap.size := by
                rcases hg20 with h1 | h1
                · exact .inl h1
                · exact .inr ⟨h1, in20.lt⟩
              have hne : g2 ≠ h := by
                rcases hg2 with rfl | h1
                · exact HG.out.2.2
                · have := hgz.2; omega
              have hfin := HFin.out w20 [g] g2 h k20 (by simp) hg2 (.inl rfl) hne
              have HFn : Hid (_ ∧ _ ∧ _ ∧ _ ∧ _ ∧ _) := Lib.hid ⟨hfin, in20, HTo15.out.keeps k20 (by simp; exact Ne.symm HG.out.2.2), HR15.out.2.keeps k20 (by simp; omega), HLr.out _ _ k20 (.inl (by trivial)), hne⟩
              clear hfin in20 k20 hg20 hg2 hne
              go_wp2
              go_meet
              obtain ⟨⟨x1, x2, x3, x4⟩, x5, x6, x7, x8, -⟩ := HFn.out
              exact ⟨g2, o2, c2, h, off2, cap2, none, 0, by rw [List.length_append]; rfl, rfl, x1, x5, x6, x2, x3, x4, x7, x8, Sl.none _ _ _⟩
          · obtain ⟨N2, hN2'⟩ : ∃ N2, N / 2 = N2 := ⟨_, rfl⟩
            rw [hN2'] at hl hxs
            have hl2 : lr.length = N2 := by rw [hl, List.length_take]; omega
            have hx2 : xs'.length = xs.length - N2 := by rw [hxs, List.length_drop]
            have HIt := Lib.hid (show InAt W15 g off cap 24 (ints .u64 lr) from by rw [hl, ← wds_take]; exact HIn15.out.take N2)
            have HId := Lib.hid (show InAt W15 g (off + N2) (cap - N2) 24 (ints .u64 xs') from by
              have := HIn15.out.drop (n := N2) (by rw [wds_len]; omega)
              rw [if_neg (by omega), wds_drop, ← hxs] at this
              exact this)
            have d6 : decide ((xs.length : Int) < (N : Int)) = false := decide_eq_false (by omega)
            have d7 : ¬ xs.length < N := by omega
            have hdv : (N : Int).tdiv 2 = (N2 : Int) := by rw [← hN2']; rfl
            have i1 : (N2 : Int) ≤ (cap : Int) := by omega
            have i2 : (N2 : Int) ≤ (xs.length : Int) := by omega
            have i3 : N2 ≤ cap := by omega
            have i4 : N2 ≤ xs.length := by omega
            have hcn : (cap = N2) = False := eq_false (by omega)
            have HL2 := Lib.hid (⟨hl2, hx2⟩ : _ ∧ _)
            subst hc hu hts
            clear hk2 hl hxs hlen hN2' hl2 hx2
            rcases HT.out with t0 | ⟨t0, t1⟩
            all_goals
              go_wp2_with fail
              go_meet
              have hl2 := HL2.out
              have q17 := ((HR15.out.2.set 0 (.int .i64 4)).set 1 (.int .u64 0)).set 2 (.slice (some ⟨g, off, none⟩) N2 cap)
              have k17 : Keeps [z + 1] W15 _ := (((Keeps.refl [z + 1] W15).setCell (p := ⟨z + 1, 0, none⟩) (fun _ => by simp) (.int .i64 4)).setCell (p := ⟨z + 1, 1, none⟩) (fun _ => by simp) (.int .u64 0)).setCell (p := ⟨z + 1, 2, none⟩) (fun _ => by simp) (.slice (some ⟨g, off, none⟩) N2 cap)
              obtain ⟨x1, x2, x3, x4⟩ := HFin.out _ _ g h k17 (by simp) (.inl rfl) (.inl rfl) HG.out.2.2
              have hsl := (HIt.out.keeps k17 (by simp; omega)).sl
              rw [wds_len] at hsl
              refine ⟨g, off + N2, cap - N2, h, off2, cap2, some ⟨g, off, none⟩, cap, by rw [hl2.2], rfl, x1, HId.out.keeps k17 (by simp; omega), HTo15.out.keeps k17 (by simp; omega), x2, x3, x4, by rw [hl2.1]; exact q17, HLr.out _ _ k17 (.inr (by simp)), hsl⟩
        -- >> push
      ·
        -- << pop
        as_aux_lemma =>
          obtain ⟨hxs, hc, hu, hl, hts⟩ := HDeed.out.popped hk2
          have HFA : Hid (Calls Tryz.prog 31 #[.slice (some ⟨g, off, none⟩) xs.length cap] W15 fun e w' => ∃ off' cap', e = .returned (.tuple #[.slice (some ⟨g, off', none⟩) xs'.length cap', .agg #[.int .i64 c, .int .u64 u, .slice none 0 0]]) ∧ InAt w' g off' cap' 24 (ints .u64 xs') ∧ Keeps [] W15 w') := Lib.hid (by
            rw [hxs, hc, hu]; exact first_any g off cap xs W15 HIn15.out)
          have t0 : ((kn : Int) == 0) = false := by simp [hk2]
          have t1 : ((kn : Int) == 1) = false := by simp [hk2]
          have t2 : ((kn : Int) == 2) = true := by simp [hk2]
          subst hl hts
          clear hk2 hxs hc hu f0 f1 f2 e0 e1 e2
          go_wp2_with fail
          refine HFA.out.mono ?_
          rintro e w16 ⟨off', cap', rfl, hin, k16⟩
          have q16 := HR15.out.2.keeps k16 (by simp)
          have f0 := q16.cell (j := 0) rfl
          have f1 := q16.cell (j := 1) rfl
          have f2 := q16.cell (j := 2) rfl
          have e0 := q16.frozen 0
          have e1 := q16.frozen 1
          have e2 := q16.frozen 2
          have HK16 := Lib.hid (⟨q16, k16, hin⟩ : _ ∧ _ ∧ _)
          clear q16 k16 hin
          go_wp2
          go_meet
          obtain ⟨q16, k16, hin⟩ := HK16.out
          have q17 := ((q16.set 0 (.int .i64 c)).set 1 (.int .u64 u)).set 2 (.slice none 0 0)
          have k17 : Keeps [z + 1] W15 _ := (((k16.mono (by simp)).setCell (p := ⟨z + 1, 0, none⟩) (fun _ => by simp) (.int .i64 c)).setCell (p := ⟨z + 1, 1, none⟩) (fun _ => by simp) (.int .u64 u)).setCell (p := ⟨z + 1, 2, none⟩) (fun _ => by simp) (.slice none 0 0)
          have k167 : Keeps [z + 1] w16 _ := (((Keeps.refl [z + 1] w16).setCell (p := ⟨z + 1, 0, none⟩) (fun _ => by simp) (.int .i64 c)).setCell (p := ⟨z + 1, 1, none⟩) (fun _ => by simp) (.int .u64 u)).setCell (p := ⟨z + 1, 2, none⟩) (fun _ => by simp) (.slice none 0 0)
          obtain ⟨x1, x2, x3, x4⟩ := HFin.out _ _ g h k17 (by simp) (.inl rfl) (.inl rfl) HG.out.2.2
          exact ⟨g, off', cap', h, off2, cap2, none, 0, rfl, rfl, x1, hin.keeps k167 (by simp; omega), HTo15.out.keeps k17 (by simp; omega), x2, x3, x4, q17, HLr.out _ _ k17 (.inl (by trivial)), Sl.none _ _ _⟩
        -- >> pop
      ·
        -- << steal
        as_aux_lemma =>
          have t0 : ((kn : Int) == 0) = false := by simp [hk2]
          have t1 : ((kn : Int) == 1) = false := by simp [hk2]
          have t2 : ((kn : Int) == 2) = false := by simp [hk2]
          have t3 : ((kn : Int) == 3) = true := by simp [hk2]
          obtain ⟨N2, hN2'⟩ : ∃ N2, N / 2 = N2 := ⟨_, rfl⟩
          obtain ⟨hx, hhx⟩ : ∃ hx, xs.length / 2 = hx := ⟨_, rfl⟩
          have hdv : (N : Int).tdiv 2 = (N2 : Int) := by rw [← hN2']; rfl
          have hdx : (xs.length : Int).tdiv 2 = (hx : Int) := by rw [← hhx]; rfl
          have hxb : hx ≤ xs.length := by omega
          have hN2b : N2 ≤ 16 := by omega
          rcases HDeed.out.stolen hk2 with ⟨hlen, hc, hu, hl, hxs, hts⟩ | ⟨hlen, hx0, hc, hu, hl, hxs, hts⟩ | ⟨nn, hlen, hnn, hn1, hc, hu, hl, hxs, hts⟩
          · have d6 : decide ((N2 : Int) < (ts.length : Int)) = true := decide_eq_true (by omega)
            have d7 : N2 < ts.length := by omega
            subst hc hu hl hxs hts
            clear hk2 hN2' hhx hlen
            go_wp2
            go_meet
            have q17 := HR15.out.2.set 0 (.int .i64 4)
            have k17 : Keeps [z + 1] W15 _ := (Keeps.refl [z + 1] W15).setCell (p := ⟨z + 1, 0, none⟩) (fun _ => by simp) (.int .i64 4)
            obtain ⟨x1, x2, x3, x4⟩ := HFin.out _ _ g h k17 (by simp) (.inl rfl) (.inl rfl) HG.out.2.2
            exact ⟨g, off, cap, h, off2, cap2, none, 0, rfl, rfl, x1, HIn15.out.keeps k17 (by simp; omega), HTo15.out.keeps k17 (by simp; omega), x2, x3, x4, q17, HLr.out _ _ k17 (.inl (by trivial)), Sl.none _ _ _⟩
          · have d6 : decide ((N2 : Int) < (ts.length : Int)) = false := decide_eq_false (by omega)
            have d7 : ¬ N2 < ts.length := by omega
            have D8 := Lib.hid (show (xs.length : Int) - (hx : Int) = 0 by omega)
            subst hc hu hl hxs hts
            clear hk2 hN2' hhx hlen hx0
            go_upto_region 35 with (fail)
            rw [D8.out]
            go_wp2
            go_meet
            have q17 := HR15.out.2.set 0 (.int .i64 5)
            have k17 : Keeps [z + 1] W15 _ := (Keeps.refl [z + 1] W15).setCell (p := ⟨z + 1, 0, none⟩) (fun _ => by simp) (.int .i64 5)
            obtain ⟨x1, x2, x3, x4⟩ := HFin.out _ _ g h k17 (by simp) (.inl rfl) (.inl rfl) HG.out.2.2
            exact ⟨g, off, cap, h, off2, cap2, none, 0, rfl, rfl, x1, HIn15.out.keeps k17 (by simp; omega), HTo15.out.keeps k17 (by simp; omega), x2, x3, x4, q17, HLr.out _ _ k17 (.inl (by trivial)), Sl.none _ _ _⟩
          · obtain ⟨n1, rfl⟩ : ∃ n1, nn = n1 + 1 := ⟨nn - 1, by omega⟩
            simp only [Nat.add_sub_cancel] at hu hts
            have d6 : decide ((N2 : Int) < (ts.length : Int)) = false := decide_eq_false (by omega)
            have d7 : ¬ N2 < ts.length := by omega
            have D8 := Lib.hid (show (xs.length : Int) - (hx : Int) = (n1 : Int) + 1 by omega)
            have hn1l : n1 < xs.length := by omega
            have cu : W15.cell? ⟨g, off + n1, none⟩ = some (.int .u64 u) := HIn15.out.cell (i := n1) (by rw [hu]; exact ints_at hn1l)
            have i1 : (n1 : Int) < (xs.length : Int) := by omega
            have hgz2 := hgz.1
            obtain ⟨W16, hW16⟩ : ∃ W16, W15.setCell ⟨z + 1, 1, none⟩ (.int .u64 u) = W16 := ⟨_, rfl⟩
            have k16 : Keeps [z + 1] W15 W16 := by rw [← hW16]; exact (Keeps.refl [z + 1] W15).setCell (p := ⟨z + 1, 1, none⟩) (fun _ => by simp) _
            have HQ16 := Lib.hid (show Row W16 (z + 1) 65 [.int .i64 0, .int .u64 u, .slice none 0 0] from by rw [← hW16]; exact HR15.out.2.set 1 (.int .u64 u))
            obtain ⟨Wl, hWl⟩ : ∃ Wl, (W16.alloc (.cells #[] 24)).drew = Wl := ⟨_, rfl⟩
            have kl : Keeps [] W16 Wl := by rw [← hWl]; exact ((Keeps.refl [] W16).alloc _).drew
            have hs16 : W16.heap.size = W15.heap.size := by rw [← hW16]; simp
            have HLit : Hid (Wl.ownsRow W15.heap.size 24 1 (.slice (some ⟨W16.heap.size, 0, none⟩) 0 0) 0 (ints .u64 [])) := Lib.hid (by
              rw [← hWl]; exact owns_keeps (owns_base (owns_empty W16 24 1) (by omega)) (Keeps.refl [] _).drew (by simp))
            have kwl : Keeps [z + 1] W15 Wl := k16.trans (kl.mono (by simp))
            have HA := Lib.hid (show Sl Wl 1 (.slice (some ⟨h, off2, none⟩) ts.length cap2) ts.length (ints .u64 ts) from by
              have := (HTo15.out.keeps kwl (by simp; omega)).sl
              rwa [wds_len] at this)
            have HT : Hid (∀ W, Keeps [W16.heap.size] Wl W → Sl W 1 (.slice (some ⟨g, off, none⟩) n1 cap) n1 (ints .u64 (xs.take n1))) := Lib.hid fun W hk => by
              have := (((HIn15.out.take n1).keeps kwl (by simp; omega)).keeps hk (by simp; omega)).sl
              rw [wds_take, wds_len, List.length_take, Nat.min_eq_left (by omega)] at this
              exact this
            have hPl : W15.heap.size ≤ Wl.heap.size := by have := kl.size; omega
            have HKl := Lib.hid (⟨k16, kl⟩ : _ ∧ _)
            have HDr := Lib.hid (HIn15.out.drop (n := n1 + 1) (by rw [wds_len]; omega))
            have i2 : (n1 : Int) ≤ (cap : Int) := by omega
            have i3 : n1 ≤ cap := by omega
            have hw1 : IntKind.i64.wrap (n1 : Int) = (n1 : Int) := IntWalk.i64_in _ (by omega)
            have hfx : xs.length ≤ N := by obtain ⟨-, _, _, h1, -⟩ := HQ.out; exact h1.few
            have hsz1 : (0 + ts.length) * 8 ≤ 140737488355328 ∧ (0 + ts.length + n1) * 8 ≤ 140737488355328 := by omega
            have HSz := Lib.hid hsz1
            clear hsz1
            have HX : Hid (_ ∧ _) := Lib.hid ⟨hxs, hts⟩
            subst hc hl
            clear hk2 hN2' hhx hlen hnn hn1 k16 kl hs16 kwl hu hxs hts
            go_upto_region 35 with (fail)
            rw [D8.out]
            go_wp2_with fail
            go_region_law (first
              | (have _q := q10; refine step_append_sl (by rfl) _ _ 39 (by rfl) W15.heap.size 24 _ 1 8 Tryz.underlying39 elemWdR _ (0 + ts.length) _ (by rfl) q10 _ n1 (ints .u64 (xs.take n1)) (by rfl) (HT.out w10 (by simpa [Value.ownBlock] using k10)) (fun u hu => ints_one .u64 _ u hu) HSz.out.2 hs10 ?_; intro v11 w11 q11 k11 f11 ne11)
              | (refine step_append_sl (by rfl) _ _ 39 (by rfl) W15.heap.size 24 _ 1 8 Tryz.underlying39 elemWdR _ 0 (ints .u64 []) (by rfl) HLit.out _ ts.length (ints .u64 ts) (by rfl) HA.out (fun u hu => ints_one .u64 _ u hu) HSz.out.1 hPl ?_; intro v10 w10 q10 k10 f10 ne10; have hs10 : W15.heap.size ≤ w10.heap.size := Nat.le_trans hPl k10.size))
            all_goals
              have kk10 : Keeps [] W16 w10 := HKl.out.2.step k10 (fun x hx => by simp [Value.ownBlock] at hx; omega)
              have hwl : W16.heap.size ≤ Wl.heap.size := HKl.out.2.size
              have kk11 : Keeps [] W16 w11 := kk10.step k11 (fun x hx => by
                rcases f10 x ((ownBlock_toList _ _).1 hx) with h1 | h1
                · simp [Value.ownBlock] at h1; omega
                · omega)
              obtain ⟨h2, c2, rfl, hb2, in2⟩ := InAt.of_owns q11 (ne11 (ne10 (by simp)))
              have kk : Keeps [z + 1] W15 w11 := HKl.out.1.trans (kk11.mono (by simp))
              have hne : g ≠ h2 := by omega
              have hfin := HFin.out w11 [z + 1] g h2 kk (by simp) (.inl rfl) (.inr ⟨hb2, in2.lt⟩) hne
              have htl : ts'.length = 0 + ts.length + n1 := by rw [HX.out.2, List.length_append, List.length_take]; omega
              have hxl : xs'.length = xs.length - (n1 + 1) := by rw [HX.out.1, List.length_drop]
              have hin2 : InAt w11 h2 0 c2 24 (ints .u64 ts') := by
                have e : ints .u64 [] ++ ints .u64 ts ++ ints .u64 (xs.take n1) = ints .u64 ts' := by rw [HX.out.2]; simp [ints]
                rw [← e]; exact in2
              have hd11 := HDr.out.keeps kk (by simp; omega)
              rw [wds_drop, ← HX.out.1] at hd11
              have HFn : Hid (_ ∧ _ ∧ _ ∧ _ ∧ _ ∧ _ ∧ _) := Lib.hid ⟨hfin, hin2, hd11, HQ16.out.keeps kk11 (by simp), HLr.out _ _ kk (.inl (by trivial)), htl, hxl⟩
              have i4 : (n1 : Int) + 1 ≤ (xs.length : Int) := by omega
              have i5 : n1 + 1 ≤ xs.length := by omega
              have htn : ((n1 : Int) + 1).toNat = n1 + 1 := by omega
              have i6 : (0 : Int) ≤ (n1 : Int) + 1 := by omega
              clear kk10 hwl kk11 hb2 in2 kk hne hfin htl hxl hin2 hd11 q10 k10 f10 ne10 q11 k11 f11 ne11 hs10
              by_cases hce : cap = n1 + 1
              case' pos =>
                have HCE := Lib.hid hce
                have hcb : (cap = n1 + 1) = True := eq_true hce
                clear hce
              case' neg =>
                have HCE := Lib.hid hce
                have hcb : (cap = n1 + 1) = False := eq_false hce
                clear hce
              all_goals
                go_wp2
                go_meet
                obtain ⟨⟨x1, x2, x3, x4⟩, y1, y2, y3, y4, htl, hxl⟩ := HFn.out
                refine ⟨g, if cap = n1 + 1 then off else off + (n1 + 1), cap - (n1 + 1), h2, 0, c2, none, 0, ?_, by rw [htl, Nat.zero_add], x1, y2, y1, x2, x3, x4, y3, y4, Sl.none _ _ _⟩
                rw [hxl]
                first
                  | rw [if_pos HCE.out]
                  | rw [if_neg HCE.out]
        -- >> steal
      ·
        -- << other
        as_aux_lemma =>
          obtain ⟨hts, hc, hu, hl, hxs⟩ := HDeed.out.others hk2
          have HFA : Hid (Calls Tryz.prog 31 #[.slice (some ⟨h, off2, none⟩) ts.length cap2] W15 fun e w' => ∃ off' cap', e = .returned (.tuple #[.slice (some ⟨h, off', none⟩) ts'.length cap', .agg #[.int .i64 c, .int .u64 u, .slice none 0 0]]) ∧ InAt w' h off' cap' 24 (ints .u64 ts') ∧ Keeps [] W15 w') := Lib.hid (by
            rw [hts, hc, hu]; exact first_any h off2 cap2 ts W15 HTo15.out)
          have t0 : ((kn : Int) == 0) = false := by simp [hk2]
          have t1 : ((kn : Int) == 1) = false := by simp [hk2]
          have t2 : ((kn : Int) == 2) = false := by simp [hk2]
          have t3 : ((kn : Int) == 3) = false := by simp [hk2]
          subst hl hxs
          clear hk2 hts hc hu f0 f1 f2 e0 e1 e2
          go_wp2_with fail
          refine HFA.out.mono ?_
          rintro e w16 ⟨off', cap', rfl, hin, k16⟩
          have q16 := HR15.out.2.keeps k16 (by simp)
          have f0 := q16.cell (j := 0) rfl
          have f1 := q16.cell (j := 1) rfl
          have f2 := q16.cell (j := 2) rfl
          have e0 := q16.frozen 0
          have e1 := q16.frozen 1
          have e2 := q16.frozen 2
          have HK16 := Lib.hid (⟨q16, k16, hin⟩ : _ ∧ _ ∧ _)
          clear q16 k16 hin
          go_wp2
          go_meet
          obtain ⟨q16, k16, hin⟩ := HK16.out
          have q17 := ((q16.set 0 (.int .i64 c)).set 1 (.int .u64 u)).set 2 (.slice none 0 0)
          have k17 : Keeps [z + 1] W15 _ := (((k16.mono (by simp)).setCell (p := ⟨z + 1, 0, none⟩) (fun _ => by simp) (.int .i64 c)).setCell (p := ⟨z + 1, 1, none⟩) (fun _ => by simp) (.int .u64 u)).setCell (p := ⟨z + 1, 2, none⟩) (fun _ => by simp) (.slice none 0 0)
          have k167 : Keeps [z + 1] w16 _ := (((Keeps.refl [z + 1] w16).setCell (p := ⟨z + 1, 0, none⟩) (fun _ => by simp) (.int .i64 c)).setCell (p := ⟨z + 1, 1, none⟩) (fun _ => by simp) (.int .u64 u)).setCell (p := ⟨z + 1, 2, none⟩) (fun _ => by simp) (.slice none 0 0)
          obtain ⟨x1, x2, x3, x4⟩ := HFin.out _ _ g h k17 (by simp) (.inl rfl) (.inl rfl) HG.out.2.2
          exact ⟨g, off, cap, h, off', cap', none, 0, rfl, rfl, x1, HIn15.out.keeps k17 (by simp; omega), hin.keeps k167 (by simp; omega), x2, x3, x4, q17, HLr.out _ _ k17 (.inl (by trivial)), Sl.none _ _ _⟩
        -- >> other
    obtain ⟨g', off', cap', h', off2', cap2', lp, lc2, rfl, rfl, hG', hin', hto', hh', hL', hr', hq', hlr', hls'⟩ := hcut
    have HG' := Lib.hid hG'
    have HIn' := Lib.hid hin'
    have HTo' := Lib.hid hto'
    have HH' := Lib.hid hh'
    have HL' := Lib.hid hL'
    have HR' := Lib.hid (⟨hr', hq', hlr', hls'⟩ : _ ∧ _ ∧ _ ∧ _)
    have hcap' := hin'.few
    have hcap2' := hto'.few
    have hfit' := hin'.fits
    have hfit2' := hto'.fits
    rw [wds_len] at hfit' hfit2'
    unfold maxLen at hcap' hcap2'
    have hbx := HBxr.out wc hh'
    have b0 := hbx.1
    have b1 := hbx.2.1
    obtain ⟨hul, r0, r1, hq1, hq2⟩ := HNew.out.2.2.2.2.2
    have HAll1 : Hid (∀ W, Keeps [] wc W → Calls Tryz.prog 19 #[.agg #[.int .i64 0, .int .i64 (N : Int)], .pointer (some ⟨m, 0, none⟩)] W fun e w' => Keeps [] W w' ∧ rgTold W w' e (some xs')) := Lib.hid fun W hW => by
      have hm := (HL'.out.keeps hW).mem
      rw [HNew.out.2.1] at hm
      have := rgAll_any 0 N m M.b M.us W hm HRr.out.1 (by rw [hul]; omega)
      rw [hq1.all] at this
      simpa using this
    have HAll2 : Hid (∀ W, Keeps [] wc W → Calls Tryz.prog 19 #[.agg #[.int .i64 ((N : Int) + 2), .int .i64 (N : Int)], .pointer (some ⟨m, 0, none⟩)] W fun e w' => Keeps [] W w' ∧ rgTold W w' e (some ts')) := Lib.hid fun W hW => by
      have hm := (HL'.out.keeps hW).mem
      rw [HNew.out.2.1] at hm
      have := rgAll_any (N + 2) N m M.b M.us W hm HRr.out.2 (by rw [hul]; omega)
      rw [hq2.all] at this
      simpa using this
    have hfew := hq1.few
    have hfew2 := hq2.few
    clear hG' hin' hto' hh' hL' hr' hq' hlr' hls' hbx hul hq1 hq2 f0 f1 f2 e0 e1 e2
    go_wp2_with fail
    refine (HAll1.out _ (Keeps.refl [] wc)).mono ?_
    rintro e w16 ⟨k16, t16⟩
    obtain ⟨l16, rfl, o16⟩ := t16.2 _ rfl
    obtain ⟨lp16, lc16, rfl⟩ := (Sl.of_owns o16).len
    have hbx := HBxr.out w16 (HH'.out.trans (k16.held (fun x hx => Nat.lt_of_lt_of_le (HEd.out x hx) HH'.out.size) (by simp)))
    have b2 := hbx.2.2.1
    have b3 := hbx.2.2.2
    have HX := Lib.hid (Sl.of_owns o16)
    have HK16 := Lib.hid k16
    clear k16 t16 o16 b0 b1 hbx
    go_wp2_with fail
    refine (HAll2.out _ HK16.out).mono ?_
    rintro e w17 ⟨k17, t17⟩
    obtain ⟨l17, rfl, o17⟩ := t17.2 _ rfl
    obtain ⟨lp17, lc17, rfl⟩ := (Sl.of_owns o17).len
    have HX17 := Lib.hid (HX.out.keeps k17 (by simp))
    have HY17 := Lib.hid (Sl.of_owns o17)
    have kk17 := HK16.out.trans k17
    have HK17 := Lib.hid kk17
    have u0 := (HR'.out.1.keeps kk17 (by simp)).cell (j := 0) rfl
    have u1 := (HR'.out.1.keeps kk17 (by simp)).cell (j := 1) rfl
    have u2 := (HR'.out.1.keeps kk17 (by simp)).cell (j := 2) rfl
    have v0 := (HR'.out.2.1.keeps kk17 (by simp)).cell (j := 0) rfl
    have v1 := (HR'.out.2.1.keeps kk17 (by simp)).cell (j := 1) rfl
    have v2 := (HR'.out.2.1.keeps kk17 (by simp)).cell (j := 2) rfl
    have hlrn : lr.length ≤ N := HDeed.out.few
    have HSr := Lib.hid (sameResult_any c u (.slice lq lr.length lc) (.slice lp lr.length lc2) lr.length lr.length lr w17 (by unfold maxLen; omega) (by unfold maxLen; omega) (HR'.out.2.2.1.keeps kk17 (by simp)) (HR'.out.2.2.2.keeps kk17 (by simp)))
    clear k17 t17 o17 kk17 b2 b3 HX
    go_wp2_with fail
    refine HSr.out.mono ?_
    rintro e w18 ⟨rfl, k18⟩
    have HK18 := Lib.hid (HK17.out.trans k18)
    have hs18 := (HIn'.out.keeps HK18.out (by simp)).sl
    rw [wds_len] at hs18
    have hsame := sameWords_any _ _ xs'.length xs'.length xs' xs' w18 (by unfold maxLen; omega) (by unfold maxLen; omega) (HX17.out.keeps k18 (by simp)) hs18
    rw [decide_eq_true rfl] at hsame
    have HSame := Lib.hid hsame
    have HY18 := Lib.hid (HY17.out.keeps k18 (by simp))
    clear k18 hs18 hsame u0 u1 u2 v0 v1 v2 HSr HX17 HY17
    go_wp2_with fail
    refine HSame.out.mono ?_
    rintro e w19 ⟨rfl, nd, hnd⟩
    have k19 : Keeps [] w18 w19 := by rw [← hnd]; exact Keeps.of_drewN _ _
    have HK19 := Lib.hid (HK18.out.trans k19)
    have hs19 := (HTo'.out.keeps HK19.out (by simp)).sl
    rw [wds_len] at hs19
    have hsame := sameWords_any _ _ ts'.length ts'.length ts' ts' w19 (by unfold maxLen; omega) (by unfold maxLen; omega) (HY18.out.keeps k19 (by simp)) hs19
    rw [decide_eq_true rfl] at hsame
    have HSame2 := Lib.hid hsame
    clear k19 hs19 hsame hnd HSame HY18
    go_wp2_with fail
    refine HSame2.out.mono ?_
    rintro e w20 ⟨rfl, nd2, hnd⟩
    have k20 : Keeps [] w19 w20 := by rw [← hnd]; exact Keeps.of_drewN _ _
    have HKz := Lib.hid (HK19.out.trans k20)
    clear hnd k20 HSame2
    go_wp2
    go_roundw
    case rel =>
      have kz := HKz.out
      exact ⟨k + 1, by omega, by go_num, M, o', xs', ts', g', off', cap', h', off2', cap2', rfl, rfl, HG'.out, HIn'.out.keeps kz (by simp), HTo'.out.keeps kz (by simp), (HHr.out.trans HH'.out).trans (kz.held (fun x hx => Nat.lt_of_lt_of_le (HEd.out x hx) HH'.out.size) (by simp)), HL'.out.keeps kz, HNew.out.1, HNew.out.2.1, HNew.out.2.2.1, HNew.out.2.2.2.1, HNew.out.2.2.2.2.1, HNew.out.2.2.2.2.2⟩
    case measure => simp [intOf]; omega

set_option maxRecDepth 100000 in
theorem lifted (os : Os) (started : os.Started) (H : Type) (enc : TypeId × Value → H) :
    ReturnsInHanded {} Tryz.checked os 6 .any (Rows.ringAloneSpec.pre6 enc Tryz.prog Tryz.f6 Rows.ringAloneRow.domain false) (Rows.ringAloneSpec.post enc Tryz.prog Tryz.f6 false true false false) := by
  refine returnsInHanded_of_change (C := Tryz.checked) own started (by kernel_rfl) Tryz.func6
    (ChangeSpec.witness6 (enc := enc) (C := Tryz.checked) false ⟨#[], #[.int .i64 0, .int .u32 0, .slice none 0 0], []⟩ 8 (by kernel_rfl) (by kernel_rfl) (by kernel_rfl) (by kernel_rfl)) ?_
  intro W base args ds gs before hval0 hW hcnd _
  have hval : ∀ (j : Nat) t v, Tryz.f6.params[j]? = some t → args[j]? = some v → Value.okWide Tryz.prog W .any base t v := hval0
  have hW' := hW
  obtain ⟨p, q, hA0, hV, rfl, hfz, hnd⟩ := hW
  have hA : DataW.TrodAll enc Tryz.prog W 0 (fun _ => true) true Tryz.f6.params.toList args.toList ds p := hA0
  rw [Tryz.params6] at hA hval
  obtain ⟨v0, vs0, d0, ds0, q0, qs0, hargs, rfl, rfl, h0, r0⟩ := trodAll_cons hA
  obtain ⟨v1, vs1, d1, ds1, q1, qs1, rfl, rfl, rfl, h1, r1⟩ := trodAll_cons r0
  obtain ⟨v2, vs2, d2, ds2, q2, qs2, rfl, rfl, rfl, h2, r2⟩ := trodAll_cons r1
  obtain ⟨rfl, rfl, rfl⟩ := trodAll_nil r2
  obtain rfl : args = #[v0, v1, v2] := by cases args; simp_all
  obtain ⟨rfl, rfl⟩ := trodVars_none hV
  obtain ⟨a0, rfl, rfl, rfl, w0⟩ := open_int Tryz.underlying3 (hval 0 3 v0 rfl rfl) h0
  obtain ⟨a1, rfl, rfl, rfl, w1⟩ := open_int Tryz.underlying51 (hval 1 51 v1 rfl rfl) h1
  obtain ⟨p2, n2, c2, rfl⟩ := okWide_slice Tryz.underlying52 (hval 2 52 v2 rfl rfl)
  have k2 := h2
  have lt2 : ∀ x ∈ q2, x.block < W.heap.size := by obtain ⟨m, hm⟩ := k2; exact DataW.trod_lt m _ _ _ hm
  obtain ⟨z2, s2, m2, b2⟩ := (by obtain ⟨fu, hf⟩ := h2; exact sl_ints Tryz.underlying52 Tryz.underlying5 (by kernel_rfl) hf : ∃ zs : List Int, Sl W 1 (.slice p2 n2 c2) n2 (ints .u8 zs) ∧ n2 ≤ maxLen ∧ ∀ z ∈ zs, (Lit.int .u8 z).wf = true)
  clear hA0 hval0
  simp only [List.append_nil] at hW'
  refine (walk a0 a1 p2 n2 c2 z2 W w0 w1 s2 m2 b2).mono fun e W' ⟨he, bel⟩ => ?_
  subst he
  exact ⟨_, rfl, _, _, _, [], _, [], hW', trodAll_mk1 (shut_bool Tryz.underlying4 _), (trodAll_cons_mk (shut_int Tryz.underlying3 w0) (trodAll_cons_mk (shut_int Tryz.underlying51 w1) (trodAll_cons_mk (Below.trod laidOut (by kernel_rfl) (of_decide_eq_true (by kernel_rfl)) k2 bel lt2) trodAll_mk0))), rfl, bel.frame _, fun h => by cases h⟩

theorem proved : Rows.RingAloneSaid :=
  OpenClaim.holds_of_wide 6 Tryz.f6 rfl rfl rfl rfl rfl rfl rfl ⟨rfl, rfl, rfl, rfl, rfl⟩ rfl rfl rfl rfl rfl (by kernel_rfl) Tryz.func6 (by kernel_rfl)
    (of_decide_eq_true (by kernel_rfl)) (by unfold Func.isWrapper; first | (rw [if_pos (by decide +kernel)]; kernel_rfl) | (rw [if_neg (by decide +kernel)]; exact ⟨rfl, rfl⟩))
    (fun os started H enc _ => lifted os started H enc)
#print axioms proved
end Go.Proofs.YtekpfhlaohcgeaaGreat.ringAlone
