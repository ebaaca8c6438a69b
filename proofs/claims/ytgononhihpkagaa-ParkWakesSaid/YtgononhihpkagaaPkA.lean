/-
  The chapter's example of layer 11.
-/
import Derived.Test.YtgononhihpkagaaPkQ
import Derived.Test.YtgononhihpkagaaPark
import Derived.Test.YtgononhihpkagaaMem3
import Derived.Test.YtgononhihpkagaaLook
namespace Go.Proofs.Ytgononhihpkagaa
set_option maxRecDepth 100000
set_option linter.unusedSimpArgs false
set_option linter.unusedVariables false
open Go.ChangeShapes Go.WideShapes Go.ChangeAt Go.RowKit

/-- A parker's walk. -/
def pkStrand (m : Nat) (s : PkS) : Strand := ⟨PkS, pkM, LoneI pkM (pkE m) m, m, pkRuns m, s⟩
theorem pkResult (D : Nat → Prop) (L : LSt) (who m : Nat) (s : PkS) (c v : Int) (w : World) (h : Loom D w L) (ho : L.ts[who]? = some (some (pkStrand m s))) (hr : s.over = some ⟨c, v, []⟩) :
    Calls Try.prog 21 #[.pointer (some ⟨L.l, 0, none⟩), .int .i64 (who : Int)] w fun e w' => ∃ q cc, e = .returned (.tuple #[.agg #[.int .i64 c, .int .u64 v, .slice q 0 cc], .bool true]) ∧ Keeps [] w w' := by
  refine (loomResult_at D L who _ w h ho).mono ?_
  rintro e w' ⟨lv, rfl, hown, hk⟩
  have e1 : (some (pkStrand m s)).bind Strand.res = some ⟨c, v, []⟩ := hr
  rw [e1] at hown ⊢
  obtain ⟨q, cc, rfl⟩ := (Sl.of_owns hown).len
  exact ⟨q, cc, rfl, hk⟩
theorem pkResult_none (D : Nat → Prop) (L : LSt) (who m : Nat) (s : PkS) (w : World) (h : Loom D w L) (ho : L.ts[who]? = some (some (pkStrand m s))) (hr : s.over = none) :
    Calls Try.prog 21 #[.pointer (some ⟨L.l, 0, none⟩), .int .i64 (who : Int)] w fun e w' => ∃ q cc, e = .returned (.tuple #[.agg #[.int .i64 0, .int .u64 0, .slice q 0 cc], .bool false]) ∧ Keeps [] w w' := by
  refine (loomResult_at D L who _ w h ho).mono ?_
  rintro e w' ⟨lv, rfl, hown, hk⟩
  have e1 : (some (pkStrand m s)).bind Strand.res = none := hr
  rw [e1] at hown ⊢
  obtain ⟨q, cc, rfl⟩ := (Sl.of_owns hown).len
  exact ⟨q, cc, rfl, hk⟩
def pexP : PkS := ⟨0, 1, 0, 1, 0, 0, some ⟨0, 0, []⟩⟩
def pexW : PkS := ⟨0, 3, 0, 2, 1, 1, none⟩
def pexC : PkS := ⟨0, 4, 0, 1, 0, 0, some ⟨0, 1, []⟩⟩
def pexE : PkS := ⟨0, 3, 0, 3, 4294967297, 1, some ⟨0, 1, []⟩⟩
theorem pex1 : Part pkM [0] (pkNew 0 1 0) 1 [1] pexP := partRun_part _ _ _ _ _ _ (by kernel_rfl)
theorem pex2 : Part pkM [1] (pkNew 0 3 0) 1 [1] pexW := partRun_part _ _ _ _ _ _ (by kernel_rfl)
theorem pex3 : Part pkM [1] (pkNew 0 4 0) 1 [4294967297] pexC := partRun_part _ _ _ _ _ _ (by kernel_rfl)
theorem pex4 : Part pkM [4294967297] pexW 3 [4294967296] pexE := partRun_part _ _ _ _ _ _ (by kernel_rfl)
theorem pexAcc : (⟨7, 0, 1, 0⟩ : C.Acc).ok := ⟨⟨by decide, by decide⟩, ⟨by decide, by decide⟩⟩

set_option maxHeartbeats 6400000 in
theorem awake11 (w : World) :
    Calls Try.prog 6 #[] w fun e w' => e = .returned (.bool true) ∧ Below w.heap.size w w' := by
  obtain ⟨B, hB⟩ : ∃ B, w.heap.size = B := ⟨_, rfl⟩
  rw [hB]
  go_enter Try.func6, Try.ntmps6
  go_wp2_with fail
  generalize hW1 : World.alloc w _ = W1
  have bq : Box W1 B #[.int .i64 0] := by rw [← hW1, ← hB]; exact Box.new _ _ _
  have k1 : Keeps [] w W1 := by rw [← hW1]; exact (Keeps.refl _ _).alloc _
  have NA := Lib.hid (new_any 1 W1 (by omega) (by omega))
  have HB1 := Lib.hid (show Below B w W1 from k1.below (by omega) (by simp))
  have HQ1 := Lib.hid bq
  clear bq k1
  refine NA.out.mono ?_
  clear NA
  rintro e w2 ⟨m, b, rfl, hM, k2, hm, hb⟩
  have s1 := HB1.out.size
  have HB2 := Lib.hid (HB1.out.trans (k2.below (by omega) (by simp)))
  have HM2 := Lib.hid (show Mem w2 m b [0] from hM)
  have HQ2 := Lib.hid (HQ1.out.keeps k2 (by simp))
  have hbq := HQ1.out.lt
  have hmlt := hM.lt
  have s2 := HB2.out.size
  clear hM k2 hW1
  obtain ⟨E, hE⟩ : ∃ E : Nat → Prop, (fun x => x < B ∨ x = B) = E := ⟨_, rfl⟩
  have HE : Hid ((∀ k, k < B → E k) ∧ E B ∧ ∀ k, E k → k < B ∨ k = B) := Lib.hid (by rw [← hE]; exact ⟨fun k hk => .inl hk, .inr rfl, fun k hk => hk⟩)
  clear hE
  go_wp2_with fail
  refine (loomNew_any E 2 m b [0] w2 HM2.out (by omega) (by omega) (fun k hk => by rcases HE.out.2.2 k hk with h | h <;> omega) (fun hk => by rcases HE.out.2.2 b hk with h | h <;> omega)).mono ?_
  rintro e w3 ⟨l, g, rfl, hL3, k3⟩
  have HL3 := Lib.hid (show Loom E w3 ⟨l, g, m, b, [0], [none, none], 0⟩ from hL3)
  have q3 := HQ2.out.keeps k3 (by simp)
  have HS : Hid (∀ W, Held E w3 W → W.cell? ⟨B, 0, none⟩ = some (.int .i64 0)) := Lib.hid (fun W hk => by
    have c := hk.cell (p := ⟨B, 0, none⟩) HE.out.2.1
    have c0 := q3.cells 0
    simp at c0
    exact c.trans c0)
  have HBe : Hid (∀ W, Held E w3 W → Below B w W) := Lib.hid (fun W hk => (HB2.out.trans (k3.below (by omega) (by simp))).trans (hk.narrow HE.out.1).below)
  have c0 := HS.out w3 (Held.refl _ _)
  clear hL3 k3 HM2 HB1 HB2 HQ1 HQ2 q3
  have HH3 := Lib.hid (Held.refl E w3)
  go_wp2_with fail
  refine (pkPrepare_made 0 0 (by decide) (by decide) w3).mono ?_
  rintro e w4 ⟨m0, S3, rfl, hI, k4, hS⟩
  have D := start_at E (⟨l, g, m, b, [0], [none, none], 0⟩ : LSt) 0 none (pkStrand m0 (pkNew 0 1 0)) S3 w3 w4 HL3.out k4 rfl rfl hI hS
  have HK := Lib.hid (HH3.out.trans (k4.held (HL3.out.dom) (by simp)))
  have hgE : ¬ E g := HL3.out.base.2.1
  have hdm : ∀ k, E k → k < w4.heap.size := fun k hk => Nat.lt_of_lt_of_le (HL3.out.dom k hk) k4.size
  clear hI k4 hS HL3 HH3
  go_wp2_with fail
  refine D.mono ?_
  clear D
  rintro e w5 ⟨rfl, hL, k5⟩
  have HL5 := Lib.hid (show Loom E w5 (⟨l, g, m, b, [0], [some (pkStrand m0 (pkNew 0 1 0)), none], 0⟩ : LSt) from hL)
  have HH5 := Lib.hid (HK.out.trans (k5.held hdm (by intro k hk; simp at hk; subst hk; exact hgE)))
  have c0 := HS.out w5 HH5.out
  clear hL k5 HK hgE hdm
  go_wp2_with fail
  refine (pex1.alone (R := pkRuns m0) E (⟨l, g, m, b, [0], [some (pkStrand m0 (pkNew 0 1 0)), none], 0⟩ : LSt) 0 9 ⟨0, 0, []⟩ w5 HL5.out rfl rfl (by decide) (by decide) (by decide) (Nat.le_of_ble_eq_true rfl) rfl rfl).mono ?_
  rintro e w6 ⟨rfl, hL, hh⟩
  have HL6 := Lib.hid (show Loom E w6 (⟨l, g, m, b, [1], [some (pkStrand m0 pexP), none], 1⟩ : LSt) from hL)
  have HH6 := Lib.hid (HH5.out.trans hh)
  have c0 := HS.out w6 HH6.out
  clear hL hh HL5 HH5
  go_wp2_with fail
  refine (pkResult E (⟨l, g, m, b, [1], [some (pkStrand m0 pexP), none], 1⟩ : LSt) 0 m0 pexP 0 0 w6 HL6.out rfl rfl).mono ?_
  rintro e w7 ⟨qa, ca, rfl, k6⟩
  have HL7 := Lib.hid (HL6.out.keeps k6)
  have HH7 := Lib.hid (HH6.out.trans (k6.held (HL6.out.dom) (by simp)))
  have c0 := HS.out w7 HH7.out
  have k6 := k6
  clear k6 HL6 HH6
  obtain ⟨za, hza⟩ : ∃ z, w7.heap.size = z := ⟨_, rfl⟩
  obtain ⟨w8, hW8⟩ : ∃ W, w7.alloc (.cells #[.int .i64 0, .int .u64 0, .slice qa 0 ca] 55) = W := ⟨_, rfl⟩
  have k15 : Keeps [] w7 w8 := by rw [← hW8]; exact (Keeps.refl _ _).alloc _
  have HRa := Lib.hid (show Row w8 za 55 [.int .i64 0, .int .u64 0, .slice qa 0 ca] by rw [← hW8, ← hza]; exact Row.new _ _ _)
  have HL8 := Lib.hid (HL7.out.keeps k15)
  have HH8 := Lib.hid (HH7.out.trans (k15.held (HL7.out.dom) (by simp)))
  have HRKa : Hid (∀ W, Keeps [] w8 W → W.cell? ⟨za, 1, none⟩ = some (.int .u64 0)) := Lib.hid (fun W hk => (HRa.out.keeps hk (by simp)).cell (j := 1) rfl)
  have c0 := HS.out w8 HH8.out
  obtain ⟨E2, hE2⟩ : ∃ E2 : Nat → Prop, (fun x => E x ∨ x = za) = E2 := ⟨_, rfl⟩
  have HE2 : Hid ((∀ k, E k → E2 k) ∧ E2 za ∧ ∀ k, E2 k → E k ∨ k = za) := Lib.hid (by rw [← hE2]; exact ⟨fun k hk => .inl hk, .inr rfl, fun k hk => hk⟩)
  have HL9 := Lib.hid (HL7.out.widen (E := E2) k15 (fun k hk => by
    rcases HE2.out.2.2 k hk with h | h
    · exact .inl h
    · subst h; exact .inr ⟨by omega, HRa.out.lt⟩))
  have HB8 : Hid (∀ W, Held E2 w8 W → Below B w W) := Lib.hid (fun W hk => HBe.out W (HH8.out.trans (hk.narrow HE2.out.1)))
  have HS8 : Hid (∀ W, Held E2 w8 W → W.cell? ⟨B, 0, none⟩ = some (.int .i64 0)) := Lib.hid (fun W hk => HS.out W (HH8.out.trans (hk.narrow HE2.out.1)))
  have HA8 : Hid (∀ W, Held E2 w8 W → W.cell? ⟨za, 1, none⟩ = some (.int .u64 0)) := Lib.hid (fun W hk => (hk.cell (p := ⟨za, 1, none⟩) HE2.out.2.1).trans (HRa.out.cell (j := 1) rfl))
  have HH9 := Lib.hid (Held.refl E2 w8)
  clear hE2 HL8 HH8 HS HBe
  clear k15 HL7 HH7
  have HL8 := HL9
  have HH8 := HH9
  have HS := HS8
  clear HL9 HH9 HS8
  go_wp2_with fail
  refine (pkWait_made 0 0 (by decide) (by decide) w8).mono ?_
  rintro e w9 ⟨mw, S8, rfl, hI, k4, hS⟩
  have D := start_at E2 (⟨l, g, m, b, [1], [some (pkStrand m0 pexP), none], 1⟩ : LSt) 0 _ (pkStrand mw (pkNew 0 3 0)) S8 w8 w9 HL8.out k4 rfl rfl hI hS
  have HK := Lib.hid (HH8.out.trans (k4.held (HL8.out.dom) (by simp)))
  have hgE : ¬ E2 g := HL8.out.base.2.1
  have hdm : ∀ k, E2 k → k < w9.heap.size := fun k hk => Nat.lt_of_lt_of_le (HL8.out.dom k hk) k4.size
  clear hI k4 hS HL8 HH8
  go_wp2_with fail
  refine D.mono ?_
  clear D
  rintro e w10 ⟨rfl, hL, k5⟩
  have HL10 := Lib.hid (show Loom E2 w10 (⟨l, g, m, b, [1], [some (pkStrand mw (pkNew 0 3 0)), none], 1⟩ : LSt) from hL)
  have HH10 := Lib.hid (HK.out.trans (k5.held hdm (by intro k hk; simp at hk; subst hk; exact hgE)))
  have c0 := HS.out w10 HH10.out
  clear hL k5 HK hgE hdm
  go_wp2_with fail
  refine (pex2.parked (R := pkRuns mw) E2 (⟨l, g, m, b, [1], [some (pkStrand mw (pkNew 0 3 0)), none], 1⟩ : LSt) 0 9 ⟨7, 0, 1, 0⟩ w10 HL10.out rfl rfl (by decide) (by decide) (Nat.le_of_ble_eq_true rfl) rfl pexAcc rfl rfl).mono ?_
  rintro e w11 ⟨rfl, hL, hh⟩
  have HL11 := Lib.hid (show Loom E2 w11 (⟨l, g, m, b, [1], [some (pkStrand mw pexW), none], 2⟩ : LSt) from hL)
  have HH11 := Lib.hid (HH10.out.trans hh)
  have c0 := HS.out w11 HH11.out
  clear hL hh HL10 HH10
  have a1 := HA8.out w11 HH11.out
  go_wp2_with fail
  refine (parked_some E2 (⟨l, g, m, b, [1], [some (pkStrand mw pexW), none], 2⟩ : LSt) 0 _ ⟨7, 0, 1, 0⟩ w11 HL11.out rfl rfl pexAcc).mono ?_
  rw [show parks [1] ⟨7, 0, 1, 0⟩ = true from rfl]
  rintro e w12 ⟨rfl, hL, k5⟩
  have HL12 := Lib.hid hL
  have HH12 := Lib.hid (HH11.out.trans (k5.held HL11.out.dom (by intro k hk; simp at hk; subst hk; exact HL11.out.base.2.2)))
  have c0 := HS.out w12 HH12.out
  clear hL k5 HL11 HH11
  go_wp2_with fail
  refine (pkCall_made 0 0 (by decide) (by decide) w12).mono ?_
  rintro e w13 ⟨mc, S12, rfl, hI, k4, hS⟩
  have D := start_at E2 (⟨l, g, m, b, [1], [some (pkStrand mw pexW), none], 2⟩ : LSt) 1 none (pkStrand mc (pkNew 0 4 0)) S12 w12 w13 HL12.out k4 rfl rfl hI hS
  have HK := Lib.hid (HH12.out.trans (k4.held (HL12.out.dom) (by simp)))
  have hgE : ¬ E2 g := HL12.out.base.2.1
  have hdm : ∀ k, E2 k → k < w13.heap.size := fun k hk => Nat.lt_of_lt_of_le (HL12.out.dom k hk) k4.size
  clear hI k4 hS HL12 HH12
  go_wp2_with fail
  refine D.mono ?_
  clear D
  rintro e w14 ⟨rfl, hL, k5⟩
  have HL14 := Lib.hid (show Loom E2 w14 (⟨l, g, m, b, [1], [some (pkStrand mw pexW), some (pkStrand mc (pkNew 0 4 0))], 2⟩ : LSt) from hL)
  have HH14 := Lib.hid (HK.out.trans (k5.held hdm (by intro k hk; simp at hk; subst hk; exact hgE)))
  have c0 := HS.out w14 HH14.out
  clear hL k5 HK hgE hdm
  go_wp2_with fail
  refine (pex3.alone (R := pkRuns mc) E2 (⟨l, g, m, b, [1], [some (pkStrand mw pexW), some (pkStrand mc (pkNew 0 4 0))], 2⟩ : LSt) 1 9 ⟨0, 1, []⟩ w14 HL14.out rfl rfl (by decide) (by decide) (by decide) (Nat.le_of_ble_eq_true rfl) rfl rfl).mono ?_
  rintro e w15 ⟨rfl, hL, hh⟩
  have HL15 := Lib.hid (show Loom E2 w15 (⟨l, g, m, b, [4294967297], [some (pkStrand mw pexW), some (pkStrand mc pexC)], 3⟩ : LSt) from hL)
  have HH15 := Lib.hid (HH14.out.trans hh)
  have c0 := HS.out w15 HH15.out
  clear hL hh HL14 HH14
  go_wp2_with fail
  refine (pex4.alone (R := pkRuns mw) E2 (⟨l, g, m, b, [4294967297], [some (pkStrand mw pexW), some (pkStrand mc pexC)], 3⟩ : LSt) 0 9 ⟨0, 1, []⟩ w15 HL15.out rfl rfl (by decide) (by decide) (by decide) (Nat.le_of_ble_eq_true rfl) rfl rfl).mono ?_
  rintro e w16 ⟨rfl, hL, hh⟩
  have HL16 := Lib.hid (show Loom E2 w16 (⟨l, g, m, b, [4294967296], [some (pkStrand mw pexE), some (pkStrand mc pexC)], 6⟩ : LSt) from hL)
  have HH16 := Lib.hid (HH15.out.trans hh)
  have c0 := HS.out w16 HH16.out
  clear hL hh HL15 HH15
  go_wp2_with fail
  refine (pkResult E2 (⟨l, g, m, b, [4294967296], [some (pkStrand mw pexE), some (pkStrand mc pexC)], 6⟩ : LSt) 1 mc pexC 0 1 w16 HL16.out rfl rfl).mono ?_
  rintro e w17 ⟨qb, cb, rfl, k6⟩
  have HL17 := Lib.hid (HL16.out.keeps k6)
  have HH17 := Lib.hid (HH16.out.trans (k6.held (HL16.out.dom) (by simp)))
  have c0 := HS.out w17 HH17.out
  have k16 := k6
  clear k6 HL16 HH16
  obtain ⟨zb, hzb⟩ : ∃ z, w17.heap.size = z := ⟨_, rfl⟩
  obtain ⟨w18, hW18⟩ : ∃ W, w17.alloc (.cells #[.int .i64 0, .int .u64 1, .slice qb 0 cb] 55) = W := ⟨_, rfl⟩
  have k15 : Keeps [] w17 w18 := by rw [← hW18]; exact (Keeps.refl _ _).alloc _
  have HRb := Lib.hid (show Row w18 zb 55 [.int .i64 0, .int .u64 1, .slice qb 0 cb] by rw [← hW18, ← hzb]; exact Row.new _ _ _)
  have HL18 := Lib.hid (HL17.out.keeps k15)
  have HH18 := Lib.hid (HH17.out.trans (k15.held (HL17.out.dom) (by simp)))
  have HRKb : Hid (∀ W, Keeps [] w18 W → W.cell? ⟨zb, 1, none⟩ = some (.int .u64 1)) := Lib.hid (fun W hk => (HRb.out.keeps hk (by simp)).cell (j := 1) rfl)
  have c0 := HS.out w18 HH18.out
  clear k15 HL17 HH17
  go_wp2_with fail
  refine (pkResult E2 (⟨l, g, m, b, [4294967296], [some (pkStrand mw pexE), some (pkStrand mc pexC)], 6⟩ : LSt) 0 mw pexE 0 1 w18 HL18.out rfl rfl).mono ?_
  rintro e w19 ⟨qc, cc, rfl, k6⟩
  have HL19 := Lib.hid (HL18.out.keeps k6)
  have HH19 := Lib.hid (HH18.out.trans (k6.held (HL18.out.dom) (by simp)))
  have c0 := HS.out w19 HH19.out
  have k18 := k6
  clear k6 HL18 HH18
  obtain ⟨zc, hzc⟩ : ∃ z, w19.heap.size = z := ⟨_, rfl⟩
  obtain ⟨w20, hW20⟩ : ∃ W, w19.alloc (.cells #[.int .i64 0, .int .u64 1, .slice qc 0 cc] 55) = W := ⟨_, rfl⟩
  have k15 : Keeps [] w19 w20 := by rw [← hW20]; exact (Keeps.refl _ _).alloc _
  have HRc := Lib.hid (show Row w20 zc 55 [.int .i64 0, .int .u64 1, .slice qc 0 cc] by rw [← hW20, ← hzc]; exact Row.new _ _ _)
  have HL20 := Lib.hid (HL19.out.keeps k15)
  have HH20 := Lib.hid (HH19.out.trans (k15.held (HL19.out.dom) (by simp)))
  have HRKc : Hid (∀ W, Keeps [] w20 W → W.cell? ⟨zc, 1, none⟩ = some (.int .u64 1)) := Lib.hid (fun W hk => (HRc.out.keeps hk (by simp)).cell (j := 1) rfl)
  have c0 := HS.out w20 HH20.out
  have d1 := HRKc.out w20 (Keeps.refl _ _)
  have d2 := HRKb.out w20 (k18.trans k15)
  clear k15 HL19 HH19
  go_wp2
  go_ret
  exact ⟨rfl, HB8.out _ HH20.out⟩
end Go.Proofs.Ytgononhihpkagaa
