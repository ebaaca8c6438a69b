/-
  The chapter's example of layer 5.
-/
import Derived.Test.YtplmmflpodpbmaaLoom5
import Derived.Test.YtplmmflpodpbmaaMem3
import Derived.Test.YtplmmflpodpbmaaLook
import Derived.ChangeSame
import Derived.ChangeArms
namespace Go.Proofs.Ytplmmflpodpbmaa
open Go.ChangeShapes Go.WideShapes Go.ChangeAt Go.RowKit

/-- A walk of Until, and one of Plain. -/
def untilStrand (m : Nat) (x : C.Acc) (got : Option Int) : Strand := ⟨UntilS, untilM, LoneI untilM (untilE m) m, m, untilRuns m, ⟨x, got, []⟩⟩
def plainStrand (m : Nat) (xs : List C.Acc) (told : List Int) : Strand := ⟨PlainS, plainM, LoneI plainM (plainE m) m, m, plainRuns m, ⟨xs, told, []⟩⟩
theorem untilStrand_go (m : Nat) (x : C.Acc) (v : Int) (won : Bool) : (untilStrand m x none).go v won = untilStrand m x (if won then some v else none) := by
  cases won <;> rfl
theorem plainStrand_go (m : Nat) (xs : List C.Acc) (told : List Int) (v : Int) (won : Bool) (h : told.length < xs.length) : (plainStrand m xs told).go v won = plainStrand m xs (told ++ [v]) := by
  simp [plainStrand, Strand.go, plainM, h]
theorem untilStrand_want (m : Nat) (x : C.Acc) (got : Option Int) : (untilStrand m x got).want = if got.isSome then none else some x := rfl
theorem plainStrand_want (m : Nat) (xs : List C.Acc) (told : List Int) : (plainStrand m xs told).want = xs[told.length]? := rfl

set_option maxRecDepth 100000 in
set_option maxHeartbeats 3200000 in
theorem awake5 (w : World) :
    Calls Try.prog 6 #[] w fun e w' => e = .returned (.bool true) ∧ Below w.heap.size w w' := by
  obtain ⟨B, hB⟩ : ∃ B, w.heap.size = B := ⟨_, rfl⟩
  have CN := new_any 1 w (by omega) (by omega)
  have HX : Hid ((⟨3, 0, 0, 1⟩ : C.Acc).ok) := Lib.hid ⟨⟨by decide, by decide⟩, ⟨by decide, by decide⟩⟩
  rw [hB]
  go_enter Try.func6, Try.ntmps6
  go_wp2_with fail
  refine CN.mono ?_
  clear CN
  rintro e w1 ⟨m, b, rfl, hM, k1, hm, hb⟩
  have LN := loomNew_any B 2 m b [0] w1 hM (by omega) (by omega) (by have := k1.size; omega) (by omega)
  have HK1 := Lib.hid k1
  clear hM k1 hm hb
  go_wp2_with fail
  refine LN.mono ?_
  clear LN
  rintro e w2 ⟨l, g, rfl, hL, k2⟩
  have HL2 := Lib.hid (show Loom B w2 ⟨l, g, m, b, [0], [none, none], 0⟩ from hL)
  have HK2 := Lib.hid (HK1.out.trans k2)
  clear hL k2 HK1
  go_wp2_with fail
  generalize hW : World.alloc _ _ = W3
  have r3 : Row W3 w2.heap.size 35 [.int .i64 3, .int .i64 0, .int .u64 0, .int .u64 1] := by rw [← hW]; exact Row.new _ _ _
  have k3 : Keeps [] w2 W3 := by rw [← hW]; exact (Keeps.refl _ _).alloc _
  have hgl2 := HL2.out.lts.2.1
  have HL3 := Lib.hid (HL2.out.keeps k3)
  have HK3 := Lib.hid (HK2.out.trans k3)
  have HR3 := Lib.hid r3
  clear hW r3 k3 HL2 HK2
  refine (wUntil ⟨3, 0, 0, 1⟩ W3).mono ?_
  rintro e w4 ⟨m0, S0, rfl, hI, k4, hS⟩
  have D := start_at B _ 0 none (untilStrand m0 ⟨3, 0, 0, 1⟩ none) S0 W3 w4 HL3.out k4 rfl rfl hI hS
  have HK4 := Lib.hid (HK3.out.trans k4)
  have HR4 := Lib.hid (HR3.out.keeps k4 (by simp))
  clear hI k4 hS HK3 HR3
  go_wp2_with fail
  refine D.mono ?_
  clear D
  rintro e w5 ⟨rfl, hL, k5⟩
  have hgb := hL.base.2.1
  have hgl := HL3.out.lts
  have hrl := HR4.out.lt
  have HL5 := Lib.hid (show Loom B w5 ⟨l, g, m, b, [0], [some (untilStrand m0 ⟨3, 0, 0, 1⟩ none), none], 0⟩ from hL)
  have HK5 := Lib.hid (HK4.out.step k5 (fun k hk => by simp at hk; have : B ≤ g := hgb; omega))
  have HR5 := Lib.hid (HR4.out.keeps k5 (fun h => by simp at h; have : g < w2.heap.size := hgl2; omega))
  have b0 := HR5.out.cell (j := 0) rfl
  have b1 := HR5.out.cell (j := 1) rfl
  have b2 := HR5.out.cell (j := 2) rfl
  have b3 := HR5.out.cell (j := 3) rfl
  clear hL k5 HL3 HK4 HR4
  go_wp2_with fail
  refine (wUntil ⟨3, 0, 0, 1⟩ w5).mono ?_
  rintro e w6 ⟨m1, S1, rfl, hI, k6, hS⟩
  have D := start_at B _ 1 none (untilStrand m1 ⟨3, 0, 0, 1⟩ none) S1 w5 w6 HL5.out k6 rfl rfl hI hS
  have HK6 := Lib.hid (HK5.out.trans k6)
  clear hI k6 hS HK5 HR5 b0 b1 b2 b3
  go_wp2_with fail
  refine D.mono ?_
  clear D
  rintro e w7 ⟨rfl, hL, k7⟩
  have HL7 := Lib.hid (show Loom B w7 ⟨l, g, m, b, [0], [some (untilStrand m0 ⟨3, 0, 0, 1⟩ none), some (untilStrand m1 ⟨3, 0, 0, 1⟩ none)], 0⟩ from hL)
  have HK7 := Lib.hid (HK6.out.step k7 (fun k hk => by simp at hk; have : B ≤ g := hgb; omega))
  clear hL k7 HL5 HK6
  go_wp2_with fail
  refine (pick_fine B _ 1 _ ⟨3, 0, 0, 1⟩ w7 HL7.out rfl rfl HX.out rfl rfl (by simp)).mono ?_
  rintro e w8 ⟨rfl, hL, hb8⟩
  have HL8 := Lib.hid (show Loom B w8 ⟨l, g, m, b, [1], [some (untilStrand m0 ⟨3, 0, 0, 1⟩ none), some (untilStrand m1 ⟨3, 0, 0, 1⟩ (some 0))], 1⟩ from hL)
  have HB8 := Lib.hid ((HK7.out.below (B := B) (by omega) (by simp)).trans hb8)
  clear hL hb8 HL7 HK7
  go_wp2_with fail
  refine (pick_fine B _ 0 _ ⟨3, 0, 0, 1⟩ w8 HL8.out rfl rfl HX.out rfl rfl (by simp)).mono ?_
  rintro e w9 ⟨rfl, hL, hb9⟩
  have HL9 := Lib.hid (show Loom B w9 ⟨l, g, m, b, [1], [some (untilStrand m0 ⟨3, 0, 0, 1⟩ none), some (untilStrand m1 ⟨3, 0, 0, 1⟩ (some 0))], 2⟩ from hL)
  have HB9 := Lib.hid (HB8.out.trans hb9)
  clear hL hb9 HL8 HB8
  go_wp2_with fail
  refine (loomResult_at B _ 0 _ w9 HL9.out rfl).mono ?_
  rintro e w10 ⟨l0, rfl, ho, k10⟩
  obtain ⟨q0, c0, rfl⟩ := (Sl.of_owns ho).len
  have HL10 := Lib.hid (HL9.out.keeps k10)
  have HB10 := Lib.hid (HB9.out.trans (k10.below (by have := HB9.out.size; omega) (by simp)))
  clear ho k10 HL9 HB9
  go_wp2_with fail
  generalize hW : World.alloc _ _ = W11
  have k11 : Keeps [] w10 W11 := by rw [← hW]; exact (Keeps.refl _ _).alloc _
  have HL11 := Lib.hid (HL10.out.keeps k11)
  have HB11 := Lib.hid (HB10.out.trans (k11.below (by have := HB10.out.size; omega) (by simp)))
  clear hW k11 HL10 HB10
  refine (loomResult_at B _ 1 _ W11 HL11.out rfl).mono ?_
  rintro e w12 ⟨l1, rfl, ho, k12⟩
  obtain ⟨q1, c1, rfl⟩ := (Sl.of_owns ho).len
  have HL12 := Lib.hid (HL11.out.keeps k12)
  have HB12 := Lib.hid (HB11.out.trans (k12.below (by have := HB11.out.size; omega) (by simp)))
  clear ho k12 HL11 HB11
  go_wp2_with fail
  generalize hW : World.alloc _ _ = W13
  have k13 : Keeps [] w12 W13 := by rw [← hW]; exact (Keeps.refl _ _).alloc _
  have HL13 := Lib.hid (HL12.out.keeps k13)
  have HB13 := Lib.hid (HB12.out.trans (k13.below (by have := HB12.out.size; omega) (by simp)))
  clear hW k13 HL12 HB12
  have D := busy_at B _ 0 _ W13 HL13.out rfl
  refine D.mono ?_
  rintro e w14 ⟨rfl, k14⟩
  have HL14 := Lib.hid (HL13.out.keeps k14)
  have HB14 := Lib.hid (HB13.out.trans (k14.below (by have := HB13.out.size; omega) (by simp)))
  clear k14 HL13 HB13 D
  go_wp2_with fail
  refine (steps_any B _ w14 HL14.out).mono ?_
  rintro e w15 ⟨rfl, rfl⟩
  go_wp2
  go_ret
  exact ⟨rfl, HB14.out⟩
end Go.Proofs.Ytplmmflpodpbmaa
