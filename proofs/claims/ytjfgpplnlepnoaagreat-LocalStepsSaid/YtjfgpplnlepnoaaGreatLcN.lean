import Derived.Test.YtjfgpplnlepnoaaGreatLcQ
import Derived.Test.YtjfgpplnlepnoaaGreatDqP
import Derived.Test.YtjfgpplnlepnoaaGreatRgS
/-
  A local row's face: what stands behind it; Right.
-/
namespace Go.Proofs.YtjfgpplnlepnoaaGreat
set_option maxRecDepth 100000
set_option linter.unusedSimpArgs false
set_option linter.unusedVariables false
open Go.ChangeShapes Go.WideShapes Go.ChangeAt Go.RowKit

/-- What stands behind the face. -/
def lcFace (kind at_ size : Int) : Value :=
  if kind = 0 then .iface 75 (.agg #[.int .i64 at_, .int .i64 size]) else if kind = 1 then .iface 77 (.agg #[.int .i64 at_, .int .i64 size]) else .iface 128 (.agg #[])
theorem lcBehind_any (kind at_ size : Int) (w : World) :
    Calls Tryz.prog 29 #[.agg #[.int .i64 kind, .int .i64 at_, .int .i64 size]] w fun e w' => e = .returned (lcFace kind at_ size) ∧ Keeps [] w w' := by
  by_cases h0 : kind = 0
  · subst h0
    have HF : Hid (lcFace 0 at_ size = .iface 75 (.agg #[.int .i64 at_, .int .i64 size])) := Lib.hid rfl
    rw [HF.out]
    go_enter Tryz.func29, Tryz.ntmps29
    go_wp2
    go_ret
    exact ⟨rfl, by repeat (first | exact Keeps.refl _ _ | refine Keeps.drewN ?_ | refine Keeps.alloc ?_ _ | refine Keeps.drew ?_)⟩
  · by_cases h1 : kind = 1
    · subst h1
      have HF : Hid (lcFace 1 at_ size = .iface 77 (.agg #[.int .i64 at_, .int .i64 size])) := Lib.hid rfl
      rw [HF.out]
      go_enter Tryz.func29, Tryz.ntmps29
      go_wp2
      go_ret
      exact ⟨rfl, by repeat (first | exact Keeps.refl _ _ | refine Keeps.drewN ?_ | refine Keeps.alloc ?_ _ | refine Keeps.drew ?_)⟩
    · have HF : Hid (lcFace kind at_ size = .iface 128 (.agg #[])) := Lib.hid (by simp [lcFace, h0, h1])
      rw [HF.out]
      have e0 : (kind == 0) = false := by simpa using h0
      have e1 : (kind == 1) = false := by simpa using h1
      go_enter Tryz.func29, Tryz.ntmps29
      go_wp2
      go_ret
      exact ⟨rfl, by repeat (first | exact Keeps.refl _ _ | refine Keeps.drewN ?_ | refine Keeps.alloc ?_ _ | refine Keeps.drew ?_)⟩

/-- Which method a call through the face comes to. -/
theorem lcMRight_dq (at_ size : Int) (w : World) : (method 344 75 (.agg #[.int .i64 at_, .int .i64 size]) "Right").run Tryz.prog w = .ok (125, .agg #[.int .i64 at_, .int .i64 size]) w := by kernel_rfl
theorem lcMRight_rg (at_ size : Int) (w : World) : (method 344 77 (.agg #[.int .i64 at_, .int .i64 size]) "Right").run Tryz.prog w = .ok (129, .agg #[.int .i64 at_, .int .i64 size]) w := by kernel_rfl
theorem lcMRight_no (w : World) : (method 344 128 (.agg #[]) "Right").run Tryz.prog w = .ok (302, .agg #[]) w := by kernel_rfl
theorem lcMPush_dq (at_ size : Int) (w : World) : (method 344 75 (.agg #[.int .i64 at_, .int .i64 size]) "Push").run Tryz.prog w = .ok (262, .agg #[.int .i64 at_, .int .i64 size]) w := by kernel_rfl
theorem lcMPush_rg (at_ size : Int) (w : World) : (method 344 77 (.agg #[.int .i64 at_, .int .i64 size]) "Push").run Tryz.prog w = .ok (286, .agg #[.int .i64 at_, .int .i64 size]) w := by kernel_rfl
theorem lcMPush_no (w : World) : (method 344 128 (.agg #[]) "Push").run Tryz.prog w = .ok (301, .agg #[]) w := by kernel_rfl
theorem lcMPop_dq (at_ size : Int) (w : World) : (method 344 75 (.agg #[.int .i64 at_, .int .i64 size]) "Pop").run Tryz.prog w = .ok (261, .agg #[.int .i64 at_, .int .i64 size]) w := by kernel_rfl
theorem lcMPop_rg (at_ size : Int) (w : World) : (method 344 77 (.agg #[.int .i64 at_, .int .i64 size]) "Pop").run Tryz.prog w = .ok (285, .agg #[.int .i64 at_, .int .i64 size]) w := by kernel_rfl
theorem lcMPop_no (w : World) : (method 344 128 (.agg #[]) "Pop").run Tryz.prog w = .ok (300, .agg #[]) w := by kernel_rfl
theorem lcNoRight (w : World) : Calls Tryz.prog 302 #[.agg #[]] w fun e w' => e = .returned (.bool false) ∧ Keeps [] w w' := by
  go_enter Tryz.func302, Tryz.ntmps302
  go_wp2
  go_ret
  exact ⟨rfl, by repeat (first | exact Keeps.refl _ _ | refine Keeps.drewN ?_ | refine Keeps.alloc ?_ _ | refine Keeps.drew ?_)⟩
def lkNoS : LkS := lkNew 0 0 0 false
theorem lcNoPop (w : World) : Calls Tryz.prog 300 #[.agg #[]] w (lkMade w lkNoS) := by
  have HN := Lib.hid (fun W => lkRefusal_made lkNoS rfl W)
  go_enter Tryz.func300, Tryz.ntmps300
  go_wp2_with fail
  refine (HN.out _).mono ?_
  rintro e w4 ⟨m, S, rfl, hI, k4, hS⟩
  have hm : lkMade w lkNoS (.returned (.pointer (some ⟨m, 0, none⟩))) w4 := lkMade.from ⟨m, S, rfl, hI, k4, hS⟩ (by repeat (first | exact Keeps.refl _ _ | refine Keeps.drewN ?_ | refine Keeps.alloc ?_ _ | refine Keeps.drew ?_))
  have HP := Lib.hid hm
  clear hI k4 hS hm
  go_wp2
  go_ret
  exact HP.out
theorem lcNoPush (v : Int) (w : World) : Calls Tryz.prog 301 #[.agg #[], .int .u64 v] w (lkMade w lkNoS) := by
  have HN := Lib.hid (fun W => lkRefusal_made lkNoS rfl W)
  go_enter Tryz.func301, Tryz.ntmps301
  go_wp2_with fail
  refine (HN.out _).mono ?_
  rintro e w4 ⟨m, S, rfl, hI, k4, hS⟩
  have hm : lkMade w lkNoS (.returned (.pointer (some ⟨m, 0, none⟩))) w4 := lkMade.from ⟨m, S, rfl, hI, k4, hS⟩ (by repeat (first | exact Keeps.refl _ _ | refine Keeps.drewN ?_ | refine Keeps.alloc ?_ _ | refine Keeps.drew ?_))
  have HP := Lib.hid hm
  clear hI k4 hS hm
  go_wp2
  go_ret
  exact HP.out
set_option maxHeartbeats 1600000 in
theorem lcRight_any (kind at_ size : Int) (w : World) (hs : -9223372036854775808 ≤ size) :
    Calls Tryz.prog 7 #[.agg #[.int .i64 kind, .int .i64 at_, .int .i64 size]] w fun e w' => e = .returned (.bool (decide (lcRight kind at_ size))) ∧ Keeps [] w w' := by
  have HB := Lib.hid (fun W => lcBehind_any kind at_ size W)
  by_cases h0 : kind = 0
  · subst h0
    have HF : Hid (lcFace 0 at_ size = .iface 75 (.agg #[.int .i64 at_, .int .i64 size])) := Lib.hid (by first | rfl | simp [lcFace, h0, h1])
    rw [HF.out] at HB
    have HD : Hid (decide (lcRight 0 at_ size) = decide (dqRight at_ size)) := Lib.hid (by simp [lcRight])
    rw [HD.out]
    have HR := Lib.hid (fun W => dqRight_any at_ size W hs)
    have hm := lcMRight_dq at_ size
    clear hs
    go_enter Tryz.func7, Tryz.ntmps7
    go_wp2_with fail
    refine (HB.out _).mono ?_
    rintro e w1 ⟨rfl, k1⟩
    have HK : Hid (Keeps [] w w1) := Lib.hid (((Keeps.refl [] w).alloc _).trans (by first | exact k1 | exact k1.undrew))
    clear k1
    go_wp2_with fail
    refine (HR.out _).mono ?_
    rintro e w2 ⟨rfl, k2⟩
    have HK2 : Hid (Keeps [] w w2) := Lib.hid (HK.out.trans (by first | exact k2 | exact k2.undrew))
    clear k2
    go_wp2
    go_ret
    exact ⟨rfl, HK2.out⟩
  by_cases h1 : kind = 1
  · subst h1
    clear h0
    have HF : Hid (lcFace 1 at_ size = .iface 77 (.agg #[.int .i64 at_, .int .i64 size])) := Lib.hid (by first | rfl | simp [lcFace, h0, h1])
    rw [HF.out] at HB
    have HD : Hid (decide (lcRight 1 at_ size) = decide (dqRight at_ size)) := Lib.hid (by simp [lcRight])
    rw [HD.out]
    have HR := Lib.hid (fun W => rgRight_any at_ size W hs)
    have hm := lcMRight_rg at_ size
    clear hs
    go_enter Tryz.func7, Tryz.ntmps7
    go_wp2_with fail
    refine (HB.out _).mono ?_
    rintro e w1 ⟨rfl, k1⟩
    have HK : Hid (Keeps [] w w1) := Lib.hid (((Keeps.refl [] w).alloc _).trans (by first | exact k1 | exact k1.undrew))
    clear k1
    go_wp2_with fail
    refine (HR.out _).mono ?_
    rintro e w2 ⟨rfl, k2⟩
    have HK2 : Hid (Keeps [] w w2) := Lib.hid (HK.out.trans (by first | exact k2 | exact k2.undrew))
    clear k2
    go_wp2
    go_ret
    exact ⟨rfl, HK2.out⟩
  · have HF : Hid (lcFace kind at_ size = .iface 128 (.agg #[])) := Lib.hid (by first | rfl | simp [lcFace, h0, h1])
    rw [HF.out] at HB
    have HD : Hid (decide (lcRight kind at_ size) = false) := Lib.hid (by simp [lcRight, h0, h1])
    rw [HD.out]
    have HR := Lib.hid (fun W => lcNoRight W)
    have hm := lcMRight_no
    clear hs
    go_enter Tryz.func7, Tryz.ntmps7
    go_wp2_with fail
    refine (HB.out _).mono ?_
    rintro e w1 ⟨rfl, k1⟩
    have HK : Hid (Keeps [] w w1) := Lib.hid (((Keeps.refl [] w).alloc _).trans (by first | exact k1 | exact k1.undrew))
    clear k1
    go_wp2_with fail
    refine (HR.out _).mono ?_
    rintro e w2 ⟨rfl, k2⟩
    have HK2 : Hid (Keeps [] w w2) := Lib.hid (HK.out.trans (by first | exact k2 | exact k2.undrew))
    clear k2
    go_wp2
    go_ret
    exact ⟨rfl, HK2.out⟩
end Go.Proofs.YtjfgpplnlepnoaaGreat

/-
  A local row's walks: what they go as, and how they are made.
-/
namespace Go.Proofs.YtjfgpplnlepnoaaGreat
set_option maxRecDepth 100000
set_option linter.unusedSimpArgs false
set_option linter.unusedVariables false
open Go.ChangeShapes Go.WideShapes Go.ChangeAt Go.RowKit

/-- Which type stands behind the face. -/
theorem lcA_dq_dq (at_ size : Int) (w : World) : (Instr.typeAssert (.iface 75 (.agg #[.int .i64 at_, .int .i64 size])) 71 75 true).run Tryz.prog w = .ok (.tuple #[.agg #[.int .i64 at_, .int .i64 size], .bool true]) w := by kernel_rfl
theorem lcA_dq_rg (at_ size : Int) (w : World) : (Instr.typeAssert (.iface 75 (.agg #[.int .i64 at_, .int .i64 size])) 71 77 true).run Tryz.prog w = .ok (.tuple #[.agg #[.int .i64 0, .int .i64 0], .bool false]) w := by kernel_rfl
theorem lcA_rg_dq (at_ size : Int) (w : World) : (Instr.typeAssert (.iface 77 (.agg #[.int .i64 at_, .int .i64 size])) 71 75 true).run Tryz.prog w = .ok (.tuple #[.agg #[.int .i64 0, .int .i64 0], .bool false]) w := by kernel_rfl
theorem lcA_rg_rg (at_ size : Int) (w : World) : (Instr.typeAssert (.iface 77 (.agg #[.int .i64 at_, .int .i64 size])) 71 77 true).run Tryz.prog w = .ok (.tuple #[.agg #[.int .i64 at_, .int .i64 size], .bool true]) w := by kernel_rfl
theorem lcA_no_dq (w : World) : (Instr.typeAssert (.iface 128 (.agg #[])) 71 75 true).run Tryz.prog w = .ok (.tuple #[.agg #[.int .i64 0, .int .i64 0], .bool false]) w := by kernel_rfl
theorem lcA_no_rg (w : World) : (Instr.typeAssert (.iface 128 (.agg #[])) 71 77 true).run Tryz.prog w = .ok (.tuple #[.agg #[.int .i64 0, .int .i64 0], .bool false]) w := by kernel_rfl
/-- At block m is a walk of a local row. -/
def lcI (m : Nat) (w : World) (S : List Nat) : LcS → Prop
  | .dq s => LoneIO dequeM (dqE m) m w S s
  | .rg s => LoneIO ringM (rgE m) m w S s
  | .lk s => LoneI lkM (lkE m) m w S s
theorem lcRuns (m : Nat) : Runs lcM (lcI m) m where
  lt := fun {w S s} h => by
    cases s with
    | dq s => exact (dqRuns m).lt h
    | rg s => exact (rgRuns m).lt h
    | lk s => exact (lkRuns m).lt h
  frame := fun {w w' S T s} h hk hT => by
    cases s with
    | dq s => exact (dqRuns m).frame h hk hT
    | rg s => exact (rgRuns m).frame h hk hT
    | lk s => exact (lkRuns m).frame h hk hT
  want := fun w S s h => by
    cases s with
    | dq s => exact (dqRuns m).want w S s h
    | rg s => exact (rgRuns m).want w S s h
    | lk s => exact (lkRuns m).want w S s h
  result := fun w S s h => by
    cases s with
    | dq s => exact (dqRuns m).result w S s h
    | rg s => exact (rgRuns m).result w S s h
    | lk s => exact (lkRuns m).result w S s h
  held := fun w S s h => by
    cases s with
    | dq s => exact (dqRuns m).held w S s h
    | rg s => exact (rgRuns m).held w S s h
    | lk s => exact (lkRuns m).held w S s h
  give := fun w S s v won h hv ha hS => by
    cases s with
    | dq s => exact (dqRuns m).give w S s v won h hv ha hS
    | rg s => exact (rgRuns m).give w S s v won h hv ha hS
    | lk s => exact (lkRuns m).give w S s v won h hv ha hS
def lcMade (w : World) (s : LcS) (e : Ending) (w' : World) : Prop := ∃ (m : Nat) (S : List Nat), e = .returned (.pointer (some ⟨m, 0, none⟩)) ∧ lcI m w' S s ∧ Keeps [] w w' ∧ ∀ k ∈ S, w.heap.size ≤ k
theorem lcMade.from {w w1 w' : World} {s : LcS} {e : Ending} (h : lcMade w1 s e w') (hk : Keeps [] w w1) : lcMade w s e w' := by
  obtain ⟨m, S, h1, h2, h3, h4⟩ := h
  exact ⟨m, S, h1, h2, hk.trans h3, fun k hk' => Nat.le_trans hk.size (h4 k hk')⟩
set_option maxHeartbeats 1600000 in
theorem lcPush_made (kind at_ size v : Int) (w : World) (hs : -9223372036854775808 ≤ size) (hv : M.U v) :
    Calls Tryz.prog 9 #[.agg #[.int .i64 kind, .int .i64 at_, .int .i64 size], .int .u64 v] w (lcMade w (lcPush kind at_ size v)) := by
  have HB := Lib.hid (fun W => lcBehind_any kind at_ size W)
  by_cases h0 : kind = 0
  · subst h0
    have HF : Hid (lcFace 0 at_ size = .iface 75 (.agg #[.int .i64 at_, .int .i64 size])) := Lib.hid (by first | rfl | simp [lcFace, h0, h1])
    rw [HF.out] at HB
    have HR : Hid (∀ W, Calls Tryz.prog 262 #[.agg #[.int .i64 at_, .int .i64 size], .int .u64 v] W (lcMade W (.dq (dqNew at_ size 1 v)))) := Lib.hid fun W => (dqPush_made at_ size v W hs hv).mono fun e w2 h => h
    have HD : Hid (lcPush 0 at_ size v = .dq (dqNew at_ size 1 v)) := Lib.hid (by first | rfl | simp [lcPush])
    rw [HD.out]
    have hm := lcMPush_dq at_ size
    clear hs hv
    go_enter Tryz.func9, Tryz.ntmps9
    go_wp2_with fail
    refine (HB.out _).mono ?_
    rintro e w1 ⟨rfl, k1⟩
    have HK : Hid (Keeps [] w w1) := Lib.hid (((Keeps.refl [] w).alloc _).trans (by first | exact k1 | exact k1.undrew))
    clear k1
    go_wp2_with fail
    refine (HR.out _).mono ?_
    rintro e w2 hm2
    have HP := Lib.hid (lcMade.from hm2 (by first | exact HK.out | exact HK.out.drew))
    obtain ⟨m2, S2, rfl, -⟩ := hm2
    go_wp2
    go_ret
    exact HP.out
  by_cases h1 : kind = 1
  · subst h1
    clear h0
    have HF : Hid (lcFace 1 at_ size = .iface 77 (.agg #[.int .i64 at_, .int .i64 size])) := Lib.hid (by first | rfl | simp [lcFace, h0, h1])
    rw [HF.out] at HB
    have HR : Hid (∀ W, Calls Tryz.prog 286 #[.agg #[.int .i64 at_, .int .i64 size], .int .u64 v] W (lcMade W (.rg (rgBegin at_ size 1 v 0 (decide (dqRight at_ size)))))) := Lib.hid fun W => (rgPush_made at_ size v W hs hv).mono fun e w2 h => h
    have HD : Hid (lcPush 1 at_ size v = .rg (rgBegin at_ size 1 v 0 (decide (dqRight at_ size)))) := Lib.hid (by first | rfl | simp [lcPush])
    rw [HD.out]
    have hm := lcMPush_rg at_ size
    clear hs hv
    go_enter Tryz.func9, Tryz.ntmps9
    go_wp2_with fail
    refine (HB.out _).mono ?_
    rintro e w1 ⟨rfl, k1⟩
    have HK : Hid (Keeps [] w w1) := Lib.hid (((Keeps.refl [] w).alloc _).trans (by first | exact k1 | exact k1.undrew))
    clear k1
    go_wp2_with fail
    refine (HR.out _).mono ?_
    rintro e w2 hm2
    have HP := Lib.hid (lcMade.from hm2 (by first | exact HK.out | exact HK.out.drew))
    obtain ⟨m2, S2, rfl, -⟩ := hm2
    go_wp2
    go_ret
    exact HP.out
  · have HF : Hid (lcFace kind at_ size = .iface 128 (.agg #[])) := Lib.hid (by first | rfl | simp [lcFace, h0, h1])
    rw [HF.out] at HB
    have HR : Hid (∀ W, Calls Tryz.prog 301 #[.agg #[], .int .u64 v] W (lcMade W (.lk lkNoS))) := Lib.hid fun W => (lcNoPush v W).mono fun e w2 h => h
    have HD : Hid (lcPush kind at_ size v = .lk lkNoS) := Lib.hid (by first | rfl | simp [lcPush, h0, h1, lcNo, lkNoS])
    rw [HD.out]
    have hm := lcMPush_no
    clear hs hv
    go_enter Tryz.func9, Tryz.ntmps9
    go_wp2_with fail
    refine (HB.out _).mono ?_
    rintro e w1 ⟨rfl, k1⟩
    have HK : Hid (Keeps [] w w1) := Lib.hid (((Keeps.refl [] w).alloc _).trans (by first | exact k1 | exact k1.undrew))
    clear k1
    go_wp2_with fail
    refine (HR.out _).mono ?_
    rintro e w2 hm2
    have HP := Lib.hid (lcMade.from hm2 (by first | exact HK.out | exact HK.out.drew))
    obtain ⟨m2, S2, rfl, -⟩ := hm2
    go_wp2
    go_ret
    exact HP.out
set_option maxHeartbeats 1600000 in
theorem lcPop_made (kind at_ size : Int) (w : World) (hs : -9223372036854775808 ≤ size) :
    Calls Tryz.prog 10 #[.agg #[.int .i64 kind, .int .i64 at_, .int .i64 size]] w (lcMade w (lcPop kind at_ size)) := by
  have HB := Lib.hid (fun W => lcBehind_any kind at_ size W)
  by_cases h0 : kind = 0
  · subst h0
    have HF : Hid (lcFace 0 at_ size = .iface 75 (.agg #[.int .i64 at_, .int .i64 size])) := Lib.hid (by first | rfl | simp [lcFace, h0, h1])
    rw [HF.out] at HB
    have HR : Hid (∀ W, Calls Tryz.prog 261 #[.agg #[.int .i64 at_, .int .i64 size]] W (lcMade W (.dq (dqNew at_ size 2 0)))) := Lib.hid fun W => (dqPop_made at_ size W hs).mono fun e w2 h => h
    have HD : Hid (lcPop 0 at_ size = .dq (dqNew at_ size 2 0)) := Lib.hid (by first | rfl | simp [lcPop])
    rw [HD.out]
    have hm := lcMPop_dq at_ size
    clear hs 
    go_enter Tryz.func10, Tryz.ntmps10
    go_wp2_with fail
    refine (HB.out _).mono ?_
    rintro e w1 ⟨rfl, k1⟩
    have HK : Hid (Keeps [] w w1) := Lib.hid (((Keeps.refl [] w).alloc _).trans (by first | exact k1 | exact k1.undrew))
    clear k1
    go_wp2_with fail
    refine (HR.out _).mono ?_
    rintro e w2 hm2
    have HP := Lib.hid (lcMade.from hm2 (by first | exact HK.out | exact HK.out.drew))
    obtain ⟨m2, S2, rfl, -⟩ := hm2
    go_wp2
    go_ret
    exact HP.out
  by_cases h1 : kind = 1
  · subst h1
    clear h0
    have HF : Hid (lcFace 1 at_ size = .iface 77 (.agg #[.int .i64 at_, .int .i64 size])) := Lib.hid (by first | rfl | simp [lcFace, h0, h1])
    rw [HF.out] at HB
    have HR : Hid (∀ W, Calls Tryz.prog 285 #[.agg #[.int .i64 at_, .int .i64 size]] W (lcMade W (.rg (rgBegin at_ size 2 0 0 (decide (dqRight at_ size)))))) := Lib.hid fun W => (rgPop_made at_ size W hs).mono fun e w2 h => h
    have HD : Hid (lcPop 1 at_ size = .rg (rgBegin at_ size 2 0 0 (decide (dqRight at_ size)))) := Lib.hid (by first | rfl | simp [lcPop])
    rw [HD.out]
    have hm := lcMPop_rg at_ size
    clear hs 
    go_enter Tryz.func10, Tryz.ntmps10
    go_wp2_with fail
    refine (HB.out _).mono ?_
    rintro e w1 ⟨rfl, k1⟩
    have HK : Hid (Keeps [] w w1) := Lib.hid (((Keeps.refl [] w).alloc _).trans (by first | exact k1 | exact k1.undrew))
    clear k1
    go_wp2_with fail
    refine (HR.out _).mono ?_
    rintro e w2 hm2
    have HP := Lib.hid (lcMade.from hm2 (by first | exact HK.out | exact HK.out.drew))
    obtain ⟨m2, S2, rfl, -⟩ := hm2
    go_wp2
    go_ret
    exact HP.out
  · have HF : Hid (lcFace kind at_ size = .iface 128 (.agg #[])) := Lib.hid (by first | rfl | simp [lcFace, h0, h1])
    rw [HF.out] at HB
    have HR : Hid (∀ W, Calls Tryz.prog 300 #[.agg #[]] W (lcMade W (.lk lkNoS))) := Lib.hid fun W => (lcNoPop W).mono fun e w2 h => h
    have HD : Hid (lcPop kind at_ size = .lk lkNoS) := Lib.hid (by first | rfl | simp [lcPop, h0, h1, lcNo, lkNoS])
    rw [HD.out]
    have hm := lcMPop_no
    clear hs 
    go_enter Tryz.func10, Tryz.ntmps10
    go_wp2_with fail
    refine (HB.out _).mono ?_
    rintro e w1 ⟨rfl, k1⟩
    have HK : Hid (Keeps [] w w1) := Lib.hid (((Keeps.refl [] w).alloc _).trans (by first | exact k1 | exact k1.undrew))
    clear k1
    go_wp2_with fail
    refine (HR.out _).mono ?_
    rintro e w2 hm2
    have HP := Lib.hid (lcMade.from hm2 (by first | exact HK.out | exact HK.out.drew))
    obtain ⟨m2, S2, rfl, -⟩ := hm2
    go_wp2
    go_ret
    exact HP.out
set_option maxHeartbeats 1600000 in
theorem lcPeek_made (kind at_ size : Int) (w : World) (hs : -9223372036854775808 ≤ size) :
    Calls Tryz.prog 12 #[.agg #[.int .i64 kind, .int .i64 at_, .int .i64 size]] w (lcMade w (lcPeek kind at_ size)) := by
  have HB := Lib.hid (fun W => lcBehind_any kind at_ size W)
  have HRi := Lib.hid (fun W => lcRight_any kind at_ size W hs)
  obtain ⟨W1, hW1⟩ : ∃ W1, w.alloc (.cells #[.int .i64 kind, .int .i64 at_, .int .i64 size] 23) = W1 := ⟨_, rfl⟩
  have hb : Box W1 w.heap.size #[.int .i64 kind, .int .i64 at_, .int .i64 size] := by rw [← hW1]; exact Box.new _ _ _
  have hk1 : Keeps [] w W1 := by rw [← hW1]; exact (Keeps.refl _ _).alloc _
  have HS : Hid (∀ W, Keeps [] W1 W → W.cell? ⟨w.heap.size, 0, none⟩ = some (.int .i64 kind) ∧ W.cell? ⟨w.heap.size, 1, none⟩ = some (.int .i64 at_) ∧ W.cell? ⟨w.heap.size, 2, none⟩ = some (.int .i64 size)) := Lib.hid fun W hk => by
    have c0 := (hb.keeps hk (by simp)).cells 0
    have c1 := (hb.keeps hk (by simp)).cells 1
    have c2 := (hb.keeps hk (by simp)).cells 2
    simp at c0 c1 c2
    exact ⟨c0, c1, c2⟩
  obtain ⟨c0, c1, c2⟩ := HS.out W1 (Keeps.refl _ _)
  have HK1 := Lib.hid hk1
  clear hb hk1
  by_cases h0 : kind = 0
  · subst h0
    have HF : Hid (lcFace 0 at_ size = .iface 75 (.agg #[.int .i64 at_, .int .i64 size])) := Lib.hid (by first | rfl | simp [lcFace, h0, h1])
    rw [HF.out] at HB
    have HR : Hid (∀ W, Calls Tryz.prog 34 #[.agg #[.int .i64 0, .int .i64 at_, .int .i64 size], .func (.func 35) #[] #[]] W (lcMade W (lcPeek 0 at_ size))) := Lib.hid fun W => by
      have e : lcPeek 0 at_ size = .lk (lkNew 0 at_ 0 (decide (lcRight 0 at_ size))) := by simp [lcPeek]
      rw [e]
      exact (lkRow_made 0 at_ size W (by decide) HRi.out).mono fun e w2 h => h
    clear hs HRi
    have ha_dq := lcA_dq_dq at_ size
    have ha_rg := lcA_dq_rg at_ size
    go_enter Tryz.func12, Tryz.ntmps12
    go_wp2_with fail
    refine (HB.out _).mono ?_
    rintro e w1 ⟨rfl, k1⟩
    have k1' : Keeps [] W1 w1 := by first | exact k1 | exact k1.undrew
    obtain ⟨c0, c1, c2⟩ := HS.out w1 k1'
    have HK : Hid (Keeps [] w w1) := Lib.hid (HK1.out.trans k1')
    clear k1 k1'
    go_wp2_with fail
    refine (HR.out _).mono ?_
    rintro e w2 hm2
    have HP := Lib.hid (lcMade.from hm2 (by first | exact HK.out | exact HK.out.drew))
    obtain ⟨m2, S2, rfl, -⟩ := hm2
    go_wp2
    go_ret
    exact HP.out
  by_cases h1 : kind = 1
  · subst h1
    clear h0
    have HF : Hid (lcFace 1 at_ size = .iface 77 (.agg #[.int .i64 at_, .int .i64 size])) := Lib.hid (by first | rfl | simp [lcFace, h0, h1])
    rw [HF.out] at HB
    have HR : Hid (∀ W, Calls Tryz.prog 34 #[.agg #[.int .i64 1, .int .i64 at_, .int .i64 size], .func (.func 36) #[] #[]] W (lcMade W (lcPeek 1 at_ size))) := Lib.hid fun W => by
      have e : lcPeek 1 at_ size = .lk (lkNew 1 at_ 0 (decide (lcRight 1 at_ size))) := by simp [lcPeek]
      rw [e]
      exact (lkRow_made 1 at_ size W (by decide) HRi.out).mono fun e w2 h => h
    clear hs HRi
    have ha_dq := lcA_rg_dq at_ size
    have ha_rg := lcA_rg_rg at_ size
    go_enter Tryz.func12, Tryz.ntmps12
    go_wp2_with fail
    refine (HB.out _).mono ?_
    rintro e w1 ⟨rfl, k1⟩
    have k1' : Keeps [] W1 w1 := by first | exact k1 | exact k1.undrew
    obtain ⟨c0, c1, c2⟩ := HS.out w1 k1'
    have HK : Hid (Keeps [] w w1) := Lib.hid (HK1.out.trans k1')
    clear k1 k1'
    go_wp2_with fail
    refine (HR.out _).mono ?_
    rintro e w2 hm2
    have HP := Lib.hid (lcMade.from hm2 (by first | exact HK.out | exact HK.out.drew))
    obtain ⟨m2, S2, rfl, -⟩ := hm2
    go_wp2
    go_ret
    exact HP.out
  · have HF : Hid (lcFace kind at_ size = .iface 128 (.agg #[])) := Lib.hid (by first | rfl | simp [lcFace, h0, h1])
    rw [HF.out] at HB
    have HR : Hid (∀ W, Calls Tryz.prog 31 #[] W (lcMade W (lcPeek kind at_ size))) := Lib.hid fun W => by
      have e : lcPeek kind at_ size = .lk lkNoS := by simp [lcPeek, h0, h1, lcNo, lkNoS]
      rw [e]
      exact (lkRefusal_made lkNoS rfl W).mono fun e w2 h => h
    clear hs HRi
    have ha_dq := lcA_no_dq
    have ha_rg := lcA_no_rg
    go_enter Tryz.func12, Tryz.ntmps12
    go_wp2_with fail
    refine (HB.out _).mono ?_
    rintro e w1 ⟨rfl, k1⟩
    have k1' : Keeps [] W1 w1 := by first | exact k1 | exact k1.undrew
    obtain ⟨c0, c1, c2⟩ := HS.out w1 k1'
    have HK : Hid (Keeps [] w w1) := Lib.hid (HK1.out.trans k1')
    clear k1 k1'
    go_wp2_with fail
    refine (HR.out _).mono ?_
    rintro e w2 hm2
    have HP := Lib.hid (lcMade.from hm2 (by first | exact HK.out | exact HK.out.drew))
    obtain ⟨m2, S2, rfl, -⟩ := hm2
    go_wp2
    go_ret
    exact HP.out
theorem lcLine_made (at_ n : Int) (w : World) : Calls Tryz.prog 13 #[.agg #[.int .i64 at_, .int .i64 n]] w (lcMade w (lcLine at_ n)) :=
  (lkLine_made at_ n w).mono fun e w2 h => h
set_option maxHeartbeats 3200000 in
theorem lcSteal_made (kind at_ size kind2 at2 size2 : Int) (w : World) (hs : -9223372036854775808 ≤ size) (hs2 : -9223372036854775808 ≤ size2) :
    Calls Tryz.prog 11 #[.agg #[.int .i64 kind, .int .i64 at_, .int .i64 size], .agg #[.int .i64 kind2, .int .i64 at2, .int .i64 size2]] w (lcMade w (lcSteal kind at_ size kind2 at2 size2)) := by
  have HB := Lib.hid (fun W => lcBehind_any kind at_ size W)
  have HB2 := Lib.hid (fun W => lcBehind_any kind2 at2 size2 W)
  have HRi := Lib.hid (fun W => lcRight_any kind2 at2 size2 W hs2)
  obtain ⟨W1, hW1⟩ : ∃ W1, (w.alloc (.cells #[.int .i64 kind, .int .i64 at_, .int .i64 size] 23)).alloc (.cells #[.int .i64 kind2, .int .i64 at2, .int .i64 size2] 23) = W1 := ⟨_, rfl⟩
  have hb : Box W1 w.heap.size #[.int .i64 kind, .int .i64 at_, .int .i64 size] := by rw [← hW1]; exact (Box.new _ _ _).alloc _
  have hb1 : Box W1 (w.heap.size + 1) #[.int .i64 kind2, .int .i64 at2, .int .i64 size2] := by rw [← hW1]; have := Box.new (w.alloc (.cells #[.int .i64 kind, .int .i64 at_, .int .i64 size] 23)) #[.int .i64 kind2, .int .i64 at2, .int .i64 size2] 23; simpa using this
  have hk1 : Keeps [] w W1 := by rw [← hW1]; exact ((Keeps.refl _ _).alloc _).alloc _
  have HS : Hid (∀ W, Keeps [] W1 W → W.cell? ⟨w.heap.size, 0, none⟩ = some (.int .i64 kind) ∧ W.cell? ⟨w.heap.size, 1, none⟩ = some (.int .i64 at_) ∧ W.cell? ⟨w.heap.size, 2, none⟩ = some (.int .i64 size) ∧ W.cell? ⟨w.heap.size + 1, 0, none⟩ = some (.int .i64 kind2) ∧ W.cell? ⟨w.heap.size + 1, 1, none⟩ = some (.int .i64 at2) ∧ W.cell? ⟨w.heap.size + 1, 2, none⟩ = some (.int .i64 size2)) := Lib.hid fun W hk => by
    have c0 := (hb.keeps hk (by simp)).cells 0
    have c1 := (hb.keeps hk (by simp)).cells 1
    have c2 := (hb.keeps hk (by simp)).cells 2
    have d0 := (hb1.keeps hk (by simp)).cells 0
    have d1 := (hb1.keeps hk (by simp)).cells 1
    have d2 := (hb1.keeps hk (by simp)).cells 2
    simp at c0 c1 c2 d0 d1 d2
    exact ⟨c0, c1, c2, d0, d1, d2⟩
  obtain ⟨c0, c1, c2, d0, d1, d2⟩ := HS.out W1 (Keeps.refl _ _)
  have HK1 := Lib.hid hk1
  have HNo := Lib.hid (fun W => lkRefusal_made lkNoS rfl W)
  clear hb hb1 hk1
  obtain ⟨s, hs0⟩ : ∃ s, lcSteal kind at_ size kind2 at2 size2 = s := ⟨_, rfl⟩
  by_cases hr : lcRight kind2 at2 size2
  case neg =>
    have HD : Hid (lcSteal kind at_ size kind2 at2 size2 = .lk lkNoS) := Lib.hid (by simp [lcSteal, hr, lcNo, lkNoS])
    rw [HD.out]
    rw [decide_eq_false hr] at HRi
    clear hr hs hs2 hs0 HD
    go_enter Tryz.func11, Tryz.ntmps11
    go_wp2_with fail
    refine (HRi.out _).mono ?_
    rintro e w2 ⟨rfl, k2⟩
    have HK : Hid (Keeps [] w w2) := Lib.hid (HK1.out.trans (by first | exact k2 | exact k2.undrew))
    clear k2
    go_wp2_with fail
    refine (HNo.out _).mono ?_
    rintro e w3 hm2
    have HP := Lib.hid (lkMade.from hm2 HK.out)
    obtain ⟨m2, S2, rfl, -⟩ := hm2
    go_wp2
    go_ret
    exact HP.out
  rw [decide_eq_true hr] at HRi
  have hrk := hr.1
  by_cases h0 : kind = 0
  · subst h0
    rcases hrk with rfl | rfl
    · have HF : Hid (lcFace 0 at_ size = .iface 75 (.agg #[.int .i64 at_, .int .i64 size])) := Lib.hid (by first | rfl | simp [lcFace, h0, h1])
      rw [HF.out] at HB
      have HF2 : Hid (lcFace 0 at2 size2 = .iface 75 (.agg #[.int .i64 at2, .int .i64 size2])) := Lib.hid (by first | rfl | simp [lcFace])
      rw [HF2.out] at HB2
      have HD : Hid (lcSteal 0 at_ size 0 at2 size2 = .dq (dqNew at_ size 3 0)) := Lib.hid (by simp [lcSteal, hr])
      have HSt : Hid (∀ W, Calls Tryz.prog 32 #[.agg #[.int .i64 at_, .int .i64 size]] W (lcMade W (.dq (dqNew at_ size 3 0)))) := Lib.hid fun W => (dqSteal_made at_ size W hs).mono fun e w2 h => h
      rw [HD.out]
      clear hr hs hs2 hs0 HD
      have ha_dq := lcA_dq_dq at_ size
      have ha_rg := lcA_dq_rg at_ size
      have hb_dq := lcA_dq_dq at2 size2
      have hb_rg := lcA_dq_rg at2 size2
      go_enter Tryz.func11, Tryz.ntmps11
      go_wp2_with fail
      refine (HRi.out _).mono ?_
      rintro e w2 ⟨rfl, k2⟩
      have k2' : Keeps [] W1 w2 := by first | exact k2 | exact k2.undrew
      obtain ⟨c0, c1, c2, d0, d1, d2⟩ := HS.out w2 k2'
      have HK2 := Lib.hid k2'
      clear k2 k2'
      go_wp2_with fail
      refine (HB.out _).mono ?_
      rintro e w3 ⟨rfl, k3⟩
      have k3' : Keeps [] W1 w3 := HK2.out.trans (by first | exact k3 | exact k3.undrew)
      obtain ⟨W4, hW4⟩ : ∃ W4, w3.alloc (.cells #[.int .i64 at_, .int .i64 size] 75) = W4 := ⟨_, rfl⟩
      have hk4 : Keeps [] w3 W4 := by rw [← hW4]; exact (Keeps.refl _ _).alloc _
      have hbo : Box W4 w3.heap.size #[.int .i64 at_, .int .i64 size] := by rw [← hW4]; exact Box.new _ _ _
      have HO : Hid (∀ W, Keeps [] W4 W → W.cell? ⟨w3.heap.size, 0, none⟩ = some (.int .i64 at_) ∧ W.cell? ⟨w3.heap.size, 1, none⟩ = some (.int .i64 size)) := Lib.hid fun W hk => by
        have c0 := (hbo.keeps hk (by simp)).cells 0
        have c1 := (hbo.keeps hk (by simp)).cells 1
        simp at c0 c1
        exact ⟨c0, c1⟩
      have hk14 : Keeps [] W1 W4 := k3'.trans hk4
      obtain ⟨c0, c1, c2, d0, d1, d2⟩ := HS.out w3 k3'
      obtain ⟨c0, c1, c2, d0, d1, d2⟩ := HS.out W4 hk14
      obtain ⟨o0, o1⟩ := HO.out W4 (Keeps.refl _ _)
      have HK3 := Lib.hid hk14
      clear k3 k3' hk4 hk14 hbo
      go_wp2_with fail
      refine (HB2.out _).mono ?_
      rintro e w4 ⟨rfl, k4⟩
      have k40 : Keeps [] W4 w4 := by first | exact k4 | exact k4.undrew
      have k4' : Keeps [] W1 w4 := HK3.out.trans k40
      obtain ⟨c0, c1, c2, d0, d1, d2⟩ := HS.out w4 k4'
      obtain ⟨o0, o1⟩ := HO.out w4 k40
      obtain ⟨W5, hW5⟩ : ∃ W5, w4.alloc (.cells #[.int .i64 at2, .int .i64 size2] 75) = W5 := ⟨_, rfl⟩
      have hk5 : Keeps [] w4 W5 := by rw [← hW5]; exact (Keeps.refl _ _).alloc _
      have hbi : Box W5 w4.heap.size #[.int .i64 at2, .int .i64 size2] := by rw [← hW5]; exact Box.new _ _ _
      have i0 := hbi.cells 0
      have i1 := hbi.cells 1
      simp at i0 i1
      obtain ⟨c0, c1, c2, d0, d1, d2⟩ := HS.out W5 (k4'.trans hk5)
      obtain ⟨o0, o1⟩ := HO.out W5 (k40.trans hk5)
      have HK4 := Lib.hid (k4'.trans hk5)
      clear k4 k4' k40 hW4 hk5 hbi
      go_wp2_with fail
      refine (HSt.out _).mono ?_
      rintro e w5 hm2
      have HP := Lib.hid (lcMade.from hm2 (HK1.out.trans (by first | exact HK4.out | exact HK4.out.drew | exact HK4.out.alloc _ | exact (HK4.out.drew).alloc _ | exact (HK4.out.alloc _).drew)))
      obtain ⟨m2, S2, rfl, -⟩ := hm2
      go_wp2
      go_ret
      exact HP.out
    · have HF : Hid (lcFace 0 at_ size = .iface 75 (.agg #[.int .i64 at_, .int .i64 size])) := Lib.hid (by first | rfl | simp [lcFace, h0, h1])
      rw [HF.out] at HB
      have HF2 : Hid (lcFace 1 at2 size2 = .iface 77 (.agg #[.int .i64 at2, .int .i64 size2])) := Lib.hid (by first | rfl | simp [lcFace])
      rw [HF2.out] at HB2
      have HD : Hid (lcSteal 0 at_ size 1 at2 size2 = .lk lkNoS) := Lib.hid (by simp [lcSteal, hr, lcNo, lkNoS])
      rw [HD.out]
      clear hr hs hs2 hs0 HD
      have ha_dq := lcA_dq_dq at_ size
      have ha_rg := lcA_dq_rg at_ size
      have hb_dq := lcA_rg_dq at2 size2
      have hb_rg := lcA_rg_rg at2 size2
      go_enter Tryz.func11, Tryz.ntmps11
      go_wp2_with fail
      refine (HRi.out _).mono ?_
      rintro e w2 ⟨rfl, k2⟩
      have k2' : Keeps [] W1 w2 := by first | exact k2 | exact k2.undrew
      obtain ⟨c0, c1, c2, d0, d1, d2⟩ := HS.out w2 k2'
      have HK2 := Lib.hid k2'
      clear k2 k2'
      go_wp2_with fail
      refine (HB.out _).mono ?_
      rintro e w3 ⟨rfl, k3⟩
      have k3' : Keeps [] W1 w3 := HK2.out.trans (by first | exact k3 | exact k3.undrew)
      obtain ⟨W4, hW4⟩ : ∃ W4, w3.alloc (.cells #[.int .i64 at_, .int .i64 size] 75) = W4 := ⟨_, rfl⟩
      have hk4 : Keeps [] w3 W4 := by rw [← hW4]; exact (Keeps.refl _ _).alloc _
      have hbo : Box W4 w3.heap.size #[.int .i64 at_, .int .i64 size] := by rw [← hW4]; exact Box.new _ _ _
      have HO : Hid (∀ W, Keeps [] W4 W → W.cell? ⟨w3.heap.size, 0, none⟩ = some (.int .i64 at_) ∧ W.cell? ⟨w3.heap.size, 1, none⟩ = some (.int .i64 size)) := Lib.hid fun W hk => by
        have c0 := (hbo.keeps hk (by simp)).cells 0
        have c1 := (hbo.keeps hk (by simp)).cells 1
        simp at c0 c1
        exact ⟨c0, c1⟩
      have hk14 : Keeps [] W1 W4 := k3'.trans hk4
      obtain ⟨c0, c1, c2, d0, d1, d2⟩ := HS.out w3 k3'
      obtain ⟨c0, c1, c2, d0, d1, d2⟩ := HS.out W4 hk14
      obtain ⟨o0, o1⟩ := HO.out W4 (Keeps.refl _ _)
      have HK3 := Lib.hid hk14
      clear k3 k3' hk4 hk14 hbo
      go_wp2_with fail
      refine (HB2.out _).mono ?_
      rintro e w4 ⟨rfl, k4⟩
      have k40 : Keeps [] W4 w4 := by first | exact k4 | exact k4.undrew
      have k4' : Keeps [] W1 w4 := HK3.out.trans k40
      obtain ⟨c0, c1, c2, d0, d1, d2⟩ := HS.out w4 k4'
      obtain ⟨o0, o1⟩ := HO.out w4 k40
      have HK4 := Lib.hid k4'
      clear k4 k4' k40 hW4
      go_wp2_with fail
      refine (HNo.out _).mono ?_
      rintro e w5 hm2
      have HP := Lib.hid (lkMade.from hm2 (HK1.out.trans (by first | exact HK4.out | exact HK4.out.drew | exact HK4.out.alloc _ | exact (HK4.out.drew).alloc _ | exact (HK4.out.alloc _).drew)))
      obtain ⟨m2, S2, rfl, -⟩ := hm2
      go_wp2
      go_ret
      exact HP.out
  by_cases h1 : kind = 1
  · subst h1
    clear h0
    rcases hrk with rfl | rfl
    · have HF : Hid (lcFace 1 at_ size = .iface 77 (.agg #[.int .i64 at_, .int .i64 size])) := Lib.hid (by first | rfl | simp [lcFace, h0, h1])
      rw [HF.out] at HB
      have HF2 : Hid (lcFace 0 at2 size2 = .iface 75 (.agg #[.int .i64 at2, .int .i64 size2])) := Lib.hid (by first | rfl | simp [lcFace])
      rw [HF2.out] at HB2
      have HD : Hid (lcSteal 1 at_ size 0 at2 size2 = .lk lkNoS) := Lib.hid (by simp [lcSteal, hr, lcNo, lkNoS])
      rw [HD.out]
      clear hr hs hs2 hs0 HD
      have ha_dq := lcA_rg_dq at_ size
      have ha_rg := lcA_rg_rg at_ size
      have hb_dq := lcA_dq_dq at2 size2
      have hb_rg := lcA_dq_rg at2 size2
      go_enter Tryz.func11, Tryz.ntmps11
      go_wp2_with fail
      refine (HRi.out _).mono ?_
      rintro e w2 ⟨rfl, k2⟩
      have k2' : Keeps [] W1 w2 := by first | exact k2 | exact k2.undrew
      obtain ⟨c0, c1, c2, d0, d1, d2⟩ := HS.out w2 k2'
      have HK2 := Lib.hid k2'
      clear k2 k2'
      go_wp2_with fail
      refine (HB.out _).mono ?_
      rintro e w3 ⟨rfl, k3⟩
      have k3' : Keeps [] W1 w3 := HK2.out.trans (by first | exact k3 | exact k3.undrew)
      obtain ⟨W4, hW4⟩ : ∃ W4, w3.alloc (.cells #[.int .i64 at_, .int .i64 size] 77) = W4 := ⟨_, rfl⟩
      have hk4 : Keeps [] w3 W4 := by rw [← hW4]; exact (Keeps.refl _ _).alloc _
      have hbo : Box W4 w3.heap.size #[.int .i64 at_, .int .i64 size] := by rw [← hW4]; exact Box.new _ _ _
      have HO : Hid (∀ W, Keeps [] W4 W → W.cell? ⟨w3.heap.size, 0, none⟩ = some (.int .i64 at_) ∧ W.cell? ⟨w3.heap.size, 1, none⟩ = some (.int .i64 size)) := Lib.hid fun W hk => by
        have c0 := (hbo.keeps hk (by simp)).cells 0
        have c1 := (hbo.keeps hk (by simp)).cells 1
        simp at c0 c1
        exact ⟨c0, c1⟩
      have hk14 : Keeps [] W1 W4 := k3'.trans hk4
      obtain ⟨c0, c1, c2, d0, d1, d2⟩ := HS.out w3 k3'
      obtain ⟨c0, c1, c2, d0, d1, d2⟩ := HS.out W4 hk14
      obtain ⟨o0, o1⟩ := HO.out W4 (Keeps.refl _ _)
      have HK3 := Lib.hid hk14
      clear k3 k3' hk4 hk14 hbo
      go_wp2_with fail
      refine (HB2.out _).mono ?_
      rintro e w4 ⟨rfl, k4⟩
      have k40 : Keeps [] W4 w4 := by first | exact k4 | exact k4.undrew
      have k4' : Keeps [] W1 w4 := HK3.out.trans k40
      obtain ⟨c0, c1, c2, d0, d1, d2⟩ := HS.out w4 k4'
      obtain ⟨o0, o1⟩ := HO.out w4 k40
      have HK4 := Lib.hid k4'
      clear k4 k4' k40 hW4
      go_wp2_with fail
      refine (HNo.out _).mono ?_
      rintro e w5 hm2
      have HP := Lib.hid (lkMade.from hm2 (HK1.out.trans (by first | exact HK4.out | exact HK4.out.drew | exact HK4.out.alloc _ | exact (HK4.out.drew).alloc _ | exact (HK4.out.alloc _).drew)))
      obtain ⟨m2, S2, rfl, -⟩ := hm2
      go_wp2
      go_ret
      exact HP.out
    · have HF : Hid (lcFace 1 at_ size = .iface 77 (.agg #[.int .i64 at_, .int .i64 size])) := Lib.hid (by first | rfl | simp [lcFace, h0, h1])
      rw [HF.out] at HB
      have HF2 : Hid (lcFace 1 at2 size2 = .iface 77 (.agg #[.int .i64 at2, .int .i64 size2])) := Lib.hid (by first | rfl | simp [lcFace])
      rw [HF2.out] at HB2
      have HD : Hid (lcSteal 1 at_ size 1 at2 size2 = .rg (rgBegin at_ size 3 0 at2 (decide (rgFeeds at_ size at2 size2)))) := Lib.hid (by simp [lcSteal, hr])
      have HSt : Hid (∀ W, Calls Tryz.prog 33 #[.agg #[.int .i64 at_, .int .i64 size], .agg #[.int .i64 at2, .int .i64 size2]] W (lcMade W (.rg (rgBegin at_ size 3 0 at2 (decide (rgFeeds at_ size at2 size2)))))) := Lib.hid fun W => (rgSteal_made at_ size at2 size2 W hs hs2).mono fun e w2 h => h
      rw [HD.out]
      clear hr hs hs2 hs0 HD
      have ha_dq := lcA_rg_dq at_ size
      have ha_rg := lcA_rg_rg at_ size
      have hb_dq := lcA_rg_dq at2 size2
      have hb_rg := lcA_rg_rg at2 size2
      go_enter Tryz.func11, Tryz.ntmps11
      go_wp2_with fail
      refine (HRi.out _).mono ?_
      rintro e w2 ⟨rfl, k2⟩
      have k2' : Keeps [] W1 w2 := by first | exact k2 | exact k2.undrew
      obtain ⟨c0, c1, c2, d0, d1, d2⟩ := HS.out w2 k2'
      have HK2 := Lib.hid k2'
      clear k2 k2'
      go_wp2_with fail
      refine (HB.out _).mono ?_
      rintro e w3 ⟨rfl, k3⟩
      have k3' : Keeps [] W1 w3 := HK2.out.trans (by first | exact k3 | exact k3.undrew)
      obtain ⟨W4, hW4⟩ : ∃ W4, w3.alloc (.cells #[.int .i64 at_, .int .i64 size] 77) = W4 := ⟨_, rfl⟩
      have hk4 : Keeps [] w3 W4 := by rw [← hW4]; exact (Keeps.refl _ _).alloc _
      have hbo : Box W4 w3.heap.size #[.int .i64 at_, .int .i64 size] := by rw [← hW4]; exact Box.new _ _ _
      have HO : Hid (∀ W, Keeps [] W4 W → W.cell? ⟨w3.heap.size, 0, none⟩ = some (.int .i64 at_) ∧ W.cell? ⟨w3.heap.size, 1, none⟩ = some (.int .i64 size)) := Lib.hid fun W hk => by
        have c0 := (hbo.keeps hk (by simp)).cells 0
        have c1 := (hbo.keeps hk (by simp)).cells 1
        simp at c0 c1
        exact ⟨c0, c1⟩
      have hk14 : Keeps [] W1 W4 := k3'.trans hk4
      obtain ⟨c0, c1, c2, d0, d1, d2⟩ := HS.out w3 k3'
      obtain ⟨c0, c1, c2, d0, d1, d2⟩ := HS.out W4 hk14
      obtain ⟨o0, o1⟩ := HO.out W4 (Keeps.refl _ _)
      have HK3 := Lib.hid hk14
      clear k3 k3' hk4 hk14 hbo
      go_wp2_with fail
      refine (HB2.out _).mono ?_
      rintro e w4 ⟨rfl, k4⟩
      have k40 : Keeps [] W4 w4 := by first | exact k4 | exact k4.undrew
      have k4' : Keeps [] W1 w4 := HK3.out.trans k40
      obtain ⟨c0, c1, c2, d0, d1, d2⟩ := HS.out w4 k4'
      obtain ⟨o0, o1⟩ := HO.out w4 k40
      obtain ⟨W5, hW5⟩ : ∃ W5, w4.alloc (.cells #[.int .i64 at2, .int .i64 size2] 77) = W5 := ⟨_, rfl⟩
      have hk5 : Keeps [] w4 W5 := by rw [← hW5]; exact (Keeps.refl _ _).alloc _
      have hbi : Box W5 w4.heap.size #[.int .i64 at2, .int .i64 size2] := by rw [← hW5]; exact Box.new _ _ _
      have i0 := hbi.cells 0
      have i1 := hbi.cells 1
      simp at i0 i1
      obtain ⟨c0, c1, c2, d0, d1, d2⟩ := HS.out W5 (k4'.trans hk5)
      obtain ⟨o0, o1⟩ := HO.out W5 (k40.trans hk5)
      have HK4 := Lib.hid (k4'.trans hk5)
      clear k4 k4' k40 hW4 hk5 hbi
      go_wp2_with fail
      refine (HSt.out _).mono ?_
      rintro e w5 hm2
      have HP := Lib.hid (lcMade.from hm2 (HK1.out.trans (by first | exact HK4.out | exact HK4.out.drew | exact HK4.out.alloc _ | exact (HK4.out.drew).alloc _ | exact (HK4.out.alloc _).drew)))
      obtain ⟨m2, S2, rfl, -⟩ := hm2
      go_wp2
      go_ret
      exact HP.out
  · rcases hrk with rfl | rfl
    · have HF : Hid (lcFace kind at_ size = .iface 128 (.agg #[])) := Lib.hid (by first | rfl | simp [lcFace, h0, h1])
      rw [HF.out] at HB
      have HF2 : Hid (lcFace 0 at2 size2 = .iface 75 (.agg #[.int .i64 at2, .int .i64 size2])) := Lib.hid (by first | rfl | simp [lcFace])
      rw [HF2.out] at HB2
      have HD : Hid (lcSteal kind at_ size 0 at2 size2 = .lk lkNoS) := Lib.hid (by simp [lcSteal, hr, h0, h1, lcNo, lkNoS])
      rw [HD.out]
      clear hr hs hs2 hs0 HD
      have ha_dq := lcA_no_dq
      have ha_rg := lcA_no_rg
      have hb_dq := lcA_dq_dq at2 size2
      have hb_rg := lcA_dq_rg at2 size2
      go_enter Tryz.func11, Tryz.ntmps11
      go_wp2_with fail
      refine (HRi.out _).mono ?_
      rintro e w2 ⟨rfl, k2⟩
      have k2' : Keeps [] W1 w2 := by first | exact k2 | exact k2.undrew
      obtain ⟨c0, c1, c2, d0, d1, d2⟩ := HS.out w2 k2'
      have HK2 := Lib.hid k2'
      clear k2 k2'
      go_wp2_with fail
      refine (HB.out _).mono ?_
      rintro e w3 ⟨rfl, k3⟩
      have k3' : Keeps [] W1 w3 := HK2.out.trans (by first | exact k3 | exact k3.undrew)
      obtain ⟨c0, c1, c2, d0, d1, d2⟩ := HS.out w3 k3'
      have HK3 := Lib.hid k3'
      clear k3 k3'
      go_wp2_with fail
      refine (HNo.out _).mono ?_
      rintro e w5 hm2
      have HP := Lib.hid (lkMade.from hm2 (HK1.out.trans (by first | exact HK3.out | exact HK3.out.drew | exact HK3.out.alloc _ | exact (HK3.out.drew).alloc _ | exact (HK3.out.alloc _).drew)))
      obtain ⟨m2, S2, rfl, -⟩ := hm2
      go_wp2
      go_ret
      exact HP.out
    · have HF : Hid (lcFace kind at_ size = .iface 128 (.agg #[])) := Lib.hid (by first | rfl | simp [lcFace, h0, h1])
      rw [HF.out] at HB
      have HF2 : Hid (lcFace 1 at2 size2 = .iface 77 (.agg #[.int .i64 at2, .int .i64 size2])) := Lib.hid (by first | rfl | simp [lcFace])
      rw [HF2.out] at HB2
      have HD : Hid (lcSteal kind at_ size 1 at2 size2 = .lk lkNoS) := Lib.hid (by simp [lcSteal, hr, h0, h1, lcNo, lkNoS])
      rw [HD.out]
      clear hr hs hs2 hs0 HD
      have ha_dq := lcA_no_dq
      have ha_rg := lcA_no_rg
      have hb_dq := lcA_rg_dq at2 size2
      have hb_rg := lcA_rg_rg at2 size2
      go_enter Tryz.func11, Tryz.ntmps11
      go_wp2_with fail
      refine (HRi.out _).mono ?_
      rintro e w2 ⟨rfl, k2⟩
      have k2' : Keeps [] W1 w2 := by first | exact k2 | exact k2.undrew
      obtain ⟨c0, c1, c2, d0, d1, d2⟩ := HS.out w2 k2'
      have HK2 := Lib.hid k2'
      clear k2 k2'
      go_wp2_with fail
      refine (HB.out _).mono ?_
      rintro e w3 ⟨rfl, k3⟩
      have k3' : Keeps [] W1 w3 := HK2.out.trans (by first | exact k3 | exact k3.undrew)
      obtain ⟨c0, c1, c2, d0, d1, d2⟩ := HS.out w3 k3'
      have HK3 := Lib.hid k3'
      clear k3 k3'
      go_wp2_with fail
      refine (HNo.out _).mono ?_
      rintro e w5 hm2
      have HP := Lib.hid (lkMade.from hm2 (HK1.out.trans (by first | exact HK3.out | exact HK3.out.drew | exact HK3.out.alloc _ | exact (HK3.out.drew).alloc _ | exact (HK3.out.alloc _).drew)))
      obtain ⟨m2, S2, rfl, -⟩ := hm2
      go_wp2
      go_ret
      exact HP.out
end Go.Proofs.YtjfgpplnlepnoaaGreat
