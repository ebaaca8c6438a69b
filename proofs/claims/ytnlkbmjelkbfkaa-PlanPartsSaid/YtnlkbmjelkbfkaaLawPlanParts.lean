/-
  The law PlanParts of the statements holds for every input: the call returns true, and the arguments read as before.
-/
import Derived.Test.YtnlkbmjelkbfkaaPlA
import Derived.Test.YtnlkbmjelkbfkaaOpenA
import Derived.Test.YtnlkbmjelkbfkaaLook
import Derived.Test.YtnlkbmjelkbfkaaRows
import Derived.WalkKit
import Derived.ProofKit
import Derived.OpenShut
import Derived.ShutString
import Derived.ChangeOld
import Derived.Below
import Derived.Test.YtnlkbmjelkbfkaaOpen
namespace Go.Proofs.Ytnlkbmjelkbfkaa.planParts
open Go.ChangeShapes Go.WideShapes Go.ChangeAt Go.RowKit
open Go.ChangeMaps (open_string shut_string)
set_option linter.unusedVariables false
set_option linter.unusedSimpArgs false

theorem own : ownKnob Try.prog.godebug = none := by kernel_rfl
theorem laidOut : laidOutB Try.prog = true := by kernel_rfl

def ppSlots : List Nat := [46, 47, 48, 49, 8, 9, 1000, 1001]
def ppR (d : Nat) : List Nat := if d = 1000 then [8] else if d = 1001 then [9] else []
/-- What is said of each slot. -/
def ppPd (pv yv lv : Value) (ys ls : List Value) (d : Nat) (v : Nat → Value) (γ : List Nat) (w : World) : Prop :=
  if d = 46 then v 46 = pv else if d = 47 then v 47 = yv else if d = 48 then v 48 = pv else if d = 49 then v 49 = lv
  else if d = 8 then (∃ b, v 8 = .pointer (some ⟨b, 0, none⟩) ∧ γ = [b] ∧ ∃ x y, Row w b 38 [x, y])
  else if d = 9 then (∃ b, v 9 = .pointer (some ⟨b, 0, none⟩) ∧ γ = [b] ∧ ∃ x y, Row w b 41 [x, y])
  else if d = 1000 then (∃ b, v 8 = .pointer (some ⟨b, 0, none⟩) ∧ Row w b 38 ys)
  else if d = 1001 then (∃ b, v 9 = .pointer (some ⟨b, 0, none⟩) ∧ Row w b 41 ls)
  else True
theorem ppPd_stable (pv yv lv : Value) (ys ls : List Value) (d : Nat) (v v' : Nat → Value) (γ : List Nat) (w w' : World) (h : ppPd pv yv lv ys ls d v γ w) (e : v' d = v d) (hR : ∀ j ∈ ppR d, v' j = v j) (hγ : ∀ k ∈ γ, k < w.heap.size) (hk : Keeps [] w w') : ppPd pv yv lv ys ls d v' γ w' := by
  unfold ppPd at h ⊢
  by_cases h46 : d = 46
  · subst h46; simp only [if_true] at h ⊢; rw [e]; exact h
  rw [if_neg h46] at h ⊢
  by_cases h47 : d = 47
  · subst h47; simp only [if_true] at h ⊢; rw [e]; exact h
  rw [if_neg h47] at h ⊢
  by_cases h48 : d = 48
  · subst h48; simp only [if_true] at h ⊢; rw [e]; exact h
  rw [if_neg h48] at h ⊢
  by_cases h49 : d = 49
  · subst h49; simp only [if_true] at h ⊢; rw [e]; exact h
  rw [if_neg h49] at h ⊢
  by_cases h8 : d = 8
  · subst h8
    simp only [if_true] at h ⊢
    obtain ⟨b, h0, h1, x, y, h2⟩ := h
    exact ⟨b, by rw [e]; exact h0, h1, x, y, h2.keeps hk (by simp)⟩
  rw [if_neg h8] at h ⊢
  by_cases h9 : d = 9
  · subst h9
    simp only [if_true] at h ⊢
    obtain ⟨b, h0, h1, x, y, h2⟩ := h
    exact ⟨b, by rw [e]; exact h0, h1, x, y, h2.keeps hk (by simp)⟩
  rw [if_neg h9] at h ⊢
  by_cases h1000 : d = 1000
  · subst h1000
    simp only [if_true] at h ⊢
    obtain ⟨b, h0, h2⟩ := h
    exact ⟨b, by rw [hR 8 (by decide)]; exact h0, h2.keeps hk (by simp)⟩
  rw [if_neg h1000] at h ⊢
  by_cases h1001 : d = 1001
  · subst h1001
    simp only [if_true] at h ⊢
    obtain ⟨b, h0, h2⟩ := h
    exact ⟨b, by rw [hR 9 (by decide)]; exact h0, h2.keeps hk (by simp)⟩
  rw [if_neg h1001] at h ⊢
  trivial

set_option maxHeartbeats 12800000 in
set_option maxRecDepth 200000 in
theorem walk (W K S N i : Int) (w : World) (hW : (Lit.int .i64 W).wf = true) (hK : (Lit.int .i64 K).wf = true) (hS : (Lit.int .i64 S).wf = true) (hN : (Lit.int .i64 N).wf = true) (hi : (Lit.int .i64 i).wf = true) :
    Calls Try.prog 3 #[.agg #[.int .i64 W, .int .i64 K, .int .i64 S, .int .i64 N], .int .i64 i] w fun e w' => e = .returned (.bool true) ∧ Below w.heap.size w w' := by
  have bS := bounds_i64 hS
  have bi := Lib.hid (bounds_i64 hi)
  have HM := Lib.hid (fun Wx => refMay12_any W K S N Wx trivial)
  have HNw := Lib.hid (fun Wx (h : plRight W K S N) => plNew_fine W K S N Wx bS.1 h)
  have HNa := Lib.hid (fun Wx (h : ¬ plRight W K S N) => plNew_arg W K S N Wx bS.1 h)
  clear hW hK hS hN hi bS
  obtain ⟨W0, hW0⟩ : ∃ W0, w.alloc (.cells #[.int .i64 W, .int .i64 K, .int .i64 S, .int .i64 N] 23) = W0 := ⟨_, rfl⟩
  have HB0 : Hid (Box W0 w.heap.size #[.int .i64 W, .int .i64 K, .int .i64 S, .int .i64 N]) := Lib.hid (by rw [← hW0]; exact Box.new _ _ _)
  have HK0 : Hid (Keeps [] w W0) := Lib.hid (by rw [← hW0]; exact (Keeps.refl _ _).alloc _)
  have HX := Lib.hid (fun Wx (k : Keeps [] W0 Wx) => show Wx.cell? ⟨w.heap.size, 0, none⟩ = some (.int .i64 W) ∧ Wx.cell? ⟨w.heap.size, 1, none⟩ = some (.int .i64 K) ∧ Wx.cell? ⟨w.heap.size, 2, none⟩ = some (.int .i64 S) ∧ Wx.cell? ⟨w.heap.size, 3, none⟩ = some (.int .i64 N) from ⟨(HB0.out.keeps k (by simp)).cells 0, (HB0.out.keeps k (by simp)).cells 1, (HB0.out.keeps k (by simp)).cells 2, (HB0.out.keeps k (by simp)).cells 3⟩)
  have hfd : ∀ (x : Int) (w : World), (Instr.field 35 (.agg #[.int .i64 x]) 0).run Try.prog w = .ok (.int .i64 x) w := fun _ _ => rfl
  go_enter Try.func3, Try.ntmps3
  go_wp2_with fail
  clear hW0
  refine (awake12 W0).mono ?_
  rintro e w1 ⟨rfl, k1⟩
  have HK1 := Lib.hid k1
  obtain ⟨c0, c1, c2, c3⟩ := HX.out _ k1
  clear k1
  by_cases hr : plRight W K S N
  · rw [if_pos hr] at HM
    have HR := Lib.hid hr
    have HNz := Lib.hid (fun Wx => HNw.out Wx hr)
    clear hr HNw HNa
    go_wp2_with fail
    refine (HNz.out _).mono ?_
    rintro e w2 ⟨rfl, k2⟩
    have HK2 := Lib.hid (HK1.out.trans k2)
    clear k2 c0 c1 c2 c3
    obtain ⟨c0, c1, c2, c3⟩ := HX.out (w2.alloc (.cells #[.int .i64 W, .int .i64 K, .int .i64 S, .int .i64 N] 26)) (HK2.out.alloc _)
    go_wp2_with fail
    generalize hW3 : World.alloc w2 _ = W3 at *
    have hb : Box W3 w2.heap.size #[.int .i64 W, .int .i64 K, .int .i64 S, .int .i64 N] := by rw [← hW3]; exact Box.new _ _ _
    have HK3 : Hid (Keeps [] W0 W3) := Lib.hid (HK2.out.trans (by rw [← hW3]; exact (Keeps.refl _ _).alloc _))
    have HP := Lib.hid (fun Wx (k : Keeps [] W3 Wx) => show Wx.cell? ⟨w2.heap.size, 0, none⟩ = some (.int .i64 W) ∧ Wx.cell? ⟨w2.heap.size, 1, none⟩ = some (.int .i64 K) ∧ Wx.cell? ⟨w2.heap.size, 2, none⟩ = some (.int .i64 S) ∧ Wx.cell? ⟨w2.heap.size, 3, none⟩ = some (.int .i64 N) from ⟨(hb.keeps k (by simp)).cells 0, (hb.keeps k (by simp)).cells 1, (hb.keeps k (by simp)).cells 2, (hb.keeps k (by simp)).cells 3⟩)
    clear hW3 hb
    refine (HM.out _).mono ?_
    rintro e w4 ⟨rfl, k4⟩
    have HK4 := Lib.hid k4
    clear k4
    obtain ⟨p0, p1, p2, p3⟩ := HP.out _ HK4.out
    have HY := Lib.hid (fun Wx => plYard_any W K S N Wx)
    have HL := Lib.hid (fun Wx => plLine_any W K S N Wx HR.out.fits)
    rw [show plLine W N = (1 + W, N) from if_neg (by have := HR.out.1; omega)] at HL
    simp only at HL
    go_wp2_with fail
    refine wp_region_own ppSlots ppR (ppPd (plV W K S N) (.agg #[.int .i64 0, .int .i64 W]) (.agg #[.int .i64 (1 + W), .int .i64 N]) [.int .i64 0, .int .i64 W] [.int .i64 (1 + W), .int .i64 N]) ?_ ?_ ?_ ?_ (ppPd_stable (plV W K S N) (.agg #[.int .i64 0, .int .i64 W]) (.agg #[.int .i64 (1 + W), .int .i64 N]) [.int .i64 0, .int .i64 W] [.int .i64 (1 + W), .int .i64 N]) ?_ ?_
    · kernel_rfl
    · kernel_rfl
    · decide
    · kernel_rfl
    · refine Each.cons ?_ ?_
      · -- a load
        intro v g w Ls hk hdep hG hD a ha KK hK
        simp only [setAll, ppSlots, List.foldl, Act.put, List.setIfInBounds_toArray, List.set_cons_zero, List.set_cons_succ] at ha
        subst ha
        simp only [Act.put, List.setIfInBounds_toArray, List.set_cons_zero, List.set_cons_succ] at hK
        obtain ⟨c0, c1, c2, c3⟩ := HP.out w (HK4.out.trans hk.undrew)
        go_simp
        exact hK _ [] _ hk (Nat.le_refl _) (.inl (Keeps.refl _ _)) (show updAt v 46 _ 46 = (plV W K S N) from updAt_same _ _ _) (by simp)
      refine Each.cons ?_ ?_
      · -- a call
        intro v g w Ls hk hdep hG hD a ha KK hK
        simp only [setAll, ppSlots, List.foldl, Act.put, List.setIfInBounds_toArray, List.set_cons_zero, List.set_cons_succ] at ha
        subst ha
        simp only [Act.put, List.setIfInBounds_toArray, List.set_cons_zero, List.set_cons_succ] at hK
        have e0 : v 46 = (plV W K S N) := (hG 46 (by decide) (hdep 0 (by kernel_rfl))).2.1
        rw [e0] at hK ⊢
        clear hdep hG hD
        go_simp
        go_at_call 13
        refine (HY.out _).mono ?_
        rintro e w1 ⟨rfl, k1⟩
        go_simp
        exact hK _ [] _ (hk.trans k1) k1.size (.inl k1) (show updAt v 47 _ 47 = (.agg #[.int .i64 0, .int .i64 W]) from updAt_same _ _ _) (by simp)
      refine Each.cons ?_ ?_
      · -- a load
        intro v g w Ls hk hdep hG hD a ha KK hK
        simp only [setAll, ppSlots, List.foldl, Act.put, List.setIfInBounds_toArray, List.set_cons_zero, List.set_cons_succ] at ha
        subst ha
        simp only [Act.put, List.setIfInBounds_toArray, List.set_cons_zero, List.set_cons_succ] at hK
        obtain ⟨c0, c1, c2, c3⟩ := HP.out w (HK4.out.trans hk.undrew)
        go_simp
        exact hK _ [] _ hk (Nat.le_refl _) (.inl (Keeps.refl _ _)) (show updAt v 48 _ 48 = (plV W K S N) from updAt_same _ _ _) (by simp)
      refine Each.cons ?_ ?_
      · -- a call
        intro v g w Ls hk hdep hG hD a ha KK hK
        simp only [setAll, ppSlots, List.foldl, Act.put, List.setIfInBounds_toArray, List.set_cons_zero, List.set_cons_succ] at ha
        subst ha
        simp only [Act.put, List.setIfInBounds_toArray, List.set_cons_zero, List.set_cons_succ] at hK
        have e0 : v 48 = (plV W K S N) := (hG 48 (by decide) (hdep 2 (by kernel_rfl))).2.1
        rw [e0] at hK ⊢
        clear hdep hG hD
        go_simp
        go_at_call 14
        refine (HL.out _).mono ?_
        rintro e w1 ⟨rfl, k1⟩
        go_simp
        exact hK _ [] _ (hk.trans k1) k1.size (.inl k1) (show updAt v 49 _ 49 = (.agg #[.int .i64 (1 + W), .int .i64 N]) from updAt_same _ _ _) (by simp)
      refine Each.cons ?_ ?_
      · -- a new variable
        intro v g w Ls hk hdep hG hD a ha KK hK
        simp only [setAll, ppSlots, List.foldl, Act.put, List.setIfInBounds_toArray, List.set_cons_zero, List.set_cons_succ] at ha
        subst ha
        simp only [Act.put, List.setIfInBounds_toArray, List.set_cons_zero, List.set_cons_succ] at hK
        clear hdep hG hD
        go_simp
        refine hK _ [w.heap.size] _ (hk.alloc _) (by simp) (.inl ((Keeps.refl _ _).alloc _)) ?_ (by simp)
        exact ⟨w.heap.size, updAt_same _ _ _, rfl, _, _, Row.new _ _ _⟩
      refine Each.cons ?_ ?_
      · -- a new variable
        intro v g w Ls hk hdep hG hD a ha KK hK
        simp only [setAll, ppSlots, List.foldl, Act.put, List.setIfInBounds_toArray, List.set_cons_zero, List.set_cons_succ] at ha
        subst ha
        simp only [Act.put, List.setIfInBounds_toArray, List.set_cons_zero, List.set_cons_succ] at hK
        clear hdep hG hD
        go_simp
        refine hK _ [w.heap.size] _ (hk.alloc _) (by simp) (.inl ((Keeps.refl _ _).alloc _)) ?_ (by simp)
        exact ⟨w.heap.size, updAt_same _ _ _, rfl, _, _, Row.new _ _ _⟩
      refine Each.cons ?_ ?_
      · -- a store
        intro v g w Ls hk hdep hG hD a ha KK hK
        simp only [setAll, ppSlots, List.foldl, Act.put, List.setIfInBounds_toArray, List.set_cons_zero, List.set_cons_succ] at ha
        subst ha
        simp only [Act.put, List.setIfInBounds_toArray, List.set_cons_zero, List.set_cons_succ] at hK
        have hL6 := hdep 4 (by kernel_rfl)
        have e0 : v 47 = (.agg #[.int .i64 0, .int .i64 W]) := (hG 47 (by decide) (hdep 1 (by kernel_rfl))).2.1
        obtain ⟨b, e1, hgb, x0, y0, hr⟩ : ∃ b, v 8 = .pointer (some ⟨b, 0, none⟩) ∧ g 8 = [b] ∧ ∃ x y, Row w b 38 [x, y] := (hG 8 (by decide) hL6).2.1
        have hb0 := ((hG 8 (by decide) hL6).2.2 b (by rw [hgb]; simp)).1
        rw [e0, e1] at hK ⊢
        have q0 := hr.cell (j := 0) rfl
        have q1 := hr.cell (j := 1) rfl
        have g0 := hr.frozen 0
        have g1 := hr.frozen 1
        have hlt := hr.lt
        go_simp
        have hkb : Keeps [b] w ((w.setCell ⟨b, 0, none⟩ (.int .i64 0)).setCell ⟨b, 1, none⟩ (.int .i64 W)) := (((Keeps.refl [b] w).set (List.mem_singleton.2 rfl) 0 (.int .i64 0)).set (List.mem_singleton.2 rfl) 1 (.int .i64 W))
        have hrow' : Row ((w.setCell ⟨b, 0, none⟩ (.int .i64 0)).setCell ⟨b, 1, none⟩ (.int .i64 W)) b 38 [.int .i64 0, .int .i64 W] := (hr.set 0 (.int .i64 0)).set 1 (.int .i64 W)
        refine hK undef [] _ ((hk.setNew (by simpa using hb0)).setNew (by simpa using hb0)) (by simp) (.inr fun d hd hl p => ?_) ?_ (by simp)
        · unfold ppPd at p ⊢
          by_cases h46 : d = 46
          · subst h46; simp only [if_true] at p ⊢; rw [updAt_other _ _ (by decide)]; exact p
          rw [if_neg h46] at p ⊢
          by_cases h47 : d = 47
          · subst h47; simp only [if_true] at p ⊢; rw [updAt_other _ _ (by decide)]; exact p
          rw [if_neg h47] at p ⊢
          by_cases h48 : d = 48
          · subst h48; simp only [if_true] at p ⊢; rw [updAt_other _ _ (by decide)]; exact p
          rw [if_neg h48] at p ⊢
          by_cases h49 : d = 49
          · subst h49; simp only [if_true] at p ⊢; rw [updAt_other _ _ (by decide)]; exact p
          rw [if_neg h49] at p ⊢
          by_cases h8 : d = 8
          · subst h8
            simp only [if_true] at p ⊢
            obtain ⟨b', p0, p1, -⟩ := p
            have eb : b' = b := by rw [e1] at p0; cases p0; rfl
            subst eb
            exact ⟨b', by rw [updAt_other _ _ (by decide)]; exact e1, p1, _, _, hrow'⟩
          rw [if_neg h8] at p ⊢
          by_cases h9 : d = 9
          · subst h9
            simp only [if_true] at p ⊢
            obtain ⟨b', p0, p1, x, y, p2⟩ := p
            have hne : b' ≠ b := fun h => by
              obtain ⟨q1, q2, -⟩ := hr
              obtain ⟨r1, r2, -⟩ := p2
              rw [h, q2] at r2
              cases r2
            exact ⟨b', by rw [updAt_other _ _ (by decide)]; exact p0, p1, x, y, p2.keeps hkb (by simpa using hne)⟩
          rw [if_neg h9] at p ⊢
          by_cases h1000 : d = 1000
          · exact absurd h1000 (hG d hd hl).1
          rw [if_neg h1000] at p ⊢
          by_cases h1001 : d = 1001
          · subst h1001
            simp only [if_true] at p ⊢
            obtain ⟨b', p0, p2⟩ := p
            have hne : b' ≠ b := fun h => by
              obtain ⟨q1, q2, -⟩ := hr
              obtain ⟨r1, r2, -⟩ := p2
              rw [h, q2] at r2
              cases r2
            exact ⟨b', by rw [updAt_other _ _ (by decide)]; exact p0, p2.keeps hkb (by simpa using hne)⟩
          rw [if_neg h1001] at p ⊢
          trivial
        · exact ⟨b, by rw [updAt_other _ _ (by decide)]; exact e1, hrow'⟩
      refine Each.cons ?_ ?_
      · -- a store
        intro v g w Ls hk hdep hG hD a ha KK hK
        simp only [setAll, ppSlots, List.foldl, Act.put, List.setIfInBounds_toArray, List.set_cons_zero, List.set_cons_succ] at ha
        subst ha
        simp only [Act.put, List.setIfInBounds_toArray, List.set_cons_zero, List.set_cons_succ] at hK
        have hL6 := hdep 5 (by kernel_rfl)
        have e0 : v 49 = (.agg #[.int .i64 (1 + W), .int .i64 N]) := (hG 49 (by decide) (hdep 3 (by kernel_rfl))).2.1
        obtain ⟨b, e1, hgb, x0, y0, hr⟩ : ∃ b, v 9 = .pointer (some ⟨b, 0, none⟩) ∧ g 9 = [b] ∧ ∃ x y, Row w b 41 [x, y] := (hG 9 (by decide) hL6).2.1
        have hb0 := ((hG 9 (by decide) hL6).2.2 b (by rw [hgb]; simp)).1
        rw [e0, e1] at hK ⊢
        have q0 := hr.cell (j := 0) rfl
        have q1 := hr.cell (j := 1) rfl
        have g0 := hr.frozen 0
        have g1 := hr.frozen 1
        have hlt := hr.lt
        go_simp
        have hkb : Keeps [b] w ((w.setCell ⟨b, 0, none⟩ (.int .i64 (1 + W))).setCell ⟨b, 1, none⟩ (.int .i64 N)) := (((Keeps.refl [b] w).set (List.mem_singleton.2 rfl) 0 (.int .i64 (1 + W))).set (List.mem_singleton.2 rfl) 1 (.int .i64 N))
        have hrow' : Row ((w.setCell ⟨b, 0, none⟩ (.int .i64 (1 + W))).setCell ⟨b, 1, none⟩ (.int .i64 N)) b 41 [.int .i64 (1 + W), .int .i64 N] := (hr.set 0 (.int .i64 (1 + W))).set 1 (.int .i64 N)
        refine hK undef [] _ ((hk.setNew (by simpa using hb0)).setNew (by simpa using hb0)) (by simp) (.inr fun d hd hl p => ?_) ?_ (by simp)
        · unfold ppPd at p ⊢
          by_cases h46 : d = 46
          · subst h46; simp only [if_true] at p ⊢; rw [updAt_other _ _ (by decide)]; exact p
          rw [if_neg h46] at p ⊢
          by_cases h47 : d = 47
          · subst h47; simp only [if_true] at p ⊢; rw [updAt_other _ _ (by decide)]; exact p
          rw [if_neg h47] at p ⊢
          by_cases h48 : d = 48
          · subst h48; simp only [if_true] at p ⊢; rw [updAt_other _ _ (by decide)]; exact p
          rw [if_neg h48] at p ⊢
          by_cases h49 : d = 49
          · subst h49; simp only [if_true] at p ⊢; rw [updAt_other _ _ (by decide)]; exact p
          rw [if_neg h49] at p ⊢
          by_cases h8 : d = 8
          · subst h8
            simp only [if_true] at p ⊢
            obtain ⟨b', p0, p1, x, y, p2⟩ := p
            have hne : b' ≠ b := fun h => by
              obtain ⟨q1, q2, -⟩ := hr
              obtain ⟨r1, r2, -⟩ := p2
              rw [h, q2] at r2
              cases r2
            exact ⟨b', by rw [updAt_other _ _ (by decide)]; exact p0, p1, x, y, p2.keeps hkb (by simpa using hne)⟩
          rw [if_neg h8] at p ⊢
          by_cases h9 : d = 9
          · subst h9
            simp only [if_true] at p ⊢
            obtain ⟨b', p0, p1, -⟩ := p
            have eb : b' = b := by rw [e1] at p0; cases p0; rfl
            subst eb
            exact ⟨b', by rw [updAt_other _ _ (by decide)]; exact e1, p1, _, _, hrow'⟩
          rw [if_neg h9] at p ⊢
          by_cases h1000 : d = 1000
          · subst h1000
            simp only [if_true] at p ⊢
            obtain ⟨b', p0, p2⟩ := p
            have hne : b' ≠ b := fun h => by
              obtain ⟨q1, q2, -⟩ := hr
              obtain ⟨r1, r2, -⟩ := p2
              rw [h, q2] at r2
              cases r2
            exact ⟨b', by rw [updAt_other _ _ (by decide)]; exact p0, p2.keeps hkb (by simpa using hne)⟩
          rw [if_neg h1000] at p ⊢
          by_cases h1001 : d = 1001
          · exact absurd h1001 (hG d hd hl).1
          rw [if_neg h1001] at p ⊢
          trivial
        · exact ⟨b, by rw [updAt_other _ _ (by decide)]; exact e1, hrow'⟩
      exact Each.nil
    intro v g w8 hk8 hall hdis a ha
    simp only [setAll, ppSlots, List.foldl, Act.put, List.setIfInBounds_toArray, List.set_cons_zero, List.set_cons_succ] at ha
    subst ha
    have a1 : v 46 = (plV W K S N) := (hall 46 (by decide)).1
    have a2 : v 47 = (.agg #[.int .i64 0, .int .i64 W]) := (hall 47 (by decide)).1
    have a3 : v 48 = (plV W K S N) := (hall 48 (by decide)).1
    have a4 : v 49 = (.agg #[.int .i64 (1 + W), .int .i64 N]) := (hall 49 (by decide)).1
    obtain ⟨by1, a5, ry⟩ : ∃ b, v 8 = .pointer (some ⟨b, 0, none⟩) ∧ Row w8 b 38 [.int .i64 0, .int .i64 W] := (hall 1000 (by decide)).1
    obtain ⟨bl1, a6, rl⟩ : ∃ b, v 9 = .pointer (some ⟨b, 0, none⟩) ∧ Row w8 b 41 [.int .i64 (1 + W), .int .i64 N] := (hall 1001 (by decide)).1
    rw [a1, a2, a3, a4, a5, a6]
    have HK8 := Lib.hid (HK4.out.trans hk8.undrew)
    have HRy := Lib.hid ry
    have HRl := Lib.hid rl
    clear hall hdis hk8 a1 a2 a3 a4 a5 a6 ry rl
    have HA := Lib.hid (fun Wx (k : Keeps [] w8 Wx) => show Wx.cell? ⟨w2.heap.size, 0, none⟩ = some (.int .i64 W) ∧ Wx.cell? ⟨w2.heap.size, 1, none⟩ = some (.int .i64 K) ∧ Wx.cell? ⟨w2.heap.size, 2, none⟩ = some (.int .i64 S) ∧ Wx.cell? ⟨w2.heap.size, 3, none⟩ = some (.int .i64 N) ∧ Wx.cell? ⟨w.heap.size, 0, none⟩ = some (.int .i64 W) ∧ Wx.cell? ⟨w.heap.size, 1, none⟩ = some (.int .i64 K) ∧ Wx.cell? ⟨w.heap.size, 2, none⟩ = some (.int .i64 S) ∧ Wx.cell? ⟨w.heap.size, 3, none⟩ = some (.int .i64 N) ∧ Wx.cell? ⟨by1, 0, none⟩ = some (.int .i64 0) ∧ Wx.cell? ⟨by1, 1, none⟩ = some (.int .i64 W) ∧ Wx.cell? ⟨bl1, 0, none⟩ = some (.int .i64 (1 + W)) ∧ Wx.cell? ⟨bl1, 1, none⟩ = some (.int .i64 N) from by
      obtain ⟨q0, q1, q2, q3⟩ := HP.out Wx (HK8.out.trans k)
      obtain ⟨c0, c1, c2, c3⟩ := HX.out Wx (HK3.out.trans (HK8.out.trans k))
      have ry := HRy.out.keeps k (by simp)
      have rl := HRl.out.keeps k (by simp)
      exact ⟨q0, q1, q2, q3, c0, c1, c2, c3, ry.cell (j := 0) rfl, ry.cell (j := 1) rfl, rl.cell (j := 0) rfl, rl.cell (j := 1) rfl⟩)
    clear c0 c1 c2 c3 p0 p1 p2 p3
    obtain ⟨p0, p1, p2, p3, c0, c1, c2, c3, y0, y1, l0, l1⟩ := HA.out w8 (Keeps.refl _ _)
    obtain ⟨r1, r2, r3, r4, r5, r6, r7⟩ := HR.out
    obtain ⟨nw, rfl⟩ : ∃ nw : Nat, W = (nw : Int) := ⟨W.toNat, by omega⟩
    have HLo := Lib.hid (fun Wx => refLocal12_any (nw : Int) K S N nw Wx HR.out (by omega))
    rw [show (nw : Int) + 3 * N + 4 + nw * (S + 2) = plCells nw S N from rfl] at HLo
    have HG := Lib.hid (fun Wx => plConfig_any (nw : Int) K S N Wx)
    have HC := Lib.hid (fun Wx => plCells_any (nw : Int) K S N Wx HR.out)
    have HH := Lib.hid (fun Wx => refHead12_any (nw : Int) K S N Wx r1 r2)
    clear r3 r4 r5
    have HKK : Hid (Keeps [] w8 w8) := Lib.hid (Keeps.refl _ _)
    go_wp2
    go_region_held3 (fun w' => w'.cell? ⟨w2.heap.size, 0, none⟩ = some (.int .i64 (nw : Int)) ∧ w'.cell? ⟨w2.heap.size, 1, none⟩ = some (.int .i64 K) ∧ w'.cell? ⟨w2.heap.size, 2, none⟩ = some (.int .i64 S) ∧ w'.cell? ⟨w2.heap.size, 3, none⟩ = some (.int .i64 N) ∧ w'.cell? ⟨w.heap.size, 0, none⟩ = some (.int .i64 (nw : Int)) ∧ w'.cell? ⟨w.heap.size, 1, none⟩ = some (.int .i64 K) ∧ w'.cell? ⟨w.heap.size, 2, none⟩ = some (.int .i64 S) ∧ w'.cell? ⟨w.heap.size, 3, none⟩ = some (.int .i64 N) ∧ w'.cell? ⟨by1, 0, none⟩ = some (.int .i64 0) ∧ w'.cell? ⟨by1, 1, none⟩ = some (.int .i64 (nw : Int)) ∧ w'.cell? ⟨bl1, 0, none⟩ = some (.int .i64 (1 + (nw : Int))) ∧ w'.cell? ⟨bl1, 1, none⟩ = some (.int .i64 N))
      (first
        | exact ⟨by assumption, by assumption, by assumption, by assumption, by assumption, by assumption, by assumption, by assumption, by assumption, by assumption, by assumption, by assumption⟩
        | exact HA.out _ HKK.out
        | fail)
      (first
        | (go_at_call 9; refine (HG.out _).mono ?_; rintro e w9 ⟨rfl, k9⟩; have HKN := Lib.hid (show Keeps [] w8 w9 from by first | exact HKK.out.trans k9.undrew | exact HKK.out.trans k9); clear k9 HKK; have HKK := HKN; clear HKN)
        | (go_at_call 10; refine (HC.out _).mono ?_; rintro e w9 ⟨rfl, k9⟩; have HKN := Lib.hid (show Keeps [] w8 w9 from by first | exact HKK.out.trans k9.undrew | exact HKK.out.trans k9); clear k9 HKK; have HKK := HKN; clear HKN)
        | (go_at_call 15; refine (HLo.out _).mono ?_; rintro e w9 ⟨rfl, k9⟩; have HKN := Lib.hid (show Keeps [] w8 w9 from by first | exact HKK.out.trans k9.undrew | exact HKK.out.trans k9); clear k9 HKK; have HKK := HKN; clear HKN)
        | (go_at_call 16; refine (HH.out _).mono ?_; rintro e w9 ⟨rfl, k9⟩; have HKN := Lib.hid (show Keeps [] w8 w9 from by first | exact HKK.out.trans k9.undrew | exact HKK.out.trans k9); clear k9 HKK; have HKK := HKN; clear HKN)
        | fail)
    obtain ⟨p0, p1, p2, p3, c0, c1, c2, c3, y0, y1, l0, l1⟩ := HA.out _ HKK.out
    by_cases hi0 : i < 0
    · have d1 : decide (i < 0) = true := decide_eq_true hi0
      have HS := Lib.hid (fun Wx => plSpot_none (nw : Int) K S N i Wx (by omega))
      have HO := Lib.hid (fun Wx => plLocal_none (nw : Int) K S N i Wx (by omega))
      clear HG HC HH HLo HM HNz HY HL
      go_wp2_with fail
      refine (HO.out _).mono ?_
      rintro e w10 ⟨rfl, k10⟩
      have HK10 := Lib.hid (HKK.out.trans k10)
      clear k10 p0 p1 p2 p3 c0 c1 c2 c3 y0 y1 l0 l1
      obtain ⟨p0, p1, p2, p3, c0, c1, c2, c3, y0, y1, l0, l1⟩ := HA.out _ HK10.out
      go_wp2_with fail
      refine (HS.out _).mono ?_
      rintro e w11 ⟨rfl, k11⟩
      have HK11 := Lib.hid (HK10.out.trans k11)
      clear k11
      go_wp2
      go_ret
      exact ⟨rfl, (HK0.out.trans (HK3.out.trans (HK8.out.trans HK11.out))).end⟩
    have d1 : decide (i < 0) = false := decide_eq_false hi0
    by_cases hi1 : (nw : Int) ≤ i
    · have d2 : decide ((nw : Int) ≤ i) = true := decide_eq_true hi1
      have HS := Lib.hid (fun Wx => plSpot_none (nw : Int) K S N i Wx (by omega))
      have HO := Lib.hid (fun Wx => plLocal_none (nw : Int) K S N i Wx (by omega))
      clear HG HC HH HLo HM HNz HY HL
      go_wp2_with fail
      refine (HO.out _).mono ?_
      rintro e w10 ⟨rfl, k10⟩
      have HK10 := Lib.hid (HKK.out.trans k10)
      clear k10 p0 p1 p2 p3 c0 c1 c2 c3 y0 y1 l0 l1
      obtain ⟨p0, p1, p2, p3, c0, c1, c2, c3, y0, y1, l0, l1⟩ := HA.out _ HK10.out
      go_wp2_with fail
      refine (HS.out _).mono ?_
      rintro e w11 ⟨rfl, k11⟩
      have HK11 := Lib.hid (HK10.out.trans k11)
      clear k11
      go_wp2
      go_ret
      exact ⟨rfl, (HK0.out.trans (HK3.out.trans (HK8.out.trans HK11.out))).end⟩
    have d2 : decide ((nw : Int) ≤ i) = false := decide_eq_false hi1
    obtain ⟨ni, rfl⟩ : ∃ ni : Nat, i = (ni : Int) := ⟨i.toNat, by omega⟩
    have HS := Lib.hid (fun Wx => plSpot_some (nw : Int) K S N ni Wx (by omega) r2)
    have HO := Lib.hid (fun Wx => plLocal_some (nw : Int) K S N ni Wx HR.out (by omega))
    have HLi := Lib.hid (fun Wx => refLocal12_any (nw : Int) K S N ni Wx HR.out (by omega))
    have HYR := Lib.hid (fun Wx => idRight_any 0 (nw : Int) Wx)
    rw [decide_eq_true (show idRight 0 (nw : Int) from ⟨r1, r2, by decide, by decide⟩)] at HYR
    have HLR := Lib.hid (fun Wx => quRight_any (1 + (nw : Int)) N Wx)
    rw [decide_eq_true (show quRight (1 + (nw : Int)) N from ⟨r6, r7, by omega, by omega⟩)] at HLR
    obtain ⟨xx, hxx⟩ : ∃ xx, (nw : Int) + 3 * N + 4 + (ni : Int) * (S + 2) = xx := ⟨_, rfl⟩
    rw [hxx] at HO HLi
    have hwi : IntKind.i64.wrap (1 + (ni : Int)) = 1 + (ni : Int) := IntWalk.i64_in _ (by omega)
    clear HG HC HH HLo HM HNz HY HL hxx
    go_wp2
    go_region_held3 (fun w' => w'.cell? ⟨w2.heap.size, 0, none⟩ = some (.int .i64 (nw : Int)) ∧ w'.cell? ⟨w2.heap.size, 1, none⟩ = some (.int .i64 K) ∧ w'.cell? ⟨w2.heap.size, 2, none⟩ = some (.int .i64 S) ∧ w'.cell? ⟨w2.heap.size, 3, none⟩ = some (.int .i64 N) ∧ w'.cell? ⟨w.heap.size, 0, none⟩ = some (.int .i64 (nw : Int)) ∧ w'.cell? ⟨w.heap.size, 1, none⟩ = some (.int .i64 K) ∧ w'.cell? ⟨w.heap.size, 2, none⟩ = some (.int .i64 S) ∧ w'.cell? ⟨w.heap.size, 3, none⟩ = some (.int .i64 N) ∧ w'.cell? ⟨by1, 0, none⟩ = some (.int .i64 0) ∧ w'.cell? ⟨by1, 1, none⟩ = some (.int .i64 (nw : Int)) ∧ w'.cell? ⟨bl1, 0, none⟩ = some (.int .i64 (1 + (nw : Int))) ∧ w'.cell? ⟨bl1, 1, none⟩ = some (.int .i64 N))
      (first
        | exact ⟨by assumption, by assumption, by assumption, by assumption, by assumption, by assumption, by assumption, by assumption, by assumption, by assumption, by assumption, by assumption⟩
        | exact HA.out _ HKK.out
        | fail)
      (first
        | (go_at_call 11; refine (HO.out _).mono ?_; rintro e w9 ⟨rfl, k9⟩; have HKN := Lib.hid (show Keeps [] w8 w9 from by first | exact HKK.out.trans k9.undrew | exact HKK.out.trans k9); clear k9 HKK; have HKK := HKN; clear HKN)
        | (go_at_call 15; refine (HLi.out _).mono ?_; rintro e w9 ⟨rfl, k9⟩; have HKN := Lib.hid (show Keeps [] w8 w9 from by first | exact HKK.out.trans k9.undrew | exact HKK.out.trans k9); clear k9 HKK; have HKK := HKN; clear HKN)
        | (go_at_call 12; refine (HS.out _).mono ?_; rintro e w9 ⟨rfl, k9⟩; have HKN := Lib.hid (show Keeps [] w8 w9 from by first | exact HKK.out.trans k9.undrew | exact HKK.out.trans k9); clear k9 HKK; have HKK := HKN; clear HKN)
        | (go_at_call 17; refine (HYR.out _).mono ?_; rintro e w9 ⟨rfl, k9⟩; have HKN := Lib.hid (show Keeps [] w8 w9 from by first | exact HKK.out.trans k9.undrew | exact HKK.out.trans k9); clear k9 HKK; have HKK := HKN; clear HKN)
        | (go_at_call 18; refine (HLR.out _).mono ?_; rintro e w9 ⟨rfl, k9⟩; have HKN := Lib.hid (show Keeps [] w8 w9 from by first | exact HKK.out.trans k9.undrew | exact HKK.out.trans k9); clear k9 HKK; have HKK := HKN; clear HKN)
        | fail)
    go_wp2
    go_ret
    exact ⟨rfl, (HK0.out.trans (HK3.out.trans (HK8.out.trans HKK.out))).end⟩
  · rw [if_neg hr] at HM
    have HG := Lib.hid (fun Wx => plConfig_any 0 0 0 0 Wx)
    have HC := Lib.hid (fun Wx => plCells_zero Wx)
    have HS := Lib.hid (fun Wx => plSpot_none 0 0 0 0 i Wx (by omega))
    have HO := Lib.hid (fun Wx => plLocal_none 0 0 0 0 i Wx (by omega))
    have HNz := Lib.hid (fun Wx => HNa.out Wx hr)
    clear hr HNw HNa
    go_wp2_with fail
    refine (HNz.out _).mono ?_
    rintro e w2 ⟨rfl, k2⟩
    have HK2 := Lib.hid (HK1.out.trans k2)
    clear k2 c0 c1 c2 c3
    obtain ⟨c0, c1, c2, c3⟩ := HX.out (w2.alloc (.cells #[.int .i64 0, .int .i64 0, .int .i64 0, .int .i64 0] 26)) (HK2.out.alloc _)
    go_wp2_with fail
    generalize hW3 : World.alloc w2 _ = W3 at *
    have hb : Box W3 w2.heap.size #[.int .i64 0, .int .i64 0, .int .i64 0, .int .i64 0] := by rw [← hW3]; exact Box.new _ _ _
    have HK3 : Hid (Keeps [] W0 W3) := Lib.hid (HK2.out.trans (by rw [← hW3]; exact (Keeps.refl _ _).alloc _))
    have HP := Lib.hid (fun Wx (k : Keeps [] W3 Wx) => show Wx.cell? ⟨w2.heap.size, 0, none⟩ = some (.int .i64 0) ∧ Wx.cell? ⟨w2.heap.size, 1, none⟩ = some (.int .i64 0) ∧ Wx.cell? ⟨w2.heap.size, 2, none⟩ = some (.int .i64 0) ∧ Wx.cell? ⟨w2.heap.size, 3, none⟩ = some (.int .i64 0) from ⟨(hb.keeps k (by simp)).cells 0, (hb.keeps k (by simp)).cells 1, (hb.keeps k (by simp)).cells 2, (hb.keeps k (by simp)).cells 3⟩)
    clear hW3 hb
    have HKa : Hid (Keeps [] W3 W3) := Lib.hid (Keeps.refl _ _)
    have p0 : True := trivial
    have p1 : True := trivial
    have p2 : True := trivial
    have p3 : True := trivial
    refine (HM.out _).mono ?_
    rintro e w4 ⟨rfl, k4⟩
    have HK4 := Lib.hid (HKa.out.trans k4)
    clear k4 p0 p1 p2 p3
    obtain ⟨p0, p1, p2, p3⟩ := HP.out _ HK4.out
    go_wp2_with fail
    refine (HG.out _).mono ?_
    rintro e w5 ⟨rfl, k5⟩
    have HK5 := Lib.hid (HK4.out.trans k5)
    clear k5 p0 p1 p2 p3
    obtain ⟨p0, p1, p2, p3⟩ := HP.out _ HK5.out
    go_wp2_with fail
    refine (HC.out _).mono ?_
    rintro e w6 ⟨rfl, k6⟩
    have HK6 := Lib.hid (HK5.out.trans k6)
    clear k6 p0 p1 p2 p3
    obtain ⟨p0, p1, p2, p3⟩ := HP.out _ HK6.out
    go_wp2_with fail
    refine (HO.out _).mono ?_
    rintro e w7 ⟨rfl, k7⟩
    have HK7 := Lib.hid (HK6.out.trans k7)
    clear k7 p0 p1 p2 p3
    obtain ⟨p0, p1, p2, p3⟩ := HP.out _ HK7.out
    go_wp2_with fail
    refine (HS.out _).mono ?_
    rintro e w8 ⟨rfl, k8⟩
    have HK8 := Lib.hid (HK7.out.trans k8)
    clear k8 p0 p1 p2 p3
    obtain ⟨p0, p1, p2, p3⟩ := HP.out _ HK8.out
    go_wp2
    go_ret
    exact ⟨rfl, (HK0.out.trans (HK3.out.trans HK8.out)).end⟩

set_option maxRecDepth 100000 in
theorem lifted (os : Os) (started : os.Started) (H : Type) (enc : TypeId × Value → H) :
    ReturnsInHanded {} Try.checked os 3 .any (Rows.planPartsSpec.pre6 enc Try.prog Try.f3 Rows.planPartsRow.domain false) (Rows.planPartsSpec.post enc Try.prog Try.f3 false true false false) := by
  refine returnsInHanded_of_change (C := Try.checked) own started (by kernel_rfl) Try.func3
    (ChangeSpec.witness6 (enc := enc) (C := Try.checked) false ⟨#[], #[.agg #[.int .i64 0, .int .i64 0, .int .i64 0, .int .i64 0], .int .i64 0], []⟩ 8 (by kernel_rfl) (by kernel_rfl) (by kernel_rfl) (by kernel_rfl)) ?_
  intro W base args ds gs before hval0 hW hcnd _
  have hval : ∀ (j : Nat) t v, Try.f3.params[j]? = some t → args[j]? = some v → Value.okWide Try.prog W .any base t v := hval0
  have hW' := hW
  obtain ⟨p, q, hA0, hV, rfl, hfz, hnd⟩ := hW
  have hA : DataW.TrodAll enc Try.prog W 0 (fun _ => true) true Try.f3.params.toList args.toList ds p := hA0
  rw [Try.params3] at hA hval
  obtain ⟨v0, vs0, d0, ds0, q0, qs0, hargs, rfl, rfl, h0, r0⟩ := trodAll_cons hA
  obtain ⟨v1, vs1, d1, ds1, q1, qs1, rfl, rfl, rfl, h1, r1⟩ := trodAll_cons r0
  obtain ⟨rfl, rfl, rfl⟩ := trodAll_nil r1
  obtain rfl : args = #[v0, v1] := by cases args; simp_all
  obtain ⟨rfl, rfl⟩ := trodVars_none hV
  have k0 := h0
  have lt0 : ∀ x ∈ q0, x.block < W.heap.size := by obtain ⟨m, hm⟩ := k0; exact DataW.trod_lt m _ _ _ hm
  obtain ⟨a0, b0, c0, e0, rfl, f0, g0, j0, l0⟩ := open_config (hval 0 23 v0 rfl rfl) h0
  obtain ⟨a1, rfl, rfl, rfl, w1⟩ := open_int Try.underlying3 (hval 1 3 v1 rfl rfl) h1
  clear hA0 hval0
  simp only [List.append_nil] at hW'
  refine (walk a0 b0 c0 e0 a1 W f0 g0 j0 l0 w1).mono fun e W' ⟨he, bel⟩ => ?_
  subst he
  exact ⟨_, rfl, _, _, _, [], _, [], hW', trodAll_mk1 (shut_bool Try.underlying4 _), (trodAll_cons_mk (Below.trod laidOut (by kernel_rfl) (of_decide_eq_true (by kernel_rfl)) k0 bel lt0) (trodAll_cons_mk (shut_int Try.underlying3 w1) trodAll_mk0)), rfl, bel.frame _, fun h => by cases h⟩

theorem proved : Rows.PlanPartsSaid :=
  OpenClaim.holds_of_wide 3 Try.f3 rfl rfl rfl rfl rfl rfl rfl ⟨rfl, rfl, rfl, rfl, rfl⟩ rfl rfl rfl rfl rfl (by kernel_rfl) Try.func3 (by kernel_rfl)
    (of_decide_eq_true (by kernel_rfl)) (by unfold Func.isWrapper; first | (rw [if_pos (by decide +kernel)]; kernel_rfl) | (rw [if_neg (by decide +kernel)]; exact ⟨rfl, rfl⟩))
    (fun os started H enc _ => lifted os started H enc)
#print axioms proved
end Go.Proofs.Ytnlkbmjelkbfkaa.planParts
