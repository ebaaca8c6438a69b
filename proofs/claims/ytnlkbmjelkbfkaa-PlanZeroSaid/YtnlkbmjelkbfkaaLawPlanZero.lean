/-
  The law PlanZero of the statements holds for every input: the call returns true, and the arguments read as before.
-/
import Derived.Test.YtnlkbmjelkbfkaaPlA
import Derived.Test.YtnlkbmjelkbfkaaOpenA
import Derived.Test.YtnlkbmjelkbfkaaLook
import Derived.Test.YtnlkbmjelkbfkaaRows
import Derived.WalkKit
import Derived.ProofKit
import Derived.OpenShut
import Derived.ShutString
import Derived.ChangeOld
import Derived.Below
import Derived.Test.YtnlkbmjelkbfkaaOpen
namespace Go.Proofs.Ytnlkbmjelkbfkaa.planZero
open Go.ChangeShapes Go.WideShapes Go.ChangeAt Go.RowKit
open Go.ChangeMaps (open_string shut_string)
set_option linter.unusedVariables false
set_option linter.unusedSimpArgs false

theorem own : ownKnob Try.prog.godebug = none := by kernel_rfl
theorem laidOut : laidOutB Try.prog = true := by kernel_rfl

def pzSlots : List Nat := [16, 17, 18, 19, 6, 7, 1000, 1001]
def pzR (d : Nat) : List Nat := if d = 1000 then [6] else if d = 1001 then [7] else []
/-- What is said of each slot. -/
def pzPd (pv yv lv : Value) (ys ls : List Value) (d : Nat) (v : Nat → Value) (γ : List Nat) (w : World) : Prop :=
  if d = 16 then v 16 = pv else if d = 17 then v 17 = yv else if d = 18 then v 18 = pv else if d = 19 then v 19 = lv
  else if d = 6 then (∃ b, v 6 = .pointer (some ⟨b, 0, none⟩) ∧ γ = [b] ∧ ∃ x y, Row w b 38 [x, y])
  else if d = 7 then (∃ b, v 7 = .pointer (some ⟨b, 0, none⟩) ∧ γ = [b] ∧ ∃ x y, Row w b 41 [x, y])
  else if d = 1000 then (∃ b, v 6 = .pointer (some ⟨b, 0, none⟩) ∧ Row w b 38 ys)
  else if d = 1001 then (∃ b, v 7 = .pointer (some ⟨b, 0, none⟩) ∧ Row w b 41 ls)
  else True
theorem pzPd_stable (pv yv lv : Value) (ys ls : List Value) (d : Nat) (v v' : Nat → Value) (γ : List Nat) (w w' : World) (h : pzPd pv yv lv ys ls d v γ w) (e : v' d = v d) (hR : ∀ j ∈ pzR d, v' j = v j) (hγ : ∀ k ∈ γ, k < w.heap.size) (hk : Keeps [] w w') : pzPd pv yv lv ys ls d v' γ w' := by
  unfold pzPd at h ⊢
  by_cases h16 : d = 16
  · subst h16; simp only [if_true] at h ⊢; rw [e]; exact h
  rw [if_neg h16] at h ⊢
  by_cases h17 : d = 17
  · subst h17; simp only [if_true] at h ⊢; rw [e]; exact h
  rw [if_neg h17] at h ⊢
  by_cases h18 : d = 18
  · subst h18; simp only [if_true] at h ⊢; rw [e]; exact h
  rw [if_neg h18] at h ⊢
  by_cases h19 : d = 19
  · subst h19; simp only [if_true] at h ⊢; rw [e]; exact h
  rw [if_neg h19] at h ⊢
  by_cases h6 : d = 6
  · subst h6
    simp only [if_true] at h ⊢
    obtain ⟨b, h0, h1, x, y, h2⟩ := h
    exact ⟨b, by rw [e]; exact h0, h1, x, y, h2.keeps hk (by simp)⟩
  rw [if_neg h6] at h ⊢
  by_cases h7 : d = 7
  · subst h7
    simp only [if_true] at h ⊢
    obtain ⟨b, h0, h1, x, y, h2⟩ := h
    exact ⟨b, by rw [e]; exact h0, h1, x, y, h2.keeps hk (by simp)⟩
  rw [if_neg h7] at h ⊢
  by_cases h1000 : d = 1000
  · subst h1000
    simp only [if_true] at h ⊢
    obtain ⟨b, h0, h2⟩ := h
    exact ⟨b, by rw [hR 6 (by decide)]; exact h0, h2.keeps hk (by simp)⟩
  rw [if_neg h1000] at h ⊢
  by_cases h1001 : d = 1001
  · subst h1001
    simp only [if_true] at h ⊢
    obtain ⟨b, h0, h2⟩ := h
    exact ⟨b, by rw [hR 7 (by decide)]; exact h0, h2.keeps hk (by simp)⟩
  rw [if_neg h1001] at h ⊢
  trivial

set_option maxHeartbeats 25600000 in
set_option maxRecDepth 200000 in
theorem walk (i : Int) (w : World) (hi : (Lit.int .i64 i).wf = true) :
    Calls Try.prog 5 #[.int .i64 i] w fun e w' => e = .returned (.bool true) ∧ Below w.heap.size w w' := by
  have HI := Lib.hid (fun Wx => plInit_zero Wx)
  have HY := Lib.hid (fun Wx => plYard_any 0 0 0 0 Wx)
  have HL := Lib.hid (fun Wx => plLine_any 0 0 0 0 Wx plFits.zero)
  rw [show plLine 0 0 = (0, 0) from rfl] at HL
  simp only at HL
  have HG := Lib.hid (fun Wx => plConfig_any 0 0 0 0 Wx)
  have HC := Lib.hid (fun Wx => plCells_zero Wx)
  have HS := Lib.hid (fun Wx => plSpot_none 0 0 0 0 i Wx (by omega))
  have HO := Lib.hid (fun Wx => plLocal_none 0 0 0 0 i Wx (by omega))
  have hfd : ∀ w : World, (Instr.field 35 (.agg #[.int .i64 (-1)]) 0).run Try.prog w = .ok (.int .i64 (-1)) w := fun _ => by kernel_rfl
  go_enter Try.func5, Try.ntmps5
  go_wp2_with fail
  refine (awake12 w).mono ?_
  rintro e w1 ⟨rfl, k1⟩
  go_wp2_with fail
  generalize hW2 : World.alloc w1 _ = W2
  have hb : Box W2 w1.heap.size #[.int .i64 0, .int .i64 0, .int .i64 0, .int .i64 0] := by rw [← hW2]; exact Box.new _ _ _
  have hk2 : Keeps [] w1 W2 := by rw [← hW2]; exact (Keeps.refl _ _).alloc _
  have HX := Lib.hid (fun Wx (k : Keeps [] W2 Wx) => show Wx.cell? ⟨w1.heap.size, 0, none⟩ = some (.int .i64 0) ∧ Wx.cell? ⟨w1.heap.size, 1, none⟩ = some (.int .i64 0) ∧ Wx.cell? ⟨w1.heap.size, 2, none⟩ = some (.int .i64 0) ∧ Wx.cell? ⟨w1.heap.size, 3, none⟩ = some (.int .i64 0) from ⟨(hb.keeps k (by simp)).cells 0, (hb.keeps k (by simp)).cells 1, (hb.keeps k (by simp)).cells 2, (hb.keeps k (by simp)).cells 3⟩)
  have HK2 := Lib.hid (k1.trans hk2)
  clear hb k1 hk2 hW2
  refine (HI.out _).mono ?_
  rintro e w3 ⟨rfl, k3⟩
  have HK3 := Lib.hid k3
  clear k3
  obtain ⟨c0, c1, c2, c3⟩ := HX.out _ HK3.out
  have HKK : Hid (Keeps [] W2 w3) := HK3
  go_wp2
  refine wp_region_own pzSlots pzR (pzPd (plV 0 0 0 0) (.agg #[.int .i64 0, .int .i64 0]) (.agg #[.int .i64 0, .int .i64 0]) [.int .i64 0, .int .i64 0] [.int .i64 0, .int .i64 0]) ?_ ?_ ?_ ?_ (pzPd_stable (plV 0 0 0 0) (.agg #[.int .i64 0, .int .i64 0]) (.agg #[.int .i64 0, .int .i64 0]) [.int .i64 0, .int .i64 0] [.int .i64 0, .int .i64 0]) ?_ ?_
  · kernel_rfl
  · kernel_rfl
  · decide
  · kernel_rfl
  · refine Each.cons ?_ ?_
    · -- a load
      intro v g w Ls hk hdep hG hD a ha K hK
      simp only [setAll, pzSlots, List.foldl, Act.put, List.setIfInBounds_toArray, List.set_cons_zero, List.set_cons_succ] at ha
      subst ha
      simp only [Act.put, List.setIfInBounds_toArray, List.set_cons_zero, List.set_cons_succ] at hK
      obtain ⟨c0, c1, c2, c3⟩ := HX.out w (HK3.out.trans hk.undrew)
      go_simp
      exact hK _ [] _ hk (Nat.le_refl _) (.inl (Keeps.refl _ _)) (show updAt v 16 _ 16 = (plV 0 0 0 0) from updAt_same _ _ _) (by simp)
    refine Each.cons ?_ ?_
    · -- a call
      intro v g w Ls hk hdep hG hD a ha K hK
      simp only [setAll, pzSlots, List.foldl, Act.put, List.setIfInBounds_toArray, List.set_cons_zero, List.set_cons_succ] at ha
      subst ha
      simp only [Act.put, List.setIfInBounds_toArray, List.set_cons_zero, List.set_cons_succ] at hK
      have e0 : v 16 = (plV 0 0 0 0) := (hG 16 (by decide) (hdep 0 (by kernel_rfl))).2.1
      rw [e0] at hK ⊢
      clear hdep hG hD
      go_simp
      go_at_call 13
      refine (HY.out _).mono ?_
      rintro e w1 ⟨rfl, k1⟩
      go_simp
      exact hK _ [] _ (hk.trans k1) k1.size (.inl k1) (show updAt v 17 _ 17 = (.agg #[.int .i64 0, .int .i64 0]) from updAt_same _ _ _) (by simp)
    refine Each.cons ?_ ?_
    · -- a load
      intro v g w Ls hk hdep hG hD a ha K hK
      simp only [setAll, pzSlots, List.foldl, Act.put, List.setIfInBounds_toArray, List.set_cons_zero, List.set_cons_succ] at ha
      subst ha
      simp only [Act.put, List.setIfInBounds_toArray, List.set_cons_zero, List.set_cons_succ] at hK
      obtain ⟨c0, c1, c2, c3⟩ := HX.out w (HK3.out.trans hk.undrew)
      go_simp
      exact hK _ [] _ hk (Nat.le_refl _) (.inl (Keeps.refl _ _)) (show updAt v 18 _ 18 = (plV 0 0 0 0) from updAt_same _ _ _) (by simp)
    refine Each.cons ?_ ?_
    · -- a call
      intro v g w Ls hk hdep hG hD a ha K hK
      simp only [setAll, pzSlots, List.foldl, Act.put, List.setIfInBounds_toArray, List.set_cons_zero, List.set_cons_succ] at ha
      subst ha
      simp only [Act.put, List.setIfInBounds_toArray, List.set_cons_zero, List.set_cons_succ] at hK
      have e0 : v 18 = (plV 0 0 0 0) := (hG 18 (by decide) (hdep 2 (by kernel_rfl))).2.1
      rw [e0] at hK ⊢
      clear hdep hG hD
      go_simp
      go_at_call 14
      refine (HL.out _).mono ?_
      rintro e w1 ⟨rfl, k1⟩
      go_simp
      exact hK _ [] _ (hk.trans k1) k1.size (.inl k1) (show updAt v 19 _ 19 = (.agg #[.int .i64 0, .int .i64 0]) from updAt_same _ _ _) (by simp)
    refine Each.cons ?_ ?_
    · -- a new variable
      intro v g w Ls hk hdep hG hD a ha K hK
      simp only [setAll, pzSlots, List.foldl, Act.put, List.setIfInBounds_toArray, List.set_cons_zero, List.set_cons_succ] at ha
      subst ha
      simp only [Act.put, List.setIfInBounds_toArray, List.set_cons_zero, List.set_cons_succ] at hK
      clear hdep hG hD
      go_simp
      refine hK _ [w.heap.size] _ (hk.alloc _) (by simp) (.inl ((Keeps.refl _ _).alloc _)) ?_ (by simp)
      exact ⟨w.heap.size, updAt_same _ _ _, rfl, _, _, Row.new _ _ _⟩
    refine Each.cons ?_ ?_
    · -- a new variable
      intro v g w Ls hk hdep hG hD a ha K hK
      simp only [setAll, pzSlots, List.foldl, Act.put, List.setIfInBounds_toArray, List.set_cons_zero, List.set_cons_succ] at ha
      subst ha
      simp only [Act.put, List.setIfInBounds_toArray, List.set_cons_zero, List.set_cons_succ] at hK
      clear hdep hG hD
      go_simp
      refine hK _ [w.heap.size] _ (hk.alloc _) (by simp) (.inl ((Keeps.refl _ _).alloc _)) ?_ (by simp)
      exact ⟨w.heap.size, updAt_same _ _ _, rfl, _, _, Row.new _ _ _⟩
    refine Each.cons ?_ ?_
    · -- a store
      intro v g w Ls hk hdep hG hD a ha K hK
      simp only [setAll, pzSlots, List.foldl, Act.put, List.setIfInBounds_toArray, List.set_cons_zero, List.set_cons_succ] at ha
      subst ha
      simp only [Act.put, List.setIfInBounds_toArray, List.set_cons_zero, List.set_cons_succ] at hK
      have hL6 := hdep 4 (by kernel_rfl)
      have e0 : v 17 = (.agg #[.int .i64 0, .int .i64 0]) := (hG 17 (by decide) (hdep 1 (by kernel_rfl))).2.1
      obtain ⟨b, e1, hgb, x0, y0, hr⟩ : ∃ b, v 6 = .pointer (some ⟨b, 0, none⟩) ∧ g 6 = [b] ∧ ∃ x y, Row w b 38 [x, y] := (hG 6 (by decide) hL6).2.1
      have hb0 := ((hG 6 (by decide) hL6).2.2 b (by rw [hgb]; simp)).1
      rw [e0, e1] at hK ⊢
      have q0 := hr.cell (j := 0) rfl
      have q1 := hr.cell (j := 1) rfl
      have g0 := hr.frozen 0
      have g1 := hr.frozen 1
      have hlt := hr.lt
      go_simp
      have hkb : Keeps [b] w ((w.setCell ⟨b, 0, none⟩ (.int .i64 0)).setCell ⟨b, 1, none⟩ (.int .i64 0)) := (((Keeps.refl [b] w).set (List.mem_singleton.2 rfl) 0 (.int .i64 0)).set (List.mem_singleton.2 rfl) 1 (.int .i64 0))
      have hrow' : Row ((w.setCell ⟨b, 0, none⟩ (.int .i64 0)).setCell ⟨b, 1, none⟩ (.int .i64 0)) b 38 [.int .i64 0, .int .i64 0] := (hr.set 0 (.int .i64 0)).set 1 (.int .i64 0)
      refine hK undef [] _ ((hk.setNew (by simpa using hb0)).setNew (by simpa using hb0)) (by simp) (.inr fun d hd hl p => ?_) ?_ (by simp)
      · unfold pzPd at p ⊢
        by_cases h16 : d = 16
        · subst h16; simp only [if_true] at p ⊢; rw [updAt_other _ _ (by decide)]; exact p
        rw [if_neg h16] at p ⊢
        by_cases h17 : d = 17
        · subst h17; simp only [if_true] at p ⊢; rw [updAt_other _ _ (by decide)]; exact p
        rw [if_neg h17] at p ⊢
        by_cases h18 : d = 18
        · subst h18; simp only [if_true] at p ⊢; rw [updAt_other _ _ (by decide)]; exact p
        rw [if_neg h18] at p ⊢
        by_cases h19 : d = 19
        · subst h19; simp only [if_true] at p ⊢; rw [updAt_other _ _ (by decide)]; exact p
        rw [if_neg h19] at p ⊢
        by_cases h6 : d = 6
        · subst h6
          simp only [if_true] at p ⊢
          obtain ⟨b', p0, p1, -⟩ := p
          have eb : b' = b := by rw [e1] at p0; cases p0; rfl
          subst eb
          exact ⟨b', by rw [updAt_other _ _ (by decide)]; exact e1, p1, _, _, hrow'⟩
        rw [if_neg h6] at p ⊢
        by_cases h7 : d = 7
        · subst h7
          simp only [if_true] at p ⊢
          obtain ⟨b', p0, p1, x, y, p2⟩ := p
          have hne : b' ≠ b := fun h => by
            obtain ⟨q1, q2, -⟩ := hr
            obtain ⟨r1, r2, -⟩ := p2
            rw [h, q2] at r2
            cases r2
          exact ⟨b', by rw [updAt_other _ _ (by decide)]; exact p0, p1, x, y, p2.keeps hkb (by simpa using hne)⟩
        rw [if_neg h7] at p ⊢
        by_cases h1000 : d = 1000
        · exact absurd h1000 (hG d hd hl).1
        rw [if_neg h1000] at p ⊢
        by_cases h1001 : d = 1001
        · subst h1001
          simp only [if_true] at p ⊢
          obtain ⟨b', p0, p2⟩ := p
          have hne : b' ≠ b := fun h => by
            obtain ⟨q1, q2, -⟩ := hr
            obtain ⟨r1, r2, -⟩ := p2
            rw [h, q2] at r2
            cases r2
          exact ⟨b', by rw [updAt_other _ _ (by decide)]; exact p0, p2.keeps hkb (by simpa using hne)⟩
        rw [if_neg h1001] at p ⊢
        trivial
      · exact ⟨b, by rw [updAt_other _ _ (by decide)]; exact e1, hrow'⟩
    refine Each.cons ?_ ?_
    · -- a store
      intro v g w Ls hk hdep hG hD a ha K hK
      simp only [setAll, pzSlots, List.foldl, Act.put, List.setIfInBounds_toArray, List.set_cons_zero, List.set_cons_succ] at ha
      subst ha
      simp only [Act.put, List.setIfInBounds_toArray, List.set_cons_zero, List.set_cons_succ] at hK
      have hL6 := hdep 5 (by kernel_rfl)
      have e0 : v 19 = (.agg #[.int .i64 0, .int .i64 0]) := (hG 19 (by decide) (hdep 3 (by kernel_rfl))).2.1
      obtain ⟨b, e1, hgb, x0, y0, hr⟩ : ∃ b, v 7 = .pointer (some ⟨b, 0, none⟩) ∧ g 7 = [b] ∧ ∃ x y, Row w b 41 [x, y] := (hG 7 (by decide) hL6).2.1
      have hb0 := ((hG 7 (by decide) hL6).2.2 b (by rw [hgb]; simp)).1
      rw [e0, e1] at hK ⊢
      have q0 := hr.cell (j := 0) rfl
      have q1 := hr.cell (j := 1) rfl
      have g0 := hr.frozen 0
      have g1 := hr.frozen 1
      have hlt := hr.lt
      go_simp
      have hkb : Keeps [b] w ((w.setCell ⟨b, 0, none⟩ (.int .i64 0)).setCell ⟨b, 1, none⟩ (.int .i64 0)) := (((Keeps.refl [b] w).set (List.mem_singleton.2 rfl) 0 (.int .i64 0)).set (List.mem_singleton.2 rfl) 1 (.int .i64 0))
      have hrow' : Row ((w.setCell ⟨b, 0, none⟩ (.int .i64 0)).setCell ⟨b, 1, none⟩ (.int .i64 0)) b 41 [.int .i64 0, .int .i64 0] := (hr.set 0 (.int .i64 0)).set 1 (.int .i64 0)
      refine hK undef [] _ ((hk.setNew (by simpa using hb0)).setNew (by simpa using hb0)) (by simp) (.inr fun d hd hl p => ?_) ?_ (by simp)
      · unfold pzPd at p ⊢
        by_cases h16 : d = 16
        · subst h16; simp only [if_true] at p ⊢; rw [updAt_other _ _ (by decide)]; exact p
        rw [if_neg h16] at p ⊢
        by_cases h17 : d = 17
        · subst h17; simp only [if_true] at p ⊢; rw [updAt_other _ _ (by decide)]; exact p
        rw [if_neg h17] at p ⊢
        by_cases h18 : d = 18
        · subst h18; simp only [if_true] at p ⊢; rw [updAt_other _ _ (by decide)]; exact p
        rw [if_neg h18] at p ⊢
        by_cases h19 : d = 19
        · subst h19; simp only [if_true] at p ⊢; rw [updAt_other _ _ (by decide)]; exact p
        rw [if_neg h19] at p ⊢
        by_cases h6 : d = 6
        · subst h6
          simp only [if_true] at p ⊢
          obtain ⟨b', p0, p1, x, y, p2⟩ := p
          have hne : b' ≠ b := fun h => by
            obtain ⟨q1, q2, -⟩ := hr
            obtain ⟨r1, r2, -⟩ := p2
            rw [h, q2] at r2
            cases r2
          exact ⟨b', by rw [updAt_other _ _ (by decide)]; exact p0, p1, x, y, p2.keeps hkb (by simpa using hne)⟩
        rw [if_neg h6] at p ⊢
        by_cases h7 : d = 7
        · subst h7
          simp only [if_true] at p ⊢
          obtain ⟨b', p0, p1, -⟩ := p
          have eb : b' = b := by rw [e1] at p0; cases p0; rfl
          subst eb
          exact ⟨b', by rw [updAt_other _ _ (by decide)]; exact e1, p1, _, _, hrow'⟩
        rw [if_neg h7] at p ⊢
        by_cases h1000 : d = 1000
        · subst h1000
          simp only [if_true] at p ⊢
          obtain ⟨b', p0, p2⟩ := p
          have hne : b' ≠ b := fun h => by
            obtain ⟨q1, q2, -⟩ := hr
            obtain ⟨r1, r2, -⟩ := p2
            rw [h, q2] at r2
            cases r2
          exact ⟨b', by rw [updAt_other _ _ (by decide)]; exact p0, p2.keeps hkb (by simpa using hne)⟩
        rw [if_neg h1000] at p ⊢
        by_cases h1001 : d = 1001
        · exact absurd h1001 (hG d hd hl).1
        rw [if_neg h1001] at p ⊢
        trivial
      · exact ⟨b, by rw [updAt_other _ _ (by decide)]; exact e1, hrow'⟩
    exact Each.nil
  intro v g w8 hk8 hall hdis a ha
  simp only [setAll, pzSlots, List.foldl, Act.put, List.setIfInBounds_toArray, List.set_cons_zero, List.set_cons_succ] at ha
  subst ha
  have a1 : v 16 = (plV 0 0 0 0) := (hall 16 (by decide)).1
  have a2 : v 17 = (.agg #[.int .i64 0, .int .i64 0]) := (hall 17 (by decide)).1
  have a3 : v 18 = (plV 0 0 0 0) := (hall 18 (by decide)).1
  have a4 : v 19 = (.agg #[.int .i64 0, .int .i64 0]) := (hall 19 (by decide)).1
  obtain ⟨by1, a5, ry⟩ : ∃ b, v 6 = .pointer (some ⟨b, 0, none⟩) ∧ Row w8 b 38 [.int .i64 0, .int .i64 0] := (hall 1000 (by decide)).1
  obtain ⟨bl1, a6, rl⟩ : ∃ b, v 7 = .pointer (some ⟨b, 0, none⟩) ∧ Row w8 b 41 [.int .i64 0, .int .i64 0] := (hall 1001 (by decide)).1
  rw [a1, a2, a3, a4, a5, a6]
  have HK8 := Lib.hid (HK3.out.trans hk8.undrew)
  have HRy := Lib.hid ry
  have HRl := Lib.hid rl
  clear hall hdis hk8 a1 a2 a3 a4 a5 a6 ry rl
  obtain ⟨c0, c1, c2, c3⟩ := HX.out _ HK8.out
  have y0 := HRy.out.cell (j := 0) rfl
  have y1 := HRy.out.cell (j := 1) rfl
  have l0 := HRl.out.cell (j := 0) rfl
  have l1 := HRl.out.cell (j := 1) rfl
  go_wp2_with fail
  refine (HG.out _).mono ?_
  rintro e w9 ⟨rfl, k9⟩
  have HK9 := Lib.hid (HK8.out.trans k9)
  have HRy9 := Lib.hid (HRy.out.keeps k9 (by simp))
  have HRl9 := Lib.hid (HRl.out.keeps k9 (by simp))
  clear k9 c0 c1 c2 c3 y0 y1 l0 l1
  obtain ⟨c0, c1, c2, c3⟩ := HX.out _ HK9.out
  have y0 := HRy9.out.cell (j := 0) rfl
  have y1 := HRy9.out.cell (j := 1) rfl
  have l0 := HRl9.out.cell (j := 0) rfl
  have l1 := HRl9.out.cell (j := 1) rfl
  go_wp2_with fail
  refine (HC.out _).mono ?_
  rintro e w10 ⟨rfl, k10⟩
  have HK10 := Lib.hid (HK9.out.trans k10)
  have HRy10 := Lib.hid (HRy9.out.keeps k10 (by simp))
  have HRl10 := Lib.hid (HRl9.out.keeps k10 (by simp))
  clear k10 c0 c1 c2 c3 y0 y1 l0 l1
  obtain ⟨c0, c1, c2, c3⟩ := HX.out _ HK10.out
  have y0 := HRy10.out.cell (j := 0) rfl
  have y1 := HRy10.out.cell (j := 1) rfl
  have l0 := HRl10.out.cell (j := 0) rfl
  have l1 := HRl10.out.cell (j := 1) rfl
  go_wp2_with fail
  refine (HS.out _).mono ?_
  rintro e w11 ⟨rfl, k11⟩
  have HK11 := Lib.hid (HK10.out.trans k11)
  have HRy11 := Lib.hid (HRy10.out.keeps k11 (by simp))
  have HRl11 := Lib.hid (HRl10.out.keeps k11 (by simp))
  clear k11 c0 c1 c2 c3 y0 y1 l0 l1
  obtain ⟨c0, c1, c2, c3⟩ := HX.out _ HK11.out
  have y0 := HRy11.out.cell (j := 0) rfl
  have y1 := HRy11.out.cell (j := 1) rfl
  have l0 := HRl11.out.cell (j := 0) rfl
  have l1 := HRl11.out.cell (j := 1) rfl
  go_wp2_with fail
  refine (HO.out _).mono ?_
  rintro e w12 ⟨rfl, k12⟩
  have HK12 := Lib.hid (HK11.out.trans k12)
  have HRy12 := Lib.hid (HRy11.out.keeps k12 (by simp))
  have HRl12 := Lib.hid (HRl11.out.keeps k12 (by simp))
  clear k12 c0 c1 c2 c3 y0 y1 l0 l1
  obtain ⟨c0, c1, c2, c3⟩ := HX.out _ HK12.out
  have y0 := HRy12.out.cell (j := 0) rfl
  have y1 := HRy12.out.cell (j := 1) rfl
  have l0 := HRl12.out.cell (j := 0) rfl
  have l1 := HRl12.out.cell (j := 1) rfl
  go_wp2
  go_ret
  exact ⟨rfl, (HK2.out.trans HK12.out).end⟩

set_option maxRecDepth 100000 in
theorem lifted (os : Os) (started : os.Started) (H : Type) (enc : TypeId × Value → H) :
    ReturnsInHanded {} Try.checked os 5 .any (Rows.planZeroSpec.pre6 enc Try.prog Try.f5 Rows.planZeroRow.domain false) (Rows.planZeroSpec.post enc Try.prog Try.f5 false true false false) := by
  refine returnsInHanded_of_change (C := Try.checked) own started (by kernel_rfl) Try.func5
    (ChangeSpec.witness6 (enc := enc) (C := Try.checked) false ⟨#[], #[.int .i64 0], []⟩ 8 (by kernel_rfl) (by kernel_rfl) (by kernel_rfl) (by kernel_rfl)) ?_
  intro W base args ds gs before hval0 hW hcnd _
  have hval : ∀ (j : Nat) t v, Try.f5.params[j]? = some t → args[j]? = some v → Value.okWide Try.prog W .any base t v := hval0
  have hW' := hW
  obtain ⟨p, q, hA0, hV, rfl, hfz, hnd⟩ := hW
  have hA : DataW.TrodAll enc Try.prog W 0 (fun _ => true) true Try.f5.params.toList args.toList ds p := hA0
  rw [Try.params5] at hA hval
  obtain ⟨v0, vs0, d0, ds0, q0, qs0, hargs, rfl, rfl, h0, r0⟩ := trodAll_cons hA
  obtain ⟨rfl, rfl, rfl⟩ := trodAll_nil r0
  obtain rfl : args = #[v0] := by cases args; simp_all
  obtain ⟨rfl, rfl⟩ := trodVars_none hV
  obtain ⟨a0, rfl, rfl, rfl, w0⟩ := open_int Try.underlying3 (hval 0 3 v0 rfl rfl) h0
  clear hA0 hval0
  simp only [List.append_nil] at hW'
  refine (walk a0 W w0).mono fun e W' ⟨he, bel⟩ => ?_
  subst he
  exact ⟨_, rfl, _, _, _, [], _, [], hW', trodAll_mk1 (shut_bool Try.underlying4 _), (trodAll_cons_mk (shut_int Try.underlying3 w0) trodAll_mk0), rfl, bel.frame _, fun h => by cases h⟩

theorem proved : Rows.PlanZeroSaid :=
  OpenClaim.holds_of_wide 5 Try.f5 rfl rfl rfl rfl rfl rfl rfl ⟨rfl, rfl, rfl, rfl, rfl⟩ rfl rfl rfl rfl rfl (by kernel_rfl) Try.func5 (by kernel_rfl)
    (of_decide_eq_true (by kernel_rfl)) (by unfold Func.isWrapper; first | (rw [if_pos (by decide +kernel)]; kernel_rfl) | (rw [if_neg (by decide +kernel)]; exact ⟨rfl, rfl⟩))
    (fun os started H enc _ => lifted os started H enc)
#print axioms proved
end Go.Proofs.Ytnlkbmjelkbfkaa.planZero
