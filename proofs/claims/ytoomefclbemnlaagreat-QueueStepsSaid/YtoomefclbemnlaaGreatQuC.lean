/-
  The chapter's example of layer 9: the machine alone.
-/
import Derived.Test.YtoomefclbemnlaaGreatQuA
import Derived.Test.YtoomefclbemnlaaGreatQuF
import Derived.Test.YtoomefclbemnlaaGreatStart
import Derived.Test.YtoomefclbemnlaaGreatMem3
import Derived.Test.YtoomefclbemnlaaGreatAny
import Derived.Deep.CutRange
import Derived.Deep.CutBlock
namespace Go.Proofs.YtoomefclbemnlaaGreat
set_option maxRecDepth 100000
set_option linter.unusedSimpArgs false
set_option linter.unusedVariables false
open Go.ChangeShapes Go.WideShapes Go.ChangeAt Go.RowKit

def qexBegin (k : Nat) : QuS := ([quPut 0 3 [7, 8], quPut 0 3 [9], quTake 0 3, quPut 0 3 [9], quTake 0 3, quTake 0 3, quTake 0 3] : List QuS).getD k (quTake 0 3)
def qexUs (k : Nat) : List Int := ([[1, 1, 2, 0, 3, 0, 0, 0, 0, 0, 0, 0],
  [1, 4294967299, 8589934592, 0, 3, 0, 0, 7, 8, 4294967298, 4294967299, 4294967296],
  [1, 4294967299, 8589934592, 0, 3, 0, 0, 7, 8, 4294967298, 4294967299, 4294967296],
  [4294967298, 4294967299, 12884901889, 0, 3, 0, 0, 7, 8, 4294967298, 4294967299, 4294967296],
  [4294967298, 8589934593, 17179869184, 0, 3, 0, 9, 7, 8, 8589934592, 4294967299, 8589934593],
  [8589934595, 8589934593, 21474836482, 0, 0, 0, 9, 7, 8, 8589934592, 4294967299, 8589934593],
  [12884901889, 8589934593, 25769803779, 0, 0, 2, 9, 7, 8, 8589934592, 4294967299, 8589934593],
  [12884901889, 8589934593, 25769803779, 0, 0, 2, 9, 7, 8, 8589934592, 4294967299, 8589934593]] : List (List Int)).getD k []
def qexCodes : List Int := [0, 7, 0, 0, 0, 0, 5]
def qexWant : List Int := [0, 0, 7, 0, 8, 9, 0]
theorem qexRuns (k : Nat) (hk : k < 7) : ∃ (n : Nat) (s' : QuS), 0 < n ∧ n ≤ 60 ∧ Solo queueM (qexUs k) (qexBegin k) n (qexUs (k + 1)) s' ∧ queueM.res s' = some ⟨qexCodes.getD k 0, qexWant.getD k 0, []⟩ := by
  have go : ∀ (n : Nat), 0 < n → n ≤ 60 → (soloRun queueM 80 (qexUs k) (qexBegin k)).map (fun x => (x.1, x.2.1, queueM.res x.2.2)) = some (n, qexUs (k + 1), some ⟨qexCodes.getD k 0, qexWant.getD k 0, []⟩) → ∃ (n : Nat) (s' : QuS), 0 < n ∧ n ≤ 60 ∧ Solo queueM (qexUs k) (qexBegin k) n (qexUs (k + 1)) s' ∧ queueM.res s' = some ⟨qexCodes.getD k 0, qexWant.getD k 0, []⟩ := fun n h1 h2 h => by
    obtain ⟨s', a, b⟩ := soloRun_res queueM 80 _ _ _ _ _ h
    exact ⟨n, s', h1, h2, a, b⟩
  rcases (show k = 0 ∨ k = 1 ∨ k = 2 ∨ k = 3 ∨ k = 4 ∨ k = 5 ∨ k = 6 by omega) with rfl | rfl | rfl | rfl | rfl | rfl | rfl
  · exact go 17 (by decide) (by decide) (by kernel_rfl)
  · exact go 1 (by decide) (by decide) (by kernel_rfl)
  · exact go 9 (by decide) (by decide) (by kernel_rfl)
  · exact go 11 (by decide) (by decide) (by kernel_rfl)
  · exact go 9 (by decide) (by decide) (by kernel_rfl)
  · exact go 9 (by decide) (by decide) (by kernel_rfl)
  · exact go 4 (by decide) (by decide) (by kernel_rfl)
/-- The region that makes the walks: what its slots hold. -/
def QeW (w : World) (x : Value) (γ : List Nat) (k : Nat) : Prop := ∃ m, x = .pointer (some ⟨m, 0, none⟩) ∧ quI m w γ (qexBegin k)
theorem QeW.keeps {w w' : World} {x : Value} {γ : List Nat} {k : Nat} (h : QeW w x γ k) (hk : Keeps [] w w') : QeW w' x γ k := by
  obtain ⟨m, e, hI⟩ := h
  exact ⟨m, e, (quRuns m).frame hI hk (by simp)⟩
def qeIx : List Nat := [28, 31, 33, 36, 38, 40, 42]
def qeSlots : List Nat := [26, 27, 28, 29, 30, 31, 32, 33, 34, 35, 36, 37, 38, 39, 40, 41, 42, 43, 6]
def qeR (d : Nat) : List Nat := if d = 43 then qeIx else if d = 6 then [43] else []
def qeRow (v : Nat → Value) : List Value := [v 28, v 31, v 33, v 36, v 38, v 40, v 42]
def qePd (d : Nat) (v : Nat → Value) (γ : List Nat) (w : World) : Prop :=
  if d = 27 then Sl w 1 (v 27) 2 (ints .u64 [7, 8]) else if d = 30 then Sl w 1 (v 30) 1 (ints .u64 [9]) else if d = 35 then Sl w 1 (v 35) 1 (ints .u64 [9])
  else if d = 28 then QeW w (v 28) γ 0 else if d = 31 then QeW w (v 31) γ 1 else if d = 33 then QeW w (v 33) γ 2 else if d = 36 then QeW w (v 36) γ 3 else if d = 38 then QeW w (v 38) γ 4
  else if d = 40 then QeW w (v 40) γ 5 else if d = 42 then QeW w (v 42) γ 6
  else if d = 43 then ∃ bl, γ = [bl] ∧ v 43 = .slice (some ⟨bl, 0, none⟩) 7 7 ∧ Row w bl 32 (qeRow v)
  else if d = 6 then v 6 = v 43 else v d = .agg #[.int .i64 0, .int .i64 3]
theorem qePd_stable (d : Nat) (v v' : Nat → Value) (γ : List Nat) (w w' : World) (h : qePd d v γ w) (e : v' d = v d) (hR : ∀ j ∈ qeR d, v' j = v j) (hγ : ∀ k ∈ γ, k < w.heap.size) (hk : Keeps [] w w') : qePd d v' γ w' := by
  unfold qePd at h ⊢
  by_cases h27 : d = 27
  · subst h27; simp only [if_true] at h ⊢; rw [e]; exact h.keeps hk (by simp)
  rw [if_neg h27] at h ⊢
  by_cases h30 : d = 30
  · subst h30; simp only [if_true] at h ⊢; rw [e]; exact h.keeps hk (by simp)
  rw [if_neg h30] at h ⊢
  by_cases h35 : d = 35
  · subst h35; simp only [if_true] at h ⊢; rw [e]; exact h.keeps hk (by simp)
  rw [if_neg h35] at h ⊢
  by_cases h28 : d = 28
  · subst h28; simp only [if_true] at h ⊢; rw [e]; exact h.keeps hk
  rw [if_neg h28] at h ⊢
  by_cases h31 : d = 31
  · subst h31; simp only [if_true] at h ⊢; rw [e]; exact h.keeps hk
  rw [if_neg h31] at h ⊢
  by_cases h33 : d = 33
  · subst h33; simp only [if_true] at h ⊢; rw [e]; exact h.keeps hk
  rw [if_neg h33] at h ⊢
  by_cases h36 : d = 36
  · subst h36; simp only [if_true] at h ⊢; rw [e]; exact h.keeps hk
  rw [if_neg h36] at h ⊢
  by_cases h38 : d = 38
  · subst h38; simp only [if_true] at h ⊢; rw [e]; exact h.keeps hk
  rw [if_neg h38] at h ⊢
  by_cases h40 : d = 40
  · subst h40; simp only [if_true] at h ⊢; rw [e]; exact h.keeps hk
  rw [if_neg h40] at h ⊢
  by_cases h42 : d = 42
  · subst h42; simp only [if_true] at h ⊢; rw [e]; exact h.keeps hk
  rw [if_neg h42] at h ⊢
  by_cases h43 : d = 43
  · subst h43
    simp only [if_true] at h ⊢
    obtain ⟨bl, h0, h1, h2⟩ := h
    refine ⟨bl, h0, by rw [e, h1], ?_⟩
    have : qeRow v' = qeRow v := by
      unfold qeRow
      rw [hR 28 (by decide), hR 31 (by decide), hR 33 (by decide), hR 36 (by decide), hR 38 (by decide), hR 40 (by decide), hR 42 (by decide)]
    rw [this]
    exact h2.keeps hk (by simp)
  rw [if_neg h43] at h ⊢
  by_cases h6 : d = 6
  · subst h6; simp only [if_true] at h ⊢; rw [e, h, hR 43 (by decide)]
  rw [if_neg h6] at h ⊢
  rw [e, h]
/-- The blocks that no walk of the example that has begun may write. -/
def qeD (E : Nat → Prop) (bl cl : Nat) (γ : Nat → List Nat) (k x : Nat) : Prop := E x ∨ x = bl ∨ x = cl ∨ x = cl + 1 ∨ ∃ j, k ≤ j ∧ j < 7 ∧ x ∈ γ j
theorem qeD.next {E : Nat → Prop} {bl cl : Nat} {γ : Nat → List Nat} {k x : Nat} (h : qeD E bl cl γ (k + 1) x) : qeD E bl cl γ k x := by
  rcases h with h | h | h | h | ⟨j, h1, h2, h3⟩
  · exact .inl h
  · exact .inr (.inl h)
  · exact .inr (.inr (.inl h))
  · exact .inr (.inr (.inr (.inl h)))
  · exact .inr (.inr (.inr (.inr ⟨j, by omega, h2, h3⟩)))
end Go.Proofs.YtoomefclbemnlaaGreat

/-
  The chapter's example of layer 9.
-/
namespace Go.Proofs.YtoomefclbemnlaaGreat
set_option maxRecDepth 100000
set_option linter.unusedSimpArgs false
set_option linter.unusedVariables false
open Go.ChangeShapes Go.WideShapes Go.ChangeAt Go.RowKit

set_option maxHeartbeats 6400000 in
theorem awake9 (w : World) :
    Calls Tryz.prog 4 #[] w fun e w' => e = .returned (.bool true) ∧ Below w.heap.size w w' := by
  obtain ⟨B, hB⟩ : ∃ B, w.heap.size = B := ⟨_, rfl⟩
  rw [hB]
  obtain ⟨W1, hW1⟩ : ∃ W1, w.alloc (.cells #[.int .i64 0, .int .i64 3] 23) = W1 := ⟨_, rfl⟩
  have bq : Box W1 B #[.int .i64 0, .int .i64 3] := by rw [← hW1, ← hB]; exact Box.new _ _ _
  have k1 : Keeps [] w W1 := by rw [← hW1]; exact (Keeps.refl _ _).alloc _
  have NA := Lib.hid (new_any 12 W1 (by omega) (by omega))
  have HB1 := Lib.hid (show Below B w W1 from k1.below (by omega) (by simp))
  have HQ1 := Lib.hid bq
  clear bq k1
  go_enter Tryz.func4, Tryz.ntmps4
  go_wp2_with fail
  refine NA.out.mono ?_
  clear NA
  rintro e w2 ⟨m, b, rfl, hM, k2, hm, hb⟩
  have s1 := HB1.out.size
  have HB2 := Lib.hid (HB1.out.trans (k2.below (by omega) (by simp)))
  have HM2 := Lib.hid hM
  have HQ2 := Lib.hid (HQ1.out.keeps k2 (by simp))
  have hbq := HQ1.out.lt
  have hmlt := hM.lt
  have s2 := HB2.out.size
  clear hM k2 hW1
  obtain ⟨E, hE⟩ : ∃ E : Nat → Prop, (fun x => x < B ∨ x = B) = E := ⟨_, rfl⟩
  have HE : Hid ((∀ k, k < B → E k) ∧ E B ∧ ∀ k, E k → k < B ∨ k = B) := Lib.hid (by rw [← hE]; exact ⟨fun k hk => .inl hk, .inr rfl, fun k hk => hk⟩)
  clear hE
  go_wp2_with fail
  refine (loomNew_any E 1 m b (List.replicate 12 0) w2 HM2.out (by omega) (by omega) (fun k hk => by rcases HE.out.2.2 k hk with h | h <;> omega) (fun hk => by rcases HE.out.2.2 b hk with h | h <;> omega)).mono ?_
  rintro e w6 ⟨l, gl, rfl, hL6, k6⟩
  have q6 := HQ2.out.keeps k6 (by simp)
  have c60 := q6.cells 0
  have c61 := q6.cells 1
  simp at c60 c61
  have HL6 := Lib.hid hL6
  have HQ6 := Lib.hid q6
  have HB6 := Lib.hid (HB2.out.trans (k6.below (by omega) (by simp)))
  have s6 := k6.size
  clear hL6 k6 q6 HB1 HB2 HQ1 HQ2 HM2
  go_wp2_with fail
  refine (quInit_ok m b 0 3 (List.replicate 12 0) w6 HL6.out.mem (by decide) (by decide)).mono ?_
  rintro e w7 ⟨rfl, hM7, k7⟩
  rw [show laidAt (List.replicate 12 0) (quRow 3) 0 (3 * 3 + 3) = qexUs 0 from by decide] at hM7
  have hL7 := HL6.out.setMem k7 hM7
  have q7 := HQ6.out.keeps k7 (by simp; omega)
  have HL7 := Lib.hid hL7
  have HQ7 := Lib.hid q7
  have HB7 := Lib.hid (HB6.out.trans (k7.below (by omega) (by simp; omega)))
  have c70 := q7.cells 0
  have c71 := q7.cells 1
  simp at c70 c71
  clear hL7 q7 k7 hM7 HB6 HQ6 HL6 c60 c61
  go_wp2
  have HZ7 : Hid (w7.heap.size = w7.heap.size) := Lib.hid rfl
  refine wp_region_slots qeSlots qeR qePd ?_ ?_ ?_ ?_ qePd_stable ?_ ?_
  · kernel_rfl
  · kernel_rfl
  · decide
  · kernel_rfl
  · refine Each.cons ?_ ?_
    · -- operation 0
      intro v g w hk hdep a ha K hK
      simp only [setAll, qeSlots, List.foldl, Act.put, List.setIfInBounds_toArray, List.set_cons_zero, List.set_cons_succ] at ha
      subst ha
      simp only [Act.put, List.setIfInBounds_toArray, List.set_cons_zero, List.set_cons_succ] at hK
      have q := HQ7.out.keeps hk.undrew (by simp)
      have c0 := q.cells 0
      have c1 := q.cells 1
      simp at c0 c1
      clear q
      go_simp
      exact hK _ [] _ (Keeps.refl _ _) (updAt_same v 26 _) (by simp)
    refine Each.cons ?_ ?_
    · -- operation 1
      intro v g w hk hdep a ha K hK
      simp only [setAll, qeSlots, List.foldl, Act.put, List.setIfInBounds_toArray, List.set_cons_zero, List.set_cons_succ] at ha
      subst ha
      simp only [Act.put, List.setIfInBounds_toArray, List.set_cons_zero, List.set_cons_succ] at hK
      go_simp
      refine hK _ [] _ ((Keeps.refl _ _).alloc _) ?_ (by simp)
      show Sl _ 1 (updAt v 27 _ 27) 2 (ints .u64 [7, 8])
      rw [updAt_same]
      exact Sl.lit _ _ _ 1 2 2 rfl
    refine Each.cons ?_ ?_
    · -- operation 2
      intro v g w hk hdep a ha K hK
      simp only [setAll, qeSlots, List.foldl, Act.put, List.setIfInBounds_toArray, List.set_cons_zero, List.set_cons_succ] at ha
      subst ha
      simp only [Act.put, List.setIfInBounds_toArray, List.set_cons_zero, List.set_cons_succ] at hK
      have h0 : qePd 26 v (g 26) w := hdep 0 (by kernel_rfl)
      have h1 : qePd 27 v (g 27) w := hdep 1 (by kernel_rfl)
      have e0 : v 26 = .agg #[.int .i64 0, .int .i64 3] := h0
      have e1 : Sl w 1 (v 27) 2 (ints .u64 [7, 8]) := h1
      have HC := Lib.hid (quPut_made 0 3 (v 27) 2 [7, 8] w e1 (by decide) (by simp [M.U]))
      clear h0 h1 hdep e1
      rw [e0] at hK ⊢
      go_simp
      go_at_call 10
      refine HC.out.mono ?_
      rintro e w1 ⟨m1, S1, rfl, i1, k1, s1⟩
      go_simp
      refine hK _ S1 _ k1 ?_ (fun x hx => ⟨s1 x hx, (quRuns m1).lt i1 x hx⟩)
      show QeW w1 (updAt v 28 _ 28) S1 0
      rw [updAt_same]
      exact ⟨m1, rfl, i1⟩
    refine Each.cons ?_ ?_
    · -- operation 3
      intro v g w hk hdep a ha K hK
      simp only [setAll, qeSlots, List.foldl, Act.put, List.setIfInBounds_toArray, List.set_cons_zero, List.set_cons_succ] at ha
      subst ha
      simp only [Act.put, List.setIfInBounds_toArray, List.set_cons_zero, List.set_cons_succ] at hK
      have q := HQ7.out.keeps hk.undrew (by simp)
      have c0 := q.cells 0
      have c1 := q.cells 1
      simp at c0 c1
      clear q
      go_simp
      exact hK _ [] _ (Keeps.refl _ _) (updAt_same v 29 _) (by simp)
    refine Each.cons ?_ ?_
    · -- operation 4
      intro v g w hk hdep a ha K hK
      simp only [setAll, qeSlots, List.foldl, Act.put, List.setIfInBounds_toArray, List.set_cons_zero, List.set_cons_succ] at ha
      subst ha
      simp only [Act.put, List.setIfInBounds_toArray, List.set_cons_zero, List.set_cons_succ] at hK
      go_simp
      refine hK _ [] _ ((Keeps.refl _ _).alloc _) ?_ (by simp)
      show Sl _ 1 (updAt v 30 _ 30) 1 (ints .u64 [9])
      rw [updAt_same]
      exact Sl.lit _ _ _ 1 1 1 rfl
    refine Each.cons ?_ ?_
    · -- operation 5
      intro v g w hk hdep a ha K hK
      simp only [setAll, qeSlots, List.foldl, Act.put, List.setIfInBounds_toArray, List.set_cons_zero, List.set_cons_succ] at ha
      subst ha
      simp only [Act.put, List.setIfInBounds_toArray, List.set_cons_zero, List.set_cons_succ] at hK
      have h0 : qePd 29 v (g 29) w := hdep 3 (by kernel_rfl)
      have h1 : qePd 30 v (g 30) w := hdep 4 (by kernel_rfl)
      have e0 : v 29 = .agg #[.int .i64 0, .int .i64 3] := h0
      have e1 : Sl w 1 (v 30) 1 (ints .u64 [9]) := h1
      have HC := Lib.hid (quPut_made 0 3 (v 30) 1 [9] w e1 (by decide) (by simp [M.U]))
      clear h0 h1 hdep e1
      rw [e0] at hK ⊢
      go_simp
      go_at_call 10
      refine HC.out.mono ?_
      rintro e w1 ⟨m1, S1, rfl, i1, k1, s1⟩
      go_simp
      refine hK _ S1 _ k1 ?_ (fun x hx => ⟨s1 x hx, (quRuns m1).lt i1 x hx⟩)
      show QeW w1 (updAt v 31 _ 31) S1 1
      rw [updAt_same]
      exact ⟨m1, rfl, i1⟩
    refine Each.cons ?_ ?_
    · -- operation 6
      intro v g w hk hdep a ha K hK
      simp only [setAll, qeSlots, List.foldl, Act.put, List.setIfInBounds_toArray, List.set_cons_zero, List.set_cons_succ] at ha
      subst ha
      simp only [Act.put, List.setIfInBounds_toArray, List.set_cons_zero, List.set_cons_succ] at hK
      have q := HQ7.out.keeps hk.undrew (by simp)
      have c0 := q.cells 0
      have c1 := q.cells 1
      simp at c0 c1
      clear q
      go_simp
      exact hK _ [] _ (Keeps.refl _ _) (updAt_same v 32 _) (by simp)
    refine Each.cons ?_ ?_
    · -- operation 7
      intro v g w hk hdep a ha K hK
      simp only [setAll, qeSlots, List.foldl, Act.put, List.setIfInBounds_toArray, List.set_cons_zero, List.set_cons_succ] at ha
      subst ha
      simp only [Act.put, List.setIfInBounds_toArray, List.set_cons_zero, List.set_cons_succ] at hK
      have h0 : qePd 32 v (g 32) w := hdep 6 (by kernel_rfl)
      have e0 : v 32 = .agg #[.int .i64 0, .int .i64 3] := h0
      have HC := Lib.hid (quTake_made 0 3 w)
      clear h0 hdep
      rw [e0] at hK ⊢
      go_simp
      go_at_call 13
      refine HC.out.mono ?_
      rintro e w1 ⟨m1, S1, rfl, i1, k1, s1⟩
      go_simp
      refine hK _ S1 _ k1 ?_ (fun x hx => ⟨s1 x hx, (quRuns m1).lt i1 x hx⟩)
      show QeW w1 (updAt v 33 _ 33) S1 2
      rw [updAt_same]
      exact ⟨m1, rfl, i1⟩
    refine Each.cons ?_ ?_
    · -- operation 8
      intro v g w hk hdep a ha K hK
      simp only [setAll, qeSlots, List.foldl, Act.put, List.setIfInBounds_toArray, List.set_cons_zero, List.set_cons_succ] at ha
      subst ha
      simp only [Act.put, List.setIfInBounds_toArray, List.set_cons_zero, List.set_cons_succ] at hK
      have q := HQ7.out.keeps hk.undrew (by simp)
      have c0 := q.cells 0
      have c1 := q.cells 1
      simp at c0 c1
      clear q
      go_simp
      exact hK _ [] _ (Keeps.refl _ _) (updAt_same v 34 _) (by simp)
    refine Each.cons ?_ ?_
    · -- operation 9
      intro v g w hk hdep a ha K hK
      simp only [setAll, qeSlots, List.foldl, Act.put, List.setIfInBounds_toArray, List.set_cons_zero, List.set_cons_succ] at ha
      subst ha
      simp only [Act.put, List.setIfInBounds_toArray, List.set_cons_zero, List.set_cons_succ] at hK
      go_simp
      refine hK _ [] _ ((Keeps.refl _ _).alloc _) ?_ (by simp)
      show Sl _ 1 (updAt v 35 _ 35) 1 (ints .u64 [9])
      rw [updAt_same]
      exact Sl.lit _ _ _ 1 1 1 rfl
    refine Each.cons ?_ ?_
    · -- operation 10
      intro v g w hk hdep a ha K hK
      simp only [setAll, qeSlots, List.foldl, Act.put, List.setIfInBounds_toArray, List.set_cons_zero, List.set_cons_succ] at ha
      subst ha
      simp only [Act.put, List.setIfInBounds_toArray, List.set_cons_zero, List.set_cons_succ] at hK
      have h0 : qePd 34 v (g 34) w := hdep 8 (by kernel_rfl)
      have h1 : qePd 35 v (g 35) w := hdep 9 (by kernel_rfl)
      have e0 : v 34 = .agg #[.int .i64 0, .int .i64 3] := h0
      have e1 : Sl w 1 (v 35) 1 (ints .u64 [9]) := h1
      have HC := Lib.hid (quPut_made 0 3 (v 35) 1 [9] w e1 (by decide) (by simp [M.U]))
      clear h0 h1 hdep e1
      rw [e0] at hK ⊢
      go_simp
      go_at_call 10
      refine HC.out.mono ?_
      rintro e w1 ⟨m1, S1, rfl, i1, k1, s1⟩
      go_simp
      refine hK _ S1 _ k1 ?_ (fun x hx => ⟨s1 x hx, (quRuns m1).lt i1 x hx⟩)
      show QeW w1 (updAt v 36 _ 36) S1 3
      rw [updAt_same]
      exact ⟨m1, rfl, i1⟩
    refine Each.cons ?_ ?_
    · -- operation 11
      intro v g w hk hdep a ha K hK
      simp only [setAll, qeSlots, List.foldl, Act.put, List.setIfInBounds_toArray, List.set_cons_zero, List.set_cons_succ] at ha
      subst ha
      simp only [Act.put, List.setIfInBounds_toArray, List.set_cons_zero, List.set_cons_succ] at hK
      have q := HQ7.out.keeps hk.undrew (by simp)
      have c0 := q.cells 0
      have c1 := q.cells 1
      simp at c0 c1
      clear q
      go_simp
      exact hK _ [] _ (Keeps.refl _ _) (updAt_same v 37 _) (by simp)
    refine Each.cons ?_ ?_
    · -- operation 12
      intro v g w hk hdep a ha K hK
      simp only [setAll, qeSlots, List.foldl, Act.put, List.setIfInBounds_toArray, List.set_cons_zero, List.set_cons_succ] at ha
      subst ha
      simp only [Act.put, List.setIfInBounds_toArray, List.set_cons_zero, List.set_cons_succ] at hK
      have h0 : qePd 37 v (g 37) w := hdep 11 (by kernel_rfl)
      have e0 : v 37 = .agg #[.int .i64 0, .int .i64 3] := h0
      have HC := Lib.hid (quTake_made 0 3 w)
      clear h0 hdep
      rw [e0] at hK ⊢
      go_simp
      go_at_call 13
      refine HC.out.mono ?_
      rintro e w1 ⟨m1, S1, rfl, i1, k1, s1⟩
      go_simp
      refine hK _ S1 _ k1 ?_ (fun x hx => ⟨s1 x hx, (quRuns m1).lt i1 x hx⟩)
      show QeW w1 (updAt v 38 _ 38) S1 4
      rw [updAt_same]
      exact ⟨m1, rfl, i1⟩
    refine Each.cons ?_ ?_
    · -- operation 13
      intro v g w hk hdep a ha K hK
      simp only [setAll, qeSlots, List.foldl, Act.put, List.setIfInBounds_toArray, List.set_cons_zero, List.set_cons_succ] at ha
      subst ha
      simp only [Act.put, List.setIfInBounds_toArray, List.set_cons_zero, List.set_cons_succ] at hK
      have q := HQ7.out.keeps hk.undrew (by simp)
      have c0 := q.cells 0
      have c1 := q.cells 1
      simp at c0 c1
      clear q
      go_simp
      exact hK _ [] _ (Keeps.refl _ _) (updAt_same v 39 _) (by simp)
    refine Each.cons ?_ ?_
    · -- operation 14
      intro v g w hk hdep a ha K hK
      simp only [setAll, qeSlots, List.foldl, Act.put, List.setIfInBounds_toArray, List.set_cons_zero, List.set_cons_succ] at ha
      subst ha
      simp only [Act.put, List.setIfInBounds_toArray, List.set_cons_zero, List.set_cons_succ] at hK
      have h0 : qePd 39 v (g 39) w := hdep 13 (by kernel_rfl)
      have e0 : v 39 = .agg #[.int .i64 0, .int .i64 3] := h0
      have HC := Lib.hid (quTake_made 0 3 w)
      clear h0 hdep
      rw [e0] at hK ⊢
      go_simp
      go_at_call 13
      refine HC.out.mono ?_
      rintro e w1 ⟨m1, S1, rfl, i1, k1, s1⟩
      go_simp
      refine hK _ S1 _ k1 ?_ (fun x hx => ⟨s1 x hx, (quRuns m1).lt i1 x hx⟩)
      show QeW w1 (updAt v 40 _ 40) S1 5
      rw [updAt_same]
      exact ⟨m1, rfl, i1⟩
    refine Each.cons ?_ ?_
    · -- operation 15
      intro v g w hk hdep a ha K hK
      simp only [setAll, qeSlots, List.foldl, Act.put, List.setIfInBounds_toArray, List.set_cons_zero, List.set_cons_succ] at ha
      subst ha
      simp only [Act.put, List.setIfInBounds_toArray, List.set_cons_zero, List.set_cons_succ] at hK
      have q := HQ7.out.keeps hk.undrew (by simp)
      have c0 := q.cells 0
      have c1 := q.cells 1
      simp at c0 c1
      clear q
      go_simp
      exact hK _ [] _ (Keeps.refl _ _) (updAt_same v 41 _) (by simp)
    refine Each.cons ?_ ?_
    · -- operation 16
      intro v g w hk hdep a ha K hK
      simp only [setAll, qeSlots, List.foldl, Act.put, List.setIfInBounds_toArray, List.set_cons_zero, List.set_cons_succ] at ha
      subst ha
      simp only [Act.put, List.setIfInBounds_toArray, List.set_cons_zero, List.set_cons_succ] at hK
      have h0 : qePd 41 v (g 41) w := hdep 15 (by kernel_rfl)
      have e0 : v 41 = .agg #[.int .i64 0, .int .i64 3] := h0
      have HC := Lib.hid (quTake_made 0 3 w)
      clear h0 hdep
      rw [e0] at hK ⊢
      go_simp
      go_at_call 13
      refine HC.out.mono ?_
      rintro e w1 ⟨m1, S1, rfl, i1, k1, s1⟩
      go_simp
      refine hK _ S1 _ k1 ?_ (fun x hx => ⟨s1 x hx, (quRuns m1).lt i1 x hx⟩)
      show QeW w1 (updAt v 42 _ 42) S1 6
      rw [updAt_same]
      exact ⟨m1, rfl, i1⟩
    refine Each.cons ?_ ?_
    · -- operation 17
      intro v g w hk hdep a ha K hK
      simp only [setAll, qeSlots, List.foldl, Act.put, List.setIfInBounds_toArray, List.set_cons_zero, List.set_cons_succ] at ha
      subst ha
      simp only [Act.put, List.setIfInBounds_toArray, List.set_cons_zero, List.set_cons_succ] at hK
      have h0 : QeW w (v 28) (g 28) 0 := hdep 2 (by kernel_rfl)
      have h1 : QeW w (v 31) (g 31) 1 := hdep 5 (by kernel_rfl)
      have h2 : QeW w (v 33) (g 33) 2 := hdep 7 (by kernel_rfl)
      have h3 : QeW w (v 36) (g 36) 3 := hdep 10 (by kernel_rfl)
      have h4 : QeW w (v 38) (g 38) 4 := hdep 12 (by kernel_rfl)
      have h5 : QeW w (v 40) (g 40) 5 := hdep 14 (by kernel_rfl)
      have h6 : QeW w (v 42) (g 42) 6 := hdep 16 (by kernel_rfl)
      obtain ⟨m0, e0, -⟩ := h0
      obtain ⟨m1, e1, -⟩ := h1
      obtain ⟨m2, e2, -⟩ := h2
      obtain ⟨m3, e3, -⟩ := h3
      obtain ⟨m4, e4, -⟩ := h4
      obtain ⟨m5, e5, -⟩ := h5
      obtain ⟨m6, e6, -⟩ := h6
      clear hdep
      have hrow : qeRow v = [.pointer (some ⟨m0, 0, none⟩), .pointer (some ⟨m1, 0, none⟩), .pointer (some ⟨m2, 0, none⟩), .pointer (some ⟨m3, 0, none⟩), .pointer (some ⟨m4, 0, none⟩), .pointer (some ⟨m5, 0, none⟩), .pointer (some ⟨m6, 0, none⟩)] := by
        unfold qeRow; rw [e0, e1, e2, e3, e4, e5, e6]
      rw [e0, e1, e2, e3, e4, e5, e6] at hK ⊢
      go_simp
      refine hK _ [w.heap.size] _ ((Keeps.refl _ _).alloc _) ?_ (by simp)
      show ∃ bl, [w.heap.size] = [bl] ∧ updAt v 43 _ 43 = .slice (some ⟨bl, 0, none⟩) 7 7 ∧ Row _ bl 32 (qeRow v)
      refine ⟨w.heap.size, rfl, updAt_same _ _ _, ?_⟩
      rw [hrow]
      exact Row.new _ _ _
    refine Each.cons ?_ ?_
    · -- operation 18
      intro v g w hk hdep a ha K hK
      simp only [setAll, qeSlots, List.foldl, Act.put, List.setIfInBounds_toArray, List.set_cons_zero, List.set_cons_succ] at ha
      subst ha
      simp only [Act.put, List.setIfInBounds_toArray, List.set_cons_zero, List.set_cons_succ] at hK
      go_simp
      refine hK _ [] _ (Keeps.refl _ _) ?_ (by simp)
      show updAt v 6 _ 6 = updAt v 6 _ 43
      rw [updAt_same, updAt_other _ _ (by decide)]
    exact Each.nil
  intro v g w8 hk hall hdis a ha
  simp only [setAll, qeSlots, List.foldl, Act.put, List.setIfInBounds_toArray, List.set_cons_zero, List.set_cons_succ] at ha
  subst ha
  have HW8 : Hid (∀ j, j < 7 → QeW w8 (v (qeIx.getD j 0)) (g (qeIx.getD j 0)) j) := Lib.hid fun j hj => by
    rcases (show j = 0 ∨ j = 1 ∨ j = 2 ∨ j = 3 ∨ j = 4 ∨ j = 5 ∨ j = 6 by omega) with rfl | rfl | rfl | rfl | rfl | rfl | rfl
    · exact (hall 28 (by decide)).1
    · exact (hall 31 (by decide)).1
    · exact (hall 33 (by decide)).1
    · exact (hall 36 (by decide)).1
    · exact (hall 38 (by decide)).1
    · exact (hall 40 (by decide)).1
    · exact (hall 42 (by decide)).1
  have hix : ∀ j, j < 7 → qeIx.getD j 0 ∈ qeSlots ∧ qeIx.getD j 0 ≠ 43 := by decide
  have hne : ∀ i j, i < 7 → j < 7 → i ≠ j → qeIx.getD i 0 ≠ qeIx.getD j 0 := fun i j hi hj => (show ∀ i, i < 7 → ∀ j, j < 7 → i ≠ j → qeIx.getD i 0 ≠ qeIx.getD j 0 from by decide) i hi j hj
  obtain ⟨bl, hg43, e43, r8⟩ : ∃ bl, g 43 = [bl] ∧ v 43 = .slice (some ⟨bl, 0, none⟩) 7 7 ∧ Row w8 bl 32 (qeRow v) := (hall 43 (by decide)).1
  have e6 : v 6 = v 43 := (hall 6 (by decide)).1
  have hbl := (hall 43 (by decide)).2 bl (by rw [hg43]; simp)
  have HG : Hid (∀ j, j < 7 → (∀ x ∈ g (qeIx.getD j 0), w7.heap.size ≤ x ∧ x < w8.heap.size ∧ x ≠ bl) ∧ ∀ i, i < 7 → i ≠ j → ∀ x ∈ g (qeIx.getD j 0), x ∉ g (qeIx.getD i 0)) := Lib.hid fun j hj => by
    refine ⟨fun x hx => ⟨((hall _ (hix j hj).1).2 x hx).1, ((hall _ (hix j hj).1).2 x hx).2, fun hxb => ?_⟩, fun i hi hij => hdis _ (hix j hj).1 _ (hix i hi).1 (hne j i hj hi (Ne.symm hij))⟩
    exact hdis _ (hix j hj).1 43 (by decide) (hix j hj).2 x hx (by rw [hg43, hxb]; simp)
  have HC8 : Hid (∀ j, j < 7 → w8.cell? ⟨bl, j, none⟩ = some (v (qeIx.getD j 0))) := Lib.hid fun j hj => by
    rcases (show j = 0 ∨ j = 1 ∨ j = 2 ∨ j = 3 ∨ j = 4 ∨ j = 5 ∨ j = 6 by omega) with rfl | rfl | rfl | rfl | rfl | rfl | rfl
    · exact r8.cell (j := 0) rfl
    · exact r8.cell (j := 1) rfl
    · exact r8.cell (j := 2) rfl
    · exact r8.cell (j := 3) rfl
    · exact r8.cell (j := 4) rfl
    · exact r8.cell (j := 5) rfl
    · exact r8.cell (j := 6) rfl
  rw [e6, e43]
  obtain ⟨γ, hγ⟩ : ∃ γ : Nat → List Nat, (fun j => g (qeIx.getD j 0)) = γ := ⟨_, rfl⟩
  obtain ⟨xs, hxs⟩ : ∃ xs : Nat → Value, (fun j => v (qeIx.getD j 0)) = xs := ⟨_, rfl⟩
  have hγ' : ∀ j, g (qeIx.getD j 0) = γ j := fun j => congrFun hγ j
  have hxs' : ∀ j, v (qeIx.getD j 0) = xs j := fun j => congrFun hxs j
  simp only [hγ', hxs'] at HW8 HG HC8
  have k8 := hk.undrew
  have hB7 := HQ7.out.lt
  have hm7 := HL7.out.mem.lt.1
  have HL8 := Lib.hid (HL7.out.keeps k8)
  have HB8 := Lib.hid (HB7.out.trans (k8.below (by have := HB7.out.size; omega) (by simp)))
  clear hall hdis hk hix hne r8 e6 e43 hg43 HQ7 HZ7 hγ hxs hγ' hxs' c70 c71
  have HK8 := Lib.hid k8
  clear k8
  go_wp2
  generalize hW9 : World.alloc (World.alloc w8 _) _ = W9
  have k9 : Keeps [] w8 W9 := by rw [← hW9]; exact ((Keeps.refl _ _).alloc _).alloc _
  have r9 : Row W9 w8.heap.size 42 (ints .i64 qexCodes) := by rw [← hW9]; exact (Row.new _ _ _).alloc _
  have q9 : Row W9 (w8.heap.size + 1) 49 (ints .u64 qexWant) := by
    rw [← hW9]
    have := Row.new (w8.alloc (.cells #[.int .i64 0, .int .i64 7, .int .i64 0, .int .i64 0, .int .i64 0, .int .i64 0, .int .i64 5] 42)) #[.int .u64 0, .int .u64 0, .int .u64 7, .int .u64 0, .int .u64 8, .int .u64 9, .int .u64 0] 49
    simp at this
    exact this
  obtain ⟨cl, hcl⟩ : ∃ cl, w8.heap.size = cl := ⟨_, rfl⟩
  rw [hcl] at r9 q9 HG ⊢
  have hl9 := r9.lt
  have hl9' := q9.lt
  have hs7 := HB7.out.size
  have hs78 := HK8.out.size
  have HL9 : Hid (Loom (qeD E bl cl γ 0) W9 ⟨l, gl, m, b, qexUs 0, List.replicate 1 none, 0⟩) := Lib.hid (HL7.out.widen (HK8.out.trans k9) (fun x hx => by
    rcases hx with h | h | h | h | ⟨j, h1, h2, h3⟩
    · exact .inl h
    · right; omega
    · right; omega
    · right; omega
    · have := (HG.out j h2).1 x h3; right; omega))
  have HC9 : Hid (∀ j, j < 7 → W9.cell? ⟨bl, j, none⟩ = some (xs j)) := Lib.hid fun j hj => by
    have hb := k9.block bl hbl.2 (by simp)
    rw [World.cell?_of_block (w := w8) hb]
    exact HC8.out j hj
  have HW9' : Hid (∀ j, j < 7 → QeW W9 (xs j) (γ j) j) := Lib.hid fun j hj => (HW8.out j hj).keeps k9
  have HR9 := Lib.hid (⟨r9, q9⟩ : _ ∧ _)
  have HB9 := Lib.hid (HB8.out.trans (k9.below (by have := HB8.out.size; omega) (by simp)))
  clear hW9 k9 r9 q9 HL7 HL8 HB7 HB8 HW8 HC8 HK8
  go_loopw [9] (fun i wr => ∃ k : Nat, k ≤ 7 ∧ i = .int .i64 (k : Int) ∧ Held (qeD E bl cl γ k) W9 wr ∧ ∃ (L : LSt) (o : Option Strand),
    Loom (qeD E bl cl γ k) wr L ∧ L.l = l ∧ L.mm = m ∧ L.ts[0]? = some o ∧ busy o = false ∧ L.steps ≤ 60 * k ∧ L.us = qexUs k) (fun i _ => 7 - (intOf i).toNat)
  case atStart => exact ⟨0, by omega, rfl, Held.refl _ _, _, none, HL9.out, rfl, rfl, rfl, rfl, Nat.le_refl _, rfl⟩
  case round =>
    obtain ⟨k, hk, rfl, hh, L, o, hL, hLl, hLm, ho, hbo, hst, hus⟩ := hrel
    have HHr := Lib.hid hh
    have HL := Lib.hid hL
    by_cases hlt : k < 7
    · have c1 : wr.cell? ⟨bl, k, none⟩ = some (xs k) := (hh.cell (p := ⟨bl, k, none⟩) (.inr (.inl rfl))).trans (HC9.out k hlt)
      obtain ⟨mm, em, hI⟩ := HW9'.out k hlt
      rw [em] at c1
      have hI' := (quRuns mm).held' hI hh (fun x hx => .inr (.inr (.inr (.inr ⟨k, Nat.le_refl _, hlt, hx⟩))))
      obtain ⟨n, s', n0, n60, hsolo, hres⟩ := qexRuns k hlt
      obtain ⟨c, hc⟩ : ∃ c, qexCodes.getD k 0 = c := ⟨_, rfl⟩
      obtain ⟨u, hu⟩ : ∃ u, qexWant.getD k 0 = u := ⟨_, rfl⟩
      rw [hc, hu] at hres
      obtain ⟨L1, M, o', hM, hSt, hDo⟩ := Solo.begunO (I := quI mm) (m := mm) (R := quRuns mm) (L := L) (by rw [hus]; exact hsolo) (qeD E bl cl γ (k + 1)) (qeD E bl cl γ k) 0 60 _ _ o (γ k) wr hL ho hbo hI'
        (fun x hx => .inr (.inr (.inr (.inr ⟨k, Nat.le_refl _, hlt, hx⟩)))) (by rw [hLm]; intro hx; have := (HG.out k hlt).1 m hx; omega)
        (fun x hx => ⟨hx.next, fun hxk => by
          have hg := (HG.out k hlt).1 x hxk
          rcases hx with h | h | h | h | ⟨j, h1, h2, h3⟩
          · have := HE.out.2.2 x h; omega
          · exact hg.2.2 h
          · omega
          · omega
          · exact (HG.out k hlt).2 j h2 (by omega) x hxk h3⟩) n0 n60 (by omega) (by omega) hres
      rw [hLl] at hSt hDo
      have HSt := Lib.hid hSt
      have HAl := Lib.hid hDo.1
      have HRe := Lib.hid hDo.2
      have HNew : Hid (M.l = l ∧ M.mm = m ∧ M.ts[0]? = some o' ∧ busy o' = false ∧ M.steps ≤ 60 * (k + 1) ∧ M.us = qexUs (k + 1)) := Lib.hid
        ⟨hM.1.trans hLl, hM.2.2.1.trans hLm, hM.2.2.2.2.2.2.1, hM.2.2.2.2.2.2.2.1, by have := hM.2.2.2.2.2.1; omega, hM.2.2.2.2.1⟩
      have hki : (k : Int) < 7 := by omega
      clear hM hSt hDo hI hI' hsolo hres hL hh n0 n60 hus hst ho hbo em
      go_wp2_with fail
      refine HSt.out.mono ?_
      rintro e w12 ⟨rfl, hL2, hh2⟩
      have HL2 := Lib.hid hL2
      have HH2 : Hid (Held (qeD E bl cl γ (k + 1)) W9 w12) := Lib.hid ((HHr.out.narrow (fun x hx => hx.next)).trans hh2)
      clear hL2 hh2 c1
      go_wp2_with fail
      refine (HAl.out _ w12 HL2.out).mono ?_
      rintro e w13 ⟨rfl, hL3, hh3⟩
      have HL3 := Lib.hid hL3
      have HH3 := Lib.hid (HH2.out.trans hh3)
      clear hL3 hh3
      go_wp2_with fail
      refine (HRe.out _ w13 HL3.out).mono ?_
      rintro e w14 ⟨rq, rc, rfl, k14⟩
      go_wp2
      obtain ⟨z, hz⟩ : ∃ z, w14.heap.size = z := ⟨_, rfl⟩
      generalize hW15 : World.alloc w14 _ = W15
      have k15 : Keeps [] w14 W15 := by rw [← hW15]; exact (Keeps.refl _ _).alloc _
      have r15 : Row W15 z 56 [.int .i64 c, .int .u64 u, .slice rq 0 rc] := by rw [← hW15, ← hz]; exact Row.new _ _ _
      rw [hz]
      have hh15 := HH3.out.trans ((k14.trans k15).held (fun x hx => HL3.out.dom x hx) (by simp))
      have HL15 := Lib.hid ((HL3.out.keeps k14).keeps k15)
      have HH15 := Lib.hid hh15
      have e0 : W15.drew.cell? ⟨z, 0, none⟩ = some (.int .i64 c) := r15.cell (j := 0) rfl
      have e1 : W15.drew.cell? ⟨z, 1, none⟩ = some (.int .u64 u) := r15.cell (j := 1) rfl
      have f0 : W15.drew.cell? ⟨cl, k, none⟩ = some (.int .i64 c) := (hh15.cell (p := ⟨cl, k, none⟩) (.inr (.inr (.inl rfl)))).trans (HR9.out.1.cell (by rw [← hc]; exact ints_at (k := .i64) hlt))
      have f1 : W15.drew.cell? ⟨cl + 1, k, none⟩ = some (.int .u64 u) := (hh15.cell (p := ⟨cl + 1, k, none⟩) (.inr (.inr (.inr (.inl rfl))))).trans (HR9.out.2.cell (by rw [← hu]; exact ints_at (k := .u64) hlt))
      clear k14 k15 r15 hh15 hW15 hz
      have HKd : Hid (Keeps [] W15 W15.drew) := Lib.hid ((Keeps.refl [] W15).drew)
      go_region
      go_wp2
      go_roundw
      case rel => exact ⟨k + 1, by omega, by go_num, HH15.out.trans (HKd.out.held (fun x hx => HL15.out.dom x hx) (by simp)), M, o', HL15.out.keeps HKd.out, HNew.out⟩
      case measure => first | (simp [intOf]; done) | (simp [intOf]; omega)
    · obtain rfl : k = 7 := by omega
      go_wp2
      go_ret
      exact ⟨rfl, HB9.out.trans (Held.below (HHr.out.narrow (E := (· < B)) (fun x hx => .inl (HE.out.1 x hx))))⟩
end Go.Proofs.YtoomefclbemnlaaGreat
