import Derived.Test.YtnlkbmjelkbfkaaAny
/-
  A region whose order is drawn, with calls, new blocks, and stores into these: whatever the order, each slot holds what is said of it.
-/
namespace Go.Proofs.Ytnlkbmjelkbfkaa
set_option maxRecDepth 100000
set_option linter.unusedSimpArgs false
set_option linter.unusedVariables false
open Go

theorem setAll_none (a0 : Act) (dl : List Nat) (v : Nat → Value) (d : Nat) (u : Value) (hd : d ∈ dl) (hz : a0.tmps.size ≤ d) : (setAll a0 dl v).put none u = setAll a0 dl (updAt v d u) := by
  rw [← setAll_put a0 dl v d u hd]
  have := (setAll_size dl v a0).1
  simp [Act.put, Array.setIfInBounds, this, Nat.not_lt.2 hz]

section
variable {P : Program} {ops : Array Oper} {Q : Exit → Act → World → Prop}
/-- Such a region: dl: the operations' slots (of an operation without one: a number behind all slots). A store says itself what it leaves of the others. -/
theorem wp_region_own {id : Nat} {a0 : Act} {w0 : World} (dl : List Nat) (R : Nat → List Nat) (Pd : Nat → (Nat → Value) → List Nat → World → Prop) (hm : P.follows .mixedOrders = true)
    (hd : (List.range ops.size).all (fun i => match ops[i]? with | some o => (o.dst == some (dl.getD i 0) || (o.dst == none && decide (a0.tmps.size ≤ dl.getD i 0))) && o.after.all (fun e => decide (e.on < i)) && (R (dl.getD i 0)).all (fun j => o.after.any fun e => Region.binds .any e && j == dl.getD e.on 0) | none => true) = true) (hn : dl.Nodup) (hz : dl.length = ops.size)
    (hP : ∀ d v v' γ w w', Pd d v γ w → v' d = v d → (∀ j ∈ R d, v' j = v j) → (∀ k ∈ γ, k < w.heap.size) → Keeps [] w w' → Pd d v' γ w')
    (hs : Each (fun i o => ∀ (v : Nat → Value) (g : Nat → List Nat) (w : World) (Ls : Nat → Prop), Keeps [] w0.drew w → (∀ j, (o.after.any fun e => Region.binds .any e && e.on == j) = true → Ls (dl.getD j 0)) →
      (∀ d ∈ dl, Ls d → d ≠ dl.getD i 0 ∧ Pd d v (g d) w ∧ ∀ k ∈ g d, w0.heap.size ≤ k ∧ k < w.heap.size) → (∀ d ∈ dl, ∀ d' ∈ dl, Ls d → Ls d' → d ≠ d' → ∀ k ∈ g d, k ∉ g d') →
      ∀ a : Act, setAll a0 dl v = a → ∀ K : Act → World → Prop, (∀ u γ w', Keeps [] w0.drew w' → w.heap.size ≤ w'.heap.size → (Keeps [] w w' ∨ ∀ d ∈ dl, Ls d → Pd d v (g d) w → Pd d (updAt v (dl.getD i 0) u) (g d) w') → Pd (dl.getD i 0) (updAt v (dl.getD i 0) u) γ w' → (∀ k ∈ γ, w.heap.size ≤ k ∧ k < w'.heap.size) → K (a.put o.dst u) w') →
        if Region.wanted o (yielded ops a.tmps) = true then Oper.wp P o a w K Q else K (a.put o.dst undef) w) 0 ops.toList)
    (he : ∀ (v : Nat → Value) (g : Nat → List Nat) (w : World), Keeps [] w0.drew w → (∀ d ∈ dl, Pd d v (g d) w ∧ ∀ k ∈ g d, w0.heap.size ≤ k ∧ k < w.heap.size) → (∀ d ∈ dl, ∀ d' ∈ dl, d ≠ d' → ∀ k ∈ g d, k ∉ g d') → ∀ a : Act, setAll a0 dl v = a → Q .normal a w) :
    (Code.region id ops true).wp P Q a0 w0 := by
  have hd' : ∀ (i : Nat) (o : Oper), ops[i]? = some o → i < ops.size ∧ (o.dst = some (dl.getD i 0) ∨ o.dst = none ∧ a0.tmps.size ≤ dl.getD i 0) ∧ (∀ e ∈ o.after, e.on < i) ∧ ∀ j ∈ R (dl.getD i 0), ∃ e ∈ o.after, Region.binds .any e = true ∧ j = dl.getD e.on 0 := fun i o ho => by
    have hi := (Array.getElem?_eq_some_iff.1 ho).1
    have := List.all_eq_true.1 hd i (List.mem_range.2 hi)
    simp only [ho, Bool.and_eq_true] at this
    obtain ⟨⟨h1, h2⟩, h3⟩ := this
    refine ⟨hi, by simpa using h1, fun e he => of_decide_eq_true (Array.all_eq_true_iff_forall_mem.1 h2 e he), fun j hj => ?_⟩
    obtain ⟨e, he, hb⟩ := Array.any_eq_true'.1 (List.all_eq_true.1 h3 j hj)
    simp only [Bool.and_eq_true, beq_iff_eq] at hb
    exact ⟨e, he, hb.1, hb.2⟩
  have hmem : ∀ i, i < ops.size → dl.getD i 0 ∈ dl := fun i hi => by rw [List.getD, List.getElem?_eq_getElem (by omega)]; exact List.getElem_mem _
  have hinj : ∀ i j, i < ops.size → j < ops.size → dl.getD i 0 = dl.getD j 0 → i = j := fun i j hi hj h => by
    rw [List.getD, List.getD, List.getElem?_eq_getElem (by omega), List.getElem?_eq_getElem (by omega)] at h
    exact (List.getElem_inj hn).1 h
  refine wp_region_any hm (wpAny_inv (md := .any) (fun L a w => ∃ (v : Nat → Value) (g : Nat → List Nat), a = setAll a0 dl v ∧ Keeps [] w0.drew w ∧ (∀ i, i < ops.size → L i = true → (Pd (dl.getD i 0) v (g (dl.getD i 0)) w ∧ ∀ k ∈ g (dl.getD i 0), w0.heap.size ≤ k ∧ k < w.heap.size) ∧ ∀ j ∈ R (dl.getD i 0), ∃ k, k < ops.size ∧ L k = true ∧ j = dl.getD k 0) ∧
      (∀ i j, i < ops.size → j < ops.size → L i = true → L j = true → i ≠ j → ∀ k ∈ g (dl.getD i 0), k ∉ g (dl.getD j 0))) ?_ ?_ ?_ _ _ _ _ (by simp) (by simp) ?_)
  · rintro i o ho L a w hLi hdep ⟨v, g, rfl, hk, hg, hj⟩ K hK
    obtain ⟨hi, hdst, hal, hR⟩ := hd' i o ho
    have hst := hs.at (i := i) (o := o) (by simpa using ho)
    rw [Nat.zero_add] at hst
    have ne : ∀ j, j < ops.size → j ≠ i → dl.getD j 0 ≠ dl.getD i 0 := fun j hj hne h => hne (hinj j i hj hi h)
    have neL : ∀ j, j < ops.size → L j = true → dl.getD j 0 ≠ dl.getD i 0 := fun j hj hl => ne j hj (fun h => by rw [h, hLi] at hl; cases hl)
    refine hst v g w (fun d => ∃ j, j < ops.size ∧ L j = true ∧ dl.getD j 0 = d) hk (fun j hj => ?_) ?_ ?_ _ rfl K (fun u γ w' hkw hsz hstab hPu hγ => ?_)
    · obtain ⟨e, he, hb⟩ := Array.any_eq_true'.1 hj
      simp only [Bool.and_eq_true, beq_iff_eq] at hb
      rw [← hb.2]
      exact ⟨e.on, by have := hal e he; omega, hdep e he hb.1, rfl⟩
    · rintro d - ⟨j, hj1, hj2, rfl⟩
      exact ⟨neL j hj1 hj2, (hg j hj1 hj2).1⟩
    · rintro d - d' - ⟨j, hj1, hj2, rfl⟩ ⟨j', hj1', hj2', rfl⟩ hne
      exact hj j j' hj1 hj1' hj2 hj2' (fun h => hne (by rw [h]))
    have hput : (setAll a0 dl v).put o.dst u = setAll a0 dl (updAt v (dl.getD i 0) u) := by
      rcases hdst with h | ⟨h, h2⟩
      · rw [h, setAll_put a0 dl v _ u (hmem i hi)]
      · rw [h, setAll_none a0 dl v _ u (hmem i hi) h2]
    have hK' := hK (setAll a0 dl (updAt v (dl.getD i 0) u)) w'
    rw [hput]
    have hs0 : w0.heap.size ≤ w.heap.size := hk.size
    refine hK' ⟨updAt v (dl.getD i 0) u, updAt g (dl.getD i 0) γ, rfl, hkw, fun j hj' hLj => ?_, fun j1 j2 h1 h2 l1 l2 hne => ?_⟩
    · by_cases hji : j = i
      · subst hji
        rw [updAt_same]
        refine ⟨⟨hPu, fun k hk => ⟨Nat.le_trans hs0 (hγ k hk).1, (hγ k hk).2⟩⟩, fun x hx => ?_⟩
        obtain ⟨e, he, hb, hx⟩ := hR x hx
        have := hal e he
        exact ⟨e.on, by omega, by rw [updAt_other _ _ (by omega)]; exact hdep e he hb, hx⟩
      · rw [updAt_other _ _ (ne j hj' hji)]
        rw [updAt_other _ _ hji] at hLj
        obtain ⟨⟨p, q⟩, r⟩ := hg j hj' hLj
        refine ⟨⟨?_, fun k hk => ⟨(q k hk).1, Nat.lt_of_lt_of_le (q k hk).2 hsz⟩⟩, fun x hx => ?_⟩
        · rcases hstab with hk' | hf
          · refine hP _ _ _ _ _ _ p (updAt_other _ _ (ne j hj' hji)) (fun x hx => ?_) (fun k hk => (q k hk).2) hk'
            obtain ⟨k, hk1, hk2, rfl⟩ := r x hx
            refine updAt_other _ _ (ne k hk1 (fun h => ?_))
            rw [h, hLi] at hk2
            cases hk2
          · exact hf _ (hmem j hj') ⟨j, hj', hLj, rfl⟩ p
        · obtain ⟨k, hk1, hk2, hk3⟩ := r x hx
          refine ⟨k, hk1, ?_, hk3⟩
          by_cases h : k = i
          · rw [h, updAt_same]
          · rw [updAt_other _ _ h]; exact hk2
    · by_cases e1 : j1 = i
      · by_cases e2 : j2 = i
        · exact absurd (e1.trans e2.symm) hne
        · subst e1
          rw [updAt_same, updAt_other _ _ (ne j2 h2 e2)]
          rw [updAt_other _ _ e2] at l2
          intro k hkγ hkg
          have a := (hγ k hkγ).1
          have b := ((hg j2 h2 l2).1.2 k hkg).2
          omega
      · rw [updAt_other _ _ (ne j1 h1 e1)]
        rw [updAt_other _ _ e1] at l1
        by_cases e2 : j2 = i
        · subst e2
          rw [updAt_same]
          intro k hkg hkγ
          have a := (hγ k hkγ).1
          have b := ((hg j1 h1 l1).1.2 k hkg).2
          omega
        · rw [updAt_other _ _ (ne j2 h2 e2)]
          rw [updAt_other _ _ e2] at l2
          exact hj j1 j2 h1 h2 l1 l2 hne
  · intro i o ho e he
    exact (hd' i o ho).2.2.1 e he
  · rintro L a w ⟨v, g, rfl, hk, hg, hj⟩ hL
    have ix : ∀ d ∈ dl, ∃ i, i < ops.size ∧ dl.getD i 0 = d := fun d hd => by
      obtain ⟨i, hi, rfl⟩ := List.getElem_of_mem hd
      exact ⟨i, by omega, by rw [List.getD, List.getElem?_eq_getElem hi]; rfl⟩
    refine he v g w hk (fun d hd => ?_) (fun d hd d' hd' hne => ?_) _ rfl
    · obtain ⟨i, hi, rfl⟩ := ix d hd
      exact (hg i hi (hL i hi)).1
    · obtain ⟨i, hi, rfl⟩ := ix d hd
      obtain ⟨j, hj', rfl⟩ := ix d' hd'
      exact hj i j hi hj' (hL i hi) (hL j hj') (fun h => hne (by rw [h]))
  · refine ⟨fun j => (a0.tmps[j]?).getD undef, fun _ => [], ?_, Keeps.refl _ _, fun i hi h => ?_, fun i j hi hj h => ?_⟩
    · refine act_ext (fun j => ?_) (setAll_size dl _ a0).2.symm
      rw [setAll_at]
      by_cases h : j ∈ dl ∧ j < a0.tmps.size
      · rw [if_pos h]; simp [h.2]
      · rw [if_neg h]
    · simp [Array.getD, hi] at h
    · simp [Array.getD, hi] at h
end
end Go.Proofs.Ytnlkbmjelkbfkaa
