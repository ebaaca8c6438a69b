import Derived.Test.YtnlkbmjelkbfkaaKeep
import Derived.RegionTactic
/-
  A region whose order is drawn, and none of whose operations writes what was there: whatever the order, each slot holds what is said of it.
-/
namespace Go.Proofs.Ytnlkbmjelkbfkaa
set_option maxRecDepth 100000
set_option linter.unusedSimpArgs false
set_option linter.unusedVariables false
open Go

def setAll (a0 : Act) (dl : List Nat) (v : Nat → Value) : Act := dl.foldl (fun a d => a.put (some d) (v d)) a0
def updAt {α : Type} (v : Nat → α) (d : Nat) (u : α) : Nat → α := fun j => if j = d then u else v j
theorem updAt_same {α : Type} (v : Nat → α) (d : Nat) (u : α) : updAt v d u d = u := by simp [updAt]
theorem updAt_other {α : Type} (v : Nat → α) {d j : Nat} (u : α) (h : j ≠ d) : updAt v d u j = v j := by simp [updAt, h]
theorem setAll_size (dl : List Nat) (v : Nat → Value) : ∀ a0 : Act, (setAll a0 dl v).tmps.size = a0.tmps.size ∧ (setAll a0 dl v).defers = a0.defers := by
  induction dl with
  | nil => exact fun _ => ⟨rfl, rfl⟩
  | cons d dl ih => intro a0; have := ih (a0.put (some d) (v d)); simpa [setAll, Act.put] using this
theorem setAll_at (v : Nat → Value) (j : Nat) : ∀ (dl : List Nat) (a0 : Act), (setAll a0 dl v).tmps[j]? = if j ∈ dl ∧ j < a0.tmps.size then some (v j) else a0.tmps[j]? := by
  intro dl
  induction dl with
  | nil => intro a0; simp [setAll]
  | cons d dl ih =>
    intro a0
    have := ih (a0.put (some d) (v d))
    have e : setAll a0 (d :: dl) v = setAll (a0.put (some d) (v d)) dl v := rfl
    rw [e, this]
    by_cases h1 : j ∈ dl ∧ j < a0.tmps.size
    · rw [if_pos (by simpa [Act.put] using h1), if_pos ⟨List.mem_cons_of_mem _ h1.1, h1.2⟩]
    · rw [if_neg (by simpa [Act.put] using h1)]
      by_cases h2 : j = d
      · subst h2
        by_cases h3 : j < a0.tmps.size
        · rw [if_pos ⟨List.mem_cons_self, h3⟩]; simp [Act.put, h3]
        · rw [if_neg (fun h => h3 h.2)]; simp [Act.put, Array.getElem?_eq_none (Nat.le_of_not_lt h3)]; omega
      · rw [if_neg (fun h => h1 ⟨(List.mem_cons.1 h.1).resolve_left h2, h.2⟩)]
        simp [Act.put, Array.getElem?_setIfInBounds_ne (Ne.symm h2)]
theorem act_ext {a b : Act} (h1 : ∀ j : Nat, (a.tmps[j]? : Option Value) = b.tmps[j]?) (h2 : a.defers = b.defers) : a = b := by
  cases a; cases b; simp only at h1 h2; subst h2; congr 1; exact Array.ext_getElem? h1
theorem setAll_put (a0 : Act) (dl : List Nat) (v : Nat → Value) (d : Nat) (u : Value) (hd : d ∈ dl) : (setAll a0 dl v).put (some d) u = setAll a0 dl (updAt v d u) := by
  refine act_ext (fun j => ?_) ?_
  · rw [setAll_at]
    by_cases h : d = j
    · subst h
      by_cases h3 : d < a0.tmps.size
      · rw [if_pos ⟨hd, h3⟩, updAt_same]; simp [Act.put, (setAll_size dl v a0).1, h3]
      · rw [if_neg (fun h => h3 h.2)]; rw [Array.getElem?_eq_none (by simpa [Act.put, (setAll_size dl v a0).1] using Nat.le_of_not_lt h3), Array.getElem?_eq_none (Nat.le_of_not_lt h3)]
    · rw [updAt_other _ _ (Ne.symm h)]
      have : ((setAll a0 dl v).put (some d) u).tmps[j]? = (setAll a0 dl v).tmps[j]? := by simp [Act.put, Array.getElem?_setIfInBounds_ne h]
      rw [this, setAll_at]
  · have e1 := (setAll_size dl v a0).2
    have e2 := (setAll_size dl (updAt v d u) a0).2
    simp [Act.put, e1, e2]

section
variable {P : Program} {ops : Array Oper} {Q : Exit → Act → World → Prop}
theorem all_listed {md : Region.Mode} (hl : ∀ (i : Nat) (o : Oper), ops[i]? = some o → ∀ e ∈ o.after, e.on < i) (listed : Array Bool) (hr : Region.ready md ops listed = []) : ∀ i, i < ops.size → listed.getD i true = true := by
  intro i
  induction i using Nat.strongRecOn with
  | _ i ih =>
    intro hi
    cases hc : listed.getD i true with
    | true => rfl
    | false =>
      have ho : ops[i]? = some ops[i] := by simp [hi]
      have : i ∈ Region.ready md ops listed := mem_ready.2 ⟨hc, _, ho, fun e he _ => by
        have h1 := hl i _ ho e he
        have h2 := ih e.on h1 (by omega)
        have hsz : i < listed.size := by
          rcases Nat.lt_or_ge i listed.size with h | h
          · exact h
          · simp [Array.getD, Nat.not_lt.2 h] at hc
        have h3 : e.on < listed.size := by omega
        simp [Array.getD, h3] at h2 ⊢
        exact h2⟩
      rw [hr] at this
      cases this
theorem wpAny_inv {md : Region.Mode} (I : (Nat → Bool) → Act → World → Prop)
    (hs : ∀ (i : Nat) (o : Oper), ops[i]? = some o → ∀ (L : Nat → Bool) a w, L i = false → (∀ e ∈ o.after, Region.binds md e = true → L e.on = true) → I L a w → ∀ K : Act → World → Prop, (∀ a' w', I (updAt L i true) a' w' → K a' w') → if Region.wanted o (yielded ops a.tmps) = true then Oper.wp P o a w K Q else K (a.put o.dst undef) w)
    (hl : ∀ (i : Nat) (o : Oper), ops[i]? = some o → ∀ e ∈ o.after, e.on < i)
    (he : ∀ L a w, I L a w → (∀ i, i < ops.size → L i = true) → Q .normal a w) :
    ∀ (fuel : Nat) (listed : Array Bool) (a : Act) (w : World), listed.size = ops.size → listed.count false ≤ fuel → I (fun i => listed.getD i false) a w → wpAny P md ops Q fuel listed a w := by
  have fin : ∀ (listed : Array Bool) (a : Act) (w : World), listed.size = ops.size → I (fun i => listed.getD i false) a w → Region.ready md ops listed = [] → Q .normal a w := fun listed a w hz hI hr => he _ _ _ hI (fun i hi => by
    have := all_listed hl listed hr i hi
    have h3 : i < listed.size := by omega
    simp [Array.getD, h3] at this ⊢
    exact this)
  intro fuel
  induction fuel with
  | zero =>
    intro listed a w hz hc hI
    have hr : Region.ready md ops listed = [] := by
      cases hr : Region.ready md ops listed with
      | nil => rfl
      | cons i rs =>
        have hm : i ∈ Region.ready md ops listed := by rw [hr]; exact List.mem_cons_self
        obtain ⟨h1, o, ho, -⟩ := mem_ready.1 hm
        have hi : i < listed.size := by have := (Array.getElem?_eq_some_iff.1 ho).1; omega
        have h0 : listed.count false = 0 := by omega
        rw [Array.count_eq_zero] at h0
        exfalso; apply h0
        simp [Array.getD, hi] at h1
        rw [← h1]; exact Array.getElem_mem hi
    exact ⟨hr, fin _ _ _ hz hI hr⟩
  | succ fuel ih =>
    intro listed a w hz hc hI
    refine ⟨fin _ _ _ hz hI, fun i hi => ?_⟩
    obtain ⟨h1, o, ho, hd⟩ := mem_ready.1 hi
    have hi : i < listed.size := by have := (Array.getElem?_eq_some_iff.1 ho).1; omega
    refine wpOp_step ho (fun K hK => hs i o ho _ a w (by simp [Array.getD, hi] at h1 ⊢; exact h1) hd hI K (fun a' w' hI' => hK _ _ (ih _ _ _ (by simpa using hz) ?_ ?_)))
    · have := Array.count_set (xs := listed) (i := i) (a := true) (b := false) hi
      rw [Array.setIfInBounds, dif_pos hi, this]
      simp [Array.getD, hi] at h1
      have hp : 0 < listed.count false := Array.count_pos_iff.2 (by rw [← h1]; exact Array.getElem_mem hi)
      simp [h1]
      omega
    · have : (fun j => (listed.setIfInBounds i true).getD j false) = updAt (fun j => listed.getD j false) i true := by
        funext j
        unfold updAt
        by_cases hj : j = i
        · subst hj; simp [Array.getD, hi]
        · rw [if_neg hj]
          show (listed.setIfInBounds i true).getD j false = listed.getD j false
          rw [Array.getD_eq_getD_getElem?, Array.getD_eq_getD_getElem?, Array.getElem?_setIfInBounds_ne (Ne.symm hj)]
      rw [this]
      exact hI'
/-- What is said of the k-th operation on. -/
def Each (C : Nat → Oper → Prop) : Nat → List Oper → Prop
  | _, [] => True
  | k, o :: l => C k o ∧ Each C (k + 1) l
theorem Each.cons {C : Nat → Oper → Prop} {k : Nat} {o : Oper} {l : List Oper} (h : C k o) (hl : Each C (k + 1) l) : Each C k (o :: l) := ⟨h, hl⟩
theorem Each.nil {C : Nat → Oper → Prop} {k : Nat} : Each C k [] := trivial
theorem Each.at {C : Nat → Oper → Prop} : ∀ {l : List Oper} {k i : Nat} {o : Oper}, Each C k l → l[i]? = some o → C (k + i) o
  | [], _, _, _, _, h => by simp at h
  | x :: l, k, 0, o, h, he => by simp at he; subst he; exact h.1
  | x :: l, k, i + 1, o, h, he => by
    have := Each.at h.2 (by simpa using he)
    rwa [show k + (i + 1) = k + 1 + i by omega]
end
end Go.Proofs.Ytnlkbmjelkbfkaa
