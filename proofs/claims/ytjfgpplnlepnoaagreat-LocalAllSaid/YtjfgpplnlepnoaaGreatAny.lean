import Derived.Test.YtjfgpplnlepnoaaGreatKeep
import Derived.RegionTactic
import Derived.Test.YtjfgpplnlepnoaaGreatStart
/-
  A region whose order is drawn, and none of whose operations writes what was there: whatever the order, each slot holds what is said of it.
-/
namespace Go.Proofs.YtjfgpplnlepnoaaGreat
set_option maxRecDepth 100000
set_option linter.unusedSimpArgs false
set_option linter.unusedVariables false
open Go

def setAll (a0 : Act) (dl : List Nat) (v : Nat → Value) : Act := dl.foldl (fun a d => a.put (some d) (v d)) a0
def updAt {α : Type} (v : Nat → α) (d : Nat) (u : α) : Nat → α := fun j => if j = d then u else v j
theorem updAt_same {α : Type} (v : Nat → α) (d : Nat) (u : α) : updAt v d u d = u := by simp [updAt]
theorem updAt_other {α : Type} (v : Nat → α) {d j : Nat} (u : α) (h : j ≠ d) : updAt v d u j = v j := by simp [updAt, h]
theorem setAll_size (dl : List Nat) (v : Nat → Value) : ∀ a0 : Act, (setAll a0 dl v).tmps.size = a0.tmps.size ∧ (setAll a0 dl v).defers = a0.defers := by
  induction dl with
  | nil => exact fun _ => ⟨rfl, rfl⟩
  | cons d dl ih => intro a0; have := ih (a0.put (some d) (v d)); simpa [setAll, Act.put] using this
theorem setAll_at (v : Nat → Value) (j : Nat) : ∀ (dl : List Nat) (a0 : Act), (setAll a0 dl v).tmps[j]? = if j ∈ dl ∧ j < a0.tmps.size then some (v j) else a0.tmps[j]? := by
  intro dl
  induction dl with
  | nil => intro a0; simp [setAll]
  | cons d dl ih =>
    intro a0
    have := ih (a0.put (some d) (v d))
    have e : setAll a0 (d :: dl) v = setAll (a0.put (some d) (v d)) dl v := rfl
    rw [e, this]
    by_cases h1 : j ∈ dl ∧ j < a0.tmps.size
    · rw [if_pos (by simpa [Act.put] using h1), if_pos ⟨List.mem_cons_of_mem _ h1.1, h1.2⟩]
    · rw [if_neg (by simpa [Act.put] using h1)]
      by_cases h2 : j = d
      · subst h2
        by_cases h3 : j < a0.tmps.size
        · rw [if_pos ⟨List.mem_cons_self, h3⟩]; simp [Act.put, h3]
        · rw [if_neg (fun h => h3 h.2)]; simp [Act.put, Array.getElem?_eq_none (Nat.le_of_not_lt h3)]; omega
      · rw [if_neg (fun h => h1 ⟨(List.mem_cons.1 h.1).resolve_left h2, h.2⟩)]
        simp [Act.put, Array.getElem?_setIfInBounds_ne (Ne.symm h2)]
/-- As a list, to be reckoned by the kernel. -/
def setL (dl : List Nat) (v : Nat → Value) (l : List Value) : List Value := dl.foldl (fun l d => l.set d (v d)) l
theorem setAll_list (v : Nat → Value) (ds : List Deferred) : ∀ (dl : List Nat) (l : List Value), setAll ⟨l.toArray, ds⟩ dl v = ⟨(setL dl v l).toArray, ds⟩
  | [], l => rfl
  | d :: dl, l => by
    have h := setAll_list v ds dl (l.set d (v d))
    show setAll ((⟨l.toArray, ds⟩ : Act).put (some d) (v d)) dl v = _
    rw [show ((⟨l.toArray, ds⟩ : Act).put (some d) (v d)) = ⟨(l.set d (v d)).toArray, ds⟩ by simp [Act.put], h]
    rfl
def sortedB : Nat → List Nat → Bool
  | _, [] => true
  | k, d :: dl => Nat.ble k d && sortedB (d + 1) dl
theorem sortedB_ge : ∀ (dl : List Nat) (k : Nat), sortedB k dl = true → ∀ d ∈ dl, k ≤ d
  | [], _, _, d, h => by cases h
  | e :: dl, k, h, d, hd => by
    simp only [sortedB, Bool.and_eq_true, Nat.ble_eq] at h
    rcases List.mem_cons.1 hd with rfl | h'
    · exact h.1
    · have := sortedB_ge dl (e + 1) h.2 d h'
      omega
/-- The list l, from index k on, with v d at each place d of dl (which rises). -/
def mergeL {α : Type} (v : Nat → α) : List α → Nat → List Nat → List α
  | [], _, _ => []
  | x :: xs, _, [] => x :: xs
  | x :: xs, k, d :: dl => match Nat.beq k d with
    | true => v d :: mergeL v xs (k + 1) dl
    | false => x :: mergeL v xs (k + 1) (d :: dl)
theorem mergeL_at {α : Type} (v : Nat → α) : ∀ (xs : List α) (k : Nat) (dl : List Nat), sortedB k dl = true → ∀ i : Nat, (mergeL v xs k dl)[i]? = if k + i ∈ dl ∧ i < xs.length then some (v (k + i)) else xs[i]?
  | [], k, dl, _, i => by cases dl <;> simp [mergeL]
  | x :: xs, k, [], _, i => by simp [mergeL]
  | x :: xs, k, d :: dl, h, i => by
    simp only [sortedB, Bool.and_eq_true, Nat.ble_eq] at h
    unfold mergeL
    cases hb : Nat.beq k d with
    | true =>
      have e : k = d := Nat.eq_of_beq_eq_true hb
      subst e
      cases i with
      | zero => simp
      | succ i =>
        have hh := mergeL_at v xs (k + 1) dl h.2 i
        simp only [List.getElem?_cons_succ, hh, List.length_cons, List.mem_cons]
        rw [show k + 1 + i = k + (i + 1) by omega]
        by_cases c : k + (i + 1) ∈ dl ∧ i < xs.length
        · rw [if_pos c, if_pos ⟨.inr c.1, by omega⟩]
        · rw [if_neg c, if_neg (fun h' => c ⟨h'.1.resolve_left (by omega), by omega⟩)]
    | false =>
      have e : k ≠ d := Nat.ne_of_beq_eq_false hb
      have h' : sortedB (k + 1) (d :: dl) = true := by
        simp only [sortedB, Bool.and_eq_true, Nat.ble_eq]
        exact ⟨by omega, h.2⟩
      cases i with
      | zero =>
        have : ¬ k ∈ d :: dl := fun hm => by have := sortedB_ge _ _ h' k hm; omega
        simp only [Nat.add_zero]
        rw [if_neg (fun h => this h.1)]
        rfl
      | succ i =>
        have hh := mergeL_at v xs (k + 1) (d :: dl) h' i
        simp only [List.getElem?_cons_succ, hh, List.length_cons]
        rw [show k + 1 + i = k + (i + 1) by omega]
        by_cases c : k + (i + 1) ∈ d :: dl ∧ i < xs.length
        · rw [if_pos c, if_pos ⟨c.1, by omega⟩]
        · rw [if_neg c, if_neg (fun h' => c ⟨h'.1, by omega⟩)]
theorem setAll_in (v : Nat → Value) (dl : List Nat) (a0 : Act) {d : Nat} (hd : d ∈ dl) (hz : decide (d < a0.tmps.size) = true) : (setAll a0 dl v).tmps.getD d undef = v d := by
  have hlt := of_decide_eq_true hz
  have h := setAll_at v d dl a0
  rw [if_pos ⟨hd, hlt⟩] at h
  rw [Array.getD_eq_getD_getElem?, h]; rfl
theorem setAll_out (v : Nat → Value) (dl : List Nat) (a0 : Act) {d : Nat} (hd : d ∉ dl) : (setAll a0 dl v).tmps.getD d undef = a0.tmps.getD d undef := by
  have h := setAll_at v d dl a0
  rw [if_neg (fun h => hd h.1)] at h
  rw [Array.getD_eq_getD_getElem?, h, Array.getD_eq_getD_getElem?]
theorem act_ext {a b : Act} (h1 : ∀ j : Nat, (a.tmps[j]? : Option Value) = b.tmps[j]?) (h2 : a.defers = b.defers) : a = b := by
  cases a; cases b; simp only at h1 h2; subst h2; congr 1; exact Array.ext_getElem? h1
theorem setAll_merge (v : Nat → Value) (ds : List Deferred) (dl dl' : List Nat) (l : List Value) (hs : sortedB 0 dl' = true) (hp : (dl.all (fun d => dl'.contains d) && dl'.all (fun d => dl.contains d)) = true) : setAll ⟨l.toArray, ds⟩ dl v = ⟨(mergeL v l 0 dl').toArray, ds⟩ := by
  simp only [Bool.and_eq_true, List.all_eq_true, List.contains_iff_mem] at hp
  refine act_ext (fun j => ?_) (setAll_size dl v _).2
  rw [setAll_at]
  have h := mergeL_at v l 0 dl' hs j
  rw [Nat.zero_add] at h
  simp only [List.getElem?_toArray, List.size_toArray, h]
  by_cases c : j ∈ dl ∧ j < l.length
  · rw [if_pos c, if_pos ⟨hp.1 j c.1, c.2⟩]
  · rw [if_neg c, if_neg (fun h' => c ⟨hp.2 j h'.1, h'.2⟩)]
theorem setAll_put (a0 : Act) (dl : List Nat) (v : Nat → Value) (d : Nat) (u : Value) (hd : d ∈ dl) : (setAll a0 dl v).put (some d) u = setAll a0 dl (updAt v d u) := by
  refine act_ext (fun j => ?_) ?_
  · rw [setAll_at]
    by_cases h : d = j
    · subst h
      by_cases h3 : d < a0.tmps.size
      · rw [if_pos ⟨hd, h3⟩, updAt_same]; simp [Act.put, (setAll_size dl v a0).1, h3]
      · rw [if_neg (fun h => h3 h.2)]; rw [Array.getElem?_eq_none (by simpa [Act.put, (setAll_size dl v a0).1] using Nat.le_of_not_lt h3), Array.getElem?_eq_none (Nat.le_of_not_lt h3)]
    · rw [updAt_other _ _ (Ne.symm h)]
      have : ((setAll a0 dl v).put (some d) u).tmps[j]? = (setAll a0 dl v).tmps[j]? := by simp [Act.put, Array.getElem?_setIfInBounds_ne h]
      rw [this, setAll_at]
  · have e1 := (setAll_size dl v a0).2
    have e2 := (setAll_size dl (updAt v d u) a0).2
    simp [Act.put, e1, e2]

section
variable {P : Program} {ops : Array Oper} {Q : Exit → Act → World → Prop}
theorem all_listed {md : Region.Mode} (hl : ∀ (i : Nat) (o : Oper), ops[i]? = some o → ∀ e ∈ o.after, e.on < i) (listed : Array Bool) (hr : Region.ready md ops listed = []) : ∀ i, i < ops.size → listed.getD i true = true := by
  intro i
  induction i using Nat.strongRecOn with
  | _ i ih =>
    intro hi
    cases hc : listed.getD i true with
    | true => rfl
    | false =>
      have ho : ops[i]? = some ops[i] := by simp [hi]
      have : i ∈ Region.ready md ops listed := mem_ready.2 ⟨hc, _, ho, fun e he _ => by
        have h1 := hl i _ ho e he
        have h2 := ih e.on h1 (by omega)
        have hsz : i < listed.size := by
          rcases Nat.lt_or_ge i listed.size with h | h
          · exact h
          · simp [Array.getD, Nat.not_lt.2 h] at hc
        have h3 : e.on < listed.size := by omega
        simp [Array.getD, h3] at h2 ⊢
        exact h2⟩
      rw [hr] at this
      cases this
theorem wpAny_inv {md : Region.Mode} (I : (Nat → Bool) → Act → World → Prop)
    (hs : ∀ (i : Nat) (o : Oper), ops[i]? = some o → ∀ (L : Nat → Bool) a w, L i = false → (∀ e ∈ o.after, Region.binds md e = true → L e.on = true) → I L a w → ∀ K : Act → World → Prop, (∀ a' w', I (updAt L i true) a' w' → K a' w') → if Region.wanted o (yielded ops a.tmps) = true then Oper.wp P o a w K Q else K (a.put o.dst undef) w)
    (hl : ∀ (i : Nat) (o : Oper), ops[i]? = some o → ∀ e ∈ o.after, e.on < i)
    (he : ∀ L a w, I L a w → (∀ i, i < ops.size → L i = true) → Q .normal a w) :
    ∀ (fuel : Nat) (listed : Array Bool) (a : Act) (w : World), listed.size = ops.size → listed.count false ≤ fuel → I (fun i => listed.getD i false) a w → wpAny P md ops Q fuel listed a w := by
  have fin : ∀ (listed : Array Bool) (a : Act) (w : World), listed.size = ops.size → I (fun i => listed.getD i false) a w → Region.ready md ops listed = [] → Q .normal a w := fun listed a w hz hI hr => he _ _ _ hI (fun i hi => by
    have := all_listed hl listed hr i hi
    have h3 : i < listed.size := by omega
    simp [Array.getD, h3] at this ⊢
    exact this)
  intro fuel
  induction fuel with
  | zero =>
    intro listed a w hz hc hI
    have hr : Region.ready md ops listed = [] := by
      cases hr : Region.ready md ops listed with
      | nil => rfl
      | cons i rs =>
        have hm : i ∈ Region.ready md ops listed := by rw [hr]; exact List.mem_cons_self
        obtain ⟨h1, o, ho, -⟩ := mem_ready.1 hm
        have hi : i < listed.size := by have := (Array.getElem?_eq_some_iff.1 ho).1; omega
        have h0 : listed.count false = 0 := by omega
        rw [Array.count_eq_zero] at h0
        exfalso; apply h0
        simp [Array.getD, hi] at h1
        rw [← h1]; exact Array.getElem_mem hi
    exact ⟨hr, fin _ _ _ hz hI hr⟩
  | succ fuel ih =>
    intro listed a w hz hc hI
    refine ⟨fin _ _ _ hz hI, fun i hi => ?_⟩
    obtain ⟨h1, o, ho, hd⟩ := mem_ready.1 hi
    have hi : i < listed.size := by have := (Array.getElem?_eq_some_iff.1 ho).1; omega
    refine wpOp_step ho (fun K hK => hs i o ho _ a w (by simp [Array.getD, hi] at h1 ⊢; exact h1) hd hI K (fun a' w' hI' => hK _ _ (ih _ _ _ (by simpa using hz) ?_ ?_)))
    · have := Array.count_set (xs := listed) (i := i) (a := true) (b := false) hi
      rw [Array.setIfInBounds, dif_pos hi, this]
      simp [Array.getD, hi] at h1
      have hp : 0 < listed.count false := Array.count_pos_iff.2 (by rw [← h1]; exact Array.getElem_mem hi)
      simp [h1]
      omega
    · have : (fun j => (listed.setIfInBounds i true).getD j false) = updAt (fun j => listed.getD j false) i true := by
        funext j
        unfold updAt
        by_cases hj : j = i
        · subst hj; simp [Array.getD, hi]
        · rw [if_neg hj]
          show (listed.setIfInBounds i true).getD j false = listed.getD j false
          rw [Array.getD_eq_getD_getElem?, Array.getD_eq_getD_getElem?, Array.getElem?_setIfInBounds_ne (Ne.symm hj)]
      rw [this]
      exact hI'
/-- What is said of the k-th operation on. -/
def Each (C : Nat → Oper → Prop) : Nat → List Oper → Prop
  | _, [] => True
  | k, o :: l => C k o ∧ Each C (k + 1) l
theorem Each.cons {C : Nat → Oper → Prop} {k : Nat} {o : Oper} {l : List Oper} (h : C k o) (hl : Each C (k + 1) l) : Each C k (o :: l) := ⟨h, hl⟩
theorem Each.nil {C : Nat → Oper → Prop} {k : Nat} : Each C k [] := trivial
theorem Each.at {C : Nat → Oper → Prop} : ∀ {l : List Oper} {k i : Nat} {o : Oper}, Each C k l → l[i]? = some o → C (k + i) o
  | [], _, _, _, _, h => by simp at h
  | x :: l, k, 0, o, h, he => by simp at he; subst he; exact h.1
  | x :: l, k, i + 1, o, h, he => by
    have := Each.at h.2 (by simpa using he)
    rwa [show k + (i + 1) = k + 1 + i by omega]
/-- Such a region: dl: the operations' slots. Of each slot: what is said of its value (and of those in R), and what is made with it (γ: new blocks, and of no other slot). -/
theorem wp_region_slots {id : Nat} {a0 : Act} {w0 : World} (dl : List Nat) (R : Nat → List Nat) (Pd : Nat → (Nat → Value) → List Nat → World → Prop) (hm : P.follows .mixedOrders = true)
    (hd : (List.range ops.size).all (fun i => match ops[i]? with | some o => o.dst == some (dl.getD i 0) && o.after.all (fun e => decide (e.on < i)) && (R (dl.getD i 0)).all (fun j => o.after.any fun e => Region.binds .any e && j == dl.getD e.on 0) | none => true) = true) (hn : dl.Nodup) (hz : dl.length = ops.size)
    (hP : ∀ d v v' γ w w', Pd d v γ w → v' d = v d → (∀ j ∈ R d, v' j = v j) → (∀ k ∈ γ, k < w.heap.size) → Keeps [] w w' → Pd d v' γ w')
    (hs : Each (fun i o => ∀ (v : Nat → Value) (g : Nat → List Nat) (w : World), Keeps [] w0.drew w → (∀ j, (o.after.any fun e => Region.binds .any e && e.on == j) = true → Pd (dl.getD j 0) v (g (dl.getD j 0)) w) →
      ∀ a : Act, setAll a0 dl v = a → ∀ K : Act → World → Prop, (∀ u γ w', Keeps [] w w' → Pd (dl.getD i 0) (updAt v (dl.getD i 0) u) γ w' → (∀ k ∈ γ, w.heap.size ≤ k ∧ k < w'.heap.size) → K (a.put o.dst u) w') →
        if Region.wanted o (yielded ops a.tmps) = true then Oper.wp P o a w K Q else K (a.put o.dst undef) w) 0 ops.toList)
    (he : ∀ (v : Nat → Value) (g : Nat → List Nat) (w : World), Keeps [] w0.drew w → (∀ d ∈ dl, Pd d v (g d) w ∧ ∀ k ∈ g d, w0.heap.size ≤ k ∧ k < w.heap.size) → (∀ d ∈ dl, ∀ d' ∈ dl, d ≠ d' → ∀ k ∈ g d, k ∉ g d') → ∀ a : Act, setAll a0 dl v = a → Q .normal a w) :
    (Code.region id ops true).wp P Q a0 w0 := by
  have hd' : ∀ (i : Nat) (o : Oper), ops[i]? = some o → i < ops.size ∧ o.dst = some (dl.getD i 0) ∧ (∀ e ∈ o.after, e.on < i) ∧ ∀ j ∈ R (dl.getD i 0), ∃ e ∈ o.after, Region.binds .any e = true ∧ j = dl.getD e.on 0 := fun i o ho => by
    have hi := (Array.getElem?_eq_some_iff.1 ho).1
    have := List.all_eq_true.1 hd i (List.mem_range.2 hi)
    simp only [ho, Bool.and_eq_true] at this
    obtain ⟨⟨h1, h2⟩, h3⟩ := this
    refine ⟨hi, by simpa using h1, fun e he => of_decide_eq_true (Array.all_eq_true_iff_forall_mem.1 h2 e he), fun j hj => ?_⟩
    obtain ⟨e, he, hb⟩ := Array.any_eq_true'.1 (List.all_eq_true.1 h3 j hj)
    simp only [Bool.and_eq_true, beq_iff_eq] at hb
    exact ⟨e, he, hb.1, hb.2⟩
  have hmem : ∀ i, i < ops.size → dl.getD i 0 ∈ dl := fun i hi => by rw [List.getD, List.getElem?_eq_getElem (by omega)]; exact List.getElem_mem _
  have hinj : ∀ i j, i < ops.size → j < ops.size → dl.getD i 0 = dl.getD j 0 → i = j := fun i j hi hj h => by
    rw [List.getD, List.getD, List.getElem?_eq_getElem (by omega), List.getElem?_eq_getElem (by omega)] at h
    exact (List.getElem_inj hn).1 h
  refine wp_region_any hm (wpAny_inv (md := .any) (fun L a w => ∃ (v : Nat → Value) (g : Nat → List Nat), a = setAll a0 dl v ∧ Keeps [] w0.drew w ∧ (∀ i, i < ops.size → L i = true → (Pd (dl.getD i 0) v (g (dl.getD i 0)) w ∧ ∀ k ∈ g (dl.getD i 0), w0.heap.size ≤ k ∧ k < w.heap.size) ∧ ∀ j ∈ R (dl.getD i 0), ∃ k, k < ops.size ∧ L k = true ∧ j = dl.getD k 0) ∧
      (∀ i j, i < ops.size → j < ops.size → L i = true → L j = true → i ≠ j → ∀ k ∈ g (dl.getD i 0), k ∉ g (dl.getD j 0))) ?_ ?_ ?_ _ _ _ _ (by simp) (by simp) ?_)
  · rintro i o ho L a w hLi hdep ⟨v, g, rfl, hk, hg, hj⟩ K hK
    obtain ⟨hi, hdst, hal, hR⟩ := hd' i o ho
    have hst := hs.at (i := i) (o := o) (by simpa using ho)
    rw [Nat.zero_add] at hst
    refine hst v g w hk (fun j hj => ?_) _ rfl K (fun u γ w' hk' hPu hγ => ?_)
    · obtain ⟨e, he, hb⟩ := Array.any_eq_true'.1 hj
      simp only [Bool.and_eq_true, beq_iff_eq] at hb
      rw [← hb.2]
      exact (hg e.on (by have := hal e he; omega) (hdep e he hb.1)).1.1
    rw [hdst, setAll_put a0 dl v _ u (hmem i hi)]
    have ne : ∀ j, j < ops.size → j ≠ i → dl.getD j 0 ≠ dl.getD i 0 := fun j hj hne h => hne (hinj j i hj hi h)
    have hs0 : w0.heap.size ≤ w.heap.size := hk.size
    refine hK _ _ ⟨updAt v (dl.getD i 0) u, updAt g (dl.getD i 0) γ, rfl, hk.trans hk', fun j hj' hLj => ?_, fun j1 j2 h1 h2 l1 l2 hne => ?_⟩
    · by_cases hji : j = i
      · subst hji
        rw [updAt_same]
        refine ⟨⟨hPu, fun k hk => ⟨Nat.le_trans hs0 (hγ k hk).1, (hγ k hk).2⟩⟩, fun x hx => ?_⟩
        obtain ⟨e, he, hb, hx⟩ := hR x hx
        have := hal e he
        exact ⟨e.on, by omega, by rw [updAt_other _ _ (by omega)]; exact hdep e he hb, hx⟩
      · rw [updAt_other _ _ (ne j hj' hji)]
        rw [updAt_other _ _ hji] at hLj
        obtain ⟨⟨p, q⟩, r⟩ := hg j hj' hLj
        refine ⟨⟨hP _ _ _ _ _ _ p (updAt_other _ _ (ne j hj' hji)) (fun x hx => ?_) (fun k hk => (q k hk).2) hk', fun k hk => ⟨(q k hk).1, Nat.lt_of_lt_of_le (q k hk).2 hk'.size⟩⟩, fun x hx => ?_⟩
        · obtain ⟨k, hk1, hk2, rfl⟩ := r x hx
          refine updAt_other _ _ (ne k hk1 (fun h => ?_))
          rw [h, hLi] at hk2
          cases hk2
        · obtain ⟨k, hk1, hk2, hk3⟩ := r x hx
          refine ⟨k, hk1, ?_, hk3⟩
          by_cases h : k = i
          · rw [h, updAt_same]
          · rw [updAt_other _ _ h]; exact hk2
    · by_cases e1 : j1 = i
      · by_cases e2 : j2 = i
        · exact absurd (e1.trans e2.symm) hne
        · subst e1
          rw [updAt_same, updAt_other _ _ (ne j2 h2 e2)]
          rw [updAt_other _ _ e2] at l2
          intro k hkγ hkg
          have a := (hγ k hkγ).1
          have b := ((hg j2 h2 l2).1.2 k hkg).2
          omega
      · rw [updAt_other _ _ (ne j1 h1 e1)]
        rw [updAt_other _ _ e1] at l1
        by_cases e2 : j2 = i
        · subst e2
          rw [updAt_same]
          intro k hkg hkγ
          have a := (hγ k hkγ).1
          have b := ((hg j1 h1 l1).1.2 k hkg).2
          omega
        · rw [updAt_other _ _ (ne j2 h2 e2)]
          rw [updAt_other _ _ e2] at l2
          exact hj j1 j2 h1 h2 l1 l2 hne
  · intro i o ho e he
    exact (hd' i o ho).2.2.1 e he
  · rintro L a w ⟨v, g, rfl, hk, hg, hj⟩ hL
    have ix : ∀ d ∈ dl, ∃ i, i < ops.size ∧ dl.getD i 0 = d := fun d hd => by
      obtain ⟨i, hi, rfl⟩ := List.getElem_of_mem hd
      exact ⟨i, by omega, by rw [List.getD, List.getElem?_eq_getElem hi]; rfl⟩
    refine he v g w hk (fun d hd => ?_) (fun d hd d' hd' hne => ?_) _ rfl
    · obtain ⟨i, hi, rfl⟩ := ix d hd
      exact (hg i hi (hL i hi)).1
    · obtain ⟨i, hi, rfl⟩ := ix d hd
      obtain ⟨j, hj', rfl⟩ := ix d' hd'
      exact hj i j hi hj' (hL i hi) (hL j hj') (fun h => hne (by rw [h]))
  · refine ⟨fun j => (a0.tmps[j]?).getD undef, fun _ => [], ?_, Keeps.refl _ _, fun i hi h => ?_, fun i j hi hj h => ?_⟩
    · refine act_ext (fun j => ?_) (setAll_size dl _ a0).2.symm
      rw [setAll_at]
      by_cases h : j ∈ dl ∧ j < a0.tmps.size
      · rw [if_pos h]; simp [h.2]
      · rw [if_neg h]
    · simp [Array.getD, hi] at h
    · simp [Array.getD, hi] at h
end
end Go.Proofs.YtjfgpplnlepnoaaGreat

/-
  A region whose order is drawn, with calls, new blocks, and stores into these: whatever the order, each slot holds what is said of it.
-/
namespace Go.Proofs.YtjfgpplnlepnoaaGreat
set_option maxRecDepth 100000
set_option linter.unusedSimpArgs false
set_option linter.unusedVariables false
open Go

theorem setAll_none (a0 : Act) (dl : List Nat) (v : Nat → Value) (d : Nat) (u : Value) (hd : d ∈ dl) (hz : a0.tmps.size ≤ d) : (setAll a0 dl v).put none u = setAll a0 dl (updAt v d u) := by
  rw [← setAll_put a0 dl v d u hd]
  have := (setAll_size dl v a0).1
  simp [Act.put, Array.setIfInBounds, this, Nat.not_lt.2 hz]

section
variable {P : Program} {ops : Array Oper} {Q : Exit → Act → World → Prop}
/-- Such a region: dl: the operations' slots (of an operation without one: a number behind all slots). A store says itself what it leaves of the others. -/
theorem wp_region_own {id : Nat} {a0 : Act} {w0 : World} (dl : List Nat) (R : Nat → List Nat) (Pd : Nat → (Nat → Value) → List Nat → World → Prop) (hm : P.follows .mixedOrders = true)
    (hd : (List.range ops.size).all (fun i => match ops[i]? with | some o => (o.dst == some (dl.getD i 0) || (o.dst == none && decide (a0.tmps.size ≤ dl.getD i 0))) && o.after.all (fun e => decide (e.on < i)) && (R (dl.getD i 0)).all (fun j => o.after.any fun e => Region.binds .any e && j == dl.getD e.on 0) | none => true) = true) (hn : dl.Nodup) (hz : dl.length = ops.size)
    (hP : ∀ d v v' γ w w', Pd d v γ w → v' d = v d → (∀ j ∈ R d, v' j = v j) → (∀ k ∈ γ, k < w.heap.size) → Keeps [] w w' → Pd d v' γ w')
    (hs : Each (fun i o => ∀ (v : Nat → Value) (g : Nat → List Nat) (w : World) (Ls : Nat → Prop), Keeps [] w0.drew w → (∀ j, (o.after.any fun e => Region.binds .any e && e.on == j) = true → Ls (dl.getD j 0)) →
      (∀ d ∈ dl, Ls d → d ≠ dl.getD i 0 ∧ Pd d v (g d) w ∧ ∀ k ∈ g d, w0.heap.size ≤ k ∧ k < w.heap.size) → (∀ d ∈ dl, ∀ d' ∈ dl, Ls d → Ls d' → d ≠ d' → ∀ k ∈ g d, k ∉ g d') →
      ∀ a : Act, setAll a0 dl v = a → ∀ K : Act → World → Prop, (∀ u γ w', Keeps [] w0.drew w' → w.heap.size ≤ w'.heap.size → (Keeps [] w w' ∨ ∀ d ∈ dl, Ls d → Pd d v (g d) w → Pd d (updAt v (dl.getD i 0) u) (g d) w') → Pd (dl.getD i 0) (updAt v (dl.getD i 0) u) γ w' → (∀ k ∈ γ, w.heap.size ≤ k ∧ k < w'.heap.size) → K (a.put o.dst u) w') →
        if Region.wanted o (yielded ops a.tmps) = true then Oper.wp P o a w K Q else K (a.put o.dst undef) w) 0 ops.toList)
    (he : ∀ (v : Nat → Value) (g : Nat → List Nat) (w : World), Keeps [] w0.drew w → (∀ d ∈ dl, Pd d v (g d) w ∧ ∀ k ∈ g d, w0.heap.size ≤ k ∧ k < w.heap.size) → (∀ d ∈ dl, ∀ d' ∈ dl, d ≠ d' → ∀ k ∈ g d, k ∉ g d') → ∀ a : Act, setAll a0 dl v = a → Q .normal a w) :
    (Code.region id ops true).wp P Q a0 w0 := by
  have hd' : ∀ (i : Nat) (o : Oper), ops[i]? = some o → i < ops.size ∧ (o.dst = some (dl.getD i 0) ∨ o.dst = none ∧ a0.tmps.size ≤ dl.getD i 0) ∧ (∀ e ∈ o.after, e.on < i) ∧ ∀ j ∈ R (dl.getD i 0), ∃ e ∈ o.after, Region.binds .any e = true ∧ j = dl.getD e.on 0 := fun i o ho => by
    have hi := (Array.getElem?_eq_some_iff.1 ho).1
    have := List.all_eq_true.1 hd i (List.mem_range.2 hi)
    simp only [ho, Bool.and_eq_true] at this
    obtain ⟨⟨h1, h2⟩, h3⟩ := this
    refine ⟨hi, by simpa using h1, fun e he => of_decide_eq_true (Array.all_eq_true_iff_forall_mem.1 h2 e he), fun j hj => ?_⟩
    obtain ⟨e, he, hb⟩ := Array.any_eq_true'.1 (List.all_eq_true.1 h3 j hj)
    simp only [Bool.and_eq_true, beq_iff_eq] at hb
    exact ⟨e, he, hb.1, hb.2⟩
  have hmem : ∀ i, i < ops.size → dl.getD i 0 ∈ dl := fun i hi => by rw [List.getD, List.getElem?_eq_getElem (by omega)]; exact List.getElem_mem _
  have hinj : ∀ i j, i < ops.size → j < ops.size → dl.getD i 0 = dl.getD j 0 → i = j := fun i j hi hj h => by
    rw [List.getD, List.getD, List.getElem?_eq_getElem (by omega), List.getElem?_eq_getElem (by omega)] at h
    exact (List.getElem_inj hn).1 h
  refine wp_region_any hm (wpAny_inv (md := .any) (fun L a w => ∃ (v : Nat → Value) (g : Nat → List Nat), a = setAll a0 dl v ∧ Keeps [] w0.drew w ∧ (∀ i, i < ops.size → L i = true → (Pd (dl.getD i 0) v (g (dl.getD i 0)) w ∧ ∀ k ∈ g (dl.getD i 0), w0.heap.size ≤ k ∧ k < w.heap.size) ∧ ∀ j ∈ R (dl.getD i 0), ∃ k, k < ops.size ∧ L k = true ∧ j = dl.getD k 0) ∧
      (∀ i j, i < ops.size → j < ops.size → L i = true → L j = true → i ≠ j → ∀ k ∈ g (dl.getD i 0), k ∉ g (dl.getD j 0))) ?_ ?_ ?_ _ _ _ _ (by simp) (by simp) ?_)
  · rintro i o ho L a w hLi hdep ⟨v, g, rfl, hk, hg, hj⟩ K hK
    obtain ⟨hi, hdst, hal, hR⟩ := hd' i o ho
    have hst := hs.at (i := i) (o := o) (by simpa using ho)
    rw [Nat.zero_add] at hst
    have ne : ∀ j, j < ops.size → j ≠ i → dl.getD j 0 ≠ dl.getD i 0 := fun j hj hne h => hne (hinj j i hj hi h)
    have neL : ∀ j, j < ops.size → L j = true → dl.getD j 0 ≠ dl.getD i 0 := fun j hj hl => ne j hj (fun h => by rw [h, hLi] at hl; cases hl)
    refine hst v g w (fun d => ∃ j, j < ops.size ∧ L j = true ∧ dl.getD j 0 = d) hk (fun j hj => ?_) ?_ ?_ _ rfl K (fun u γ w' hkw hsz hstab hPu hγ => ?_)
    · obtain ⟨e, he, hb⟩ := Array.any_eq_true'.1 hj
      simp only [Bool.and_eq_true, beq_iff_eq] at hb
      rw [← hb.2]
      exact ⟨e.on, by have := hal e he; omega, hdep e he hb.1, rfl⟩
    · rintro d - ⟨j, hj1, hj2, rfl⟩
      exact ⟨neL j hj1 hj2, (hg j hj1 hj2).1⟩
    · rintro d - d' - ⟨j, hj1, hj2, rfl⟩ ⟨j', hj1', hj2', rfl⟩ hne
      exact hj j j' hj1 hj1' hj2 hj2' (fun h => hne (by rw [h]))
    have hput : (setAll a0 dl v).put o.dst u = setAll a0 dl (updAt v (dl.getD i 0) u) := by
      rcases hdst with h | ⟨h, h2⟩
      · rw [h, setAll_put a0 dl v _ u (hmem i hi)]
      · rw [h, setAll_none a0 dl v _ u (hmem i hi) h2]
    have hK' := hK (setAll a0 dl (updAt v (dl.getD i 0) u)) w'
    rw [hput]
    have hs0 : w0.heap.size ≤ w.heap.size := hk.size
    refine hK' ⟨updAt v (dl.getD i 0) u, updAt g (dl.getD i 0) γ, rfl, hkw, fun j hj' hLj => ?_, fun j1 j2 h1 h2 l1 l2 hne => ?_⟩
    · by_cases hji : j = i
      · subst hji
        rw [updAt_same]
        refine ⟨⟨hPu, fun k hk => ⟨Nat.le_trans hs0 (hγ k hk).1, (hγ k hk).2⟩⟩, fun x hx => ?_⟩
        obtain ⟨e, he, hb, hx⟩ := hR x hx
        have := hal e he
        exact ⟨e.on, by omega, by rw [updAt_other _ _ (by omega)]; exact hdep e he hb, hx⟩
      · rw [updAt_other _ _ (ne j hj' hji)]
        rw [updAt_other _ _ hji] at hLj
        obtain ⟨⟨p, q⟩, r⟩ := hg j hj' hLj
        refine ⟨⟨?_, fun k hk => ⟨(q k hk).1, Nat.lt_of_lt_of_le (q k hk).2 hsz⟩⟩, fun x hx => ?_⟩
        · rcases hstab with hk' | hf
          · refine hP _ _ _ _ _ _ p (updAt_other _ _ (ne j hj' hji)) (fun x hx => ?_) (fun k hk => (q k hk).2) hk'
            obtain ⟨k, hk1, hk2, rfl⟩ := r x hx
            refine updAt_other _ _ (ne k hk1 (fun h => ?_))
            rw [h, hLi] at hk2
            cases hk2
          · exact hf _ (hmem j hj') ⟨j, hj', hLj, rfl⟩ p
        · obtain ⟨k, hk1, hk2, hk3⟩ := r x hx
          refine ⟨k, hk1, ?_, hk3⟩
          by_cases h : k = i
          · rw [h, updAt_same]
          · rw [updAt_other _ _ h]; exact hk2
    · by_cases e1 : j1 = i
      · by_cases e2 : j2 = i
        · exact absurd (e1.trans e2.symm) hne
        · subst e1
          rw [updAt_same, updAt_other _ _ (ne j2 h2 e2)]
          rw [updAt_other _ _ e2] at l2
          intro k hkγ hkg
          have a := (hγ k hkγ).1
          have b := ((hg j2 h2 l2).1.2 k hkg).2
          omega
      · rw [updAt_other _ _ (ne j1 h1 e1)]
        rw [updAt_other _ _ e1] at l1
        by_cases e2 : j2 = i
        · subst e2
          rw [updAt_same]
          intro k hkg hkγ
          have a := (hγ k hkγ).1
          have b := ((hg j1 h1 l1).1.2 k hkg).2
          omega
        · rw [updAt_other _ _ (ne j2 h2 e2)]
          rw [updAt_other _ _ e2] at l2
          exact hj j1 j2 h1 h2 l1 l2 hne
  · intro i o ho e he
    exact (hd' i o ho).2.2.1 e he
  · rintro L a w ⟨v, g, rfl, hk, hg, hj⟩ hL
    have ix : ∀ d ∈ dl, ∃ i, i < ops.size ∧ dl.getD i 0 = d := fun d hd => by
      obtain ⟨i, hi, rfl⟩ := List.getElem_of_mem hd
      exact ⟨i, by omega, by rw [List.getD, List.getElem?_eq_getElem hi]; rfl⟩
    refine he v g w hk (fun d hd => ?_) (fun d hd d' hd' hne => ?_) _ rfl
    · obtain ⟨i, hi, rfl⟩ := ix d hd
      exact (hg i hi (hL i hi)).1
    · obtain ⟨i, hi, rfl⟩ := ix d hd
      obtain ⟨j, hj', rfl⟩ := ix d' hd'
      exact hj i j hi hj' (hL i hi) (hL j hj') (fun h => hne (by rw [h]))
  · refine ⟨fun j => (a0.tmps[j]?).getD undef, fun _ => [], ?_, Keeps.refl _ _, fun i hi h => ?_, fun i j hi hj h => ?_⟩
    · refine act_ext (fun j => ?_) (setAll_size dl _ a0).2.symm
      rw [setAll_at]
      by_cases h : j ∈ dl ∧ j < a0.tmps.size
      · rw [if_pos h]; simp [h.2]
      · rw [if_neg h]
    · simp [Array.getD, hi] at h
    · simp [Array.getD, hi] at h
end
end Go.Proofs.YtjfgpplnlepnoaaGreat

/-
  Walks that are made at once, in one literal: whatever the order in which the operations are done.
-/
namespace Go.Proofs.YtjfgpplnlepnoaaGreat
set_option maxRecDepth 100000
set_option linter.unusedSimpArgs false
set_option linter.unusedVariables false
open Go.ChangeShapes Go.WideShapes Go.ChangeAt Go.RowKit

/-- What is said of a slot: a value; the walk number j; the row of the walks; what another slot holds. -/
inductive SlK
  | val (x : Value)
  | walk (j : Nat)
  | row
  | copy (f : Nat)
def slPd {σ : Type} (tbl : Nat → SlK) (I : Nat → World → List Nat → σ → Prop) (st : Nat → σ) (ix : List Nat) (d : Nat) (v : Nat → Value) (γ : List Nat) (w : World) : Prop :=
  match tbl d with
  | .val x => v d = x
  | .walk j => ExW I st w (v d) γ j
  | .row => ∃ bl, γ = [bl] ∧ v d = .slice (some ⟨bl, 0, none⟩) ix.length ix.length ∧ Row w bl 30 (ix.map v)
  | .copy f => v d = v f
def slR (tbl : Nat → SlK) (ix : List Nat) (d : Nat) : List Nat :=
  match tbl d with
  | .row => ix
  | .copy f => [f]
  | _ => []
theorem slPd_stable {σ : Type} {K : Mach σ} {I : Nat → World → List Nat → σ → Prop} (RR : ∀ m, Runs K (I m) m) {st : Nat → σ} (tbl : Nat → SlK) (ix : List Nat) (d : Nat) (v v' : Nat → Value) (γ : List Nat) (w w' : World) (h : slPd tbl I st ix d v γ w) (e : v' d = v d) (hR : ∀ j ∈ slR tbl ix d, v' j = v j) (_hγ : ∀ k ∈ γ, k < w.heap.size) (hk : Keeps [] w w') : slPd tbl I st ix d v' γ w' := by
  unfold slPd at h ⊢
  unfold slR at hR
  cases ht : tbl d with
  | val x => simp only [ht] at h ⊢; rw [e, h]
  | walk j => simp only [ht] at h ⊢; rw [e]; exact h.keeps RR hk
  | row =>
    simp only [ht] at h hR ⊢
    obtain ⟨bl, h1, h2, h3⟩ := h
    refine ⟨bl, h1, by rw [e, h2], ?_⟩
    rw [List.map_congr_left (fun j hj => hR j hj)]
    exact h3.keeps hk (by simp)
  | copy f => simp only [ht] at h hR ⊢; rw [e, h, hR f (by simp)]
theorem slPd_rowI {σ : Type} {tbl : Nat → SlK} {I : Nat → World → List Nat → σ → Prop} {st : Nat → σ} {ix : List Nat} {d : Nat} {v : Nat → Value} {γ : List Nat} {w : World} (h : tbl d = .row) (bl : Nat) (hγ : γ = [bl]) (hv : v d = .slice (some ⟨bl, 0, none⟩) ix.length ix.length) (xs : List Value) (hx : ix.map v = xs) (hr : Row w bl 30 xs) : slPd tbl I st ix d v γ w := by
  unfold slPd
  simp only [h]
  exact ⟨bl, hγ, hv, by rw [hx]; exact hr⟩
theorem slPd_copyI {σ : Type} {tbl : Nat → SlK} {I : Nat → World → List Nat → σ → Prop} {st : Nat → σ} {ix : List Nat} {d f : Nat} {v : Nat → Value} {γ : List Nat} {w : World} (h : tbl d = .copy f) (hv : v d = v f) : slPd tbl I st ix d v γ w := by
  unfold slPd
  simp only [h]
  exact hv
/-- All of them were made. -/
theorem slAll {σ : Type} {I : Nat → World → List Nat → σ → Prop} {st : Nat → σ} {tbl : Nat → SlK} {ix dl : List Nat} {v : Nat → Value} {g : Nat → List Nat} {w0 w : World} (N dr : Nat) (hN : ix.length = N) (hr : tbl dr = .row) (hdr : dr ∈ dl) (hix : ∀ j, j < N → ix.getD j 0 ∈ dl ∧ tbl (ix.getD j 0) = .walk j)
    (hall : ∀ d ∈ dl, slPd tbl I st ix d v (g d) w ∧ ∀ k ∈ g d, w0.heap.size ≤ k ∧ k < w.heap.size) (hdis : ∀ d ∈ dl, ∀ d' ∈ dl, d ≠ d' → ∀ k ∈ g d, k ∉ g d') :
    ∃ bl, v dr = .slice (some ⟨bl, 0, none⟩) N N ∧ ExAll N I st w0 w bl (fun j => v (ix.getD j 0)) (fun j => g (ix.getD j 0)) := by
  obtain ⟨h1, h2⟩ := hall dr hdr
  unfold slPd at h1
  simp only [hr] at h1
  obtain ⟨bl, e1, e2, e3⟩ := h1
  have hbl := h2 bl (by rw [e1]; simp)
  have hne : ∀ j, j < N → ix.getD j 0 ≠ dr := fun j hj h => by
    have := (hix j hj).2
    rw [h, hr] at this
    cases this
  have hin : ∀ i j, i < N → j < N → i ≠ j → ix.getD i 0 ≠ ix.getD j 0 := fun i j hi hj hij h => by
    have a := (hix i hi).2
    have b := (hix j hj).2
    rw [h, b] at a
    cases a
    exact hij rfl
  refine ⟨bl, by rw [e2, hN], ⟨?_, hbl, fun j hj => ?_, fun j hj => ⟨fun x hx => ?_, fun i hi hij => ?_⟩⟩⟩
  · have : (List.range N).map (fun j => v (ix.getD j 0)) = ix.map v := by
      apply List.ext_getElem?
      intro j
      by_cases h : j < N
      · simp [h, List.getD, show j < ix.length by omega]
      · rw [List.getElem?_eq_none (by simp; omega), List.getElem?_eq_none (by simp; omega)]
    rw [this]
    exact e3
  · have h3 := (hall _ (hix j hj).1).1
    unfold slPd at h3
    simp only [(hix j hj).2] at h3
    exact h3
  · have h3 := (hall _ (hix j hj).1).2 x hx
    exact ⟨h3.1, h3.2, fun h => hdis _ (hix j hj).1 dr hdr (hne j hj) x hx (by rw [e1, h]; simp)⟩
  · exact hdis _ (hix j hj).1 _ (hix i hi).1 (hin j i hj hi (Ne.symm hij))
end Go.Proofs.YtjfgpplnlepnoaaGreat
