import Derived.Test.YtopombnehmfmcaaDiM
/-
  Diaries, in numbers: how many spans have one place in common; a beginning of a diary.
-/
namespace Go.Proofs.Ytopombnehmfmcaa
set_option maxRecDepth 100000
set_option linter.unusedSimpArgs false
set_option linter.unusedVariables false
open Go

def DSp.at_ (s : DSp) (p : Int) : Bool := decide (0 ≤ s.lo ∧ s.lo ≤ p ∧ (s.hi < 0 ∨ p ≤ s.hi))
def DSp.fit (s : DSp) : Bool := decide (0 ≤ s.lo ∧ (s.hi < 0 ∨ s.lo ≤ s.hi))
def diCnt (l : List DSp) (p : Int) : Nat := l.countP fun s => s.at_ p
/-- As the document goes through them. -/
def diMostTo (l : List DSp) : Nat → Nat
  | 0 => 0
  | k + 1 => max (diMostTo l k) (if (l.getD k default).fit then diCnt l (l.getD k default).lo else 0)
def diMost (l : List DSp) : Nat := diMostTo l l.length

theorem DSp.fit_at (s : DSp) : s.at_ s.lo = s.fit := by
  unfold DSp.at_ DSp.fit
  congr 1
  exact propext ⟨fun h => ⟨h.1, h.2.2⟩, fun h => ⟨h.1, Int.le_refl _, h.2⟩⟩

theorem diMostTo_ge (l : List DSp) (n k : Nat) (hk : k < n) (hf : (l.getD k default).fit = true) : diCnt l (l.getD k default).lo ≤ diMostTo l n := by
  induction n with
  | zero => omega
  | succ n ih =>
    unfold diMostTo
    by_cases h : k = n
    · subst h; rw [if_pos hf]; omega
    · have := ih (by omega); omega
theorem diMostTo_is (l : List DSp) (n : Nat) : diMostTo l n = 0 ∨ ∃ k, k < n ∧ (l.getD k default).fit = true ∧ diMostTo l n = diCnt l (l.getD k default).lo := by
  induction n with
  | zero => exact .inl rfl
  | succ n ih =>
    unfold diMostTo
    by_cases hf : (l.getD n default).fit = true
    · rw [if_pos hf]
      by_cases hm : diMostTo l n ≤ diCnt l (l.getD n default).lo
      · exact .inr ⟨n, by omega, hf, by omega⟩
      · rcases ih with h | ⟨k, hk, hf', he⟩
        · omega
        · exact .inr ⟨k, by omega, hf', by omega⟩
    · rw [if_neg hf]
      rcases ih with h | ⟨k, hk, hf', he⟩
      · exact .inl (by omega)
      · exact .inr ⟨k, by omega, hf', by omega⟩

/-- The places where the spans that have places begin, and where those of them that have ended end. -/
def diLos (l : List DSp) : List Int := (l.filter fun s => s.fit).map fun s => s.lo
def diHis (l : List DSp) : List Int := (l.filter fun s => s.fit && !decide (s.hi < 0)).map fun s => s.hi

theorem diLos_cons (s : DSp) (l : List DSp) : diLos (s :: l) = (if s.fit then [s.lo] else []) ++ diLos l := by
  unfold diLos; rw [List.filter_cons]; split <;> simp
theorem diHis_cons (s : DSp) (l : List DSp) : diHis (s :: l) = (if s.fit && !decide (s.hi < 0) then [s.hi] else []) ++ diHis l := by
  unfold diHis; rw [List.filter_cons]; split <;> simp
theorem diLos_snoc (s : DSp) (l : List DSp) : diLos (l ++ [s]) = diLos l ++ (if s.fit then [s.lo] else []) := by
  unfold diLos; rw [List.filter_append, List.map_append, List.filter_cons]; split <;> simp
theorem diHis_snoc (s : DSp) (l : List DSp) : diHis (l ++ [s]) = diHis l ++ (if s.fit && !decide (s.hi < 0) then [s.hi] else []) := by
  unfold diHis; rw [List.filter_append, List.map_append, List.filter_cons]; split <;> simp

/-- Of those that have begun by p, some have ended ahead of p, and the others have the place p. -/
theorem diCnt_eq (l : List DSp) (p : Int) : (diLos l).countP (fun x => decide (x ≤ p)) = diCnt l p + (diHis l).countP (fun x => decide (x < p)) := by
  induction l with
  | nil => rfl
  | cons s l ih =>
    rw [diLos_cons, diHis_cons, List.countP_append, List.countP_append, ih]
    unfold diCnt
    rw [List.countP_cons]
    have key : (if s.fit then [s.lo] else []).countP (fun x => decide (x ≤ p)) = (if s.at_ p = true then 1 else 0) + (if s.fit && !decide (s.hi < 0) then [s.hi] else []).countP (fun x => decide (x < p)) := by
      unfold DSp.fit DSp.at_
      by_cases h0 : 0 ≤ s.lo
      · by_cases h1 : s.hi < 0
        · by_cases h2 : s.lo ≤ p
          · simp [h0, h1, h2]
          · simp [h0, h1, h2]
        · by_cases h3 : s.lo ≤ s.hi
          · by_cases h2 : s.lo ≤ p
            · by_cases h4 : p ≤ s.hi
              · have h5 : ¬ s.hi < p := by omega
                simp [h0, h1, h2, h3, h4, h5]
              · have h5 : s.hi < p := by omega
                simp [h0, h1, h2, h3, h4, h5]
            · have h5 : ¬ s.hi < p := by omega
              simp [h0, h1, h2, h3, h5]
          · have h5 : ¬ (s.lo ≤ p ∧ p ≤ s.hi) := by omega
            simp [h0, h1, h3, h5]
      · simp [h0]
    omega

theorem sorted_cut {l : List Int} (h : l.Pairwise (· ≤ ·)) (q : Int → Bool) (hq : ∀ a b, a ≤ b → q b = true → q a = true) (i : Nat) (hi : i < l.length) : q (l.getD i 0) = true ↔ i < l.countP q := by
  induction l generalizing i with
  | nil => simp at hi
  | cons x l ih =>
    rw [List.pairwise_cons] at h
    rw [List.countP_cons]
    cases i with
    | zero =>
      simp only [List.getD_cons_zero]
      constructor
      · intro hx; rw [if_pos hx]; omega
      · intro hlt
        by_cases hx : q x = true
        · exact hx
        · rw [if_neg hx] at hlt
          obtain ⟨y, hy, hqy⟩ := List.countP_pos_iff.1 (by omega : 0 < l.countP q)
          exact hq x y (h.1 y hy) hqy
    | succ i =>
      simp only [List.getD_cons_succ]
      rw [ih h.2 i (by simpa using hi)]
      by_cases hx : q x = true
      · rw [if_pos hx]; omega
      · rw [if_neg hx]
        have h0 : l.countP q = 0 := List.countP_eq_zero.2 fun y hy hqy => hx (hq x y (h.1 y hy) hqy)
        omega

/-- As the code goes through them. -/
def diGone (E : List Int) (v : Int) : Nat := E.countP fun x => decide (x < v)
def diMoTo (B E : List Int) : Nat → Int
  | 0 => 0
  | k + 1 => max (diMoTo B E k) ((k : Int) + 1 - diGone E (B.getD k 0))

theorem diMoTo_ge (B E : List Int) (n k : Nat) (hk : k < n) : (k : Int) + 1 - diGone E (B.getD k 0) ≤ diMoTo B E n := by
  induction n with
  | zero => omega
  | succ n ih =>
    unfold diMoTo
    by_cases h : k = n
    · subst h; omega
    · have := ih (by omega); omega
theorem diMoTo_pos (B E : List Int) (n : Nat) : 0 ≤ diMoTo B E n := by
  induction n with
  | zero => exact Int.le_refl _
  | succ n ih => unfold diMoTo; omega
theorem diMoTo_is (B E : List Int) (n : Nat) : diMoTo B E n = 0 ∨ ∃ k, k < n ∧ diMoTo B E n = (k : Int) + 1 - diGone E (B.getD k 0) := by
  induction n with
  | zero => exact .inl rfl
  | succ n ih =>
    unfold diMoTo
    by_cases hm : diMoTo B E n ≤ (n : Int) + 1 - diGone E (B.getD n 0)
    · exact .inr ⟨n, by omega, by omega⟩
    · rcases ih with h | ⟨k, hk, he⟩
      · exact .inl (by omega)
      · exact .inr ⟨k, by omega, by omega⟩

theorem diMost_code (l : List DSp) (B E : List Int) (hB : B.Perm (diLos l)) (hE : E.Perm (diHis l)) (sB : B.Pairwise (· ≤ ·)) : diMoTo B E B.length = (diMost l : Int) := by
  have hcnt : ∀ p, B.countP (fun x => decide (x ≤ p)) = diCnt l p + diGone E p := by
    intro p
    unfold diGone
    rw [hB.countP_eq, hE.countP_eq, diCnt_eq]
  have hcut : ∀ (p : Int) (i : Nat), i < B.length → (B.getD i 0 ≤ p ↔ i < B.countP (fun x => decide (x ≤ p))) := by
    intro p i hi
    have := sorted_cut sB (fun x => decide (x ≤ p)) (fun a b hab hb => by simp at hb ⊢; omega) i hi
    simpa using this
  have hmem : ∀ v, v ∈ B ↔ ∃ k, k < l.length ∧ (l.getD k default).fit = true ∧ (l.getD k default).lo = v := by
    intro v
    rw [hB.mem_iff]
    unfold diLos
    simp only [List.mem_map, List.mem_filter]
    constructor
    · rintro ⟨s, ⟨hs, hf⟩, rfl⟩
      obtain ⟨k, hk, rfl⟩ := List.mem_iff_getElem.1 hs
      have e : l.getD k default = l[k] := by simp [List.getD_eq_getElem?_getD, hk]
      exact ⟨k, hk, by rw [e]; exact hf, by rw [e]⟩
    · rintro ⟨k, hk, hf, rfl⟩
      have e : l.getD k default = l[k] := by simp [List.getD_eq_getElem?_getD, hk]
      exact ⟨l[k], ⟨List.getElem_mem hk, by rw [← e]; exact hf⟩, by rw [e]⟩
  have hat : ∀ k, k < B.length → B.getD k 0 ∈ B := fun k hk => by
    have e : B.getD k 0 = B[k] := by simp [List.getD_eq_getElem?_getD, hk]
    rw [e]; exact List.getElem_mem hk
  apply Int.le_antisymm
  · rcases diMoTo_is B E B.length with h | ⟨k, hk, he⟩
    · omega
    · obtain ⟨j, hj, hf, hlo⟩ := (hmem _).1 (hat k hk)
      have h1 := diMostTo_ge l l.length j hj hf
      have h2 := (hcut (B.getD k 0) k hk).1 (Int.le_refl _)
      have h3 := hcnt (B.getD k 0)
      rw [hlo] at h1
      unfold diMost
      omega
  · rcases diMostTo_is l l.length with h | ⟨j, hj, hf, he⟩
    · have := diMoTo_pos B E B.length
      unfold diMost; omega
    · have hv := (hmem _).2 ⟨j, hj, hf, rfl⟩
      obtain ⟨i, hi, hiv⟩ := List.mem_iff_getElem.1 hv
      have ei : B.getD i 0 = B[i] := by simp [List.getD_eq_getElem?_getD, hi]
      have h3 := hcnt (l.getD j default).lo
      have hi2 := (hcut (l.getD j default).lo i hi).1 (by rw [ei, hiv]; exact Int.le_refl _)
      have hle : B.countP (fun x => decide (x ≤ (l.getD j default).lo)) ≤ B.length := List.countP_le_length
      generalize hc : B.countP (fun x => decide (x ≤ (l.getD j default).lo)) = c at h3 hi2 hle
      have hck : c - 1 < B.length := by omega
      have h4 := (hcut (l.getD j default).lo (c - 1) hck).2 (by rw [hc]; omega)
      have h5 : B.getD (c - 1) 0 = (l.getD j default).lo := by
        apply Int.le_antisymm h4
        rw [← hiv, ← ei]
        by_cases hic : i = c - 1
        · subst hic; exact Int.le_refl _
        · have e2 : B.getD (c - 1) 0 = B[c - 1] := by simp [List.getD_eq_getElem?_getD, hck]
          rw [ei, e2]
          exact List.pairwise_iff_getElem.1 sB i (c - 1) hi hck (by omega)
      have h6 := diMoTo_ge B E B.length (c - 1) hck
      rw [h5] at h6
      unfold diMost
      rw [he]
      omega

/-- The spans of a beginning (of n events) and of the whole. -/
structure DiCut (n : Nat) (C S : List DSp) : Prop where
  len : C.length ≤ S.length
  old : ∀ i, i < C.length → (C.getD i default).lo = (S.getD i default).lo ∧ 0 ≤ (C.getD i default).lo ∧ (C.getD i default).lo < n ∧ (C.getD i default).hi < n ∧
    ((C.getD i default).hi = (S.getD i default).hi ∨ ((C.getD i default).hi < 0 ∧ (n : Int) ≤ (S.getD i default).hi))
  new : ∀ i, C.length ≤ i → i < S.length → (n : Int) ≤ (S.getD i default).lo

theorem DiCut.refl {l : List DEv} {n : Nat} {s : Rd} (h : RdInv l n s) : DiCut n s.sps s.sps :=
  ⟨Nat.le_refl _, fun i hi => ⟨rfl, (h.places i hi).1, (h.places i hi).2.1, (h.places i hi).2.2.1, .inl rfl⟩, fun i h1 h2 => by omega⟩

theorem DiCut.read {l : List DEv} {n m : Nat} {C : List DSp} {s s' : Rd} (h : DiCut n C s.sps) (hI : RdInv l m s) (hm : n ≤ m) (hr : s.read m (l.getD m default) = some s') : DiCut n C s'.sps := by
  generalize l.getD m default = e at hr
  unfold Rd.read at hr
  by_cases hs : e.step < s.step ∨ e.who < 0 ∨ 16 ≤ e.who
  · rw [if_pos hs] at hr; cases hr
  rw [if_neg hs] at hr
  obtain ⟨w, hw, hew⟩ : ∃ w : Nat, w < 16 ∧ e.who = w := ⟨e.who.toNat, by omega, by omega⟩
  have hwk : s.wk e = s.ws.getD w default := by unfold Rd.wk; rw [hew, Int.toNat_natCast]
  split at hr
  · unfold Rd.end_ at hr
    rw [hwk] at hr
    split at hr
    · cases hr
    · rename_i hno
      cases hr
      have ho : (s.ws.getD w default).opn = true := by
        cases h : (s.ws.getD w default).opn
        · exact absurd (.inl h) hno
        · rfl
      obtain ⟨hne, _, hhi⟩ := hI.opn w hw ho
      obtain ⟨hlast, _, _⟩ := hI.last w hw (by have := hI.count w hw; rw [ho] at this; simp only [if_true] at this; omega)
      have gs : ∀ j, ((s.sps.set (s.ws.getD w default).last { s.sps.getD (s.ws.getD w default).last default with hi := m, res := e.res }).getD j default) = if j = (s.ws.getD w default).last then { s.sps.getD (s.ws.getD w default).last default with hi := m, res := e.res } else s.sps.getD j default := fun j => getD_set _ _ _ _ _ hlast
      refine ⟨by rw [List.length_set]; exact h.len, fun i hi => ?_, fun i h1 h2 => ?_⟩
      · rw [gs]
        have := h.old i hi
        split
        · rename_i he
          subst he
          dsimp only
          rw [hhi] at this
          refine ⟨this.1, this.2.1, this.2.2.1, this.2.2.2.1, .inr ⟨?_, by omega⟩⟩
          omega
        · exact this
      · rw [gs]
        rw [List.length_set] at h2
        have := h.new i h1 h2
        split
        · rename_i he; subst he; exact this
        · exact this
  · unfold Rd.begin at hr
    split at hr
    · cases hr
    · cases hr
      refine ⟨by rw [List.length_append]; have := h.len; omega, fun i hi => ?_, fun i h1 h2 => ?_⟩
      · have := h.len
        rw [getD_push, if_neg (by omega)]
        exact h.old i hi
      · rw [List.length_append, List.length_singleton] at h2
        rw [getD_push]
        split
        · dsimp only; omega
        · exact h.new i h1 (by omega)

/-- A beginning of a right diary is right, and its spans are those that had begun by then. -/
theorem DiCut.all (l : List DEv) (n k : Nat) : ∀ s', rdAll l (n + k) = some s' → ∃ s, rdAll l n = some s ∧ DiCut n s.sps s'.sps := by
  induction k with
  | zero => intro s' h; exact ⟨s', h, DiCut.refl (rdAll_some h)⟩
  | succ k ih =>
    intro s' h
    have h' : (rdAll l (n + k)).bind (fun s => s.read (n + k) (l.getD (n + k) default)) = some s' := h
    cases e : rdAll l (n + k) with
    | none => rw [e] at h'; cases h'
    | some s1 =>
      rw [e] at h'
      obtain ⟨s, hs, hc⟩ := ih s1 e
      exact ⟨s, hs, hc.read (rdAll_some e) (by omega) h'⟩
theorem rdAll_take (l : List DEv) (n k : Nat) (h : k ≤ n) : rdAll (l.take n) k = rdAll l k := by
  induction k with
  | zero => rfl
  | succ k ih =>
    unfold rdAll
    rw [ih (by omega)]
    have : (l.take n).getD k default = l.getD k default := by
      simp only [List.getD_eq_getElem?_getD, List.getElem?_take]
      rw [if_pos (by omega)]
    rw [this]

theorem countP_le_of (C S : List DSp) (p q : DSp → Bool) (hl : C.length ≤ S.length) (h : ∀ i, i < C.length → p (C.getD i default) = true → q (S.getD i default) = true) : C.countP p ≤ S.countP q := by
  induction C generalizing S with
  | nil => simp
  | cons c C ih =>
    cases S with
    | nil => simp at hl
    | cons s S =>
      have h0 := h 0 (by simp)
      have := ih S (by simpa using hl) fun i hi => by simpa using h (i + 1) (by simpa using hi)
      simp only [List.getD_cons_zero] at h0
      rw [List.countP_cons, List.countP_cons]
      by_cases hp : p c = true
      · rw [if_pos hp, if_pos (h0 hp)]; omega
      · rw [if_neg hp]; split <;> omega

theorem DiCut.most {n : Nat} {C S : List DSp} (h : DiCut n C S) : diMost C ≤ diMost S := by
  rcases diMostTo_is C C.length with h0 | ⟨k, hk, hf, he⟩
  · unfold diMost; omega
  · have hl := h.len
    have ho := h.old k hk
    have hfS : (S.getD k default).fit = true := by
      unfold DSp.fit at hf ⊢
      simp at hf ⊢
      simp at ho
      omega
    have h1 := diMostTo_ge S S.length k (by omega) hfS
    have h2 : diCnt C (C.getD k default).lo ≤ diCnt S (S.getD k default).lo := by
      refine countP_le_of C S _ _ hl fun i hi => ?_
      have hoi := h.old i hi
      unfold DSp.at_
      simp
      simp at ho hoi
      omega
    unfold diMost
    omega
end Go.Proofs.Ytopombnehmfmcaa
