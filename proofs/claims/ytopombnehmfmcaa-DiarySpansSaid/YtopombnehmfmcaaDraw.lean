import Derived.Test.YtopombnehmfmcaaKeep
import Derived.StillTail
import Derived.StillTactics
/-
  A region that draws its order: operations that only read, then one of any kind, then operations that only read.
  Use: refine wp_region_mid N (by kernel_rfl) (by kernel_rfl) ?_; simp only [List.take_succ_cons, List.take_zero, List.drop_succ_cons, List.drop_zero]; repeat still_step; refine wpStill_nil ?_; then the one operation; then the rest by still_step again.
-/
namespace Go.Proofs.Ytopombnehmfmcaa
set_option maxRecDepth 100000
set_option linter.unusedSimpArgs false
set_option linter.unusedVariables false
open Go

section
variable {P : Program} {ops : Array Oper} {w : World} {Q : Exit → Act → World → Prop}

/-- Each operation behind n waits for n, or for one between. -/
def midWaits (ops : Array Oper) (n : Nat) : Bool :=
  (List.range ops.size).all fun t => decide (t ≤ n) || (List.range t).any fun s => decide (n ≤ s) && Region.waitsFor .any ops t s

theorem notYet {n : Nat} {listed : Array Bool} (hs : Region.sinkB .any ops n = true) (hc : midWaits ops n = true) (hn : n < ops.size) (inv : HeadInv .any ops n listed) {i : Nat} (hi : i < n)
    (hu : listed.getD i true = false) {t : Nat} (ht : n ≤ t) : t ∉ Region.ready .any ops listed := by
  intro hr
  obtain ⟨-, ot, hot, hall⟩ := mem_ready.1 hr
  have blocked : ∀ s, Region.waitsFor .any ops t s = true → listed.getD s true = false → False := fun s hw hs => by
    obtain ⟨o, ho, e, he, hb, hon⟩ := Region.waitsFor_spec hw
    obtain rfl : o = ot := Option.some.inj (ho.symm.trans hot)
    have := hall e he hb
    rw [hon, getD_both hs] at this
    cases this
  rcases Nat.lt_or_ge n t with h | h
  · have h1 := List.all_eq_true.1 hc t (List.mem_range.2 (Array.getElem?_eq_some_iff.1 hot).1)
    simp only [Bool.or_eq_true, decide_eq_true_eq] at h1
    rcases h1 with h1 | h1
    · omega
    · obtain ⟨s, hs1, hs2⟩ := List.any_eq_true.1 h1
      simp only [Bool.and_eq_true, decide_eq_true_eq] at hs2
      have hst := List.mem_range.1 hs1
      exact blocked s hs2.2 (inv.tail s hs2.1 (Nat.lt_trans hst (Array.getElem?_eq_some_iff.1 hot).1))
  · obtain rfl : n = t := Nat.le_antisymm ht h
    have down : ∀ d i, n - i = d → i < n → listed.getD i true = false → False := by
      intro d
      induction d using Nat.strongRecOn with
      | _ d ih =>
        intro i hd hi hu
        obtain ⟨j, hj, hj2⟩ := List.any_eq_true.1 (List.all_eq_true.1 hs i (List.mem_range.2 hi))
        simp only [Bool.and_eq_true, decide_eq_true_eq] at hj2
        have hjn := List.mem_range.1 hj
        by_cases e : j = n
        · subst e; exact blocked i hj2.2 hu
        · cases hl : listed.getD j false with
          | true =>
            obtain ⟨o, ho, e, he, hb, hon⟩ := Region.waitsFor_spec hj2.2
            have := inv.closed j o ho hl e he hb
            rw [hon, getD_both hu] at this
            cases this
          | false => exact ih (n - j) (by omega) j rfl (by omega) (getD_in (by rw [inv.size]; omega) hl)
    exact down _ i rfl hi hu

/-- The head's operations, in any order, then L. -/
def headAny (P : Program) (ops : Array Oper) (w : World) (L : Array Bool → Act → Prop) : Nat → Array Bool → Act → Prop
  | 0, listed, a => L listed a
  | f + 1, listed, a => Region.ready .any ops listed ≠ [] ∧ ∀ i ∈ Region.ready .any ops listed, stOp P ops w i (headAny P ops w L f (listed.setIfInBounds i true)) a

theorem any_of_head {g : Nat} {L : Array Bool → Act → Prop} (hL : ∀ listed a, L listed a → wpAny P .any ops Q g listed a w) (f : Nat) : ∀ listed a, headAny P ops w L f listed a → wpAny P .any ops Q (f + g) listed a w := by
  induction f with
  | zero => intro listed a h; rw [Nat.zero_add]; exact hL _ _ h
  | succ f ih =>
    intro listed a h
    rw [Nat.succ_add]
    exact ⟨fun h0 => absurd h0 h.1, fun i hi => wpOp_of_stOp (fun a' h' => ih _ a' h') (h.2 i hi)⟩

theorem head_first {n i : Nat} {oi : Oper} {v : Value} {L : Array Bool → Act → Prop} (hi : ops[i]? = some oi) (hsel : Region.noSelect ops = true) (hs : Region.sinkB .any ops n = true) (hc : midWaits ops n = true)
    (hn : n < ops.size) (hin : i < n) (hdone : ∀ listed a, L listed a → ∀ j ∈ Region.ready .any ops listed, n ≤ j) (f : Nat) : ∀ listed a, HeadInv .any ops n listed →
      (∀ j oj, ops[j]? = some oj → j ≠ i → listed.getD j true = false → (∀ e ∈ oj.after, Region.binds .any e = true → e.on ≠ i) → oi.apart ops oj = true) →
      i ∈ Region.ready .any ops listed → YieldsAt P ops w oi v a → headAny P ops w L f (listed.setIfInBounds i true) (a.put oi.dst v) → headAny P ops w L (f + 1) listed a := by
  induction f with
  | zero =>
    intro listed a inv _ hr hy H
    refine ⟨List.ne_nil_of_mem hr, fun j hj => ?_⟩
    by_cases hji : j = i
    · subst hji; exact hy.stOp hi H
    · exact absurd hj (notYet hs hc hn inv hin (mem_ready.1 hr).1 (hdone _ _ H j (ready_mono hj hji)))
  | succ f ih =>
    intro listed a inv hfree hr hy H
    refine ⟨List.ne_nil_of_mem hr, fun j hj => ?_⟩
    by_cases hji : j = i
    · subst hji; exact hy.stOp hi H
    · have hjn : j < n := Nat.lt_of_not_le fun h => notYet hs hc hn inv hin (mem_ready.1 hr).1 h hj
      obtain ⟨hju, oj, hoj, hall⟩ := mem_ready.1 hj
      have hno : ∀ e ∈ oj.after, Region.binds .any e = true → e.on ≠ i := fun e he hb heq => by
        have := hall e he hb
        rw [heq, getD_both (mem_ready.1 hr).1] at this
        cases this
      refine stOp_mono (fun a' h => ih _ a' (inv.set hj hjn) (fun k ok hk hki hun hk' => ?_) (ready_mono hr (Ne.symm hji)) h.1 ?_)
        (stOp_put hoj (hfree j oj hoj hji hju hno) (fun cs b => Region.noSelect_spec hsel i oi cs b hi) (fun cs b => Region.noSelect_spec hsel j oj cs b hoj) hy (H.2 j (ready_mono hj hji)))
      · refine hfree k ok hk hki ?_ hk'
        by_cases e : j = k
        · subst e; exact hju
        · rwa [getD_set_ne true e] at hun
      · rw [Array.setIfInBounds_comm _ _ hji]; exact h.2

/-- What is to be seen of the operations alone: the first n may go in the text's order, then n is the only one, then the others may go in the text's order. -/
def midOrder (ops : Array Oper) (n : Nat) : Nat → Nat → Array Bool → Bool
  | 0, k, listed => decide (Region.ready .any ops listed = [k]) && Region.lexFrom .any ops (ops.size - (n + 1)) (k + 1) (listed.setIfInBounds k true)
  | f + 1, k, listed => (Region.ready .any ops listed).contains k && Region.free .any ops listed k && midOrder ops n f (k + 1) (listed.setIfInBounds k true)
def midB (ops : Array Oper) (n : Nat) : Bool :=
  Region.noSelect ops && decide (n < ops.size) && Region.sinkB .any ops n && midWaits ops n && midOrder ops n n 0 (Array.replicate ops.size false)

theorem head_lex {n : Nat} {Lq : Act → Prop} (hsel : Region.noSelect ops = true) (hs : Region.sinkB .any ops n = true) (hc : midWaits ops n = true) (hn : n < ops.size) (l : List Oper) :
    ∀ k listed a, (∀ j, j < l.length → l[j]? = ops[k + j]?) → k + l.length = n → HeadInv .any ops n listed → midOrder ops n l.length k listed = true → wpStill P ops w Lq l a →
      headAny P ops w (fun listed' a' => midOrder ops n 0 n listed' = true ∧ Lq a') l.length listed a := by
  induction l with
  | nil =>
    intro k listed a _ hk _ hB h
    obtain rfl : k = n := by simpa using hk
    exact ⟨hB, h⟩
  | cons o l ih =>
    intro k listed a hl hk inv hB h
    have h0 : ops[k]? = some o := by simpa using (hl 0 (by simp)).symm
    rw [List.length_cons] at hB hk
    simp only [midOrder, Bool.and_eq_true] at hB
    obtain ⟨⟨hr, hf⟩, hB'⟩ := hB
    have hr' : k ∈ Region.ready .any ops listed := by simpa using hr
    have hst : stOp P ops w k (wpStill P ops w Lq l) a := by unfold stOp; simp only [h0]; exact h
    obtain ⟨v, hy, hK⟩ := yieldsAt_of_stOp h0 hst
    refine head_first h0 hsel hs hc hn (by omega) (fun listed' a' hL j hj => ?_) l.length listed a inv (Region.free_spec h0 hf) hr' hy
      (ih (k + 1) _ _ (fun j hj => by have := hl (j + 1) (by simp; omega); simpa [Nat.add_assoc, Nat.add_comm 1 j] using this) (by omega) (inv.set hr' (by omega)) hB' hK)
    have := hL.1
    simp only [midOrder, Bool.and_eq_true, decide_eq_true_eq] at this
    rw [this.1] at hj
    simp at hj
    omega

/-- Behind the one operation: those that only read. -/
def restStill (P : Program) (ops : Array Oper) (Q : Exit → Act → World → Prop) (rest : List Oper) : Exit → Act → World → Prop
  | .normal, a, w => wpStill P ops w (fun a' => Q .normal a' w) rest a
  | e, a, w => Q e a w

theorem wp_region_mid {id : Nat} {a : Act} {l : List Oper} (n : Nat) (hm : P.follows .mixedOrders = true) (hB : midB l.toArray n = true)
    (h : wpStill P l.toArray w.drew (fun a' => wpList P l.toArray (restStill P l.toArray Q (l.drop (n + 1))) ((l.drop n).take 1) a' w.drew) (l.take n) a) : (Code.region id l.toArray true).wp P Q a w := by
  simp only [midB, Bool.and_eq_true, decide_eq_true_eq] at hB
  obtain ⟨⟨⟨⟨hsel, hn⟩, hs⟩, hc⟩, hord⟩ := hB
  have hnl : n < l.length := by simpa using hn
  have htl : (l.take n).length = n := by simp; omega
  have inv0 : HeadInv .any l.toArray n (Array.replicate l.toArray.size false) :=
    ⟨by simp, fun j oj _ hl => (by rw [getD_replicate_false] at hl; cases hl), fun t _ ht => getD_in (by simpa using ht) (getD_replicate_false _ _)⟩
  have H := head_lex hsel hs hc hn (l.take n) 0 _ a (fun j hj => by
    have hj' : j < n := by rw [htl] at hj; exact hj
    simp [hj']) (by simpa using htl) inv0 (by rw [htl]; exact hord) h
  refine wp_region_any hm ?_
  have hsz : n + (l.toArray.size - (n + 1) + 1) = l.toArray.size := by simp; omega
  have := any_of_head (Q := Q) (g := l.toArray.size - (n + 1) + 1) (fun listed a' hL => ?_) _ _ _ H
  · rw [htl, hsz] at this; exact this
  · obtain ⟨hL1, hL2⟩ := hL
    simp only [midOrder, Bool.and_eq_true, decide_eq_true_eq] at hL1
    obtain ⟨hrd, hlex⟩ := hL1
    refine ⟨fun h0 => (by rw [hrd] at h0; cases h0), fun i hi => ?_⟩
    rw [hrd] at hi
    obtain rfl : i = n := by simpa using hi
    have hget : l.toArray[i]? = some l[i] := by simp [hnl]
    have h1 : (l.drop i).take 1 = [l[i]] := by
      rw [List.drop_eq_getElem_cons hnl]; rfl
    rw [h1] at hL2
    unfold wpOp
    simp only [hget]
    have hrest : ∀ a2 w2, restStill P l.toArray Q (l.drop (i + 1)) .normal a2 w2 → wpAny P .any l.toArray Q (l.toArray.size - (i + 1)) (listed.setIfInBounds i true) a2 w2 := by
      intro a2 w2 hr
      refine wpAny_of_still (Q := fun a' => Q .normal a' w2) (fun _ h => h) _ _ _ ?_
      have := wpAnyS_lex (md := .any) hsel (l.drop (i + 1)) (i + 1) (listed.setIfInBounds i true) a2 (fun j => by simp [List.getElem?_drop]) (by simpa using hlex) hr
      simpa using this
    have conv : ∀ e a2 w2, e ≠ .normal → restStill P l.toArray Q (l.drop (i + 1)) e a2 w2 → Q e a2 w2 := by
      intro e a2 w2 he hr
      cases e <;> first | exact absurd rfl he | exact hr
    unfold wpList at hL2
    split
    · rename_i hw
      rw [if_pos hw] at hL2
      rcases hL2 with hL2 | ⟨hask, a2, w2, hout⟩
      · left
        unfold Oper.wp at *
        generalize (execOp a'.eval l[i]).run P w.drew = r at *
        cases r with
        | ok nx w' =>
          cases nx <;> simp only [Oper.upon] at hL2 ⊢
          case enter f args =>
            refine hL2.mono fun e w'' he => ?_
            cases e <;> simp only at he ⊢
            case returned => exact hrest _ _ he
            case panicked => exact conv _ _ _ (by simp) he
            case outgrown => obtain ⟨a2, w2, h2⟩ := he; exact ⟨a2, w2, conv _ _ _ (by simp) h2⟩
          case row => exact Rows.mono hL2 fun v w' hv => hrest _ _ hv
          all_goals first | exact hrest _ _ hL2 | exact hL2
        | halt x w' =>
          cases x <;> simp only [Oper.upon] at hL2 ⊢
          all_goals exact conv _ _ _ (by simp) hL2
      · exact .inr ⟨hask, a2, w2, conv _ _ _ (by simp) hout⟩
    · rename_i hw
      rw [if_neg hw] at hL2
      exact hrest _ _ hL2
end

end Go.Proofs.Ytopombnehmfmcaa
