import Derived.Test.YtjfgpplnlepnoaaGreatStart
import Derived.Test.YtjfgpplnlepnoaaGreatDqI
/-
  A deque whose workers are alone, one after the other: what its words hold, and what a Push, a Pop and a Steal make of that.
-/
namespace Go.Proofs.YtjfgpplnlepnoaaGreat
set_option maxRecDepth 100000
set_option linter.unusedSimpArgs false
set_option linter.unusedVariables false
open Go

/-- The words of a deque at cell 0, whose counts began at fr: T were taken, and it holds xs. -/
structure DqL (size : Nat) (fr T : Int) (us xs : List Int) : Prop where
  size_ : dqPow size
  len : us.length = size + 2
  top : us.getD 0 0 = dqU fr T
  bottom : us.getD 1 0 = dqU fr (T + xs.length)
  few : xs.length ≤ size
  low : 0 ≤ T
  slots : ∀ i : Nat, i < xs.length → us.getD (dqCell size fr (T + i)) 0 = xs.getD i 0
  tasks : ∀ x ∈ xs, M.U x

section
variable {size : Nat} {fr T : Int} {us xs : List Int}
theorem DqL.right (h : DqL size fr T us xs) : dqRight 0 size := by
  have := h.size_
  unfold dqPow at this
  exact ⟨this, by omega, by omega⟩
theorem dqRight_pow {size : Nat} (h : dqPow size) : dqRight 0 size := by
  unfold dqPow at h
  exact ⟨h, by omega, by omega⟩
theorem DqL.cell (h : DqL size fr T us xs) (x : Int) : 2 ≤ dqCell size fr x ∧ dqCell size fr x < us.length := by
  have := dqCell_lt h.size_ fr x
  rw [h.len]; exact this
theorem dqCell_int {size : Nat} (hs : dqPow size) (fr x : Int) : ((dqCell size fr x : Nat) : Int) = dqSlot 0 size (dqU fr x) := by
  have h0 : (0 : Int) < size := by unfold dqPow at hs; omega
  have := dqSlot_range (at_ := 0) (n := dqU fr x) h0
  unfold dqCell
  omega
theorem dqU_U (fr x : Int) : M.U (dqU fr x) := ⟨(dqU_range fr x).1, (dqU_range fr x).2⟩

/-- A Push of one who is alone. -/
theorem DqL.push (h : DqL size fr T us xs) (v : Int) (hv : M.U v) :
    ∃ (n : Nat) (us' : List Int) (s' : DqS), 0 < n ∧ n ≤ 6 ∧ Solo dequeM us (dqNew 0 size 1 v) n us' s' ∧
      ((xs.length = size ∧ s'.over = some ⟨4, 0, []⟩ ∧ us' = us) ∨ (xs.length < size ∧ s'.over = some ⟨0, 0, []⟩ ∧ DqL size fr T us' (xs ++ [v]))) := by
  have hr := h.right
  have hlen := h.len
  have hz : 2 ≤ size := by have := h.size_; unfold dqPow at this; omega
  have hz2 : size ≤ 256 := by have := h.size_; unfold dqPow at this; omega
  have hN : dqNew 0 size 1 v = ⟨0, size, 1, v, 1, 0, 0, 0, false, none⟩ := by simp [dqNew, hr]
  rw [hN]
  obtain ⟨b, hb⟩ : ∃ b, dqU fr (T + xs.length) = b := ⟨_, rfl⟩
  obtain ⟨t, ht⟩ : ∃ t, dqU fr T = t := ⟨_, rfl⟩
  have hahead : dqAhead b t = xs.length := by rw [← hb, ← ht, dqAhead_U fr _ _ (by have := h.few; omega) (by have := h.few; omega)]; omega
  have hbU : M.U b := hb ▸ dqU_U fr _
  have g1 : ∀ won, dequeM.give ⟨0, size, 1, v, 1, 0, 0, 0, false, none⟩ b won = ⟨0, size, 1, v, 2, b, 0, 0, false, none⟩ := fun won => by simp [dequeM, dqGive]
  have w1 : dequeM.want ⟨0, size, 1, v, 1, 0, 0, 0, false, none⟩ = some ⟨1, ((1 : Nat) : Int), 0, 0⟩ := by simp [dequeM, dqWant]
  have w2 : dequeM.want ⟨0, size, 1, v, 2, b, 0, 0, false, none⟩ = some ⟨1, ((0 : Nat) : Int), 0, 0⟩ := by simp [dequeM, dqWant]
  by_cases hf : xs.length = size
  · have hA : (size : Int) ≤ dqAhead b t := by omega
    have g2 : ∀ won, dequeM.give ⟨0, size, 1, v, 2, b, 0, 0, false, none⟩ t won = ⟨0, size, 1, v, 3, b, t, 0, false, some ⟨4, 0, []⟩⟩ := fun won => by simp [dequeM, dqGive, hA]
    refine ⟨2, us, ⟨0, size, 1, v, 3, b, t, 0, false, some ⟨4, 0, []⟩⟩, by omega, by omega, solo_load 1 b w1 (by omega) (by rw [h.bottom, hb]) fun won => ?_, .inl ⟨hf, rfl, rfl⟩⟩
    rw [g1]
    refine solo_load 0 t w2 (by omega) (by rw [h.top, ht]) fun won => ?_
    rw [g2]
    exact .done (by simp [dequeM])
  · have hlt : xs.length < size := by have := h.few; omega
    have hA : ¬ (size : Int) ≤ dqAhead b t := by omega
    have g2 : ∀ won, dequeM.give ⟨0, size, 1, v, 2, b, 0, 0, false, none⟩ t won = ⟨0, size, 1, v, 3, b, t, 0, false, none⟩ := fun won => by simp [dequeM, dqGive, hA]
    have hc := h.cell (T + xs.length)
    have w3 : dequeM.want ⟨0, size, 1, v, 3, b, t, 0, false, none⟩ = some ⟨2, ((dqCell size fr (T + xs.length) : Nat) : Int), v, 0⟩ := by
      rw [dqCell_int h.size_, hb]; simp [dequeM, dqWant]
    have g3 : ∀ u won, dequeM.give ⟨0, size, 1, v, 3, b, t, 0, false, none⟩ u won = ⟨0, size, 1, v, 4, b, t, 0, false, none⟩ := fun u won => by simp [dequeM, dqGive]
    have hup : dqUp b = dqU fr (T + xs.length + 1) := by rw [← hb]; exact dqU_up fr _
    have w4 : dequeM.want ⟨0, size, 1, v, 4, b, t, 0, false, none⟩ = some ⟨2, ((1 : Nat) : Int), dqUp b, 0⟩ := by simp [dequeM, dqWant]
    have g4 : ∀ u won, dequeM.give ⟨0, size, 1, v, 4, b, t, 0, false, none⟩ u won = ⟨0, size, 1, v, 5, b, t, 0, false, some ⟨0, 0, []⟩⟩ := fun u won => by simp [dequeM, dqGive]
    refine ⟨4, (us.set (dqCell size fr (T + xs.length)) v).set 1 (dqUp b), ⟨0, size, 1, v, 5, b, t, 0, false, some ⟨0, 0, []⟩⟩, by omega, by omega, solo_load 1 b w1 (by omega) (by rw [h.bottom, hb]) fun won => ?_, .inr ⟨hlt, rfl, ?_⟩⟩
    · rw [g1]
      refine solo_load 0 t w2 (by omega) (by rw [h.top, ht]) fun won => ?_
      rw [g2]
      refine solo_store _ v w3 hc.2 hv fun u won => ?_
      rw [g3]
      refine solo_store 1 _ w4 (by simp; omega) (by rw [hup]; exact dqU_U fr _) fun u won => ?_
      rw [g4]
      exact .done (by simp [dequeM])
    · refine ⟨h.size_, by simp [hlen], ?_, ?_, by simp; omega, h.low, fun i hi => ?_, fun x hx => ?_⟩
      · rw [getD_setN _ _ _ (by omega), getD_setN _ _ _ (by omega)]; exact h.top
      · rw [getD_setS _ _ _ (by simp; omega), hup]; congr 1; simp; omega
      · rw [getD_setN _ _ _ (by have := h.cell (T + i); omega)]
        by_cases e : i = xs.length
        · subst e
          rw [getD_setS _ _ _ hc.2]
          simp [List.getD]
        · have hi2 : i < xs.length := by simp at hi; omega
          have hne := dqCell_ne (fr := fr) h.size_ (x := T + i) (y := T + xs.length) (by omega) (by omega)
          rw [getD_setN _ _ _ (Ne.symm hne), h.slots i hi2]
          simp [List.getD, List.getElem?_append_left hi2]
      · rcases List.mem_append.1 hx with h1 | h1
        · exact h.tasks x h1
        · simp at h1; subst h1; exact hv

/-- A Steal of one who is alone. -/
theorem DqL.steal (h : DqL size fr T us xs) :
    ∃ (n : Nat) (us' : List Int) (s' : DqS), 0 < n ∧ n ≤ 6 ∧ Solo dequeM us (dqNew 0 size 3 0) n us' s' ∧
      ((xs = [] ∧ s'.over = some ⟨5, 0, []⟩ ∧ us' = us) ∨ (∃ y ys, xs = y :: ys ∧ s'.over = some ⟨0, y, []⟩ ∧ DqL size fr (T + 1) us' ys)) := by
  have hr := h.right
  have hlen := h.len
  have hz : 2 ≤ size := by have := h.size_; unfold dqPow at this; omega
  have hz2 : size ≤ 256 := by have := h.size_; unfold dqPow at this; omega
  have hN : dqNew 0 size 3 0 = ⟨0, size, 3, 0, 1, 0, 0, 0, false, none⟩ := by simp [dqNew, hr]
  rw [hN]
  obtain ⟨b, hb⟩ : ∃ b, dqU fr (T + xs.length) = b := ⟨_, rfl⟩
  obtain ⟨t, ht⟩ : ∃ t, dqU fr T = t := ⟨_, rfl⟩
  have hahead : dqAhead b t = xs.length := by rw [← hb, ← ht, dqAhead_U fr _ _ (by have := h.few; omega) (by have := h.few; omega)]; omega
  have htU : M.U t := ht ▸ dqU_U fr _
  have g1 : ∀ won, dequeM.give ⟨0, size, 3, 0, 1, 0, 0, 0, false, none⟩ t won = ⟨0, size, 3, 0, 2, 0, t, 0, false, none⟩ := fun won => by simp [dequeM, dqGive]
  have w1 : dequeM.want ⟨0, size, 3, 0, 1, 0, 0, 0, false, none⟩ = some ⟨1, ((0 : Nat) : Int), 0, 0⟩ := by simp [dequeM, dqWant]
  have w2 : dequeM.want ⟨0, size, 3, 0, 2, 0, t, 0, false, none⟩ = some ⟨1, ((1 : Nat) : Int), 0, 0⟩ := by simp [dequeM, dqWant]
  cases xs with
  | nil =>
    have hA : dqAhead b t < 1 := by simp at hahead; omega
    have g2 : ∀ won, dequeM.give ⟨0, size, 3, 0, 2, 0, t, 0, false, none⟩ b won = ⟨0, size, 3, 0, 3, b, t, 0, false, some ⟨5, 0, []⟩⟩ := fun won => by simp [dequeM, dqGive, hA]
    refine ⟨2, us, ⟨0, size, 3, 0, 3, b, t, 0, false, some ⟨5, 0, []⟩⟩, by omega, by omega, solo_load 0 t w1 (by omega) (by rw [h.top, ht]) fun won => ?_, .inl ⟨rfl, rfl, rfl⟩⟩
    rw [g1]
    refine solo_load 1 b w2 (by omega) (by rw [h.bottom, hb]) fun won => ?_
    rw [g2]
    exact .done (by simp [dequeM])
  | cons y ys =>
    have hA : ¬ dqAhead b t < 1 := by simp at hahead; omega
    have g2 : ∀ won, dequeM.give ⟨0, size, 3, 0, 2, 0, t, 0, false, none⟩ b won = ⟨0, size, 3, 0, 3, b, t, 0, false, none⟩ := fun won => by simp [dequeM, dqGive, hA]
    have hc := h.cell T
    have hsl : us.getD (dqCell size fr T) 0 = y := by have := h.slots 0 (by simp); simpa using this
    have w3 : dequeM.want ⟨0, size, 3, 0, 3, b, t, 0, false, none⟩ = some ⟨1, ((dqCell size fr T : Nat) : Int), 0, 0⟩ := by
      rw [dqCell_int h.size_, ht]; simp [dequeM, dqWant]
    have g3 : ∀ won, dequeM.give ⟨0, size, 3, 0, 3, b, t, 0, false, none⟩ y won = ⟨0, size, 3, 0, 4, b, t, y, false, none⟩ := fun won => by simp [dequeM, dqGive]
    have hup : dqUp t = dqU fr (T + 1) := by rw [← ht]; exact dqU_up fr _
    have w4 : dequeM.want ⟨0, size, 3, 0, 4, b, t, y, false, none⟩ = some ⟨3, ((0 : Nat) : Int), t, dqUp t⟩ := by simp [dequeM, dqWant]
    have g4 : dequeM.give ⟨0, size, 3, 0, 4, b, t, y, false, none⟩ t true = ⟨0, size, 3, 0, 5, b, t, y, false, some ⟨0, y, []⟩⟩ := by simp [dequeM, dqGive]
    refine ⟨4, us.set 0 (dqUp t), ⟨0, size, 3, 0, 5, b, t, y, false, some ⟨0, y, []⟩⟩, by omega, by omega, solo_load 0 t w1 (by omega) (by rw [h.top, ht]) fun won => ?_, .inr ⟨y, ys, rfl, rfl, ?_⟩⟩
    · rw [g1]
      refine solo_load 1 b w2 (by omega) (by rw [h.bottom, hb]) fun won => ?_
      rw [g2]
      refine solo_load _ y w3 hc.2 hsl fun won => ?_
      rw [g3]
      refine solo_cas 0 _ _ w4 (by omega) htU (by rw [hup]; exact dqU_U fr _) (by rw [h.top, ht]) ?_
      rw [g4]
      exact .done (by simp [dequeM])
    · have hfew := h.few
      have hb2 := h.bottom
      simp only [List.length_cons, Int.natCast_add, Int.natCast_one] at hfew hb2
      refine ⟨h.size_, by simp [hlen], ?_, ?_, by omega, by have := h.low; omega, fun i hi => ?_, fun x hx => h.tasks x (by simp [hx])⟩
      · rw [getD_setS _ _ _ (by omega), hup]
      · rw [getD_setN _ _ _ (by omega), hb2]; congr 1; omega
      · rw [getD_setN _ _ _ (by have := h.cell (T + 1 + i); omega)]
        have := h.slots (i + 1) (by simp; omega)
        rw [show T + 1 + (i : Int) = T + ((i + 1 : Nat) : Int) by omega, this]
        simp [List.getD]

/-- A Pop of one who is alone. -/
theorem DqL.pop (h : DqL size fr T us xs) :
    ∃ (n : Nat) (us' : List Int) (s' : DqS), 0 < n ∧ n ≤ 6 ∧ Solo dequeM us (dqNew 0 size 2 0) n us' s' ∧
      ((xs = [] ∧ s'.over = some ⟨5, 0, []⟩ ∧ DqL size fr T us' []) ∨ (∃ y ys, xs = ys ++ [y] ∧ s'.over = some ⟨0, y, []⟩ ∧ ∃ T', T' ≤ T + 1 ∧ DqL size fr T' us' ys)) := by
  have hr := h.right
  have hlen := h.len
  have hz : 2 ≤ size := by have := h.size_; unfold dqPow at this; omega
  have hz2 : size ≤ 256 := by have := h.size_; unfold dqPow at this; omega
  have hfew := h.few
  have hN : dqNew 0 size 2 0 = ⟨0, size, 2, 0, 1, 0, 0, 0, false, none⟩ := by simp [dqNew, hr]
  rw [hN]
  obtain ⟨b, hb⟩ : ∃ b, dqU fr (T + xs.length - 1) = b := ⟨_, rfl⟩
  obtain ⟨t, ht⟩ : ∃ t, dqU fr T = t := ⟨_, rfl⟩
  have hahead : dqAhead b t = xs.length - 1 := by rw [← hb, ← ht, dqAhead_U fr _ _ (by omega) (by omega)]; omega
  have hbU : M.U b := hb ▸ dqU_U fr _
  have htU : M.U t := ht ▸ dqU_U fr _
  have hup : dqUp b = dqU fr (T + xs.length) := by rw [← hb, dqU_up]; congr 1; omega
  have g1 : ∀ won, dequeM.give ⟨0, size, 2, 0, 1, 0, 0, 0, false, none⟩ (dqU fr (T + xs.length)) won = ⟨0, size, 2, 0, 2, b, 0, 0, false, none⟩ := fun won => by simp [dequeM, dqGive, dqU_down, hb]
  have w1 : dequeM.want ⟨0, size, 2, 0, 1, 0, 0, 0, false, none⟩ = some ⟨1, ((1 : Nat) : Int), 0, 0⟩ := by simp [dequeM, dqWant]
  have w2 : dequeM.want ⟨0, size, 2, 0, 2, b, 0, 0, false, none⟩ = some ⟨2, ((1 : Nat) : Int), b, 0⟩ := by simp [dequeM, dqWant]
  have g2 : ∀ u won, dequeM.give ⟨0, size, 2, 0, 2, b, 0, 0, false, none⟩ u won = ⟨0, size, 2, 0, 3, b, 0, 0, false, none⟩ := fun u won => by simp [dequeM, dqGive]
  have w3 : dequeM.want ⟨0, size, 2, 0, 3, b, 0, 0, false, none⟩ = some ⟨1, ((0 : Nat) : Int), 0, 0⟩ := by simp [dequeM, dqWant]
  have htop : (us.set 1 b).getD 0 0 = t := by rw [getD_setN _ _ _ (by omega), h.top, ht]
  have g3 : ∀ won, dequeM.give ⟨0, size, 2, 0, 3, b, 0, 0, false, none⟩ t won = ⟨0, size, 2, 0, 4, b, t, 0, false, none⟩ := fun won => by simp [dequeM, dqGive]
  rcases List.eq_nil_or_concat xs with rfl | ⟨ys, y, rfl⟩
  · simp only [List.length_nil, Int.natCast_zero] at hahead hup
    have hA : dqAhead b t < 0 := by omega
    have w4 : dequeM.want ⟨0, size, 2, 0, 4, b, t, 0, false, none⟩ = some ⟨2, ((1 : Nat) : Int), dqUp b, 0⟩ := by simp [dequeM, dqWant, hA]
    have g4 : ∀ u won, dequeM.give ⟨0, size, 2, 0, 4, b, t, 0, false, none⟩ u won = ⟨0, size, 2, 0, 4, b, t, 0, false, some ⟨5, 0, []⟩⟩ := fun u won => by simp [dequeM, dqGive, hA]
    refine ⟨4, (us.set 1 b).set 1 (dqUp b), ⟨0, size, 2, 0, 4, b, t, 0, false, some ⟨5, 0, []⟩⟩, by omega, by omega, solo_load 1 _ w1 (by omega) h.bottom fun won => ?_, .inl ⟨rfl, rfl, ?_⟩⟩
    · rw [g1]
      refine solo_store 1 _ w2 (by omega) hbU fun u won => ?_
      rw [g2]
      refine solo_load 0 t w3 (by simp; omega) htop fun won => ?_
      rw [g3]
      refine solo_store 1 _ w4 (by simp; omega) (by rw [hup]; exact dqU_U fr _) fun u won => ?_
      rw [g4]
      exact .done (by simp [dequeM])
    · refine ⟨h.size_, by simp [hlen], ?_, ?_, by simp, h.low, fun i hi => by simp at hi, fun x hx => by simp at hx⟩
      · rw [getD_setN _ _ _ (by omega), htop, ht]
      · rw [getD_setS _ _ _ (by simp; omega), hup]; simp
  · simp only [List.concat_eq_append, List.length_append, List.length_cons, List.length_nil] at hahead hup hfew hb
    have hA : ¬ dqAhead b t < 0 := by omega
    have hc := h.cell (T + ys.length)
    have hbb : dqU fr (T + ys.length) = b := by rw [← hb]; congr 1; omega
    have hsl : (us.set 1 b).getD (dqCell size fr (T + ys.length)) 0 = y := by
      rw [getD_setN _ _ _ (by omega), h.slots ys.length (by simp)]
      simp [List.getD]
    have w4 : dequeM.want ⟨0, size, 2, 0, 4, b, t, 0, false, none⟩ = some ⟨1, ((dqCell size fr (T + ys.length) : Nat) : Int), 0, 0⟩ := by rw [dqCell_int h.size_, hbb]; simp [dequeM, dqWant, hA]
    cases ys with
    | cons z zs =>
      have hB : 0 < dqAhead b t := by simp at hahead; omega
      have g4 : ∀ won, dequeM.give ⟨0, size, 2, 0, 4, b, t, 0, false, none⟩ y won = ⟨0, size, 2, 0, 5, b, t, y, false, some ⟨0, y, []⟩⟩ := fun won => by simp [dequeM, dqGive, hA, hB]
      refine ⟨4, us.set 1 b, ⟨0, size, 2, 0, 5, b, t, y, false, some ⟨0, y, []⟩⟩, by omega, by omega, solo_load 1 _ w1 (by omega) h.bottom fun won => ?_, .inr ⟨y, z :: zs, by simp, rfl, T, by omega, ?_⟩⟩
      · rw [g1]
        refine solo_store 1 _ w2 (by omega) hbU fun u won => ?_
        rw [g2]
        refine solo_load 0 t w3 (by simp; omega) htop fun won => ?_
        rw [g3]
        refine solo_load _ y w4 (by simp; exact hc.2) hsl fun won => ?_
        rw [g4]
        exact .done (by simp [dequeM])
      · refine ⟨h.size_, by simp [hlen], by rw [htop, ht], ?_, by simp at hfew ⊢; omega, h.low, fun i hi => ?_, fun x hx => h.tasks x (by rw [List.concat_eq_append]; exact List.mem_append_left _ hx)⟩
        · rw [getD_setS _ _ _ (by omega), ← hbb]
        · rw [getD_setN _ _ _ (by have := h.cell (T + i); omega), h.slots i (by simp at hi ⊢; omega)]
          simp only [List.getD, List.concat_eq_append]
          rw [List.getElem?_append_left hi]
    | nil =>
      simp only [List.length_nil, Int.natCast_zero] at hahead hup hbb hc hsl w4
      have hB : ¬ 0 < dqAhead b t := by omega
      have htb : b = t := by rw [← hbb, ← ht]; congr 1; omega
      have g4 : ∀ won, dequeM.give ⟨0, size, 2, 0, 4, b, t, 0, false, none⟩ y won = ⟨0, size, 2, 0, 5, b, t, y, false, none⟩ := fun won => by simp [dequeM, dqGive, hA, hB]
      have w5 : dequeM.want ⟨0, size, 2, 0, 5, b, t, y, false, none⟩ = some ⟨3, ((0 : Nat) : Int), t, dqUp t⟩ := by simp [dequeM, dqWant]
      have hupt : dqUp t = dqU fr (T + 1) := by rw [← ht]; exact dqU_up fr _
      have g5 : dequeM.give ⟨0, size, 2, 0, 5, b, t, y, false, none⟩ t true = ⟨0, size, 2, 0, 6, b, t, y, true, none⟩ := by simp [dequeM, dqGive]
      have w6 : dequeM.want ⟨0, size, 2, 0, 6, b, t, y, true, none⟩ = some ⟨2, ((1 : Nat) : Int), dqUp b, 0⟩ := by simp [dequeM, dqWant]
      have g6 : ∀ u won, dequeM.give ⟨0, size, 2, 0, 6, b, t, y, true, none⟩ u won = ⟨0, size, 2, 0, 7, b, t, y, true, some ⟨0, y, []⟩⟩ := fun u won => by simp [dequeM, dqGive]
      refine ⟨6, ((us.set 1 b).set 0 (dqUp t)).set 1 (dqUp b), ⟨0, size, 2, 0, 7, b, t, y, true, some ⟨0, y, []⟩⟩, by omega, by omega, solo_load 1 _ w1 (by omega) h.bottom fun won => ?_, .inr ⟨y, [], by simp, rfl, T + 1, by omega, ?_⟩⟩
      · rw [g1]
        refine solo_store 1 _ w2 (by omega) hbU fun u won => ?_
        rw [g2]
        refine solo_load 0 t w3 (by simp; omega) htop fun won => ?_
        rw [g3]
        refine solo_load _ y w4 (by rw [List.length_set]; exact hc.2) hsl fun won => ?_
        rw [g4]
        refine solo_cas 0 _ _ w5 (by simp; omega) htU (by rw [hupt]; exact dqU_U fr _) htop ?_
        rw [g5]
        refine solo_store 1 _ w6 (by simp; omega) (by rw [hup]; exact dqU_U fr _) fun u won => ?_
        rw [g6]
        exact .done (by simp [dequeM])
      · refine ⟨h.size_, by simp [hlen], ?_, ?_, by simp, by have := h.low; omega, fun i hi => by simp at hi, fun x hx => by simp at hx⟩
        · rw [getD_setN _ _ _ (by omega), getD_setS _ _ _ (by simp; omega), hupt]
        · rw [getD_setS _ _ _ (by simp; omega), hup]; congr 1; simp
end
end Go.Proofs.YtjfgpplnlepnoaaGreat

/-
  What any deed makes of a deque whose workers are alone.
-/
namespace Go.Proofs.YtjfgpplnlepnoaaGreat
set_option maxRecDepth 100000
set_option linter.unusedSimpArgs false
set_option linter.unusedVariables false
open Go

/-- Which walk a number stands for: 1 a Pop, 2 a Steal, others a Push. -/
def dqK1 (r : Int) : Int := if r = 1 then 2 else 1
def dqT1 (r v : Int) : Int := if r = 1 then 0 else v
def dqK2 (r : Int) : Int := if r = 2 then 3 else dqK1 r
def dqT2 (r v : Int) : Int := if r = 2 then 0 else dqT1 r v
/-- What such a walk tells, and what is in it then. -/
inductive DqDeed (size : Nat) (r v : Int) (xs : List Int) (c u : Int) (ys : List Int) : Prop
  | full : (r = 0 ∨ r = 3) → xs.length = size → c = 4 → u = 0 → ys = xs → DqDeed size r v xs c u ys
  | push : (r = 0 ∨ r = 3) → xs.length < size → c = 0 → u = 0 → ys = xs ++ [v] → DqDeed size r v xs c u ys
  | none_ : (r = 1 ∨ r = 2) → xs = [] → c = 5 → u = 0 → ys = [] → DqDeed size r v xs c u ys
  | pop : r = 1 → xs = ys ++ [u] → c = 0 → DqDeed size r v xs c u ys
  | steal : r = 2 → xs = u :: ys → c = 0 → DqDeed size r v xs c u ys
theorem DqL.deed {size : Nat} {fr T : Int} {us xs : List Int} (h : DqL size fr T us xs) (r v : Int) (hr : r = 0 ∨ r = 1 ∨ r = 2 ∨ r = 3) (hv : M.U v) :
    ∃ (n : Nat) (us' : List Int) (s' : DqS) (c u : Int) (ys : List Int) (T' : Int), 0 < n ∧ n ≤ 6 ∧ Solo dequeM us (dqNew 0 size (dqK2 r) (dqT2 r v)) n us' s' ∧ s'.over = some ⟨c, u, []⟩ ∧ DqL size fr T' us' ys ∧ T' ≤ T + 1 ∧ DqDeed size r v xs c u ys := by
  have push : ∀ r, (r = 0 ∨ r = 3) → dqK2 r = 1 → dqT2 r v = v → ∃ (n : Nat) (us' : List Int) (s' : DqS) (c u : Int) (ys : List Int) (T' : Int), 0 < n ∧ n ≤ 6 ∧ Solo dequeM us (dqNew 0 size (dqK2 r) (dqT2 r v)) n us' s' ∧ s'.over = some ⟨c, u, []⟩ ∧ DqL size fr T' us' ys ∧ T' ≤ T + 1 ∧ DqDeed size r v xs c u ys := by
    intro r hr e1 e2
    rw [e1, e2]
    obtain ⟨n, us', s', n0, n6, hs, hc⟩ := h.push v hv
    rcases hc with ⟨hf, ho, rfl⟩ | ⟨hf, ho, hq⟩
    · exact ⟨n, _, s', 4, 0, xs, T, n0, n6, hs, ho, h, by omega, .full hr hf rfl rfl rfl⟩
    · exact ⟨n, us', s', 0, 0, _, T, n0, n6, hs, ho, hq, by omega, .push hr hf rfl rfl rfl⟩
  rcases hr with rfl | rfl | rfl | rfl
  · exact push 0 (.inl rfl) (by decide) (by simp [dqT2, dqT1])
  · rw [show dqK2 1 = 2 from rfl, show dqT2 1 v = 0 from rfl]
    obtain ⟨n, us', s', n0, n6, hs, hc⟩ := h.pop
    rcases hc with ⟨e, ho, hq⟩ | ⟨y, ys, e, ho, T', ht, hq⟩
    · exact ⟨n, us', s', 5, 0, [], T, n0, n6, hs, ho, hq, by omega, .none_ (.inl rfl) e rfl rfl rfl⟩
    · exact ⟨n, us', s', 0, y, ys, T', n0, n6, hs, ho, hq, ht, .pop rfl e rfl⟩
  · rw [show dqK2 2 = 3 from rfl, show dqT2 2 v = 0 from rfl]
    obtain ⟨n, us', s', n0, n6, hs, hc⟩ := h.steal
    rcases hc with ⟨e, ho, rfl⟩ | ⟨y, ys, e, ho, hq⟩
    · exact ⟨n, _, s', 5, 0, [], T, n0, n6, hs, ho, e ▸ h, by omega, .none_ (.inr rfl) e rfl rfl rfl⟩
    · exact ⟨n, us', s', 0, y, ys, T + 1, n0, n6, hs, ho, hq, by omega, .steal rfl e rfl⟩
  · exact push 3 (.inr rfl) (by decide) (by simp [dqT2, dqT1])
end Go.Proofs.YtjfgpplnlepnoaaGreat
