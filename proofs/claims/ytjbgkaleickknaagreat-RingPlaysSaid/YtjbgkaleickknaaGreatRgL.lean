import Derived.Test.YtjbgkaleickknaaGreatStart
import Derived.Test.YtjbgkaleickknaaGreatRgM
/-
  A ring whose workers are alone, one after the other: what its words hold, and what a Push, a Pop and a Steal make of that.
-/
namespace Go.Proofs.YtjbgkaleickknaaGreat
set_option maxRecDepth 100000
set_option linter.unusedSimpArgs false
set_option linter.unusedVariables false
open Go

/-- The cell of a number's slot. -/
def rgCell (a N : Nat) (x : Int) : Nat := (dqSlot a N x).toNat
/-- The words of a ring at the cell a: it holds xs, from the number r on. -/
structure RgL (N a : Nat) (us : List Int) (r : Int) (xs : List Int) : Prop where
  right : dqRight a N
  len : a + N + 2 ≤ us.length
  rr : 0 ≤ r ∧ r < 4294967296
  head : us.getD a 0 = rgPair r r
  tail : us.getD (a + 1) 0 = rgAdd r xs.length
  few : xs.length ≤ N
  slots : ∀ i : Nat, i < xs.length → us.getD (rgCell a N (rgAdd r i)) 0 = xs.getD i 0
  tasks : ∀ x ∈ xs, M.U x
section
variable {N a b : Nat} {us us' : List Int} {r r2 : Int} {xs ts : List Int}
theorem rgHi_pair {x y : Int} (hy : 0 ≤ y ∧ y < 4294967296) : rgHi (rgPair x y) = x := by unfold rgHi rgPair; omega
theorem rgLo_pair {x y : Int} (hy : 0 ≤ y ∧ y < 4294967296) : rgLo (rgPair x y) = y := by unfold rgLo rgPair; omega
theorem rgLo_add (x y : Int) : rgLo (rgAdd x y) = rgAdd x y := by unfold rgLo rgAdd; omega
theorem rgAdd_add (x y z : Int) : rgAdd (rgAdd x y) z = rgAdd x (y + z) := by unfold rgAdd; omega
theorem rgAdd_zero {x : Int} (hx : 0 ≤ x ∧ x < 4294967296) : rgAdd x 0 = x := by unfold rgAdd; omega
theorem rgAdd_U (x y : Int) : M.U (rgAdd x y) := ⟨(rgAdd_range x y).1, by have := (rgAdd_range x y).2; omega⟩
theorem rgAhead_add (x y z : Int) (h1 : -2147483648 ≤ y - z) (h2 : y - z < 2147483648) : M.aheadI (rgAdd x y) (rgAdd x z) = y - z := by unfold M.aheadI rgAdd; split <;> omega
theorem rgAhead_own {x : Int} (hx : 0 ≤ x ∧ x < 4294967296) (y : Int) (h1 : 0 ≤ y) (h2 : y < 2147483648) : M.aheadI (rgAdd x y) x = y := by have := rgAhead_add x y 0 (by omega) (by omega); rw [rgAdd_zero hx] at this; omega
theorem rgCell_range (h : dqRight a N) (x : Int) : a + 2 ≤ rgCell a N x ∧ rgCell a N x < a + N + 2 := by
  have h0 : (0 : Int) < N := by have := h.1; omega
  have := dqSlot_range (at_ := (a : Int)) (n := x) h0
  unfold rgCell
  omega
theorem rgCell_int (h : dqRight a N) (x : Int) : ((rgCell a N x : Nat) : Int) = dqSlot a N x := by
  have h0 : (0 : Int) < N := by have := h.1; omega
  have := dqSlot_range (at_ := (a : Int)) (n := x) h0
  unfold rgCell
  omega
theorem rgCell_ne (h : dqRight a N) (r : Int) {x y : Int} (h1 : x < y) (h2 : y - x < N) : rgCell a N (rgAdd r x) ≠ rgCell a N (rgAdd r y) := by
  intro he
  have hz := congrArg (fun n : Nat => (n : Int)) he
  simp only [rgCell_int h] at hz
  have h3 := h.1
  unfold dqSlot rgAdd at hz
  generalize hn : (N : Int) = n at *
  rcases h3 with rfl | rfl | rfl | rfl | rfl | rfl | rfl | rfl <;> omega
theorem rgSz (h : dqRight a N) : 2 ≤ N ∧ N ≤ 256 ∧ (N : Int) / 2 * 2 = N ∧ a + N + 2 ≤ 65536 := by
  obtain ⟨h1, h2, h3⟩ := h
  omega
/-- Words that are the same where the ring is. -/
theorem RgL.other (h : RgL N a us r xs) (hl : us'.length = us.length) (hc : ∀ j, a ≤ j → j < a + N + 2 → us'.getD j 0 = us.getD j 0) : RgL N a us' r xs :=
  ⟨h.right, by rw [hl]; exact h.len, h.rr, by rw [hc a (by omega) (by omega)]; exact h.head, by rw [hc (a + 1) (by omega) (by have := rgSz h.right; omega)]; exact h.tail, h.few,
   fun i hi => by have := rgCell_range h.right (rgAdd r i); rw [hc _ (by omega) (by omega)]; exact h.slots i hi, h.tasks⟩
theorem RgL.cell (h : RgL N a us r xs) (x : Int) : a + 2 ≤ rgCell a N x ∧ rgCell a N x < a + N + 2 ∧ rgCell a N x < us.length := by
  have := rgCell_range h.right x
  have := h.len
  omega
theorem RgL.headU (h : RgL N a us r xs) : M.U (rgPair r r) := rgPair_U h.rr h.rr
/-- Of those that are in it, the first n are gone. -/
theorem RgL.gone (h : RgL N a us r xs) (n : Nat) (hn : n ≤ xs.length) (hl : us'.length = us.length) (hh : us'.getD a 0 = rgPair (rgAdd r n) (rgAdd r n)) (hc : ∀ j, a < j → j < a + N + 2 → us'.getD j 0 = us.getD j 0) : RgL N a us' (rgAdd r n) (xs.drop n) := by
  have hz := rgSz h.right
  refine ⟨h.right, by rw [hl]; exact h.len, rgAdd_range r n, hh, ?_, by have := h.few; simp; omega, fun i hi => ?_, fun x hx => h.tasks x (List.mem_of_mem_drop hx)⟩
  · rw [hc (a + 1) (by omega) (by omega), h.tail, rgAdd_add]
    congr 1
    simp
    omega
  · have hi2 : n + i < xs.length := by simp at hi; omega
    have := h.slots (n + i) hi2
    rw [rgAdd_add, show (n : Int) + (i : Int) = ((n + i : Nat) : Int) by omega, hc _ (by have := rgCell_range h.right (rgAdd r ((n + i : Nat) : Int)); omega) (by have := rgCell_range h.right (rgAdd r ((n + i : Nat) : Int)); omega), this]
    simp [List.getD]
/-- One is laid behind all. -/
theorem RgL.more (h : RgL N a us r xs) (v : Int) (hv : M.U v) (hf : xs.length < N) : RgL N a ((us.set (rgCell a N (rgAdd r xs.length)) v).set (a + 1) (rgAdd r (xs.length + 1))) r (xs ++ [v]) := by
  have hz := rgSz h.right
  have hlen := h.len
  have hc := h.cell (rgAdd r xs.length)
  refine ⟨h.right, by simpa using hlen, h.rr, ?_, ?_, by simp; omega, fun i hi => ?_, fun x hx => ?_⟩
  · rw [getD_setN _ _ _ (by omega), getD_setN _ _ _ (by omega)]; exact h.head
  · rw [getD_setS _ _ _ (by simp; omega)]; simp
  · have hci := h.cell (rgAdd r i)
    rw [getD_setN _ _ _ (by omega)]
    by_cases e : i = xs.length
    · subst e
      rw [getD_setS _ _ _ hc.2.2]
      simp [List.getD]
    · have hi2 : i < xs.length := by simp at hi; omega
      have hne := rgCell_ne (a := a) h.right r (x := (i : Int)) (y := (xs.length : Int)) (by omega) (by omega)
      rw [getD_setN _ _ _ (Ne.symm hne), h.slots i hi2]
      simp [List.getD, List.getElem?_append_left hi2]
  · rcases List.mem_append.1 hx with h1 | h1
    · exact h.tasks x h1
    · simp at h1; subst h1; exact hv

/-- The loads of a Push that gives half of them out. -/
theorem RgL.outs (h : RgL N a us r xs) (hf : xs.length = N) (v h0 t u n2 tg : Int) (us2 : List Int) (hh : rgLo h0 = r) (hl : us2.length = us.length) (hc : ∀ j, a < j → j < a + N + 2 → us2.getD j 0 = us.getD j 0) :
    ∀ (d k : Nat), 0 < d → k + d = N / 2 → ∃ s', Solo ringM us2 ⟨a, N, 1, v, tg, 6, h0, t, u, n2, k, xs.take k, none⟩ d us2 s' ∧ s'.over = some ⟨4, 0, xs.take (N / 2)⟩
  | 0, k, h1, h2 => by omega
  | d + 1, k, _, hk => by
    have hz := rgSz h.right
    have hlen := h.len
    have hci := h.cell (rgAdd r k)
    have hki : k < xs.length := by omega
    have hsl : us2.getD (rgCell a N (rgAdd r k)) 0 = xs.getD k 0 := by rw [hc _ (by omega) (by omega)]; exact h.slots k hki
    have htk : xs.take k ++ [xs.getD k 0] = xs.take (k + 1) := by rw [List.take_add_one, List.getD, List.getElem?_eq_getElem hki]; rfl
    have w1 : ringM.want ⟨a, N, 1, v, tg, 6, h0, t, u, n2, k, xs.take k, none⟩ = some ⟨1, ((rgCell a N (rgAdd r k) : Nat) : Int), 0, 0⟩ := by
      rw [rgCell_int h.right]; simp [ringM, rgWant, hh]
    by_cases hd : d = 0
    · subst hd
      have g1 : ∀ won, ringM.give ⟨a, N, 1, v, tg, 6, h0, t, u, n2, k, xs.take k, none⟩ (xs.getD k 0) won = ⟨a, N, 1, v, tg, 6, h0, t, u, n2, k + 1, xs.take (k + 1), some ⟨4, 0, xs.take (N / 2)⟩⟩ := fun won => by
        rw [← htk]
        simp [ringM, rgGive, rgPushGive, show (k : Int) + 1 = (N : Int) / 2 by omega]
        rw [show N / 2 = k + 1 by omega, htk.symm]
        simp
      refine ⟨⟨a, N, 1, v, tg, 6, h0, t, u, n2, k + 1, xs.take (k + 1), some ⟨4, 0, xs.take (N / 2)⟩⟩, solo_load _ _ w1 (by omega) hsl fun won => ?_, rfl⟩
      rw [g1]
      exact .done (by simp [ringM])
    · have g1 : ∀ won, ringM.give ⟨a, N, 1, v, tg, 6, h0, t, u, n2, k, xs.take k, none⟩ (xs.getD k 0) won = ⟨a, N, 1, v, tg, 6, h0, t, u, n2, ((k + 1 : Nat) : Int), xs.take (k + 1), none⟩ := fun won => by
        rw [← htk]
        simp [ringM, rgGive, rgPushGive, show ¬ (k : Int) + 1 = (N : Int) / 2 by omega]
      obtain ⟨s', hs, ho⟩ := RgL.outs h hf v h0 t u n2 tg us2 hh hl hc d (k + 1) (by omega) (by omega)
      refine ⟨s', solo_load _ _ w1 (by omega) hsl fun won => ?_, ho⟩
      rw [g1]
      exact hs
/-- A Push of one who is alone. -/
theorem RgL.push (h : RgL N a us r xs) (v : Int) (hv : M.U v) :
    ∃ (n : Nat) (us' : List Int) (s' : RgS), 0 < n ∧ n ≤ N + 10 ∧ Solo ringM us (rgBegin a N 1 v 0 true) n us' s' ∧ us'.length = us.length ∧ (∀ j, (j < a ∨ a + N + 2 ≤ j) → us'.getD j 0 = us.getD j 0) ∧
      ((xs.length < N ∧ s'.over = some ⟨0, 0, []⟩ ∧ RgL N a us' r (xs ++ [v])) ∨ (xs.length = N ∧ s'.over = some ⟨4, 0, xs.take (N / 2)⟩ ∧ RgL N a us' (rgAdd r (N / 2 : Nat)) (xs.drop (N / 2)))) := by
  have hz := rgSz h.right
  have hlen := h.len
  have hfew := h.few
  have hN : rgBegin a N 1 v 0 true = ⟨a, N, 1, v, 0, 1, 0, 0, 0, 0, 0, [], none⟩ := rfl
  rw [hN]
  obtain ⟨hd, hhd⟩ : ∃ hd, rgPair r r = hd := ⟨_, rfl⟩
  have hhi : rgHi hd = r := by rw [← hhd]; exact rgHi_pair h.rr
  have hlo : rgLo hd = r := by rw [← hhd]; exact rgLo_pair h.rr
  have hU : M.U hd := hhd ▸ h.headU
  obtain ⟨t, ht⟩ : ∃ t, rgAdd r xs.length = t := ⟨_, rfl⟩
  have htl : rgLo t = t := by rw [← ht]; exact rgLo_add _ _
  have hahead : M.aheadI t r = xs.length := by rw [← ht]; exact rgAhead_own h.rr _ (by omega) (by omega)
  have w1 : ringM.want ⟨a, N, 1, v, 0, 1, 0, 0, 0, 0, 0, [], none⟩ = some ⟨1, (a : Int), 0, 0⟩ := by simp [ringM, rgWant]
  have g1 : ∀ won, ringM.give ⟨a, N, 1, v, 0, 1, 0, 0, 0, 0, 0, [], none⟩ hd won = ⟨a, N, 1, v, 0, 2, hd, 0, 0, 0, 0, [], none⟩ := fun won => by simp [ringM, rgGive, rgPushGive]
  have w2 : ringM.want ⟨a, N, 1, v, 0, 2, hd, 0, 0, 0, 0, [], none⟩ = some ⟨1, ((a + 1 : Nat) : Int), 0, 0⟩ := by simp [ringM, rgWant]
  by_cases hf : xs.length < N
  · have g2 : ∀ won, ringM.give ⟨a, N, 1, v, 0, 2, hd, 0, 0, 0, 0, [], none⟩ t won = ⟨a, N, 1, v, 0, 3, hd, t, 0, 0, 0, [], none⟩ := fun won => by simp [ringM, rgGive, rgPushGive, htl, hhi, hahead, hf]
    have hc := h.cell t
    have w3 : ringM.want ⟨a, N, 1, v, 0, 3, hd, t, 0, 0, 0, [], none⟩ = some ⟨2, ((rgCell a N t : Nat) : Int), v, 0⟩ := by rw [rgCell_int h.right]; simp [ringM, rgWant]
    have g3 : ∀ u won, ringM.give ⟨a, N, 1, v, 0, 3, hd, t, 0, 0, 0, [], none⟩ u won = ⟨a, N, 1, v, 0, 4, hd, t, 0, 0, 0, [], none⟩ := fun u won => by simp [ringM, rgGive, rgPushGive]
    have w4 : ringM.want ⟨a, N, 1, v, 0, 4, hd, t, 0, 0, 0, [], none⟩ = some ⟨2, ((a + 1 : Nat) : Int), rgAdd t 1, 0⟩ := by simp [ringM, rgWant]
    have g4 : ∀ u won, ringM.give ⟨a, N, 1, v, 0, 4, hd, t, 0, 0, 0, [], none⟩ u won = ⟨a, N, 1, v, 0, 4, hd, t, 0, 0, 0, [], some ⟨0, 0, []⟩⟩ := fun u won => by simp [ringM, rgGive, rgPushGive]
    have ht1 : rgAdd t 1 = rgAdd r (xs.length + 1) := by rw [← ht, rgAdd_add]
    refine ⟨4, (us.set (rgCell a N t) v).set (a + 1) (rgAdd t 1), ⟨a, N, 1, v, 0, 4, hd, t, 0, 0, 0, [], some ⟨0, 0, []⟩⟩, by omega, by omega, solo_load a hd w1 (by omega) (by rw [h.head, hhd]) fun won => ?_, by simp, fun j hj => ?_, .inl ⟨hf, rfl, ?_⟩⟩
    · rw [g1]
      refine solo_load (a + 1) t w2 (by omega) (by rw [h.tail, ht]) fun won => ?_
      rw [g2]
      refine solo_store _ v w3 hc.2.2 hv fun u won => ?_
      rw [g3]
      refine solo_store (a + 1) _ w4 (by simp; omega) (rgAdd_U _ _) fun u won => ?_
      rw [g4]
      exact .done (by simp [ringM])
    · rw [getD_setN _ _ _ (by omega), getD_setN _ _ _ (by omega)]
    · rw [ht1, ← ht]; exact h.more v hv hf
  · have hfl : xs.length = N := by omega
    have g2 : ∀ won, ringM.give ⟨a, N, 1, v, 0, 2, hd, 0, 0, 0, 0, [], none⟩ t won = ⟨a, N, 1, v, 0, 5, hd, t, 0, 0, 0, [], none⟩ := fun won => by simp [ringM, rgGive, rgPushGive, htl, hhi, hlo, hahead, hfl]
    have hh2 : ((N / 2 : Nat) : Int) = (N : Int) / 2 := by omega
    obtain ⟨hd2, hhd2⟩ : ∃ hd2, rgPair (rgAdd r (N / 2 : Nat)) (rgAdd r (N / 2 : Nat)) = hd2 := ⟨_, rfl⟩
    have hU2 : M.U hd2 := hhd2 ▸ rgPair_U (rgAdd_range _ _) (rgAdd_range _ _)
    have w3 : ringM.want ⟨a, N, 1, v, 0, 5, hd, t, 0, 0, 0, [], none⟩ = some ⟨3, (a : Int), hd, hd2⟩ := by rw [← hhd2, hh2]; simp [ringM, rgWant, hlo]
    have g3 : ringM.give ⟨a, N, 1, v, 0, 5, hd, t, 0, 0, 0, [], none⟩ hd true = ⟨a, N, 1, v, 0, 6, hd, t, 0, 0, ((0 : Nat) : Int), xs.take 0, none⟩ := by simp [ringM, rgGive, rgPushGive]
    have hother : ∀ j, j ≠ a → (us.set a hd2).getD j 0 = us.getD j 0 := fun j hj => getD_setN _ _ _ (Ne.symm hj)
    obtain ⟨s', hs, ho⟩ := RgL.outs h hfl v hd t 0 0 0 (us.set a hd2) hlo (by simp) (fun j h1 _ => hother j (by omega)) (N / 2) 0 (by omega) (by omega)
    refine ⟨N / 2 + 1 + 1 + 1, us.set a hd2, s', by omega, by omega, solo_load a hd w1 (by omega) (by rw [h.head, hhd]) fun won => ?_, by simp, fun j hj => hother j (by omega), .inr ⟨hfl, ho, ?_⟩⟩
    · rw [g1]
      refine solo_load (a + 1) t w2 (by omega) (by rw [h.tail, ht]) fun won => ?_
      rw [g2]
      refine solo_cas a hd hd2 w3 (by omega) hU hU2 (by rw [h.head, hhd]) ?_
      rw [g3]
      exact hs
    · exact h.gone (N / 2) (by omega) (by simp) (by rw [getD_setS _ _ _ (by omega), hhd2]) (fun j h1 _ => hother j (by omega))

/-- A Pop of one who is alone. -/
theorem RgL.pop (h : RgL N a us r xs) :
    ∃ (n : Nat) (us' : List Int) (s' : RgS), 0 < n ∧ n ≤ N + 10 ∧ Solo ringM us (rgBegin a N 2 0 0 true) n us' s' ∧ us'.length = us.length ∧ (∀ j, (j < a ∨ a + N + 2 ≤ j) → us'.getD j 0 = us.getD j 0) ∧
      ((xs = [] ∧ s'.over = some ⟨5, 0, []⟩ ∧ us' = us) ∨ (∃ y ys, xs = y :: ys ∧ s'.over = some ⟨0, y, []⟩ ∧ RgL N a us' (rgAdd r 1) ys)) := by
  have hz := rgSz h.right
  have hlen := h.len
  have hfew := h.few
  have hN : rgBegin a N 2 0 0 true = ⟨a, N, 2, 0, 0, 1, 0, 0, 0, 0, 0, [], none⟩ := rfl
  rw [hN]
  obtain ⟨hd, hhd⟩ : ∃ hd, rgPair r r = hd := ⟨_, rfl⟩
  have hhi : rgHi hd = r := by rw [← hhd]; exact rgHi_pair h.rr
  have hlo : rgLo hd = r := by rw [← hhd]; exact rgLo_pair h.rr
  have hU : M.U hd := hhd ▸ h.headU
  obtain ⟨t, ht⟩ : ∃ t, rgAdd r xs.length = t := ⟨_, rfl⟩
  have htl : rgLo t = t := by rw [← ht]; exact rgLo_add _ _
  have hahead : M.aheadI t r = xs.length := by rw [← ht]; exact rgAhead_own h.rr _ (by omega) (by omega)
  have w1 : ringM.want ⟨a, N, 2, 0, 0, 1, 0, 0, 0, 0, 0, [], none⟩ = some ⟨1, (a : Int), 0, 0⟩ := by simp [ringM, rgWant]
  have g1 : ∀ won, ringM.give ⟨a, N, 2, 0, 0, 1, 0, 0, 0, 0, 0, [], none⟩ hd won = ⟨a, N, 2, 0, 0, 2, hd, 0, 0, 0, 0, [], none⟩ := fun won => by simp [ringM, rgGive, rgPopGive]
  have w2 : ringM.want ⟨a, N, 2, 0, 0, 2, hd, 0, 0, 0, 0, [], none⟩ = some ⟨1, ((a + 1 : Nat) : Int), 0, 0⟩ := by simp [ringM, rgWant]
  cases xs with
  | nil =>
    have g2 : ∀ won, ringM.give ⟨a, N, 2, 0, 0, 2, hd, 0, 0, 0, 0, [], none⟩ t won = ⟨a, N, 2, 0, 0, 3, hd, 0, 0, 0, 0, [], some ⟨5, 0, []⟩⟩ := fun won => by simp [ringM, rgGive, rgPopGive, htl, hlo, hahead]
    refine ⟨2, us, ⟨a, N, 2, 0, 0, 3, hd, 0, 0, 0, 0, [], some ⟨5, 0, []⟩⟩, by omega, by omega, solo_load a hd w1 (by omega) (by rw [h.head, hhd]) fun won => ?_, rfl, fun j hj => rfl, .inl ⟨rfl, rfl, rfl⟩⟩
    rw [g1]
    refine solo_load (a + 1) t w2 (by omega) (by rw [h.tail, ht]) fun won => ?_
    rw [g2]
    exact .done (by simp [ringM])
  | cons y ys =>
    have hlt : ¬ ((ys.length : Int) + 1 < 1) := by omega
    have hl1 : ((y :: ys).length : Int) = (ys.length : Int) + 1 := by simp
    have g2 : ∀ won, ringM.give ⟨a, N, 2, 0, 0, 2, hd, 0, 0, 0, 0, [], none⟩ t won = ⟨a, N, 2, 0, 0, 3, hd, 0, 0, 0, 0, [], none⟩ := fun won => by simp [ringM, rgGive, rgPopGive, htl, hlo, hahead, hlt]
    obtain ⟨hd2, hhd2⟩ : ∃ hd2, rgPair (rgAdd r 1) (rgAdd r 1) = hd2 := ⟨_, rfl⟩
    have hU2 : M.U hd2 := hhd2 ▸ rgPair_U (rgAdd_range _ _) (rgAdd_range _ _)
    have w3 : ringM.want ⟨a, N, 2, 0, 0, 3, hd, 0, 0, 0, 0, [], none⟩ = some ⟨3, (a : Int), hd, hd2⟩ := by rw [← hhd2]; simp [ringM, rgWant, hlo, hhi]
    have g3 : ringM.give ⟨a, N, 2, 0, 0, 3, hd, 0, 0, 0, 0, [], none⟩ hd true = ⟨a, N, 2, 0, 0, 4, hd, 0, 0, 0, 0, [], none⟩ := by simp [ringM, rgGive, rgPopGive]
    have hc := h.cell r
    have hsl : us.getD (rgCell a N r) 0 = y := by have := h.slots 0 (by simp); simpa [rgAdd_zero h.rr] using this
    have w4 : ringM.want ⟨a, N, 2, 0, 0, 4, hd, 0, 0, 0, 0, [], none⟩ = some ⟨1, ((rgCell a N r : Nat) : Int), 0, 0⟩ := by rw [rgCell_int h.right]; simp [ringM, rgWant, hlo]
    have g4 : ∀ won, ringM.give ⟨a, N, 2, 0, 0, 4, hd, 0, 0, 0, 0, [], none⟩ y won = ⟨a, N, 2, 0, 0, 4, hd, 0, 0, 0, 0, [], some ⟨0, y, []⟩⟩ := fun won => by simp [ringM, rgGive, rgPopGive]
    have hother : ∀ j, j ≠ a → (us.set a hd2).getD j 0 = us.getD j 0 := fun j hj => getD_setN _ _ _ (Ne.symm hj)
    refine ⟨4, us.set a hd2, ⟨a, N, 2, 0, 0, 4, hd, 0, 0, 0, 0, [], some ⟨0, y, []⟩⟩, by omega, by omega, solo_load a hd w1 (by omega) (by rw [h.head, hhd]) fun won => ?_, by simp, fun j hj => hother j (by omega), .inr ⟨y, ys, rfl, rfl, ?_⟩⟩
    · rw [g1]
      refine solo_load (a + 1) t w2 (by omega) (by rw [h.tail, ht]) fun won => ?_
      rw [g2]
      refine solo_cas a hd hd2 w3 (by omega) hU hU2 (by rw [h.head, hhd]) ?_
      rw [g3]
      refine solo_load _ y w4 (by simp; omega) (by rw [hother _ (by omega)]; exact hsl) fun won => ?_
      rw [g4]
      exact .done (by simp [ringM])
    · have := h.gone (us' := us.set a hd2) 1 (by simp) (by simp) (by rw [getD_setS _ _ _ (by omega), ← hhd2]; rfl) (fun j h1 _ => hother j (by omega))
      exact this
end
end Go.Proofs.YtjbgkaleickknaaGreat

/-
  A Steal of one who is alone: half of a ring, into another one.
-/
namespace Go.Proofs.YtjbgkaleickknaaGreat
set_option maxRecDepth 100000
set_option linter.unusedSimpArgs false
set_option linter.unusedVariables false
open Go

section
variable {N a b : Nat} {us : List Int} {r r2 : Int} {xs ts : List Int}
/-- What k of the stolen tasks are copied already. -/
structure RgMid (N a b : Nat) (us : List Int) (r r2 : Int) (xs ts : List Int) (nn k : Nat) (vs : List Int) : Prop where
  len : vs.length = us.length
  head : vs.getD a 0 = rgPair r (rgAdd r nn)
  rest : ∀ j, j ≠ a → (j < b + 2 ∨ b + N + 2 ≤ j) → vs.getD j 0 = us.getD j 0
  slots : ∀ i : Nat, i < ts.length + k → vs.getD (rgCell b N (rgAdd r2 i)) 0 = (ts ++ xs).getD i 0
/-- What a Steal that tells Fine leaves. -/
structure RgFin (N a b : Nat) (us : List Int) (r r2 : Int) (xs ts : List Int) (nn : Nat) (vs : List Int) : Prop where
  len : vs.length = us.length
  own : RgL N a vs (rgAdd r nn) (xs.drop nn)
  other : RgL N b vs r2 (ts ++ xs.take (nn - 1))
  rest : ∀ j, (j < a ∨ a + N + 2 ≤ j) → (j < b ∨ b + N + 2 ≤ j) → vs.getD j 0 = us.getD j 0
theorem RgMid.fin {nn : Nat} {vs : List Int} (h : RgL N a us r xs) (g : RgL N b us r2 ts) (hd : a + N + 2 ≤ b ∨ b + N + 2 ≤ a) (h1 : 1 ≤ nn) (h2 : nn ≤ xs.length) (ht : ts.length + nn ≤ N) (m : RgMid N a b us r r2 xs ts nn (nn - 1) vs) {vs' : List Int} (hl : vs'.length = us.length)
    (hh : vs'.getD a 0 = rgPair (rgAdd r nn) (rgAdd r nn)) (htl : vs'.getD (b + 1) 0 = rgAdd r2 (ts.length + nn - 1)) (hc : ∀ j, j ≠ a → j ≠ b + 1 → vs'.getD j 0 = vs.getD j 0) : RgFin N a b us r r2 xs ts nn vs' := by
  have hz := rgSz h.right
  refine ⟨hl, h.gone nn h2 hl hh (fun j j1 j2 => ?_), ⟨g.right, by rw [hl]; exact g.len, g.rr, ?_, ?_, ?_, fun i hi => ?_, fun x hx => ?_⟩, fun j j1 j2 => ?_⟩
  · rw [hc j (by omega) (by omega), m.rest j (by omega) (by omega)]
  · rw [hc b (by omega) (by omega), m.rest b (by omega) (by omega)]; exact g.head
  · rw [htl]
    congr 1
    simp
    omega
  · simp; omega
  · have hi2 : i < ts.length + (nn - 1) := by simp at hi; omega
    have := g.cell (rgAdd r2 i)
    rw [hc _ (by omega) (by omega), m.slots i hi2]
    by_cases e : i < ts.length
    · simp [List.getD, List.getElem?_append_left e]
    · simp only [List.getD, List.getElem?_append_right (show ts.length ≤ i by omega)]
      rw [List.getElem?_take_of_lt (by omega)]
  · rcases List.mem_append.1 hx with h3 | h3
    · exact g.tasks x h3
    · exact h.tasks x (List.mem_of_mem_take h3)
  · rw [hc j (by omega) (by omega), m.rest j (by omega) (by omega)]

/-- The last task is loaded, and the ring opened again. -/
theorem RgMid.close {nn : Nat} {vs : List Int} (h : RgL N a us r xs) (g : RgL N b us r2 ts) (hd : a + N + 2 ≤ b ∨ b + N + 2 ≤ a) (h1 : 1 ≤ nn) (h2 : nn ≤ xs.length) (ht : ts.length + nn ≤ N) (m : RgMid N a b us r r2 xs ts nn (nn - 1) vs) (h0 : Int) :
    ∃ (n : Nat) (us' : List Int) (s' : RgS), n ≤ 4 ∧ Solo ringM vs ⟨a, N, 3, 0, b, 6, h0, r, rgAdd r2 ts.length, nn, ((nn - 1 : Nat) : Int), xs.take (nn - 1), none⟩ n us' s' ∧ s'.over = some ⟨0, xs.getD (nn - 1) 0, []⟩ ∧ RgFin N a b us r r2 xs ts nn us' := by
  have hz := rgSz h.right
  have hlen := h.len
  have hgl := g.len
  have hvl := m.len
  obtain ⟨u, hu⟩ : ∃ u, rgAdd r2 ts.length = u := ⟨_, rfl⟩
  rw [hu]
  have hci := h.cell (rgAdd r (nn - 1 : Nat))
  have hki : nn - 1 < xs.length := by omega
  have hsl : vs.getD (rgCell a N (rgAdd r (nn - 1 : Nat))) 0 = xs.getD (nn - 1) 0 := by rw [m.rest _ (by omega) (by omega)]; exact h.slots _ hki
  have htk : xs.take (nn - 1) ++ [xs.getD (nn - 1) 0] = xs.take nn := by
    have := List.take_add_one (i := nn - 1) (l := xs)
    rw [show nn - 1 + 1 = nn by omega] at this
    rw [this, List.getD, List.getElem?_eq_getElem hki]; rfl
  have hn1 : ((nn - 1 : Nat) : Int) = (nn : Int) - 1 := by omega
  have hlast : (xs.take nn).getD (nn - 1) 0 = xs.getD (nn - 1) 0 := by simp only [List.getD]; rw [List.getElem?_take_of_lt (by omega)]
  obtain ⟨hp, hhp⟩ : ∃ hp, rgPair r (rgAdd r nn) = hp := ⟨_, rfl⟩
  have hpl : rgLo hp = rgAdd r nn := by rw [← hhp]; exact rgLo_pair (rgAdd_range _ _)
  have hpU : M.U hp := hhp ▸ rgPair_U h.rr (rgAdd_range _ _)
  obtain ⟨hq, hhq⟩ : ∃ hq, rgPair (rgAdd r nn) (rgAdd r nn) = hq := ⟨_, rfl⟩
  have hqU : M.U hq := hhq ▸ rgPair_U (rgAdd_range _ _) (rgAdd_range _ _)
  have w1 : ringM.want ⟨a, N, 3, 0, b, 6, h0, r, u, nn, ((nn - 1 : Nat) : Int), xs.take (nn - 1), none⟩ = some ⟨1, ((rgCell a N (rgAdd r (nn - 1 : Nat)) : Nat) : Int), 0, 0⟩ := by rw [rgCell_int h.right]; simp [ringM, rgWant]
  have g1 : ∀ won, ringM.give ⟨a, N, 3, 0, b, 6, h0, r, u, nn, ((nn - 1 : Nat) : Int), xs.take (nn - 1), none⟩ (xs.getD (nn - 1) 0) won = ⟨a, N, 3, 0, b, 7, h0, r, u, nn, ((nn - 1 : Nat) : Int), xs.take nn, none⟩ := fun won => by
    rw [← htk]
    simp [ringM, rgGive, rgStealGive, hn1]
  have w2 : ringM.want ⟨a, N, 3, 0, b, 7, h0, r, u, nn, ((nn - 1 : Nat) : Int), xs.take nn, none⟩ = some ⟨1, (a : Int), 0, 0⟩ := by simp [ringM, rgWant]
  have g2 : ∀ won, ringM.give ⟨a, N, 3, 0, b, 7, h0, r, u, nn, ((nn - 1 : Nat) : Int), xs.take nn, none⟩ hp won = ⟨a, N, 3, 0, b, 8, hp, r, u, nn, ((nn - 1 : Nat) : Int), xs.take nn, none⟩ := fun won => by simp [ringM, rgGive, rgStealGive]
  have w3 : ringM.want ⟨a, N, 3, 0, b, 8, hp, r, u, nn, ((nn - 1 : Nat) : Int), xs.take nn, none⟩ = some ⟨3, (a : Int), hp, hq⟩ := by rw [← hhq]; simp [ringM, rgWant, hpl]
  have hqo : ∀ j, j ≠ a → (vs.set a hq).getD j 0 = vs.getD j 0 := fun j hj => getD_setN _ _ _ (Ne.symm hj)
  have htail : vs.getD (b + 1) 0 = u := by rw [m.rest _ (by omega) (by omega), g.tail, hu]
  by_cases hone : nn = 1
  · subst hone
    have g3 : ringM.give ⟨a, N, 3, 0, b, 8, hp, r, u, (1 : Nat), ((1 - 1 : Nat) : Int), xs.take 1, none⟩ hp true = ⟨a, N, 3, 0, b, 9, hp, r, u, (1 : Nat), ((1 - 1 : Nat) : Int), xs.take 1, some ⟨0, xs.getD (1 - 1) 0, []⟩⟩ := by
      rw [← hlast]
      simp [ringM, rgGive, rgStealGive, rgLast]
    refine ⟨3, vs.set a hq, ⟨a, N, 3, 0, b, 9, hp, r, u, (1 : Nat), ((1 - 1 : Nat) : Int), xs.take 1, some ⟨0, xs.getD (1 - 1) 0, []⟩⟩, by omega, solo_load _ _ w1 (by omega) hsl fun won => ?_, rfl, m.fin h g hd (by omega) h2 ht (by simpa using hvl) (by rw [getD_setS _ _ _ (by omega), hhq]) ?_ (fun j j1 _ => hqo j j1)⟩
    · rw [g1]
      refine solo_load a hp w2 (by omega) (by rw [m.head, hhp]) fun won => ?_
      rw [g2]
      refine solo_cas a hp hq w3 (by omega) hpU hqU (by rw [m.head, hhp]) ?_
      rw [g3]
      exact .done (by simp [ringM])
    · rw [hqo _ (by omega), htail, ← hu]; congr 1
      omega
  · have hne : ¬ (nn : Int) = 1 := by omega
    have g3 : ringM.give ⟨a, N, 3, 0, b, 8, hp, r, u, nn, ((nn - 1 : Nat) : Int), xs.take nn, none⟩ hp true = ⟨a, N, 3, 0, b, 9, hp, r, u, nn, ((nn - 1 : Nat) : Int), xs.take nn, none⟩ := by
      simp [ringM, rgGive, rgStealGive]
      exact hne
    have w4 : ringM.want ⟨a, N, 3, 0, b, 9, hp, r, u, nn, ((nn - 1 : Nat) : Int), xs.take nn, none⟩ = some ⟨2, ((b + 1 : Nat) : Int), rgAdd u (nn - 1 : Nat), 0⟩ := by rw [hn1]; simp [ringM, rgWant]
    have g4 : ∀ x won, ringM.give ⟨a, N, 3, 0, b, 9, hp, r, u, nn, ((nn - 1 : Nat) : Int), xs.take nn, none⟩ x won = ⟨a, N, 3, 0, b, 9, hp, r, u, nn, ((nn - 1 : Nat) : Int), xs.take nn, some ⟨0, xs.getD (nn - 1) 0, []⟩⟩ := fun x won => by
      rw [← hlast]
      have : ((nn : Int) - 1).toNat = nn - 1 := by omega
      simp [ringM, rgGive, rgStealGive, rgLast, this]
    refine ⟨4, (vs.set a hq).set (b + 1) (rgAdd u (nn - 1 : Nat)), ⟨a, N, 3, 0, b, 9, hp, r, u, nn, ((nn - 1 : Nat) : Int), xs.take nn, some ⟨0, xs.getD (nn - 1) 0, []⟩⟩, by omega, solo_load _ _ w1 (by omega) hsl fun won => ?_, rfl, m.fin h g hd (by omega) h2 ht (by simpa using hvl) ?_ ?_ (fun j j1 j2 => ?_)⟩
    · rw [g1]
      refine solo_load a hp w2 (by omega) (by rw [m.head, hhp]) fun won => ?_
      rw [g2]
      refine solo_cas a hp hq w3 (by omega) hpU hqU (by rw [m.head, hhp]) ?_
      rw [g3]
      refine solo_store (b + 1) _ w4 (by simp; omega) (rgAdd_U _ _) fun x won => ?_
      rw [g4]
      exact .done (by simp [ringM])
    · rw [getD_setN _ _ _ (by omega), getD_setS _ _ _ (by omega), hhq]
    · rw [getD_setS _ _ _ (by simp; omega), ← hu, rgAdd_add]; congr 1; omega
    · rw [getD_setN _ _ _ (Ne.symm j2)]; exact hqo j j1
/-- One after the other is copied. -/
theorem RgMid.copy {nn : Nat} (h : RgL N a us r xs) (g : RgL N b us r2 ts) (hd : a + N + 2 ≤ b ∨ b + N + 2 ≤ a) (h1 : 1 ≤ nn) (h2 : nn ≤ xs.length) (ht : ts.length + nn ≤ N) (h0 : Int) :
    ∀ (d k : Nat) (vs : List Int), k + d = nn - 1 → RgMid N a b us r r2 xs ts nn k vs →
      ∃ (n : Nat) (us' : List Int) (s' : RgS), n ≤ 2 * d + 4 ∧ Solo ringM vs ⟨a, N, 3, 0, b, 6, h0, r, rgAdd r2 ts.length, nn, (k : Int), xs.take k, none⟩ n us' s' ∧ s'.over = some ⟨0, xs.getD (nn - 1) 0, []⟩ ∧ RgFin N a b us r r2 xs ts nn us'
  | 0, k, vs, hk, m => by
    obtain rfl : k = nn - 1 := by omega
    exact m.close h g hd h1 h2 ht h0
  | d + 1, k, vs, hk, m => by
    have hz := rgSz h.right
    have hlen := h.len
    have hgl := g.len
    have hvl := m.len
    have hki : k < xs.length := by omega
    have hci := h.cell (rgAdd r k)
    have hcj := g.cell (rgAdd r2 (ts.length + k : Nat))
    have hsl : vs.getD (rgCell a N (rgAdd r k)) 0 = xs.getD k 0 := by rw [m.rest _ (by omega) (by omega)]; exact h.slots _ hki
    have htk : xs.take k ++ [xs.getD k 0] = xs.take (k + 1) := by rw [List.take_add_one, List.getD, List.getElem?_eq_getElem hki]; rfl
    have hkl : (xs.take (k + 1)).getD k 0 = xs.getD k 0 := by simp only [List.getD]; rw [List.getElem?_take_of_lt (by omega)]
    have hxU : M.U (xs.getD k 0) := h.tasks _ (by rw [List.getD, List.getElem?_eq_getElem hki]; exact List.getElem_mem hki)
    have hne : ¬ (k : Int) = (nn : Int) - 1 := by omega
    obtain ⟨u, hu⟩ : ∃ u, rgAdd r2 ts.length = u := ⟨_, rfl⟩
    have huk : rgAdd u k = rgAdd r2 (ts.length + k : Nat) := by rw [← hu, rgAdd_add]; congr 1
    have w1 : ringM.want ⟨a, N, 3, 0, b, 6, h0, r, u, nn, (k : Int), xs.take k, none⟩ = some ⟨1, ((rgCell a N (rgAdd r k) : Nat) : Int), 0, 0⟩ := by rw [rgCell_int h.right]; simp [ringM, rgWant]
    have g1 : ∀ won, ringM.give ⟨a, N, 3, 0, b, 6, h0, r, u, nn, (k : Int), xs.take k, none⟩ (xs.getD k 0) won = ⟨a, N, 3, 0, b, 60, h0, r, u, nn, (k : Int), xs.take (k + 1), none⟩ := fun won => by
      rw [← htk]
      simp [ringM, rgGive, rgStealGive, hne]
    have w2 : ringM.want ⟨a, N, 3, 0, b, 60, h0, r, u, nn, (k : Int), xs.take (k + 1), none⟩ = some ⟨2, ((rgCell b N (rgAdd r2 (ts.length + k : Nat)) : Nat) : Int), xs.getD k 0, 0⟩ := by
      rw [rgCell_int g.right, ← hkl, ← huk]; simp [ringM, rgWant]
    have g2 : ∀ x won, ringM.give ⟨a, N, 3, 0, b, 60, h0, r, u, nn, (k : Int), xs.take (k + 1), none⟩ x won = ⟨a, N, 3, 0, b, 6, h0, r, u, nn, ((k + 1 : Nat) : Int), xs.take (k + 1), none⟩ := fun x won => by simp [ringM, rgGive, rgStealGive]
    have m' : RgMid N a b us r r2 xs ts nn (k + 1) (vs.set (rgCell b N (rgAdd r2 (ts.length + k : Nat))) (xs.getD k 0)) := by
      refine ⟨by simpa using hvl, ?_, fun j j1 j2 => ?_, fun i hi => ?_⟩
      · rw [getD_setN _ _ _ (by omega)]; exact m.head
      · rw [getD_setN _ _ _ (by omega)]; exact m.rest j j1 j2
      · by_cases e : i = ts.length + k
        · subst e
          rw [getD_setS _ _ _ (by omega)]
          simp only [List.getD]
          rw [List.getElem?_append_right (by omega), show ts.length + k - ts.length = k by omega]
        · have hne2 := rgCell_ne (a := b) g.right r2 (x := (i : Int)) (y := ((ts.length + k : Nat) : Int)) (by omega) (by omega)
          rw [getD_setN _ _ _ (Ne.symm hne2)]
          exact m.slots i (by omega)
    obtain ⟨n, us', s', hn, hs, ho, hf⟩ := RgMid.copy h g hd h1 h2 ht h0 d (k + 1) _ (by omega) m'
    rw [hu] at hs ⊢
    refine ⟨n + 1 + 1, us', s', by omega, solo_load _ _ w1 (by omega) hsl fun won => ?_, ho, hf⟩
    rw [g1]
    refine solo_store _ _ w2 (by omega) hxU fun x won => ?_
    rw [g2]
    exact hs
/-- A Steal of one who is alone. -/
theorem RgL.steal (h : RgL N a us r xs) (g : RgL N b us r2 ts) (hd : a + N + 2 ≤ b ∨ b + N + 2 ≤ a) :
    ∃ (n : Nat) (us' : List Int) (s' : RgS), 0 < n ∧ n ≤ N + 10 ∧ Solo ringM us (rgBegin a N 3 0 b true) n us' s' ∧
      ((N / 2 < ts.length ∧ s'.over = some ⟨4, 0, []⟩ ∧ us' = us) ∨ (ts.length ≤ N / 2 ∧ xs = [] ∧ s'.over = some ⟨5, 0, []⟩ ∧ us' = us) ∨
        ∃ nn, nn = xs.length - xs.length / 2 ∧ 1 ≤ nn ∧ ts.length ≤ N / 2 ∧ s'.over = some ⟨0, xs.getD (nn - 1) 0, []⟩ ∧ RgFin N a b us r r2 xs ts nn us') := by
  have hz := rgSz h.right
  have hlen := h.len
  have hgl := g.len
  have hfew := h.few
  have hgf := g.few
  have hN : rgBegin a N 3 0 b true = ⟨a, N, 3, 0, b, 1, 0, 0, 0, 0, 0, [], none⟩ := rfl
  rw [hN]
  obtain ⟨gd, hgd⟩ : ∃ gd, rgPair r2 r2 = gd := ⟨_, rfl⟩
  have hghi : rgHi gd = r2 := by rw [← hgd]; exact rgHi_pair g.rr
  obtain ⟨hd1, hhd⟩ : ∃ hd1, rgPair r r = hd1 := ⟨_, rfl⟩
  have hhi : rgHi hd1 = r := by rw [← hhd]; exact rgHi_pair h.rr
  have hlo : rgLo hd1 = r := by rw [← hhd]; exact rgLo_pair h.rr
  have hU : M.U hd1 := hhd ▸ h.headU
  obtain ⟨u, hu⟩ : ∃ u, rgAdd r2 ts.length = u := ⟨_, rfl⟩
  have hul : rgLo u = u := by rw [← hu]; exact rgLo_add _ _
  have hua : M.aheadI u r2 = ts.length := by rw [← hu]; exact rgAhead_own g.rr _ (by omega) (by omega)
  obtain ⟨t, ht⟩ : ∃ t, rgAdd r xs.length = t := ⟨_, rfl⟩
  have htl : rgLo t = t := by rw [← ht]; exact rgLo_add _ _
  have hahead : M.aheadI t r = xs.length := by rw [← ht]; exact rgAhead_own h.rr _ (by omega) (by omega)
  have w1 : ringM.want ⟨a, N, 3, 0, b, 1, 0, 0, 0, 0, 0, [], none⟩ = some ⟨1, ((b + 1 : Nat) : Int), 0, 0⟩ := by simp [ringM, rgWant]
  have g1 : ∀ won, ringM.give ⟨a, N, 3, 0, b, 1, 0, 0, 0, 0, 0, [], none⟩ u won = ⟨a, N, 3, 0, b, 2, 0, 0, u, 0, 0, [], none⟩ := fun won => by simp [ringM, rgGive, rgStealGive, hul]
  have w2 : ringM.want ⟨a, N, 3, 0, b, 2, 0, 0, u, 0, 0, [], none⟩ = some ⟨1, (b : Int), 0, 0⟩ := by simp [ringM, rgWant]
  have e2 : ((N / 2 : Nat) : Int) = (N : Int) / 2 := by omega
  by_cases hfull : N / 2 < ts.length
  · have hc2 : (N : Int) / 2 < (ts.length : Int) := by omega
    have g2 : ∀ won, ringM.give ⟨a, N, 3, 0, b, 2, 0, 0, u, 0, 0, [], none⟩ gd won = ⟨a, N, 3, 0, b, 3, 0, 0, u, 0, 0, [], some ⟨4, 0, []⟩⟩ := fun won => by simp [ringM, rgGive, rgStealGive, hghi, hua, hc2]
    refine ⟨2, us, ⟨a, N, 3, 0, b, 3, 0, 0, u, 0, 0, [], some ⟨4, 0, []⟩⟩, by omega, by omega, solo_load _ u w1 (by omega) (by rw [g.tail, hu]) fun won => ?_, .inl ⟨hfull, rfl, rfl⟩⟩
    rw [g1]
    refine solo_load _ gd w2 (by omega) (by rw [g.head, hgd]) fun won => ?_
    rw [g2]
    exact .done (by simp [ringM])
  have hc2 : ¬ (N : Int) / 2 < (ts.length : Int) := by omega
  have g2 : ∀ won, ringM.give ⟨a, N, 3, 0, b, 2, 0, 0, u, 0, 0, [], none⟩ gd won = ⟨a, N, 3, 0, b, 3, 0, 0, u, 0, 0, [], none⟩ := fun won => by simp [ringM, rgGive, rgStealGive, hghi, hua, hc2]
  have w3 : ringM.want ⟨a, N, 3, 0, b, 3, 0, 0, u, 0, 0, [], none⟩ = some ⟨1, (a : Int), 0, 0⟩ := by simp [ringM, rgWant]
  have g3 : ∀ won, ringM.give ⟨a, N, 3, 0, b, 3, 0, 0, u, 0, 0, [], none⟩ hd1 won = ⟨a, N, 3, 0, b, 4, hd1, 0, u, 0, 0, [], none⟩ := fun won => by simp [ringM, rgGive, rgStealGive]
  have w4 : ringM.want ⟨a, N, 3, 0, b, 4, hd1, 0, u, 0, 0, [], none⟩ = some ⟨1, ((a + 1 : Nat) : Int), 0, 0⟩ := by simp [ringM, rgWant]
  have hc4 : ¬ (N : Int) < (xs.length : Int) := by omega
  by_cases hxs : xs = []
  · have hc5 : (xs.length : Int) < 1 := by simp [hxs]
    have g4 : ∀ won, ringM.give ⟨a, N, 3, 0, b, 4, hd1, 0, u, 0, 0, [], none⟩ t won = ⟨a, N, 3, 0, b, 5, hd1, 0, u, rgCount xs.length, 0, [], some ⟨5, 0, []⟩⟩ := fun won => by simp [ringM, rgGive, rgStealGive, hhi, hlo, htl, hahead, hc4, hc5]
    refine ⟨4, us, ⟨a, N, 3, 0, b, 5, hd1, 0, u, rgCount xs.length, 0, [], some ⟨5, 0, []⟩⟩, by omega, by omega, solo_load _ u w1 (by omega) (by rw [g.tail, hu]) fun won => ?_, .inr (.inl ⟨by omega, hxs, rfl, rfl⟩)⟩
    rw [g1]
    refine solo_load _ gd w2 (by omega) (by rw [g.head, hgd]) fun won => ?_
    rw [g2]
    refine solo_load _ hd1 w3 (by omega) (by rw [h.head, hhd]) fun won => ?_
    rw [g3]
    refine solo_load _ t w4 (by omega) (by rw [h.tail, ht]) fun won => ?_
    rw [g4]
    exact .done (by simp [ringM])
  have hpos : 0 < xs.length := List.length_pos_iff.2 hxs
  obtain ⟨nn, hnn⟩ : ∃ nn, xs.length - xs.length / 2 = nn := ⟨_, rfl⟩
  have hcn : rgCount xs.length = (nn : Int) := by rw [rgCount_small (by omega)]; omega
  have hc5 : ¬ (xs.length : Int) < 1 := by omega
  have g4 : ∀ won, ringM.give ⟨a, N, 3, 0, b, 4, hd1, 0, u, 0, 0, [], none⟩ t won = ⟨a, N, 3, 0, b, 5, hd1, 0, u, nn, 0, [], none⟩ := fun won => by simp [ringM, rgGive, rgStealGive, hhi, hlo, htl, hahead, hc4, hc5, hcn]
  obtain ⟨hp, hhp⟩ : ∃ hp, rgPair r (rgAdd r nn) = hp := ⟨_, rfl⟩
  have hpU : M.U hp := hhp ▸ rgPair_U h.rr (rgAdd_range _ _)
  have w5 : ringM.want ⟨a, N, 3, 0, b, 5, hd1, 0, u, nn, 0, [], none⟩ = some ⟨3, (a : Int), hd1, hp⟩ := by rw [← hhp]; simp [ringM, rgWant, hhi, hlo]
  have g5 : ringM.give ⟨a, N, 3, 0, b, 5, hd1, 0, u, nn, 0, [], none⟩ hd1 true = ⟨a, N, 3, 0, b, 6, hd1, r, u, nn, ((0 : Nat) : Int), xs.take 0, none⟩ := by simp [ringM, rgGive, rgStealGive, hlo]
  have mid : RgMid N a b us r r2 xs ts nn 0 (us.set a hp) := by
    refine ⟨by simp, by rw [getD_setS _ _ _ (by omega), hhp], fun j j1 _ => getD_setN _ _ _ (Ne.symm j1), fun i hi => ?_⟩
    have := g.cell (rgAdd r2 i)
    rw [getD_setN _ _ _ (by omega), g.slots i (by omega)]
    simp only [List.getD]
    rw [List.getElem?_append_left (by omega)]
  obtain ⟨n, us', s', hn, hs, ho, hf⟩ := RgMid.copy h g hd (by omega) (by omega) (by omega) hd1 (nn - 1) 0 _ (by omega) mid
  rw [hu] at hs
  refine ⟨n + 1 + 1 + 1 + 1 + 1, us', s', by omega, by omega, solo_load _ u w1 (by omega) (by rw [g.tail, hu]) fun won => ?_, .inr (.inr ⟨nn, hnn.symm, by omega, by omega, ho, hf⟩)⟩
  rw [g1]
  refine solo_load _ gd w2 (by omega) (by rw [g.head, hgd]) fun won => ?_
  rw [g2]
  refine solo_load _ hd1 w3 (by omega) (by rw [h.head, hhd]) fun won => ?_
  rw [g3]
  refine solo_load _ t w4 (by omega) (by rw [h.tail, ht]) fun won => ?_
  rw [g4]
  refine solo_cas a hd1 hp w5 (by omega) hU hpU (by rw [h.head, hhd]) ?_
  rw [g5]
  exact hs
end
end Go.Proofs.YtjbgkaleickknaaGreat
