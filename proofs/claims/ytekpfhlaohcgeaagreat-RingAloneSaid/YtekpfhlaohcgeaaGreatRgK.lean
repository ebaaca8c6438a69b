/-
  A Steal of one who is alone: half of a ring, into another one.
-/
import Derived.Test.YtekpfhlaohcgeaaGreatRgL
namespace Go.Proofs.YtekpfhlaohcgeaaGreat
set_option maxRecDepth 100000
set_option linter.unusedSimpArgs false
set_option linter.unusedVariables false
open Go

section
variable {N a b : Nat} {us : List Int} {r r2 : Int} {xs ts : List Int}
/-- What k of the stolen tasks are copied already. -/
structure RgMid (N a b : Nat) (us : List Int) (r r2 : Int) (xs ts : List Int) (nn k : Nat) (vs : List Int) : Prop where
  len : vs.length = us.length
  head : vs.getD a 0 = rgPair r (rgAdd r nn)
  rest : ∀ j, j ≠ a → (j < b + 2 ∨ b + N + 2 ≤ j) → vs.getD j 0 = us.getD j 0
  slots : ∀ i : Nat, i < ts.length + k → vs.getD (rgCell b N (rgAdd r2 i)) 0 = (ts ++ xs).getD i 0
/-- What a Steal that tells Fine leaves. -/
structure RgFin (N a b : Nat) (us : List Int) (r r2 : Int) (xs ts : List Int) (nn : Nat) (vs : List Int) : Prop where
  len : vs.length = us.length
  own : RgL N a vs (rgAdd r nn) (xs.drop nn)
  other : RgL N b vs r2 (ts ++ xs.take (nn - 1))
  rest : ∀ j, (j < a ∨ a + N + 2 ≤ j) → (j < b ∨ b + N + 2 ≤ j) → vs.getD j 0 = us.getD j 0
theorem RgMid.fin {nn : Nat} {vs : List Int} (h : RgL N a us r xs) (g : RgL N b us r2 ts) (hd : a + N + 2 ≤ b ∨ b + N + 2 ≤ a) (h1 : 1 ≤ nn) (h2 : nn ≤ xs.length) (ht : ts.length + nn ≤ N) (m : RgMid N a b us r r2 xs ts nn (nn - 1) vs) {vs' : List Int} (hl : vs'.length = us.length)
    (hh : vs'.getD a 0 = rgPair (rgAdd r nn) (rgAdd r nn)) (htl : vs'.getD (b + 1) 0 = rgAdd r2 (ts.length + nn - 1)) (hc : ∀ j, j ≠ a → j ≠ b + 1 → vs'.getD j 0 = vs.getD j 0) : RgFin N a b us r r2 xs ts nn vs' := by
  have hz := rgSz h.right
  refine ⟨hl, h.gone nn h2 hl hh (fun j j1 j2 => ?_), ⟨g.right, by rw [hl]; exact g.len, g.rr, ?_, ?_, ?_, fun i hi => ?_, fun x hx => ?_⟩, fun j j1 j2 => ?_⟩
  · rw [hc j (by omega) (by omega), m.rest j (by omega) (by omega)]
  · rw [hc b (by omega) (by omega), m.rest b (by omega) (by omega)]; exact g.head
  · rw [htl]
    congr 1
    simp
    omega
  · simp; omega
  · have hi2 : i < ts.length + (nn - 1) := by simp at hi; omega
    have := g.cell (rgAdd r2 i)
    rw [hc _ (by omega) (by omega), m.slots i hi2]
    by_cases e : i < ts.length
    · simp [List.getD, List.getElem?_append_left e]
    · simp only [List.getD, List.getElem?_append_right (show ts.length ≤ i by omega)]
      rw [List.getElem?_take_of_lt (by omega)]
  · rcases List.mem_append.1 hx with h3 | h3
    · exact g.tasks x h3
    · exact h.tasks x (List.mem_of_mem_take h3)
  · rw [hc j (by omega) (by omega), m.rest j (by omega) (by omega)]

/-- The last task is loaded, and the ring opened again. -/
theorem RgMid.close {nn : Nat} {vs : List Int} (h : RgL N a us r xs) (g : RgL N b us r2 ts) (hd : a + N + 2 ≤ b ∨ b + N + 2 ≤ a) (h1 : 1 ≤ nn) (h2 : nn ≤ xs.length) (ht : ts.length + nn ≤ N) (m : RgMid N a b us r r2 xs ts nn (nn - 1) vs) (h0 : Int) :
    ∃ (n : Nat) (us' : List Int) (s' : RgS), n ≤ 4 ∧ Solo ringM vs ⟨a, N, 3, 0, b, 6, h0, r, rgAdd r2 ts.length, nn, ((nn - 1 : Nat) : Int), xs.take (nn - 1), none⟩ n us' s' ∧ s'.over = some ⟨0, xs.getD (nn - 1) 0, []⟩ ∧ RgFin N a b us r r2 xs ts nn us' := by
  have hz := rgSz h.right
  have hlen := h.len
  have hgl := g.len
  have hvl := m.len
  obtain ⟨u, hu⟩ : ∃ u, rgAdd r2 ts.length = u := ⟨_, rfl⟩
  rw [hu]
  have hci := h.cell (rgAdd r (nn - 1 : Nat))
  have hki : nn - 1 < xs.length := by omega
  have hsl : vs.getD (rgCell a N (rgAdd r (nn - 1 : Nat))) 0 = xs.getD (nn - 1) 0 := by rw [m.rest _ (by omega) (by omega)]; exact h.slots _ hki
  have htk : xs.take (nn - 1) ++ [xs.getD (nn - 1) 0] = xs.take nn := by
    have := List.take_add_one (i := nn - 1) (l := xs)
    rw [show nn - 1 + 1 = nn by omega] at this
    rw [this, List.getD, List.getElem?_eq_getElem hki]; rfl
  have hn1 : ((nn - 1 : Nat) : Int) = (nn : Int) - 1 := by omega
  have hlast : (xs.take nn).getD (nn - 1) 0 = xs.getD (nn - 1) 0 := by simp only [List.getD]; rw [List.getElem?_take_of_lt (by omega)]
  obtain ⟨hp, hhp⟩ : ∃ hp, rgPair r (rgAdd r nn) = hp := ⟨_, rfl⟩
  have hpl : rgLo hp = rgAdd r nn := by rw [← hhp]; exact rgLo_pair (rgAdd_range _ _)
  have hpU : M.U hp := hhp ▸ rgPair_U h.rr (rgAdd_range _ _)
  obtain ⟨hq, hhq⟩ : ∃ hq, rgPair (rgAdd r nn) (rgAdd r nn) = hq := ⟨_, rfl⟩
  have hqU : M.U hq := hhq ▸ rgPair_U (rgAdd_range _ _) (rgAdd_range _ _)
  have w1 : ringM.want ⟨a, N, 3, 0, b, 6, h0, r, u, nn, ((nn - 1 : Nat) : Int), xs.take (nn - 1), none⟩ = some ⟨1, ((rgCell a N (rgAdd r (nn - 1 : Nat)) : Nat) : Int), 0, 0⟩ := by rw [rgCell_int h.right]; simp [ringM, rgWant]
  have g1 : ∀ won, ringM.give ⟨a, N, 3, 0, b, 6, h0, r, u, nn, ((nn - 1 : Nat) : Int), xs.take (nn - 1), none⟩ (xs.getD (nn - 1) 0) won = ⟨a, N, 3, 0, b, 7, h0, r, u, nn, ((nn - 1 : Nat) : Int), xs.take nn, none⟩ := fun won => by
    rw [← htk]
    simp [ringM, rgGive, rgStealGive, hn1]
  have w2 : ringM.want ⟨a, N, 3, 0, b, 7, h0, r, u, nn, ((nn - 1 : Nat) : Int), xs.take nn, none⟩ = some ⟨1, (a : Int), 0, 0⟩ := by simp [ringM, rgWant]
  have g2 : ∀ won, ringM.give ⟨a, N, 3, 0, b, 7, h0, r, u, nn, ((nn - 1 : Nat) : Int), xs.take nn, none⟩ hp won = ⟨a, N, 3, 0, b, 8, hp, r, u, nn, ((nn - 1 : Nat) : Int), xs.take nn, none⟩ := fun won => by simp [ringM, rgGive, rgStealGive]
  have w3 : ringM.want ⟨a, N, 3, 0, b, 8, hp, r, u, nn, ((nn - 1 : Nat) : Int), xs.take nn, none⟩ = some ⟨3, (a : Int), hp, hq⟩ := by rw [← hhq]; simp [ringM, rgWant, hpl]
  have hqo : ∀ j, j ≠ a → (vs.set a hq).getD j 0 = vs.getD j 0 := fun j hj => getD_setN _ _ _ (Ne.symm hj)
  have htail : vs.getD (b + 1) 0 = u := by rw [m.rest _ (by omega) (by omega), g.tail, hu]
  by_cases hone : nn = 1
  · subst hone
    have g3 : ringM.give ⟨a, N, 3, 0, b, 8, hp, r, u, (1 : Nat), ((1 - 1 : Nat) : Int), xs.take 1, none⟩ hp true = ⟨a, N, 3, 0, b, 9, hp, r, u, (1 : Nat), ((1 - 1 : Nat) : Int), xs.take 1, some ⟨0, xs.getD (1 - 1) 0, []⟩⟩ := by
      rw [← hlast]
      simp [ringM, rgGive, rgStealGive, rgLast]
    refine ⟨3, vs.set a hq, ⟨a, N, 3, 0, b, 9, hp, r, u, (1 : Nat), ((1 - 1 : Nat) : Int), xs.take 1, some ⟨0, xs.getD (1 - 1) 0, []⟩⟩, by omega, solo_load _ _ w1 (by omega) hsl fun won => ?_, rfl, m.fin h g hd (by omega) h2 ht (by simpa using hvl) (by rw [getD_setS _ _ _ (by omega), hhq]) ?_ (fun j j1 _ => hqo j j1)⟩
    · rw [g1]
      refine solo_load a hp w2 (by omega) (by rw [m.head, hhp]) fun won => ?_
      rw [g2]
      refine solo_cas a hp hq w3 (by omega) hpU hqU (by rw [m.head, hhp]) ?_
      rw [g3]
      exact .done (by simp [ringM])
    · rw [hqo _ (by omega), htail, ← hu]; congr 1
      omega
  · have hne : ¬ (nn : Int) = 1 := by omega
    have g3 : ringM.give ⟨a, N, 3, 0, b, 8, hp, r, u, nn, ((nn - 1 : Nat) : Int), xs.take nn, none⟩ hp true = ⟨a, N, 3, 0, b, 9, hp, r, u, nn, ((nn - 1 : Nat) : Int), xs.take nn, none⟩ := by
      simp [ringM, rgGive, rgStealGive]
      exact hne
    have w4 : ringM.want ⟨a, N, 3, 0, b, 9, hp, r, u, nn, ((nn - 1 : Nat) : Int), xs.take nn, none⟩ = some ⟨2, ((b + 1 : Nat) : Int), rgAdd u (nn - 1 : Nat), 0⟩ := by rw [hn1]; simp [ringM, rgWant]
    have g4 : ∀ x won, ringM.give ⟨a, N, 3, 0, b, 9, hp, r, u, nn, ((nn - 1 : Nat) : Int), xs.take nn, none⟩ x won = ⟨a, N, 3, 0, b, 9, hp, r, u, nn, ((nn - 1 : Nat) : Int), xs.take nn, some ⟨0, xs.getD (nn - 1) 0, []⟩⟩ := fun x won => by
      rw [← hlast]
      have : ((nn : Int) - 1).toNat = nn - 1 := by omega
      simp [ringM, rgGive, rgStealGive, rgLast, this]
    refine ⟨4, (vs.set a hq).set (b + 1) (rgAdd u (nn - 1 : Nat)), ⟨a, N, 3, 0, b, 9, hp, r, u, nn, ((nn - 1 : Nat) : Int), xs.take nn, some ⟨0, xs.getD (nn - 1) 0, []⟩⟩, by omega, solo_load _ _ w1 (by omega) hsl fun won => ?_, rfl, m.fin h g hd (by omega) h2 ht (by simpa using hvl) ?_ ?_ (fun j j1 j2 => ?_)⟩
    · rw [g1]
      refine solo_load a hp w2 (by omega) (by rw [m.head, hhp]) fun won => ?_
      rw [g2]
      refine solo_cas a hp hq w3 (by omega) hpU hqU (by rw [m.head, hhp]) ?_
      rw [g3]
      refine solo_store (b + 1) _ w4 (by simp; omega) (rgAdd_U _ _) fun x won => ?_
      rw [g4]
      exact .done (by simp [ringM])
    · rw [getD_setN _ _ _ (by omega), getD_setS _ _ _ (by omega), hhq]
    · rw [getD_setS _ _ _ (by simp; omega), ← hu, rgAdd_add]; congr 1; omega
    · rw [getD_setN _ _ _ (Ne.symm j2)]; exact hqo j j1
/-- One after the other is copied. -/
theorem RgMid.copy {nn : Nat} (h : RgL N a us r xs) (g : RgL N b us r2 ts) (hd : a + N + 2 ≤ b ∨ b + N + 2 ≤ a) (h1 : 1 ≤ nn) (h2 : nn ≤ xs.length) (ht : ts.length + nn ≤ N) (h0 : Int) :
    ∀ (d k : Nat) (vs : List Int), k + d = nn - 1 → RgMid N a b us r r2 xs ts nn k vs →
      ∃ (n : Nat) (us' : List Int) (s' : RgS), n ≤ 2 * d + 4 ∧ Solo ringM vs ⟨a, N, 3, 0, b, 6, h0, r, rgAdd r2 ts.length, nn, (k : Int), xs.take k, none⟩ n us' s' ∧ s'.over = some ⟨0, xs.getD (nn - 1) 0, []⟩ ∧ RgFin N a b us r r2 xs ts nn us'
  | 0, k, vs, hk, m => by
    obtain rfl : k = nn - 1 := by omega
    exact m.close h g hd h1 h2 ht h0
  | d + 1, k, vs, hk, m => by
    have hz := rgSz h.right
    have hlen := h.len
    have hgl := g.len
    have hvl := m.len
    have hki : k < xs.length := by omega
    have hci := h.cell (rgAdd r k)
    have hcj := g.cell (rgAdd r2 (ts.length + k : Nat))
    have hsl : vs.getD (rgCell a N (rgAdd r k)) 0 = xs.getD k 0 := by rw [m.rest _ (by omega) (by omega)]; exact h.slots _ hki
    have htk : xs.take k ++ [xs.getD k 0] = xs.take (k + 1) := by rw [List.take_add_one, List.getD, List.getElem?_eq_getElem hki]; rfl
    have hkl : (xs.take (k + 1)).getD k 0 = xs.getD k 0 := by simp only [List.getD]; rw [List.getElem?_take_of_lt (by omega)]
    have hxU : M.U (xs.getD k 0) := h.tasks _ (by rw [List.getD, List.getElem?_eq_getElem hki]; exact List.getElem_mem hki)
    have hne : ¬ (k : Int) = (nn : Int) - 1 := by omega
    obtain ⟨u, hu⟩ : ∃ u, rgAdd r2 ts.length = u := ⟨_, rfl⟩
    have huk : rgAdd u k = rgAdd r2 (ts.length + k : Nat) := by rw [← hu, rgAdd_add]; congr 1
    have w1 : ringM.want ⟨a, N, 3, 0, b, 6, h0, r, u, nn, (k : Int), xs.take k, none⟩ = some ⟨1, ((rgCell a N (rgAdd r k) : Nat) : Int), 0, 0⟩ := by rw [rgCell_int h.right]; simp [ringM, rgWant]
    have g1 : ∀ won, ringM.give ⟨a, N, 3, 0, b, 6, h0, r, u, nn, (k : Int), xs.take k, none⟩ (xs.getD k 0) won = ⟨a, N, 3, 0, b, 60, h0, r, u, nn, (k : Int), xs.take (k + 1), none⟩ := fun won => by
      rw [← htk]
      simp [ringM, rgGive, rgStealGive, hne]
    have w2 : ringM.want ⟨a, N, 3, 0, b, 60, h0, r, u, nn, (k : Int), xs.take (k + 1), none⟩ = some ⟨2, ((rgCell b N (rgAdd r2 (ts.length + k : Nat)) : Nat) : Int), xs.getD k 0, 0⟩ := by
      rw [rgCell_int g.right, ← hkl, ← huk]; simp [ringM, rgWant]
    have g2 : ∀ x won, ringM.give ⟨a, N, 3, 0, b, 60, h0, r, u, nn, (k : Int), xs.take (k + 1), none⟩ x won = ⟨a, N, 3, 0, b, 6, h0, r, u, nn, ((k + 1 : Nat) : Int), xs.take (k + 1), none⟩ := fun x won => by simp [ringM, rgGive, rgStealGive]
    have m' : RgMid N a b us r r2 xs ts nn (k + 1) (vs.set (rgCell b N (rgAdd r2 (ts.length + k : Nat))) (xs.getD k 0)) := by
      refine ⟨by simpa using hvl, ?_, fun j j1 j2 => ?_, fun i hi => ?_⟩
      · rw [getD_setN _ _ _ (by omega)]; exact m.head
      · rw [getD_setN _ _ _ (by omega)]; exact m.rest j j1 j2
      · by_cases e : i = ts.length + k
        · subst e
          rw [getD_setS _ _ _ (by omega)]
          simp only [List.getD]
          rw [List.getElem?_append_right (by omega), show ts.length + k - ts.length = k by omega]
        · have hne2 := rgCell_ne (a := b) g.right r2 (x := (i : Int)) (y := ((ts.length + k : Nat) : Int)) (by omega) (by omega)
          rw [getD_setN _ _ _ (Ne.symm hne2)]
          exact m.slots i (by omega)
    obtain ⟨n, us', s', hn, hs, ho, hf⟩ := RgMid.copy h g hd h1 h2 ht h0 d (k + 1) _ (by omega) m'
    rw [hu] at hs ⊢
    refine ⟨n + 1 + 1, us', s', by omega, solo_load _ _ w1 (by omega) hsl fun won => ?_, ho, hf⟩
    rw [g1]
    refine solo_store _ _ w2 (by omega) hxU fun x won => ?_
    rw [g2]
    exact hs
/-- A Steal of one who is alone. -/
theorem RgL.steal (h : RgL N a us r xs) (g : RgL N b us r2 ts) (hd : a + N + 2 ≤ b ∨ b + N + 2 ≤ a) :
    ∃ (n : Nat) (us' : List Int) (s' : RgS), 0 < n ∧ n ≤ N + 10 ∧ Solo ringM us (rgBegin a N 3 0 b true) n us' s' ∧
      ((N / 2 < ts.length ∧ s'.over = some ⟨4, 0, []⟩ ∧ us' = us) ∨ (ts.length ≤ N / 2 ∧ xs = [] ∧ s'.over = some ⟨5, 0, []⟩ ∧ us' = us) ∨
        ∃ nn, nn = xs.length - xs.length / 2 ∧ 1 ≤ nn ∧ ts.length ≤ N / 2 ∧ s'.over = some ⟨0, xs.getD (nn - 1) 0, []⟩ ∧ RgFin N a b us r r2 xs ts nn us') := by
  have hz := rgSz h.right
  have hlen := h.len
  have hgl := g.len
  have hfew := h.few
  have hgf := g.few
  have hN : rgBegin a N 3 0 b true = ⟨a, N, 3, 0, b, 1, 0, 0, 0, 0, 0, [], none⟩ := rfl
  rw [hN]
  obtain ⟨gd, hgd⟩ : ∃ gd, rgPair r2 r2 = gd := ⟨_, rfl⟩
  have hghi : rgHi gd = r2 := by rw [← hgd]; exact rgHi_pair g.rr
  obtain ⟨hd1, hhd⟩ : ∃ hd1, rgPair r r = hd1 := ⟨_, rfl⟩
  have hhi : rgHi hd1 = r := by rw [← hhd]; exact rgHi_pair h.rr
  have hlo : rgLo hd1 = r := by rw [← hhd]; exact rgLo_pair h.rr
  have hU : M.U hd1 := hhd ▸ h.headU
  obtain ⟨u, hu⟩ : ∃ u, rgAdd r2 ts.length = u := ⟨_, rfl⟩
  have hul : rgLo u = u := by rw [← hu]; exact rgLo_add _ _
  have hua : M.aheadI u r2 = ts.length := by rw [← hu]; exact rgAhead_own g.rr _ (by omega) (by omega)
  obtain ⟨t, ht⟩ : ∃ t, rgAdd r xs.length = t := ⟨_, rfl⟩
  have htl : rgLo t = t := by rw [← ht]; exact rgLo_add _ _
  have hahead : M.aheadI t r = xs.length := by rw [← ht]; exact rgAhead_own h.rr _ (by omega) (by omega)
  have w1 : ringM.want ⟨a, N, 3, 0, b, 1, 0, 0, 0, 0, 0, [], none⟩ = some ⟨1, ((b + 1 : Nat) : Int), 0, 0⟩ := by simp [ringM, rgWant]
  have g1 : ∀ won, ringM.give ⟨a, N, 3, 0, b, 1, 0, 0, 0, 0, 0, [], none⟩ u won = ⟨a, N, 3, 0, b, 2, 0, 0, u, 0, 0, [], none⟩ := fun won => by simp [ringM, rgGive, rgStealGive, hul]
  have w2 : ringM.want ⟨a, N, 3, 0, b, 2, 0, 0, u, 0, 0, [], none⟩ = some ⟨1, (b : Int), 0, 0⟩ := by simp [ringM, rgWant]
  have e2 : ((N / 2 : Nat) : Int) = (N : Int) / 2 := by omega
  by_cases hfull : N / 2 < ts.length
  · have hc2 : (N : Int) / 2 < (ts.length : Int) := by omega
    have g2 : ∀ won, ringM.give ⟨a, N, 3, 0, b, 2, 0, 0, u, 0, 0, [], none⟩ gd won = ⟨a, N, 3, 0, b, 3, 0, 0, u, 0, 0, [], some ⟨4, 0, []⟩⟩ := fun won => by simp [ringM, rgGive, rgStealGive, hghi, hua, hc2]
    refine ⟨2, us, ⟨a, N, 3, 0, b, 3, 0, 0, u, 0, 0, [], some ⟨4, 0, []⟩⟩, by omega, by omega, solo_load _ u w1 (by omega) (by rw [g.tail, hu]) fun won => ?_, .inl ⟨hfull, rfl, rfl⟩⟩
    rw [g1]
    refine solo_load _ gd w2 (by omega) (by rw [g.head, hgd]) fun won => ?_
    rw [g2]
    exact .done (by simp [ringM])
  have hc2 : ¬ (N : Int) / 2 < (ts.length : Int) := by omega
  have g2 : ∀ won, ringM.give ⟨a, N, 3, 0, b, 2, 0, 0, u, 0, 0, [], none⟩ gd won = ⟨a, N, 3, 0, b, 3, 0, 0, u, 0, 0, [], none⟩ := fun won => by simp [ringM, rgGive, rgStealGive, hghi, hua, hc2]
  have w3 : ringM.want ⟨a, N, 3, 0, b, 3, 0, 0, u, 0, 0, [], none⟩ = some ⟨1, (a : Int), 0, 0⟩ := by simp [ringM, rgWant]
  have g3 : ∀ won, ringM.give ⟨a, N, 3, 0, b, 3, 0, 0, u, 0, 0, [], none⟩ hd1 won = ⟨a, N, 3, 0, b, 4, hd1, 0, u, 0, 0, [], none⟩ := fun won => by simp [ringM, rgGive, rgStealGive]
  have w4 : ringM.want ⟨a, N, 3, 0, b, 4, hd1, 0, u, 0, 0, [], none⟩ = some ⟨1, ((a + 1 : Nat) : Int), 0, 0⟩ := by simp [ringM, rgWant]
  have hc4 : ¬ (N : Int) < (xs.length : Int) := by omega
  by_cases hxs : xs = []
  · have hc5 : (xs.length : Int) < 1 := by simp [hxs]
    have g4 : ∀ won, ringM.give ⟨a, N, 3, 0, b, 4, hd1, 0, u, 0, 0, [], none⟩ t won = ⟨a, N, 3, 0, b, 5, hd1, 0, u, rgCount xs.length, 0, [], some ⟨5, 0, []⟩⟩ := fun won => by simp [ringM, rgGive, rgStealGive, hhi, hlo, htl, hahead, hc4, hc5]
    refine ⟨4, us, ⟨a, N, 3, 0, b, 5, hd1, 0, u, rgCount xs.length, 0, [], some ⟨5, 0, []⟩⟩, by omega, by omega, solo_load _ u w1 (by omega) (by rw [g.tail, hu]) fun won => ?_, .inr (.inl ⟨by omega, hxs, rfl, rfl⟩)⟩
    rw [g1]
    refine solo_load _ gd w2 (by omega) (by rw [g.head, hgd]) fun won => ?_
    rw [g2]
    refine solo_load _ hd1 w3 (by omega) (by rw [h.head, hhd]) fun won => ?_
    rw [g3]
    refine solo_load _ t w4 (by omega) (by rw [h.tail, ht]) fun won => ?_
    rw [g4]
    exact .done (by simp [ringM])
  have hpos : 0 < xs.length := List.length_pos_iff.2 hxs
  obtain ⟨nn, hnn⟩ : ∃ nn, xs.length - xs.length / 2 = nn := ⟨_, rfl⟩
  have hcn : rgCount xs.length = (nn : Int) := by rw [rgCount_small (by omega)]; omega
  have hc5 : ¬ (xs.length : Int) < 1 := by omega
  have g4 : ∀ won, ringM.give ⟨a, N, 3, 0, b, 4, hd1, 0, u, 0, 0, [], none⟩ t won = ⟨a, N, 3, 0, b, 5, hd1, 0, u, nn, 0, [], none⟩ := fun won => by simp [ringM, rgGive, rgStealGive, hhi, hlo, htl, hahead, hc4, hc5, hcn]
  obtain ⟨hp, hhp⟩ : ∃ hp, rgPair r (rgAdd r nn) = hp := ⟨_, rfl⟩
  have hpU : M.U hp := hhp ▸ rgPair_U h.rr (rgAdd_range _ _)
  have w5 : ringM.want ⟨a, N, 3, 0, b, 5, hd1, 0, u, nn, 0, [], none⟩ = some ⟨3, (a : Int), hd1, hp⟩ := by rw [← hhp]; simp [ringM, rgWant, hhi, hlo]
  have g5 : ringM.give ⟨a, N, 3, 0, b, 5, hd1, 0, u, nn, 0, [], none⟩ hd1 true = ⟨a, N, 3, 0, b, 6, hd1, r, u, nn, ((0 : Nat) : Int), xs.take 0, none⟩ := by simp [ringM, rgGive, rgStealGive, hlo]
  have mid : RgMid N a b us r r2 xs ts nn 0 (us.set a hp) := by
    refine ⟨by simp, by rw [getD_setS _ _ _ (by omega), hhp], fun j j1 _ => getD_setN _ _ _ (Ne.symm j1), fun i hi => ?_⟩
    have := g.cell (rgAdd r2 i)
    rw [getD_setN _ _ _ (by omega), g.slots i (by omega)]
    simp only [List.getD]
    rw [List.getElem?_append_left (by omega)]
  obtain ⟨n, us', s', hn, hs, ho, hf⟩ := RgMid.copy h g hd (by omega) (by omega) (by omega) hd1 (nn - 1) 0 _ (by omega) mid
  rw [hu] at hs
  refine ⟨n + 1 + 1 + 1 + 1 + 1, us', s', by omega, by omega, solo_load _ u w1 (by omega) (by rw [g.tail, hu]) fun won => ?_, .inr (.inr ⟨nn, hnn.symm, by omega, by omega, ho, hf⟩)⟩
  rw [g1]
  refine solo_load _ gd w2 (by omega) (by rw [g.head, hgd]) fun won => ?_
  rw [g2]
  refine solo_load _ hd1 w3 (by omega) (by rw [h.head, hhd]) fun won => ?_
  rw [g3]
  refine solo_load _ t w4 (by omega) (by rw [h.tail, ht]) fun won => ?_
  rw [g4]
  refine solo_cas a hd1 hp w5 (by omega) hU hpU (by rw [h.head, hhd]) ?_
  rw [g5]
  exact hs
end
end Go.Proofs.YtekpfhlaohcgeaaGreat
