import Derived.Test.YtjbgkaleickknaaGreatRgNa
/-
  What a pop's step makes of what the workers keep: the owner's, and another one's of its own ring.
-/
namespace Go.Proofs.YtjbgkaleickknaaGreat
set_option maxRecDepth 100000
set_option linter.unusedSimpArgs false
set_option linter.unusedVariables false
open Go

section
variable {N W i j : Nat} {fr : Int} {us us' : List Int} {ss : Nat → Option RgS} {g g' : RgG} {s s' u : RgS}
theorem RgEv.stop (h2 : s'.kind = s.kind) (h3 : s'.task = s.task) (ho : RgOut i s s' g.last g.last []) : RgEv g g i s s' [] := ⟨fun v => by simp, fun _ _ => ⟨rfl, rfl⟩, by omega, h2, h3, ho⟩
/-- A step of the owner's pop. -/
theorem RgInv.pop0 (h : RgInv N W fr us ss g) (hW : 0 < W) (hs : ss 0 = some s) (ho : s.over = none) (hp : RgQ N fr us g s) : RgStep N W fr us ss g 0 s := by
  obtain ⟨hr, hlen, hN2, hN, hNh, hNe⟩ := h.mem.cells hW
  obtain ⟨r1, r2, r3, r4, r5⟩ := h.mem.range
  have hk := hp.kind
  have ha := hp.at0
  have hz := hp.sz
  have nk1 : ¬ s.kind = 1 := by omega
  have hnc : ∀ s' : RgS, s'.kind = 2 → rgClaims s' → rgClaims s := fun s' e c => by have := c.1; omega
  have hcell := fun x => rgCell_range (a := 0) hr (rgAdd fr x)
  have hint := fun x => rgCell_int (a := 0) hr (rgAdd fr x)
  rcases hp.st with ⟨hh, hst | ⟨hst, a, b, a1, a2, b1, b2, hhd⟩ | ⟨hst, a, b, a1, a2, b1, b2, hhd, hbT⟩⟩ | ⟨hst, v, b, hlo, hsl, hh, hl1, hl2⟩
  · -- the head
    refine rgLoad 0 (by omega) (by simp [rgWant, hk, hst, ha]) fun won => ?_
    have hg : rgGive s (us.getD 0 0) won = { s with h := rgH fr g.S g.R, step := 2 } := by unfold rgGive rgPopGive; rw [if_neg nk1, if_pos hk, if_pos hst, h.mem.head]
    rw [hg]
    exact ⟨g, [], h.stay hW hs ho (fun _ => .inl ⟨rfl, .inr ⟨ha, hz, hk, hp.took, .inl ⟨hh, .inr (.inl ⟨rfl, g.S, g.R, r1, Int.le_refl _, by omega, Int.le_refl _, rfl⟩)⟩⟩⟩) (fun e => absurd ho e) (fun _ => hnc _ hk), .stay ho rfl rfl⟩
  · -- the tail
    refine rgLoad 1 (by omega) (by simp [rgWant, hk, hst, ha]) fun won => ?_
    rw [h.mem.tail]
    have hah : M.aheadI (rgLo (rgAdd fr g.T)) (rgLo s.h) = g.T - b := by rw [rgLo_add, hhd, rgH_lo]; exact rgAhead_add fr g.T b (by omega) (by omega)
    by_cases e1 : g.T - b < 1
    · have hg : rgGive s (rgAdd fr g.T) won = { s with step := 3, over := some ⟨5, 0, []⟩ } := by unfold rgGive rgPopGive; rw [if_neg nk1, if_pos hk, if_neg (by omega), if_pos hst, hah, if_pos e1]
      rw [hg]
      exact ⟨g, [], h.stay hW hs ho (fun e => by simp at e) (fun _ => hh) (fun e => by simp at e), .stop rfl rfl (.empty hk rfl rfl)⟩
    · have hg : rgGive s (rgAdd fr g.T) won = { s with step := 3 } := by unfold rgGive rgPopGive; rw [if_neg nk1, if_pos hk, if_neg (by omega), if_pos hst, hah, if_neg e1]
      rw [hg]
      exact ⟨g, [], h.stay hW hs ho (fun _ => .inl ⟨rfl, .inr ⟨ha, hz, hk, hp.took, .inl ⟨hh, .inr (.inr ⟨rfl, a, b, a1, a2, b1, b2, hhd, by omega⟩)⟩⟩⟩) (fun e => absurd ho e) (fun _ => hnc _ hk), .stay ho rfl rfl⟩
  · -- it is claimed
    obtain ⟨S', hS'⟩ : ∃ S' : Int, (if a = b then b + 1 else a) = S' := ⟨_, rfl⟩
    have hnew : rgPair (if rgHi s.h = rgLo s.h then rgAdd (rgLo s.h) 1 else rgHi s.h) (rgAdd (rgLo s.h) 1) = rgH fr S' (b + 1) := by
      rw [hhd, rgH_lo, rgH_hi, rgAdd_add, ← hS']
      by_cases e : a = b
      · rw [if_pos (by rw [e]), if_pos e]; rfl
      · rw [if_neg (fun h => e (rgAdd_inj h (by omega) (by omega))), if_neg e]; rfl
    refine rgCas 0 s.h (rgH fr S' (b + 1)) (by omega) (by simp [rgWant, hk, hst, ha, hnew]) (by rw [hhd]; exact rgH_U _ _ _) (rgH_U _ _ _) (fun e => ?_) (fun e => ?_)
    · obtain ⟨e1, e2⟩ : g.S = a ∧ g.R = b := rgH_inj (by rw [← h.mem.head, e, hhd]) (by omega) (by omega) (by omega) (by omega)
      have hS1 : g.S ≤ S' ∧ S' ≤ b + 1 ∧ (S' = g.S ∨ g.S = g.R) := by rw [← hS']; split <;> omega
      have hg : rgGive s s.h true = { s with step := 4 } := by unfold rgGive rgPopGive; rw [if_neg nk1, if_pos hk, if_neg (by omega), if_neg (by omega), if_pos hst]; rfl
      rw [hg]
      refine ⟨{ g with S := S', R := b + 1, hand := updG g.hand 0 [g.A b] }, [], h.upd hW hs ho ⟨h.mem.right, by simpa using h.mem.len, getD_setS _ _ _ (by omega), by rw [getD_setN _ _ _ (by omega)]; exact h.mem.tail, ⟨by show 0 ≤ S'; omega, hS1.2.1, by show b + 1 ≤ g.T; omega, by show g.T ≤ S' + N; omega, r5⟩, fun y h1 h2 => ?_, h.mem.tasks, fun y z h1 h2 h3 => h.mem.rise y z ?_ h2 h3, fun y h1 h2 => h.mem.low y ?_ h2, rings_set h.mem (by omega) _, h.mem.own0⟩
        (fun j hj => ⟨rfl, rfl, updG_ne _ _ hj⟩) (fun _ => .inl ⟨rfl, .inr ⟨ha, hz, hk, hp.took, .inr ⟨rfl, g.A b, b, by show rgLo s.h = _; rw [hhd, rgH_lo], ?_, by show updG g.hand 0 [g.A b] 0 = [g.A b]; exact updG_same _ _ _, h.mem.low b (by omega) hbT, fun y h1 h2 => h.mem.rise b y (by omega) ?_ h2⟩⟩⟩) (fun e => absurd ho e) ⟨hS1.1, by show g.R ≤ b + 1; omega, Int.le_refl _⟩ (fun _ _ => rfl) (fun e => absurd rfl e) (by rcases hS1.2.2 with e | e; exact .inl e; exact .inr (.inl e)) (far_set (by omega) _) (fun _ c => .inl (hnc { s with step := 4 } hk c)), ?_⟩
      · have hc := hcell y
        have h1' : S' ≤ y := h1
        rw [getD_setN _ _ _ (by omega)]
        exact h.mem.slots y (by omega) h2
      · have h1' : b + 1 ≤ y := h1
        omega
      · have h1' : b + 1 ≤ y := h1
        omega
      · have hc := hcell b
        rw [getD_setN _ _ _ (by omega)]
        exact h.mem.slots _ (by omega) (by omega)
      · have h1' : b + 1 ≤ y := h1
        omega
      · refine ⟨fun v => ?_, fun j hj => ⟨rfl, updG_ne _ _ hj⟩, by show g.T ≤ g.T + 1; omega, rfl, rfl, .go ho rfl⟩
        show (rgFrom g.A (b + 1) (g.T - (b + 1)).toNat).count v + (g.lst 0).count v + (updG g.hand 0 [g.A b] 0).count v + _ = _
        rw [rgRow_split g (r := b + 1) (by omega) (by omega), updG_same, hh, List.count_append, show (b + 1 - g.R).toNat = 1 by omega, e2, rgFrom_one]
        simp
        omega
    · have hg : rgGive s (us.getD 0 0) false = { s with h := rgH fr g.S g.R, step := 2 } := by unfold rgGive rgPopGive; rw [if_neg nk1, if_pos hk, if_neg (by omega), if_neg (by omega), if_pos hst, h.mem.head]; rfl
      rw [hg]
      exact ⟨g, [], h.stay hW hs ho (fun _ => .inl ⟨rfl, .inr ⟨ha, hz, hk, hp.took, .inl ⟨hh, .inr (.inl ⟨rfl, g.S, g.R, r1, Int.le_refl _, by omega, Int.le_refl _, rfl⟩)⟩⟩⟩) (fun e => absurd ho e) (fun _ => hnc _ hk), .stay ho rfl rfl⟩
  · -- its slot
    have hc := hcell b
    refine rgLoad (rgCell 0 N (rgAdd fr b)) (by omega) (by rw [hint]; simp [rgWant, hk, hst, ha, hz, hlo]) fun won => ?_
    have hg : rgGive s (us.getD (rgCell 0 N (rgAdd fr b)) 0) won = { s with over := some ⟨0, v, []⟩ } := by unfold rgGive rgPopGive; rw [if_neg nk1, if_pos hk, if_neg (by omega), if_neg (by omega), if_neg (by omega), hsl]
    rw [hg]
    refine ⟨{ g with last := v, hand := updG g.hand 0 [] }, [v], h.upd hW hs ho ⟨h.mem.right, h.mem.len, h.mem.head, h.mem.tail, h.mem.range, h.mem.slots, h.mem.tasks, h.mem.rise, hl2, h.mem.rings, h.mem.own0⟩
      (fun j hj => ⟨rfl, rfl, updG_ne _ _ hj⟩) (fun e => by simp at e) (fun _ => by show updG g.hand 0 [] 0 = []; exact updG_same _ _ _) ⟨Int.le_refl _, Int.le_refl _, Int.le_refl _⟩ (fun _ _ => rfl) (fun e => absurd rfl e) (.inl rfl) (fun _ _ _ _ _ _ _ => rfl) (fun e => by simp at e), ?_⟩
    refine ⟨fun w => ?_, fun j hj => ⟨rfl, updG_ne _ _ hj⟩, by show g.T ≤ g.T + 1; omega, rfl, rfl, .pop v hk rfl (fun _ => ⟨hl1, rfl⟩) (fun e => absurd rfl e)⟩
    show (rgRow g).count w + (g.lst 0).count w + (updG g.hand 0 [] 0).count w + _ = _
    rw [updG_same, hh]
    simp

theorem rgAt_apart (N : Nat) {i j : Nat} (h : i < j) : rgAt N i + N + 2 ≤ rgAt N j := by
  obtain ⟨d, rfl⟩ : ∃ d, j = i + 1 + d := ⟨j - i - 1, by omega⟩
  unfold rgAt
  rw [Nat.add_mul, Nat.add_mul, Nat.one_mul]
  omega
/-- Another one's own ring, its list and its hand are others. -/
@[reducible] def RgG.own (g : RgG) (i : Nat) (r : Int) (l hd : List Int) : RgG := { g with rr := updG g.rr i r, lst := updG g.lst i l, hand := updG g.hand i hd }
theorem RgMem.own (h : RgMem N W fr us g) (h0 : 0 < i) (hi : i < W) {c : Nat} {v r : Int} {l hd : List Int} (hc : rgAt N i ≤ c ∧ c < rgAt N i + N + 2) (hL : RgL N (rgAt N i) (us.set c v) r l) : RgMem N W fr (us.set c v) (g.own i r l hd) := by
  obtain ⟨hr, hlen, -⟩ := h.cells (by omega)
  have hg := rgAt_ge N h0
  refine ⟨h.right, by simpa using h.len, by rw [getD_setN _ _ _ (by omega)]; exact h.head, by rw [getD_setN _ _ _ (by omega)]; exact h.tail, h.range, fun x h1 h2 => ?_, h.tasks, h.rise, h.low, fun j hj0 hj => ?_, by show updG g.lst i l 0 = []; rw [updG_ne _ _ (by omega)]; exact h.own0⟩
  · have := rgCell_range (a := 0) hr (rgAdd fr x)
    rw [getD_setN _ _ _ (by omega)]
    exact h.slots x h1 h2
  · show RgL N (rgAt N j) (us.set c v) (updG g.rr i r j) (updG g.lst i l j)
    by_cases e : j = i
    · subst e; rw [updG_same, updG_same]; exact hL
    · rw [updG_ne _ _ e, updG_ne _ _ e]
      refine (h.rings j hj0 hj).other (by simp) fun k h1 h2 => getD_setN _ _ _ ?_
      rcases Nat.lt_or_gt_of_ne e with e | e
      · have := rgAt_apart N e; omega
      · have := rgAt_apart N e; omega
theorem RgInv.own (h : RgInv N W fr us ss g) (h0 : 0 < i) (hi : i < W) (hs : ss i = some s) (ho : s.over = none) {c : Nat} {v r : Int} {l hd : List Int} (hc : rgAt N i ≤ c ∧ c < rgAt N i + N + 2) (hL : RgL N (rgAt N i) (us.set c v) r l)
    (hwi : s'.over = none → RgT N fr (us.set c v) (g.own i r l hd) i s' ∨ RgO N (us.set c v) (g.own i r l hd) i s') (hid : s'.over ≠ none → hd = []) (hone : s'.over = none → rgClaims s' → rgClaims s) : RgInv N W fr (us.set c v) (updG ss i (some s')) (g.own i r l hd) := by
  have hg := rgAt_ge N h0
  refine h.upd hi hs ho (h.mem.own h0 hi hc hL) (fun j hj => ⟨updG_ne _ _ hj, updG_ne _ _ hj, updG_ne _ _ hj⟩) (fun e => .inr ⟨h0, hwi e⟩) (fun e => by show updG g.hand i hd i = []; rw [updG_same]; exact hid e) ⟨Int.le_refl _, Int.le_refl _, Int.le_refl _⟩ (fun _ _ => rfl) (fun _ => ⟨rfl, rfl, rfl, fun k _ h2 => getD_setN _ _ _ (by omega)⟩) (.inl rfl) (fun j hj _ _ k h1 h2 => getD_setN _ _ _ ?_) (fun a b => .inl (hone a b))
  rcases Nat.lt_or_gt_of_ne hj with e | e
  · have := rgAt_apart N e; omega
  · have := rgAt_apart N e; omega
/-- A step of a pop of one's own ring. -/
theorem RgInv.popi (h : RgInv N W fr us ss g) (h0 : 0 < i) (hi : i < W) (hs : ss i = some s) (ho : s.over = none) (hp : RgO N us g i s) : RgStep N W fr us ss g i s := by
  have hL := h.mem.rings i h0 hi
  have hr := h.mem.right i hi
  have hll := hL.len
  have hz2 := rgSz hr
  have hk := hp.kind
  have ha := hp.at0
  have hz := hp.sz
  have nk1 : ¬ s.kind = 1 := by omega
  have hnc : ∀ s' : RgS, s'.kind = 2 → rgClaims s' → rgClaims s := fun s' e c => by have := c.1; omega
  have hhi : rgHi (rgPair (g.rr i) (g.rr i)) = g.rr i := rgHi_pair hL.rr
  have hlo : rgLo (rgPair (g.rr i) (g.rr i)) = g.rr i := rgLo_pair hL.rr
  rcases hp.st with ⟨hh, hst | ⟨hst, hhd⟩ | ⟨hst, hhd, hne⟩⟩ | ⟨hst, v, hsl, hh⟩
  · -- the head
    refine rgLoad (rgAt N i) (by omega) (by simp [rgWant, hk, hst, ha]) fun won => ?_
    have hg : rgGive s (us.getD (rgAt N i) 0) won = { s with h := rgPair (g.rr i) (g.rr i), step := 2 } := by unfold rgGive rgPopGive; rw [if_neg nk1, if_pos hk, if_pos hst, hL.head]
    rw [hg]
    exact ⟨g, [], h.stay hi hs ho (fun _ => .inr ⟨h0, .inr ⟨ha, hz, hk, hp.took, .inl ⟨hh, .inr (.inl ⟨rfl, rfl⟩)⟩⟩⟩) (fun e => absurd ho e) (fun _ => hnc _ hk), .stay ho rfl rfl⟩
  · -- the tail
    refine rgLoad (rgAt N i + 1) (by omega) (by simp [rgWant, hk, hst, ha]) fun won => ?_
    rw [hL.tail]
    have hfew := hL.few
    have hah : M.aheadI (rgLo (rgAdd (g.rr i) (g.lst i).length)) (rgLo s.h) = (g.lst i).length := by rw [rgLo_add, hhd, hlo]; exact rgAhead_own hL.rr _ (by omega) (by omega)
    by_cases e1 : ((g.lst i).length : Int) < 1
    · have hg : rgGive s (rgAdd (g.rr i) (g.lst i).length) won = { s with step := 3, over := some ⟨5, 0, []⟩ } := by unfold rgGive rgPopGive; rw [if_neg nk1, if_pos hk, if_neg (by omega), if_pos hst, hah, if_pos e1]
      rw [hg]
      exact ⟨g, [], h.stay hi hs ho (fun e => by simp at e) (fun _ => hh) (fun e => by simp at e), .stop rfl rfl (.empty hk rfl rfl)⟩
    · have hg : rgGive s (rgAdd (g.rr i) (g.lst i).length) won = { s with step := 3 } := by unfold rgGive rgPopGive; rw [if_neg nk1, if_pos hk, if_neg (by omega), if_pos hst, hah, if_neg e1]
      rw [hg]
      exact ⟨g, [], h.stay hi hs ho (fun _ => .inr ⟨h0, .inr ⟨ha, hz, hk, hp.took, .inl ⟨hh, .inr (.inr ⟨rfl, hhd, by omega⟩)⟩⟩⟩) (fun e => absurd ho e) (fun _ => hnc _ hk), .stay ho rfl rfl⟩
  · -- it is claimed
    have hnew : rgPair (if rgHi s.h = rgLo s.h then rgAdd (rgLo s.h) 1 else rgHi s.h) (rgAdd (rgLo s.h) 1) = rgPair (rgAdd (g.rr i) 1) (rgAdd (g.rr i) 1) := by rw [hhd, hhi, hlo, if_pos rfl]
    refine rgCas (rgAt N i) s.h (rgPair (rgAdd (g.rr i) 1) (rgAdd (g.rr i) 1)) (by omega) (by simp [rgWant, hk, hst, ha, hnew]) (by rw [hhd]; exact hL.headU) (rgPair_U (rgAdd_range _ _) (rgAdd_range _ _)) (fun e => ?_) (fun e => absurd (by rw [hL.head, hhd]) e)
    have hg : rgGive s s.h true = { s with step := 4 } := by unfold rgGive rgPopGive; rw [if_neg nk1, if_pos hk, if_neg (by omega), if_neg (by omega), if_pos hst]; rfl
    rw [hg]
    have hL' := hL.gone (us' := us.set (rgAt N i) (rgPair (rgAdd (g.rr i) 1) (rgAdd (g.rr i) 1))) 1 hne (by simp) (by rw [getD_setS _ _ _ (by omega)]; rfl) (fun j h1 h2 => getD_setN _ _ _ (by omega))
    obtain ⟨x, xs, hx⟩ : ∃ x xs, g.lst i = x :: xs := by
      cases e : g.lst i with
      | nil => rw [e] at hne; simp at hne
      | cons x xs => exact ⟨x, xs, rfl⟩
    have hs0 := hL.slots 0 (by omega)
    have hcr := rgCell_range hr (g.rr i)
    refine ⟨_, [], h.own (hd := [x]) h0 hi hs ho ⟨Nat.le_refl _, by omega⟩ hL' (fun _ => .inr ⟨ha, hz, hk, hp.took, .inr ⟨rfl, x, ?_, updG_same _ _ _⟩⟩) (fun e => absurd ho e) (fun _ c => hnc { s with step := 4 } hk c), fun v => ?_, fun j hj => ⟨updG_ne _ _ hj, updG_ne _ _ hj⟩, by show g.T ≤ g.T + 1; omega, rfl, rfl, .go ho rfl⟩
    · show (us.set (rgAt N i) _).getD (rgCell (rgAt N i) N (rgLo s.h)) 0 = x
      rw [hhd, hlo, getD_setN _ _ _ (by omega)]
      rw [show ((0 : Nat) : Int) = 0 from rfl, rgAdd_zero hL.rr, hx] at hs0
      simpa using hs0
    · show (rgRow g).count v + (updG g.lst i ((g.lst i).drop 1) i).count v + (updG g.hand i [x] i).count v + _ = _
      rw [updG_same, updG_same, hh, hx]
      simp [List.count_cons]
      omega
  · -- its slot
    have hc := rgCell_range hr (rgLo s.h)
    refine rgLoad (rgCell (rgAt N i) N (rgLo s.h)) (by omega) (by rw [rgCell_int hr]; simp [rgWant, hk, hst, ha, hz]) fun won => ?_
    have hg : rgGive s (us.getD (rgCell (rgAt N i) N (rgLo s.h)) 0) won = { s with over := some ⟨0, v, []⟩ } := by unfold rgGive rgPopGive; rw [if_neg nk1, if_pos hk, if_neg (by omega), if_neg (by omega), if_neg (by omega), hsl]
    rw [hg]
    exact ⟨g.empty i, g.hand i, h.ends hi hs ho (by simp), .ends rfl rfl (by rw [hh]; exact .pop v hk rfl (fun e => by omega) (fun _ => rfl))⟩
end
end Go.Proofs.YtjbgkaleickknaaGreat
