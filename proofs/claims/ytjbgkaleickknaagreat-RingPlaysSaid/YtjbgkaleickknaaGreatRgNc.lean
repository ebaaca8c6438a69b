import Derived.Test.YtjbgkaleickknaaGreatRgNb
/-
  What a steal's step makes of what the workers keep; any worker's step.
-/
namespace Go.Proofs.YtjbgkaleickknaaGreat
set_option maxRecDepth 100000
set_option linter.unusedSimpArgs false
set_option linter.unusedVariables false
open Go

section
variable {N W i j : Nat} {fr : Int} {us us' : List Int} {ss : Nat → Option RgS} {g g' : RgG} {s s' u : RgS}
/-- A slot behind what is in a ring is another one. -/
theorem RgL.lay {a : Nat} {r : Int} {xs : List Int} (h : RgL N a us r xs) (k : Nat) (hk : xs.length + k < N) (v : Int) : RgL N a (us.set (rgCell a N (rgAdd r (xs.length + k))) v) r xs := by
  have hc := h.cell (rgAdd r (xs.length + k))
  refine ⟨h.right, by simpa using h.len, h.rr, by rw [getD_setN _ _ _ (by omega)]; exact h.head, by rw [getD_setN _ _ _ (by omega)]; exact h.tail, h.few, fun j hj => ?_, h.tasks⟩
  have := rgCell_ne (a := a) h.right r (x := (j : Int)) (y := (xs.length : Int) + (k : Int)) (by omega) (by omega)
  rw [getD_setN _ _ _ (Ne.symm this)]
  exact h.slots j hj
/-- What was laid behind is in it. -/
theorem RgL.takes {a : Nat} {r : Int} {xs ys : List Int} (h : RgL N a us r xs) (hm : xs.length + ys.length ≤ N) (hy : ∀ j : Nat, j < ys.length → us.getD (rgCell a N (rgAdd r (xs.length + j))) 0 = ys.getD j 0) (hU : ∀ y ∈ ys, M.U y) :
    RgL N a (us.set (a + 1) (rgAdd r (xs.length + ys.length))) r (xs ++ ys) := by
  have hl := h.len
  have hz := rgSz h.right
  refine ⟨h.right, by simpa using hl, h.rr, by rw [getD_setN _ _ _ (by omega)]; exact h.head, by rw [getD_setS _ _ _ (by omega)]; simp, by simp; omega, fun j hj => ?_, fun x hx => (List.mem_append.1 hx).elim (h.tasks x) (hU x)⟩
  have hc := h.cell (rgAdd r j)
  rw [getD_setN _ _ _ (by omega)]
  by_cases e : j < xs.length
  · rw [h.slots j e]; simp [List.getD, List.getElem?_append_left e]
  · have hj2 : j - xs.length < ys.length := by simp at hj; omega
    have := hy (j - xs.length) hj2
    rw [show (xs.length : Int) + ((j - xs.length : Nat) : Int) = (j : Int) by omega] at this
    rw [this]
    simp [List.getD, List.getElem?_append_right (show xs.length ≤ j by omega)]
theorem take_snoc {l : List Int} {k : Nat} (h : k < l.length) : l.take k ++ [l.getD k 0] = l.take (k + 1) := by rw [List.take_add_one, List.getD, List.getElem?_eq_getElem h]; rfl
/-- A steal's step. -/
theorem RgInv.steal (h : RgInv N W fr us ss g) (h0 : 0 < i) (hi : i < W) (hs : ss i = some s) (ho : s.over = none) (hp : RgT N fr us g i s) : RgStep N W fr us ss g i s := by
  have hL := h.mem.rings i h0 hi
  have hri := h.mem.right i hi
  have hll := hL.len
  obtain ⟨hr, hlen, hN2, hN, hNh, hNe⟩ := h.mem.cells (by omega)
  obtain ⟨r1, r2, r3, r4, r5⟩ := h.mem.range
  have hge := rgAt_ge N h0
  have hk := hp.kind
  have ha := hp.at0
  have hz := hp.sz
  have htg := hp.tgt
  have nk1 : ¬ s.kind = 1 := by omega
  have nk2 : ¬ s.kind = 2 := by omega
  have hcell := fun x => rgCell_range (a := 0) hr (rgAdd fr x)
  have hint := fun x => rgCell_int (a := 0) hr (rgAdd fr x)
  have hhi : rgHi (rgPair (g.rr i) (g.rr i)) = g.rr i := rgHi_pair hL.rr
  have hnc : ∀ s' : RgS, (s'.step = 2 ∨ s'.step = 3 ∨ s'.step = 4 ∨ s'.step = 5) → rgClaims s' → rgClaims s := fun s' e c => by have := c.2; omega
  rcases hp.st with ⟨hh, htk, hk0, hst | ⟨hu, hst | ⟨hle, hst | ⟨hst, a, b, a1, a2, b1, b2, hhd⟩ | ⟨hst, x, tau, x1, x2, hhd, x3, x4, x5, hn⟩⟩⟩⟩ | ⟨hu, hle, hU, n, hn, n1, n2, hln, hst⟩
  · -- its own tail
    refine rgLoad (rgAt N i + 1) (by omega) (by simp [rgWant, hk, hst, htg]) fun won => ?_
    have hg : rgGive s (us.getD (rgAt N i + 1) 0) won = { s with u := rgAdd (g.rr i) (g.lst i).length, step := 2 } := by unfold rgGive rgStealGive; rw [if_neg nk1, if_neg nk2, if_pos hst, hL.tail, rgLo_add]
    rw [hg]
    exact ⟨g, [], h.stay hi hs ho (fun _ => .inr ⟨h0, .inl ⟨ha, hz, hk, htg, .inl ⟨hh, htk, hk0, .inr ⟨rfl, .inl rfl⟩⟩⟩⟩) (fun e => absurd ho e) (fun _ => hnc _ (.inl rfl)), .stay ho rfl rfl⟩
  · -- its own head
    refine rgLoad (rgAt N i) (by omega) (by simp [rgWant, hk, hst, htg]) fun won => ?_
    have hfew := hL.few
    have hah : M.aheadI s.u (rgHi (rgPair (g.rr i) (g.rr i))) = (g.lst i).length := by rw [hu, hhi]; exact rgAhead_own hL.rr _ (by omega) (by omega)
    rw [hL.head]
    by_cases e1 : (N : Int) / 2 < (g.lst i).length
    · have hg : rgGive s (rgPair (g.rr i) (g.rr i)) won = { s with step := 3, over := some ⟨4, 0, []⟩ } := by unfold rgGive rgStealGive; rw [if_neg nk1, if_neg nk2, if_neg (by omega), if_pos hst, hah, if_pos (by omega)]
      rw [hg]
      exact ⟨g, [], h.stay hi hs ho (fun e => by simp at e) (fun _ => hh) (fun e => by simp at e), .stop rfl rfl (.none_ 4 hk (.inl rfl) rfl rfl)⟩
    · have hg : rgGive s (rgPair (g.rr i) (g.rr i)) won = { s with step := 3 } := by unfold rgGive rgStealGive; rw [if_neg nk1, if_neg nk2, if_neg (by omega), if_pos hst, hah, if_neg (by omega)]
      rw [hg]
      exact ⟨g, [], h.stay hi hs ho (fun _ => .inr ⟨h0, .inl ⟨ha, hz, hk, htg, .inl ⟨hh, htk, hk0, .inr ⟨hu, .inr ⟨by omega, .inl rfl⟩⟩⟩⟩⟩) (fun e => absurd ho e) (fun _ => hnc _ (.inr (.inl rfl))), .stay ho rfl rfl⟩
  · -- the head
    refine rgLoad 0 (by omega) (by simp [rgWant, hk, hst, ha]) fun won => ?_
    have hg : rgGive s (us.getD 0 0) won = { s with h := rgH fr g.S g.R, step := 4 } := by unfold rgGive rgStealGive; rw [if_neg nk1, if_neg nk2, if_neg (by omega), if_neg (by omega), if_pos hst, h.mem.head]
    rw [hg]
    exact ⟨g, [], h.stay hi hs ho (fun _ => .inr ⟨h0, .inl ⟨ha, hz, hk, htg, .inl ⟨hh, htk, hk0, .inr ⟨hu, .inr ⟨hle, .inr (.inl ⟨rfl, g.S, g.R, r1, Int.le_refl _, by omega, Int.le_refl _, rfl⟩)⟩⟩⟩⟩⟩) (fun e => absurd ho e) (fun _ => hnc _ (.inr (.inr (.inl rfl)))), .stay ho rfl rfl⟩
  · -- the tail
    refine rgLoad 1 (by omega) (by simp [rgWant, hk, hst, ha]) fun won => ?_
    rw [h.mem.tail]
    have hah : M.aheadI (rgLo (rgAdd fr g.T)) (rgLo s.h) = g.T - b := by rw [rgLo_add, hhd, rgH_lo]; exact rgAhead_add fr g.T b (by omega) (by omega)
    by_cases e1 : rgHi s.h = rgLo s.h
    · have e3 : a = b := by rw [hhd, rgH_hi, rgH_lo] at e1; exact rgAdd_inj e1 (by omega) (by omega)
      by_cases e2 : (N : Int) < g.T - b
      · have hg : rgGive s (rgAdd fr g.T) won = { s with n := rgCount (g.T - b), step := 3 } := by unfold rgGive rgStealGive; rw [if_neg nk1, if_neg nk2, if_neg (by omega), if_neg (by omega), if_neg (by omega), if_pos hst, hah, if_pos e1, if_pos (by omega)]
        rw [hg]
        exact ⟨g, [], h.stay hi hs ho (fun _ => .inr ⟨h0, .inl ⟨ha, hz, hk, htg, .inl ⟨hh, htk, hk0, .inr ⟨hu, .inr ⟨hle, .inl rfl⟩⟩⟩⟩⟩) (fun e => absurd ho e) (fun _ => hnc _ (.inr (.inl rfl))), .stay ho rfl rfl⟩
      · by_cases e4 : g.T - b < 1
        · have hg : rgGive s (rgAdd fr g.T) won = { s with n := rgCount (g.T - b), step := 5, over := some ⟨5, 0, []⟩ } := by unfold rgGive rgStealGive; rw [if_neg nk1, if_neg nk2, if_neg (by omega), if_neg (by omega), if_neg (by omega), if_pos hst, hah, if_pos e1, if_neg (by omega), if_pos e4]
          rw [hg]
          exact ⟨g, [], h.stay hi hs ho (fun e => by simp at e) (fun _ => hh) (fun e => by simp at e), .stop rfl rfl (.none_ 5 hk (.inr (.inl rfl)) rfl rfl)⟩
        · have hg : rgGive s (rgAdd fr g.T) won = { s with n := rgCount (g.T - b), step := 5 } := by unfold rgGive rgStealGive; rw [if_neg nk1, if_neg nk2, if_neg (by omega), if_neg (by omega), if_neg (by omega), if_pos hst, hah, if_pos e1, if_neg (by omega), if_neg e4]
          rw [hg]
          exact ⟨g, [], h.stay hi hs ho (fun _ => .inr ⟨h0, .inl ⟨ha, hz, hk, htg, .inl ⟨hh, htk, hk0, .inr ⟨hu, .inr ⟨hle, .inr (.inr ⟨rfl, b, g.T, b1, by omega, by rw [hhd, e3], Int.le_refl _, by omega, by omega, rfl⟩)⟩⟩⟩⟩⟩) (fun e => absurd ho e) (fun _ => hnc _ (.inr (.inr (.inr rfl)))), .stay ho rfl rfl⟩
    · have hg : rgGive s (rgAdd fr g.T) won = { s with n := rgCount (g.T - b), step := 5, over := some ⟨8, 0, []⟩ } := by unfold rgGive rgStealGive; rw [if_neg nk1, if_neg nk2, if_neg (by omega), if_neg (by omega), if_neg (by omega), if_pos hst, hah, if_neg e1]
      rw [hg]
      exact ⟨g, [], h.stay hi hs ho (fun e => by simp at e) (fun _ => hh) (fun e => by simp at e), .stop rfl rfl (.none_ 8 hk (.inr (.inr rfl)) rfl rfl)⟩
  · -- they are claimed
    rw [rgCount_small x4] at hn
    obtain ⟨n, hnn⟩ : ∃ n : Nat, (tau - x) - (tau - x) / 2 = (n : Int) := ⟨((tau - x) - (tau - x) / 2).toNat, by omega⟩
    rw [hnn] at hn
    have hnew : rgPair (rgHi s.h) (rgAdd (rgLo s.h) s.n) = rgH fr x (x + n) := by rw [hhd, rgH_hi, rgH_lo, rgAdd_add, hn]; rfl
    refine rgCas 0 s.h (rgH fr x (x + n)) (by omega) (by simp [rgWant, hk, hst, ha, hnew]) (by rw [hhd]; exact rgH_U _ _ _) (rgH_U _ _ _) (fun e => ?_) (fun e => ?_)
    · obtain ⟨e1, e2⟩ : g.S = x ∧ g.R = x := rgH_inj (by rw [← h.mem.head, e, hhd]) (by omega) (by omega) (by omega) (by omega)
      have hg : rgGive s s.h true = { s with t := rgAdd fr x, step := 6 } := by unfold rgGive rgStealGive; rw [if_neg nk1, if_neg nk2, if_neg (by omega), if_neg (by omega), if_neg (by omega), if_neg (by omega), if_pos hst, hhd, rgH_lo]; rfl
      rw [hg]
      refine ⟨{ g with R := x + n, hand := updG g.hand i (rgFrom g.A x n) }, [], h.upd hi hs ho ⟨h.mem.right, by simpa using h.mem.len, by rw [getD_setS _ _ _ (by omega)]; show _ = rgH fr g.S (x + n); rw [e1], by rw [getD_setN _ _ _ (by omega)]; exact h.mem.tail, ⟨r1, by show g.S ≤ x + n; omega, by show x + n ≤ g.T; omega, r4, r5⟩, fun y h1 h2 => ?_, h.mem.tasks, fun y z h1 h2 h3 => h.mem.rise y z ?_ h2 h3, fun y h1 h2 => h.mem.low y ?_ h2, rings_set h.mem (by omega) _, h.mem.own0⟩
        (fun j hj => ⟨rfl, rfl, updG_ne _ _ hj⟩) (fun _ => .inr ⟨h0, .inl ⟨ha, hz, hk, htg, .inr ⟨hu, hle, ?_, n, hn, by omega, by omega, ?_, .inl ⟨rfl, by show rgAdd fr x = rgAdd fr g.S; rw [e1], ⟨by show g.S + n ≤ x + n; omega, fun j hj => ?_⟩, 0, hk0, by omega, by show s.took = _; rw [htk]; simp, fun j hj => by omega⟩⟩⟩⟩) (fun e => absurd ho e) ⟨Int.le_refl _, by show g.R ≤ x + n; omega, Int.le_refl _⟩ (fun _ _ => rfl) (fun _ => ⟨rfl, rfl, rfl, fun c h1 _ => getD_setN _ _ _ (by omega)⟩) (.inl rfl) (far_set (by omega) _) (fun _ _ => .inr (by omega)), ?_⟩
      · have hc := hcell y
        rw [getD_setN _ _ _ (by omega)]
        exact h.mem.slots y h1 h2
      · have h1' : x + n ≤ y := h1
        omega
      · have h1' : x + n ≤ y := h1
        omega
      · show ∀ v ∈ updG g.hand i (rgFrom g.A x n) i, M.U v
        rw [updG_same]
        intro v hv
        simp only [rgFrom, List.mem_map] at hv
        obtain ⟨j, -, rfl⟩ := hv
        exact h.mem.tasks _
      · show (updG g.hand i (rgFrom g.A x n) i).length = n
        rw [updG_same, rgFrom_len]
      · show (updG g.hand i (rgFrom g.A x n) i).getD j 0 = g.A (g.S + j)
        rw [updG_same, rgFrom_at _ _ _ _ hj, e1]
      · refine ⟨fun v => ?_, fun j hj => ⟨rfl, updG_ne _ _ hj⟩, by show g.T ≤ g.T + 1; omega, rfl, rfl, .go ho rfl⟩
        show (rgFrom g.A (x + n) (g.T - (x + n)).toNat).count v + (g.lst i).count v + (updG g.hand i (rgFrom g.A x n) i).count v + _ = _
        rw [rgRow_split g (r := x + n) (by omega) (by omega), updG_same, hh, List.count_append, show (x + (n : Int) - g.R).toNat = n by omega, e2]
        simp
        omega
    · have hg : rgGive s (us.getD 0 0) false = { s with h := rgH fr g.S g.R, step := 4 } := by unfold rgGive rgStealGive; rw [if_neg nk1, if_neg nk2, if_neg (by omega), if_neg (by omega), if_neg (by omega), if_neg (by omega), if_pos hst, h.mem.head]; rfl
      rw [hg]
      exact ⟨g, [], h.stay hi hs ho (fun _ => .inr ⟨h0, .inl ⟨ha, hz, hk, htg, .inl ⟨hh, htk, hk0, .inr ⟨hu, .inr ⟨hle, .inr (.inl ⟨rfl, g.S, g.R, r1, Int.le_refl _, by omega, Int.le_refl _, rfl⟩)⟩⟩⟩⟩⟩) (fun e => absurd ho e) (fun _ => hnc _ (.inr (.inr (.inl rfl)))), .stay ho rfl rfl⟩
  · rcases hst with ⟨hst, ht, hcl, k, hkk, hkn, htk, hlaid⟩ | ⟨hst, ht, hcl, k, hkk, hkn, htk, hlaid⟩ | ⟨hst, hcl, htk, hlaid, hhU⟩ | ⟨hst, hn1, htk, hlaid⟩
    · -- one of them is loaded
      have hc := hcell (g.S + k)
      have hcl1 := hcl.1
      refine rgLoad (rgCell 0 N (rgAdd fr (g.S + k))) (by omega) (by rw [hint]; simp [rgWant, hk, hst, ha, hz, ht, hkk, rgAdd_add]) fun won => ?_
      rw [h.mem.slots _ (by omega) (by omega), ← hcl.2 k hkn]
      have hmore : s.took ++ [(g.hand i).getD k 0] = (g.hand i).take (k + 1) := by rw [htk]; exact take_snoc (by omega)
      have hcs : rgClaims s := ⟨hk, .inl hst⟩
      by_cases e : k + 1 = n
      · have hg : rgGive s ((g.hand i).getD k 0) won = { s with took := g.hand i, step := 7 } := by unfold rgGive rgStealGive; rw [if_neg nk1, if_neg nk2, if_neg (by omega), if_neg (by omega), if_neg (by omega), if_neg (by omega), if_neg (by omega), if_pos hst, hmore, if_pos (by omega), List.take_of_length_le (by omega)]
        rw [hg]
        exact ⟨g, [], h.stay hi hs ho (fun _ => .inr ⟨h0, .inl ⟨ha, hz, hk, htg, .inr ⟨hu, hle, hU, n, hn, n1, n2, hln, .inr (.inr (.inl ⟨.inl rfl, hcl, rfl, by rw [show n - 1 = k by omega]; exact hlaid, fun e => by simp at e⟩))⟩⟩⟩) (fun e => absurd ho e) (fun _ _ => hcs), .stay ho rfl rfl⟩
      · have hg : rgGive s ((g.hand i).getD k 0) won = { s with took := (g.hand i).take (k + 1), step := 60 } := by unfold rgGive rgStealGive; rw [if_neg nk1, if_neg nk2, if_neg (by omega), if_neg (by omega), if_neg (by omega), if_neg (by omega), if_neg (by omega), if_pos hst, hmore, if_neg (by omega)]
        rw [hg]
        exact ⟨g, [], h.stay hi hs ho (fun _ => .inr ⟨h0, .inl ⟨ha, hz, hk, htg, .inr ⟨hu, hle, hU, n, hn, n1, n2, hln, .inr (.inl ⟨rfl, ht, hcl, k, hkk, by omega, rfl, hlaid⟩)⟩⟩⟩) (fun e => absurd ho e) (fun _ _ => hcs), .stay ho rfl rfl⟩
    · -- it is stored
      have hcs : rgClaims s := ⟨hk, .inr (.inl hst)⟩
      have hx : s.took.getD s.k.toNat 0 = (g.hand i).getD k 0 := by rw [htk, hkk]; simp [List.getD]
      have hvU : M.U ((g.hand i).getD k 0) := hU _ (by rw [List.getD, List.getElem?_eq_getElem (by omega)]; exact List.getElem_mem _)
      have hcr := rgCell_range hri (rgAdd (g.rr i) ((g.lst i).length + k))
      have hwant : rgWant s = ⟨2, ((rgCell (rgAt N i) N (rgAdd (g.rr i) ((g.lst i).length + k)) : Nat) : Int), (g.hand i).getD k 0, 0⟩ := by
        rw [rgCell_int hri]
        have : rgWant s = ⟨2, dqSlot s.target s.size (rgAdd s.u s.k), s.took.getD s.k.toNat 0, 0⟩ := by simp [rgWant, hk, hst]
        rw [this, htg, hz, hu, hx, hkk, rgAdd_add]
      refine rgStore _ _ (by omega) hwant hvU fun y won => ?_
      have hg : rgGive s y won = { s with k := s.k + 1, step := 6 } := by unfold rgGive rgStealGive; rw [if_neg nk1, if_neg nk2, if_neg (by omega), if_neg (by omega), if_neg (by omega), if_neg (by omega), if_neg (by omega), if_neg (by omega), if_pos hst]
      rw [hg]
      have hlu : ∀ m : Nat → Int, updG g.rr i (g.rr i) = g.rr := fun _ => by funext j; by_cases e : j = i; subst e; exact updG_same _ _ _; exact updG_ne _ _ e
      have hown : g.own i (g.rr i) (g.lst i) (g.hand i) = g := by
        have f1 : updG g.rr i (g.rr i) = g.rr := by funext j; by_cases e : j = i; subst e; exact updG_same _ _ _; exact updG_ne _ _ e
        have f2 : updG g.lst i (g.lst i) = g.lst := by funext j; by_cases e : j = i; subst e; exact updG_same _ _ _; exact updG_ne _ _ e
        have f3 : updG g.hand i (g.hand i) = g.hand := by funext j; by_cases e : j = i; subst e; exact updG_same _ _ _; exact updG_ne _ _ e
        unfold RgG.own
        rw [f1, f2, f3]
      have hinv := h.own (s' := { s with k := s.k + 1, step := 6 }) (v := (g.hand i).getD k 0) (hd := g.hand i) h0 hi hs ho ⟨by omega, by omega⟩ (hL.lay k (by omega) _) (fun _ => .inl ?_) (fun e => absurd ho e) (fun _ _ => hcs)
      · rw [hown] at hinv
        exact ⟨g, [], hinv, .stay ho rfl rfl⟩
      · rw [hown]
        refine ⟨ha, hz, hk, htg, .inr ⟨hu, hle, hU, n, hn, n1, n2, hln, .inl ⟨rfl, ht, hcl, k + 1, by show s.k + 1 = _; omega, hkn, htk, fun j hj => ?_⟩⟩⟩
        by_cases e : j = k
        · subst e; exact getD_setS _ _ _ (by omega)
        · have := rgCell_ne (a := rgAt N i) hri (g.rr i) (x := ((g.lst i).length : Int) + (j : Int)) (y := ((g.lst i).length : Int) + (k : Int)) (by omega) (by omega)
          rw [getD_setN _ _ _ (Ne.symm this)]
          exact hlaid j (by omega)
    · rcases hst with hst | hst
      · -- the head
        have hcs : rgClaims s := ⟨hk, .inr (.inr (.inl hst))⟩
        refine rgLoad 0 (by omega) (by simp [rgWant, hk, hst, ha]) fun won => ?_
        have hg : rgGive s (us.getD 0 0) won = { s with h := rgH fr g.S g.R, step := 8 } := by unfold rgGive rgStealGive; rw [if_neg nk1, if_neg nk2, if_neg (by omega), if_neg (by omega), if_neg (by omega), if_neg (by omega), if_neg (by omega), if_neg (by omega), if_neg (by omega), if_pos hst, h.mem.head]
        rw [hg]
        exact ⟨g, [], h.stay hi hs ho (fun _ => .inr ⟨h0, .inl ⟨ha, hz, hk, htg, .inr ⟨hu, hle, hU, n, hn, n1, n2, hln, .inr (.inr (.inl ⟨.inr rfl, hcl, htk, hlaid, fun _ => rgH_U _ _ _⟩))⟩⟩⟩) (fun e => absurd ho e) (fun _ _ => hcs), .stay ho rfl rfl⟩
      · -- they are let go of
        have hcs : rgClaims s := ⟨hk, .inr (.inr (.inr hst))⟩
        have hcl1 := hcl.1
        refine rgCas 0 s.h (rgPair (rgLo s.h) (rgLo s.h)) (by omega) (by simp [rgWant, hk, hst, ha]) (hhU hst) (rgPair_U (rgLo_range _) (rgLo_range _)) (fun e => ?_) (fun e => ?_)
        · have hhd : s.h = rgH fr g.S g.R := by rw [← e, h.mem.head]
          have hnew : rgPair (rgLo s.h) (rgLo s.h) = rgH fr g.R g.R := by rw [hhd, rgH_lo]; rfl
          rw [hnew]
          have hmem : ∀ hd, RgMem N W fr (us.set 0 (rgH fr g.R g.R)) { g with S := g.R, hand := hd } := fun hd =>
            ⟨h.mem.right, by simpa using h.mem.len, getD_setS _ _ _ (by omega), by rw [getD_setN _ _ _ (by omega)]; exact h.mem.tail, ⟨by show 0 ≤ g.R; omega, Int.le_refl _, r3, by show g.T ≤ g.R + N; omega, r5⟩, fun y h1 h2 => by
              have hc := hcell y
              have h1' : g.R ≤ y := h1
              rw [getD_setN _ _ _ (by omega)]
              exact h.mem.slots y (by omega) h2, h.mem.tasks, h.mem.rise, h.mem.low, rings_set h.mem (by omega) _, h.mem.own0⟩
          by_cases e1 : n = 1
          · subst e1
            have hlast : rgLast s = (g.hand i).getD 0 0 := by unfold rgLast; rw [htk, hn]; rfl
            have hg : rgGive s s.h true = { s with step := 9, over := some ⟨0, (g.hand i).getD 0 0, []⟩ } := by unfold rgGive rgStealGive; rw [if_neg nk1, if_neg nk2, if_neg (by omega), if_neg (by omega), if_neg (by omega), if_neg (by omega), if_neg (by omega), if_neg (by omega), if_neg (by omega), if_neg (by omega), if_pos hst, if_pos rfl, if_pos (by omega), hlast]
            rw [hg]
            have hone : g.hand i = [(g.hand i).getD 0 0] := by
              obtain ⟨x, hx⟩ := List.length_eq_one_iff.1 hln
              rw [hx]; rfl
            refine ⟨{ g with S := g.R, hand := updG g.hand i [] }, [(g.hand i).getD 0 0], h.upd hi hs ho (hmem _) (fun j hj => ⟨rfl, rfl, updG_ne _ _ hj⟩) (fun e => by simp at e) (fun _ => by show updG g.hand i [] i = []; exact updG_same _ _ _) ⟨by show g.S ≤ g.R; omega, Int.le_refl _, Int.le_refl _⟩ (fun _ _ => rfl) (fun _ => ⟨rfl, rfl, rfl, fun c h1 _ => getD_setN _ _ _ (by omega)⟩) (.inr (.inr hcs)) (far_set (by omega) _) (fun e => by simp at e), fun v => ?_, fun j hj => ⟨rfl, updG_ne _ _ hj⟩, by show g.T ≤ g.T + 1; omega, rfl, rfl, .steal _ hk rfl rfl⟩
            show (rgRow g).count v + (g.lst i).count v + (updG g.hand i [] i).count v + _ = _
            rw [updG_same, ← hone]
            simp
          · have hg : rgGive s s.h true = { s with step := 9 } := by unfold rgGive rgStealGive; rw [if_neg nk1, if_neg nk2, if_neg (by omega), if_neg (by omega), if_neg (by omega), if_neg (by omega), if_neg (by omega), if_neg (by omega), if_neg (by omega), if_neg (by omega), if_pos hst, if_pos rfl, if_neg (by omega)]
            rw [hg]
            refine ⟨{ g with S := g.R }, [], h.upd hi hs ho (hmem g.hand) (fun j hj => ⟨rfl, rfl, rfl⟩) (fun _ => .inr ⟨h0, .inl ⟨ha, hz, hk, htg, .inr ⟨hu, hle, hU, n, hn, n1, n2, hln, .inr (.inr (.inr ⟨rfl, by omega, htk, fun j hj => ?_⟩))⟩⟩⟩) (fun e => absurd ho e) ⟨by show g.S ≤ g.R; omega, Int.le_refl _, Int.le_refl _⟩ (fun _ _ => rfl) (fun _ => ⟨rfl, rfl, rfl, fun c h1 _ => getD_setN _ _ _ (by omega)⟩) (.inr (.inr hcs)) (far_set (by omega) _) (fun _ _ => .inl hcs), fun v => by simp [rgRow], fun j hj => ⟨rfl, rfl⟩, by show g.T ≤ g.T + 1; omega, rfl, rfl, .go ho rfl⟩
            have hcr := rgCell_range hri (rgAdd (g.rr i) ((g.lst i).length + j))
            show (us.set 0 (rgH fr g.R g.R)).getD (rgCell (rgAt N i) N (rgAdd (g.rr i) ((g.lst i).length + j))) 0 = (g.hand i).getD j 0
            rw [getD_setN _ _ _ (by omega)]
            exact hlaid j hj
        · have hg : rgGive s (us.getD 0 0) false = { s with h := rgH fr g.S g.R } := by unfold rgGive rgStealGive; rw [if_neg nk1, if_neg nk2, if_neg (by omega), if_neg (by omega), if_neg (by omega), if_neg (by omega), if_neg (by omega), if_neg (by omega), if_neg (by omega), if_neg (by omega), if_pos hst, h.mem.head]; rfl
          rw [hg]
          exact ⟨g, [], h.stay hi hs ho (fun _ => .inr ⟨h0, .inl ⟨ha, hz, hk, htg, .inr ⟨hu, hle, hU, n, hn, n1, n2, hln, .inr (.inr (.inl ⟨.inr hst, hcl, htk, hlaid, fun _ => rgH_U _ _ _⟩))⟩⟩⟩) (fun e => absurd ho e) (fun _ _ => hcs), .stay ho rfl rfl⟩
    · -- its own tail, more
      have hwant : rgWant s = ⟨2, ((rgAt N i + 1 : Nat) : Int), rgAdd (g.rr i) ((g.lst i).length + ((g.hand i).take (n - 1)).length), 0⟩ := by
        have : rgWant s = ⟨2, s.target + 1, rgAdd s.u (s.n - 1), 0⟩ := by simp [rgWant, hk, hst]
        rw [this, htg, hu, hn, rgAdd_add, List.length_take, show ((min (n - 1) (g.hand i).length : Nat) : Int) = (n : Int) - 1 by omega]
        rfl
      refine rgStore (rgAt N i + 1) _ (by omega) hwant (rgAdd_U _ _) fun y won => ?_
      have hlast : rgLast s = (g.hand i).getD (n - 1) 0 := by unfold rgLast; rw [htk, hn]; congr 1; omega
      have hg : rgGive s y won = { s with over := some ⟨0, (g.hand i).getD (n - 1) 0, []⟩ } := by unfold rgGive rgStealGive; rw [if_neg nk1, if_neg nk2, if_neg (by omega), if_neg (by omega), if_neg (by omega), if_neg (by omega), if_neg (by omega), if_neg (by omega), if_neg (by omega), if_neg (by omega), if_neg (by omega), hlast]
      rw [hg]
      have hlt : ((g.hand i).take (n - 1)).length = n - 1 := by rw [List.length_take]; omega
      have hL' := hL.takes (ys := (g.hand i).take (n - 1)) (by omega) (fun j hj => by rw [hlaid j (by omega)]; simp [List.getD, List.getElem?_take, show j < n - 1 by omega]) (fun y hy => hU y (List.mem_of_mem_take hy))
      have hall : (g.hand i).take (n - 1) ++ [(g.hand i).getD (n - 1) 0] = g.hand i := by rw [take_snoc (by omega), List.take_of_length_le (by omega)]
      refine ⟨_, [(g.hand i).getD (n - 1) 0], h.own (hd := []) h0 hi hs ho ⟨by omega, by omega⟩ hL' (fun e => by simp at e) (fun _ => rfl) (fun e => by simp at e), fun v => ?_, fun j hj => ⟨updG_ne _ _ hj, updG_ne _ _ hj⟩, by show g.T ≤ g.T + 1; omega, rfl, rfl, .steal _ hk rfl rfl⟩
      show (rgRow g).count v + (updG g.lst i (g.lst i ++ (g.hand i).take (n - 1)) i).count v + (updG g.hand i [] i).count v + _ = _
      rw [updG_same, updG_same, List.count_append]
      have := congrArg (List.count v) hall
      rw [List.count_append] at this
      simp only [List.count_nil]
      omega
/-- Any worker's step. -/
theorem RgInv.step (h : RgInv N W fr us ss g) (hi : i < W) (hs : ss i = some s) (ho : s.over = none) (hT : g.T < 1000000) : RgStep N W fr us ss g i s := by
  rcases h.wk i s hi hs ho with ⟨rfl, hp | hp⟩ | ⟨h0, hp | hp⟩
  · exact h.push hi hs ho hp hT
  · exact h.pop0 hi hs ho hp
  · exact h.steal h0 hi hs ho hp
  · exact h.popi h0 hi hs ho hp
end
end Go.Proofs.YtjbgkaleickknaaGreat
