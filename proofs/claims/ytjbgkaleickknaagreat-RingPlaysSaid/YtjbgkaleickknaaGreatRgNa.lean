import Derived.Test.YtjbgkaleickknaaGreatRgN
/-
  What a step of the owner makes of what the workers keep.
-/
namespace Go.Proofs.YtjbgkaleickknaaGreat
set_option maxRecDepth 100000
set_option linter.unusedSimpArgs false
set_option linter.unusedVariables false
open Go

/-- What one step leads to. -/
def RgGo (us : List Int) (s : RgS) (P : RgS → List Int → Prop) : Prop := (rgWant s).ok ∧ C.code us (rgWant s) = 0 ∧ (rgWant s).k ≠ 7 ∧ P (rgGive s (C.told us (rgWant s)) (C.won us (rgWant s))) (C.next us (rgWant s))
theorem U0r : M.U 0 := ⟨by decide, by decide⟩
theorem rgLoad {us : List Int} {s : RgS} {P : RgS → List Int → Prop} (c : Nat) (hc : c < us.length) (hw : rgWant s = ⟨1, (c : Int), 0, 0⟩) (h : ∀ won, P (rgGive s (us.getD c 0) won) us) : RgGo us s P := by
  obtain ⟨h1, h2, h3⟩ := C.load_at us c hc 0 0
  unfold RgGo
  rw [hw, h2, h3]
  exact ⟨⟨U0r, U0r⟩, h1, by simp, h _⟩
theorem rgStore {us : List Int} {s : RgS} {P : RgS → List Int → Prop} (c : Nat) (v : Int) (hc : c < us.length) (hw : rgWant s = ⟨2, (c : Int), v, 0⟩) (hv : M.U v) (h : ∀ x won, P (rgGive s x won) (us.set c v)) : RgGo us s P := by
  obtain ⟨h1, h2, h3⟩ := C.store_at us c hc v 0
  unfold RgGo
  rw [hw, h2]
  exact ⟨⟨hv, U0r⟩, h1, by simp, h _ _⟩
theorem rgCas {us : List Int} {s : RgS} {P : RgS → List Int → Prop} (c : Nat) (a b : Int) (hc : c < us.length) (hw : rgWant s = ⟨3, (c : Int), a, b⟩) (ha : M.U a) (hb : M.U b) (h1 : us.getD c 0 = a → P (rgGive s a true) (us.set c b)) (h2 : us.getD c 0 ≠ a → P (rgGive s (us.getD c 0) false) us) : RgGo us s P := by
  obtain ⟨k1, k2, k3, k4⟩ := C.cas_at us c hc a b
  unfold RgGo
  rw [hw]
  refine ⟨⟨ha, hb⟩, k1, by simp, ?_⟩
  by_cases e : us.getD c 0 = a
  · obtain ⟨e1, e2⟩ := k3 e
    rw [k2, e1, e2, e]
    exact h1 e
  · obtain ⟨e1, e2⟩ := k4 e
    rw [k2, e1, e2]
    exact h2 e

/-- With which result a step ends, and what came out. -/
inductive RgOut (i : Nat) (s s' : RgS) (l l' : Int) : List Int → Prop
  | go : s'.over = none → l' = l → RgOut i s s' l l' []
  | push : s.kind = 1 → s'.over = some ⟨0, 0, []⟩ → l' = l → RgOut i s s' l l' []
  | busy : s.kind = 1 → s'.over = some ⟨8, 0, []⟩ → l' = l → RgOut i s s' l l' [s.task]
  | full (L : List Int) : L.length ≤ 256 → s.kind = 1 → s'.over = some ⟨4, 0, L⟩ → l' = l → RgOut i s s' l l' (s.task :: L)
  | pop (v : Int) : s.kind = 2 → s'.over = some ⟨0, v, []⟩ → (i = 0 → l < v ∧ l' = v) → (i ≠ 0 → l' = l) → RgOut i s s' l l' [v]
  | empty : s.kind = 2 → s'.over = some ⟨5, 0, []⟩ → l' = l → RgOut i s s' l l' []
  | steal (v : Int) : s.kind = 3 → s'.over = some ⟨0, v, []⟩ → l' = l → RgOut i s s' l l' [v]
  | none_ (c : Int) : s.kind = 3 → (c = 4 ∨ c = 5 ∨ c = 8) → s'.over = some ⟨c, 0, []⟩ → l' = l → RgOut i s s' l l' []
structure RgEv (g g' : RgG) (i : Nat) (s s' : RgS) (gone : List Int) : Prop where
  bal : ∀ v, (rgRow g').count v + (g'.lst i).count v + (g'.hand i).count v + gone.count v = (rgRow g).count v + (g.lst i).count v + (g.hand i).count v
  same : ∀ j, j ≠ i → g'.lst j = g.lst j ∧ g'.hand j = g.hand j
  top : g'.T ≤ g.T + 1
  kind : s'.kind = s.kind
  task : s'.task = s.task
  out : RgOut i s s' g.last g'.last gone
/-- What a step of the worker i leads to. -/
def RgStep (N W : Nat) (fr : Int) (us : List Int) (ss : Nat → Option RgS) (g : RgG) (i : Nat) (s : RgS) : Prop := RgGo us s fun s' us' => ∃ g' gone, RgInv N W fr us' (updG ss i (some s')) g' ∧ RgEv g g' i s s' gone

section
variable {N W i j : Nat} {fr : Int} {us us' : List Int} {ss : Nat → Option RgS} {g g' : RgG} {s s' u : RgS}
theorem RgEv.stay (h1 : s'.over = none) (h2 : s'.kind = s.kind) (h3 : s'.task = s.task) : RgEv g g i s s' [] := ⟨fun v => by simp, fun _ _ => ⟨rfl, rfl⟩, by omega, h2, h3, .go h1 rfl⟩
/-- Nothing but the state is another one. -/
theorem RgInv.stay (h : RgInv N W fr us ss g) (hi : i < W) (hs : ss i = some s) (ho : s.over = none) (hwi : s'.over = none → RgWk N fr us g i s') (hid : s'.over ≠ none → g.hand i = []) (hone : s'.over = none → rgClaims s' → rgClaims s) : RgInv N W fr us (updG ss i (some s')) g :=
  h.upd hi hs ho h.mem (fun _ _ => ⟨rfl, rfl, rfl⟩) hwi hid ⟨Int.le_refl _, Int.le_refl _, Int.le_refl _⟩ (fun _ _ => rfl) (fun _ => ⟨rfl, rfl, rfl, fun _ _ _ => rfl⟩) (.inl rfl) (fun _ _ _ _ _ _ _ => rfl) (fun a b => .inl (hone a b))
/-- A walk has ended, what was in the hand came out. -/
def RgG.empty (g : RgG) (i : Nat) : RgG := { g with hand := updG g.hand i [] }
theorem RgMem.empty (h : RgMem N W fr us g) (i : Nat) : RgMem N W fr us (g.empty i) := ⟨h.right, h.len, h.head, h.tail, h.range, h.slots, h.tasks, h.rise, h.low, h.rings, h.own0⟩
theorem RgInv.ends (h : RgInv N W fr us ss g) (hi : i < W) (hs : ss i = some s) (ho : s.over = none) (hn : s'.over ≠ none) : RgInv N W fr us (updG ss i (some s')) (g.empty i) :=
  h.upd hi hs ho (h.mem.empty i) (fun j hj => ⟨rfl, rfl, updG_ne _ _ hj⟩) (fun e => absurd e hn) (fun _ => updG_same _ _ _) ⟨Int.le_refl _, Int.le_refl _, Int.le_refl _⟩ (fun _ _ => rfl) (fun _ => ⟨rfl, rfl, rfl, fun _ _ _ => rfl⟩) (.inl rfl) (fun _ _ _ _ _ _ _ => rfl) (fun e => absurd e hn)
theorem RgEv.ends (h2 : s'.kind = s.kind) (h3 : s'.task = s.task) (ho : RgOut i s s' g.last g.last (g.hand i)) : RgEv g (g.empty i) i s s' (g.hand i) :=
  ⟨fun v => by show (rgRow g).count v + (g.lst i).count v + (updG g.hand i [] i).count v + _ = _; rw [updG_same]; simp, fun j hj => ⟨rfl, updG_ne _ _ hj⟩, by show g.T ≤ g.T + 1; omega, h2, h3, ho⟩
theorem RgMem.cells (h : RgMem N W fr us g) (hW : 0 < W) : dqRight ((0 : Nat) : Int) N ∧ N + 2 ≤ us.length ∧ 2 ≤ N ∧ N ≤ 256 ∧ ((N / 2 : Nat) : Int) = (N : Int) / 2 ∧ N / 2 * 2 = N := by
  have hr := h.right 0 hW
  rw [show rgAt N 0 = 0 by simp [rgAt]] at hr
  have hz := rgSz (a := 0) hr
  have hl := h.len
  obtain ⟨w, rfl⟩ : ∃ w, W = w + 1 := ⟨W - 1, by omega⟩
  rw [Nat.add_mul, Nat.one_mul] at hl
  refine ⟨hr, by omega, hz.1, hz.2.1, by omega, by omega⟩
theorem rgAt_ge (N : Nat) {j : Nat} (h : 0 < j) : N + 2 ≤ rgAt N j := by
  obtain ⟨w, rfl⟩ : ∃ w, j = w + 1 := ⟨j - 1, by omega⟩
  unfold rgAt
  rw [Nat.add_mul, Nat.one_mul]
  omega
/-- A cell of ring 0 is another one. -/
theorem rings_set (h : RgMem N W fr us g) {c : Nat} (hc : c < N + 2) (v : Int) : ∀ i, 0 < i → i < W → RgL N (rgAt N i) (us.set c v) (g.rr i) (g.lst i) := fun i h0 hi => (h.rings i h0 hi).other (by simp) fun k h1 _ => by
  have := rgAt_ge N h0
  exact getD_setN _ _ _ (by omega)
theorem far_set {c : Nat} (hc : c < N + 2) (v : Int) : ∀ j, j ≠ i → 0 < j → j < W → ∀ k, rgAt N j ≤ k → k < rgAt N j + N + 2 → (us.set c v).getD k 0 = us.getD k 0 := fun j _ h0 _ k h1 _ => by
  have := rgAt_ge N h0
  exact getD_setN _ _ _ (by omega)
theorem rgRow_split (g : RgG) {r : Int} (h1 : g.R ≤ r) (h2 : r ≤ g.T) : rgRow g = rgFrom g.A g.R (r - g.R).toNat ++ rgFrom g.A r (g.T - r).toNat := by
  unfold rgRow
  rw [show (g.T - g.R).toNat = (r - g.R).toNat + (g.T - r).toNat by omega, rgFrom_add]
  congr 2
  omega

/-- A push's step. -/
theorem RgInv.push (h : RgInv N W fr us ss g) (hW : 0 < W) (hs : ss 0 = some s) (ho : s.over = none) (hp : RgP N fr us g s) (hT : g.T < 1000000) : RgStep N W fr us ss g 0 s := by
  obtain ⟨hr, hlen, hN2, hN, hNh, hNe⟩ := h.mem.cells hW
  obtain ⟨r1, r2, r3, r4, r5⟩ := h.mem.range
  have hk := hp.kind
  have ha := hp.at0
  have hz := hp.sz
  have hnc : ∀ s' : RgS, s'.kind = 1 → rgClaims s' → rgClaims s := fun s' e c => by have := c.1; omega
  have hcell := fun x => rgCell_range (a := 0) hr (rgAdd fr x)
  have hint := fun x => rgCell_int (a := 0) hr (rgAdd fr x)
  rcases hp.st with ⟨hh, htk, hk0, hst⟩ | ⟨hst, b, k, hkk, hk2, hlo, hh, htk, hbT, hsl⟩
  · rcases hst with hst | ⟨hst, a, b, a1, a2, b1, b2, hhd⟩ | ⟨hst, ht, hlt⟩ | ⟨hst, ht, hlt, hsl⟩ | ⟨hst, x, x1, x2, hhd, x3⟩
    · -- the head
      refine rgLoad 0 (by omega) (by simp [rgWant, hk, hst, ha]) fun won => ?_
      have hg : rgGive s (us.getD 0 0) won = { s with h := rgH fr g.S g.R, step := 2 } := by unfold rgGive rgPushGive; rw [if_pos hk, if_pos hst, h.mem.head]
      rw [hg]
      exact ⟨g, [], h.stay hW hs ho (fun _ => .inl ⟨rfl, .inl ⟨ha, hz, hk, hp.task, hp.top, hp.last, .inl ⟨hh, htk, hk0, .inr (.inl ⟨rfl, g.S, g.R, r1, Int.le_refl _, by omega, Int.le_refl _, rfl⟩)⟩⟩⟩) (fun e => absurd ho e) (fun _ => hnc _ hk), .stay ho rfl rfl⟩
    · -- the tail
      refine rgLoad 1 (by omega) (by simp [rgWant, hk, hst, ha]) fun won => ?_
      rw [h.mem.tail]
      have hah : M.aheadI (rgLo (rgAdd fr g.T)) (rgHi s.h) = g.T - a := by rw [rgLo_add, hhd, rgH_hi]; exact rgAhead_add fr g.T a (by omega) (by omega)
      by_cases e1 : g.T - a < N
      · have hg : rgGive s (rgAdd fr g.T) won = { s with t := rgAdd fr g.T, step := 3 } := by unfold rgGive rgPushGive; rw [if_pos hk, if_neg (by omega), if_pos hst, hah, if_pos (by omega), rgLo_add]
        rw [hg]
        exact ⟨g, [], h.stay hW hs ho (fun _ => .inl ⟨rfl, .inl ⟨ha, hz, hk, hp.task, hp.top, hp.last, .inl ⟨hh, htk, hk0, .inr (.inr (.inl ⟨rfl, rfl, by omega⟩))⟩⟩⟩) (fun e => absurd ho e) (fun _ => hnc _ hk), .stay ho rfl rfl⟩
      · by_cases e2 : rgHi s.h = rgLo s.h
        · have hg : rgGive s (rgAdd fr g.T) won = { s with t := rgAdd fr g.T, step := 5 } := by unfold rgGive rgPushGive; rw [if_pos hk, if_neg (by omega), if_pos hst, hah, if_neg (by omega), if_pos e2, rgLo_add]
          rw [hg]
          have e3 : a = b := by rw [hhd, rgH_hi, rgH_lo] at e2; exact rgAdd_inj e2 (by omega) (by omega)
          exact ⟨g, [], h.stay hW hs ho (fun _ => .inl ⟨rfl, .inl ⟨ha, hz, hk, hp.task, hp.top, hp.last, .inl ⟨hh, htk, hk0, .inr (.inr (.inr (.inr ⟨rfl, a, a1, a2, by rw [hhd, ← e3], by omega⟩)))⟩⟩⟩) (fun e => absurd ho e) (fun _ => hnc _ hk), .stay ho rfl rfl⟩
        · have hg : rgGive s (rgAdd fr g.T) won = { s with t := rgAdd fr g.T, step := 5, over := some ⟨8, 0, []⟩ } := by unfold rgGive rgPushGive; rw [if_pos hk, if_neg (by omega), if_pos hst, hah, if_neg (by omega), if_neg e2, rgLo_add]
          rw [hg]
          exact ⟨g.empty 0, g.hand 0, h.ends hW hs ho (by simp), .ends rfl rfl (by rw [hh]; exact .busy hk rfl rfl)⟩
    · -- the slot
      have hc := hcell g.T
      refine rgStore (rgCell 0 N (rgAdd fr g.T)) s.task (by omega) (by rw [hint]; simp [rgWant, hk, hst, ha, hz, ht]) hp.task fun x won => ?_
      have hg : rgGive s x won = { s with step := 4 } := by unfold rgGive rgPushGive; rw [if_pos hk, if_neg (by omega), if_neg (by omega), if_pos hst]
      rw [hg]
      have hne : ∀ x, g.S ≤ x → x < g.T → rgCell 0 N (rgAdd fr g.T) ≠ rgCell 0 N (rgAdd fr x) := fun x h1 h2 => Ne.symm (rgCell_ne (a := 0) hr fr h2 (by omega))
      refine ⟨g, [], h.upd hW hs ho ⟨h.mem.right, by simpa using h.mem.len, by rw [getD_setN _ _ _ (by omega)]; exact h.mem.head, by rw [getD_setN _ _ _ (by omega)]; exact h.mem.tail, h.mem.range, fun x h1 h2 => by rw [getD_setN _ _ _ (hne x h1 h2)]; exact h.mem.slots x h1 h2, h.mem.tasks, h.mem.rise, h.mem.low, rings_set h.mem (by omega) _, h.mem.own0⟩
        (fun _ _ => ⟨rfl, rfl, rfl⟩) (fun _ => .inl ⟨rfl, .inl ⟨ha, hz, hk, hp.task, hp.top, hp.last, .inl ⟨hh, htk, hk0, .inr (.inr (.inr (.inl ⟨rfl, ht, hlt, getD_setS _ _ _ (by omega)⟩)))⟩⟩⟩) (fun e => absurd ho e) ⟨Int.le_refl _, Int.le_refl _, Int.le_refl _⟩ (fun _ _ => rfl) (fun e => absurd rfl e) (.inl rfl) (far_set (by omega) _) (fun _ c => .inl (hnc { s with step := 4 } hk c)), .stay ho rfl rfl⟩
    · -- the tail, one more
      refine rgStore 1 (rgAdd fr (g.T + 1)) (by omega) (by simp [rgWant, hk, hst, ha, ht, rgAdd_add]) (rgAdd_U _ _) fun x won => ?_
      have hg : rgGive s x won = { s with over := some ⟨0, 0, []⟩ } := by unfold rgGive rgPushGive; rw [if_pos hk, if_neg (by omega), if_neg (by omega), if_neg (by omega), if_pos hst]
      rw [hg]
      obtain ⟨A', hA'⟩ : ∃ A' : Int → Int, (fun x => if x = g.T then s.task else g.A x) = A' := ⟨_, rfl⟩
      have hAT : A' g.T = s.task := by rw [← hA']; simp
      have hAx : ∀ x, x ≠ g.T → A' x = g.A x := fun x hx => by rw [← hA']; simp [hx]
      have hrow : rgFrom A' g.R (g.T + 1 - g.R).toNat = rgRow g ++ [s.task] := by
        rw [show (g.T + 1 - g.R).toNat = (g.T - g.R).toNat + 1 by omega, rgFrom_add, show g.R + (((g.T - g.R).toNat : Nat) : Int) = g.T by omega, rgFrom_one, hAT]
        congr 1
        exact rgFrom_same fun j hj => hAx _ (by omega)
      refine ⟨{ g with T := g.T + 1, A := A', hand := updG g.hand 0 [] }, [], h.upd hW hs ho ⟨h.mem.right, by simpa using h.mem.len, by rw [getD_setN _ _ _ (by omega)]; exact h.mem.head, getD_setS _ _ _ (by omega), ⟨r1, r2, by show g.R ≤ g.T + 1; omega, by show g.T + 1 ≤ g.S + N; omega, by show g.T + 1 ≤ 1000000; omega⟩, fun x h1 h2 => ?_, fun x => ?_, fun x y h1 h2 h3 => ?_, fun x h1 h2 => ?_, rings_set h.mem (by omega) _, h.mem.own0⟩
        (fun j hj => ⟨rfl, rfl, updG_ne _ _ hj⟩) (fun e => by simp at e) (fun _ => by show updG g.hand 0 [] 0 = []; exact updG_same _ _ _) ⟨Int.le_refl _, Int.le_refl _, by show g.T ≤ g.T + 1; omega⟩ (fun x hx => hAx x (by omega)) (fun e => absurd rfl e) (.inl rfl) (far_set (by omega) _) (fun e => by simp at e), ?_⟩
      · have hc := hcell x
        rw [getD_setN _ _ _ (by omega)]
        show _ = A' x
        by_cases e : x = g.T
        · rw [e, hAT]; exact hsl
        · have h2' : x < g.T + 1 := h2
          rw [hAx x e]; exact h.mem.slots x h1 (by omega)
      · show M.U (A' x)
        by_cases e : x = g.T
        · rw [e, hAT]; exact hp.task
        · rw [hAx x e]; exact h.mem.tasks x
      · show A' x < A' y
        have h1' : g.R ≤ x := h1
        have h3' : y < g.T + 1 := h3
        rw [hAx x (by omega)]
        by_cases e : y = g.T
        · rw [e, hAT]; exact hp.top x h1' (by omega)
        · rw [hAx y e]; exact h.mem.rise x y h1' h2 (by omega)
      · show g.last < A' x
        have h1' : g.R ≤ x := h1
        have h2' : x < g.T + 1 := h2
        by_cases e : x = g.T
        · rw [e, hAT]; exact hp.last
        · rw [hAx x e]; exact h.mem.low x h1' (by omega)
      · refine ⟨fun v => ?_, fun j hj => ⟨rfl, updG_ne _ _ hj⟩, Int.le_refl _, rfl, rfl, .push hk rfl rfl⟩
        show (rgFrom A' g.R (g.T + 1 - g.R).toNat).count v + (g.lst 0).count v + (updG g.hand 0 [] 0).count v + _ = _
        rw [hrow, updG_same, hh, List.count_append]
        simp
        omega
    · -- half of them are given out
      have hnew : rgPair (rgAdd (rgLo s.h) (s.size / 2)) (rgAdd (rgLo s.h) (s.size / 2)) = rgH fr (x + (N / 2 : Nat)) (x + (N / 2 : Nat)) := by rw [hhd, rgH_lo, rgAdd_add, hz, hNh]; rfl
      refine rgCas 0 s.h (rgH fr (x + (N / 2 : Nat)) (x + (N / 2 : Nat))) (by omega) (by simp [rgWant, hk, hst, ha, hnew]) (by rw [hhd]; exact rgH_U _ _ _) (rgH_U _ _ _) (fun e => ?_) (fun e => ?_)
      · obtain ⟨e1, e2⟩ : g.S = x ∧ g.R = x := rgH_inj (by rw [← h.mem.head, e, hhd]) (by omega) (by omega) (by omega) (by omega)
        have hg : rgGive s s.h true = { s with step := 6 } := by unfold rgGive rgPushGive; rw [if_pos hk, if_neg (by omega), if_neg (by omega), if_neg (by omega), if_neg (by omega), if_pos hst]; rfl
        rw [hg]
        refine ⟨{ g with S := x + (N / 2 : Nat), R := x + (N / 2 : Nat), hand := updG g.hand 0 (s.task :: rgFrom g.A x (N / 2)) }, [], h.upd hW hs ho ⟨h.mem.right, by simpa using h.mem.len, getD_setS _ _ _ (by omega), by rw [getD_setN _ _ _ (by omega)]; exact h.mem.tail, ⟨by show 0 ≤ x + _; omega, Int.le_refl _, by show x + _ ≤ g.T; omega, by show g.T ≤ x + _ + N; omega, r5⟩, fun y h1 h2 => ?_, h.mem.tasks, fun y z h1 h2 h3 => h.mem.rise y z ?_ h2 h3, fun y h1 h2 => h.mem.low y ?_ h2, rings_set h.mem (by omega) _, h.mem.own0⟩
          (fun j hj => ⟨rfl, rfl, updG_ne _ _ hj⟩) (fun _ => .inl ⟨rfl, .inl ⟨ha, hz, hk, hp.task, fun y h1 h2 => hp.top y ?_ h2, hp.last, .inr ⟨rfl, x, 0, hk0, by omega, by show rgLo s.h = _; rw [hhd, rgH_lo], by show updG g.hand 0 (s.task :: rgFrom g.A x (N / 2)) 0 = s.task :: rgFrom g.A x (N / 2); exact updG_same _ _ _, htk, by show x + _ ≤ g.T; omega, fun j _ hj => ?_⟩⟩⟩) (fun e => absurd ho e) ⟨by show g.S ≤ x + _; omega, by show g.R ≤ x + _; omega, Int.le_refl _⟩ (fun _ _ => rfl) (fun e => absurd rfl e) (.inr (.inl (by omega))) (far_set (by omega) _) (fun _ c => .inl (hnc { s with step := 6 } hk c)), ?_⟩
        · have hc := hcell y
          have h1' : x + (N / 2 : Nat) ≤ y := h1
          rw [getD_setN _ _ _ (by omega)]
          exact h.mem.slots y (by omega) h2
        · have h1' : x + (N / 2 : Nat) ≤ y := h1
          omega
        · have h1' : x + (N / 2 : Nat) ≤ y := h1
          omega
        · have h1' : x + (N / 2 : Nat) ≤ y := h1
          omega
        · have hc := hcell (x + j)
          rw [getD_setN _ _ _ (by omega)]
          exact h.mem.slots _ (by omega) (by omega)
        · refine ⟨fun v => ?_, fun j hj => ⟨rfl, updG_ne _ _ hj⟩, by show g.T ≤ g.T + 1; omega, rfl, rfl, .go ho rfl⟩
          show (rgFrom g.A (x + (N / 2 : Nat)) (g.T - (x + (N / 2 : Nat))).toNat).count v + (g.lst 0).count v + (updG g.hand 0 (s.task :: rgFrom g.A x (N / 2)) 0).count v + _ = _
          rw [rgRow_split g (r := x + (N / 2 : Nat)) (by omega) (by omega), updG_same, hh, List.count_append, List.count_cons, List.count_cons, show (x + ((N / 2 : Nat) : Int) - g.R).toNat = N / 2 by omega, e2]
          simp
          omega
      · have hg : rgGive s (us.getD 0 0) false = { s with h := rgH fr g.S g.R, step := 2 } := by unfold rgGive rgPushGive; rw [if_pos hk, if_neg (by omega), if_neg (by omega), if_neg (by omega), if_neg (by omega), if_pos hst, h.mem.head]; rfl
        rw [hg]
        exact ⟨g, [], h.stay hW hs ho (fun _ => .inl ⟨rfl, .inl ⟨ha, hz, hk, hp.task, hp.top, hp.last, .inl ⟨hh, htk, hk0, .inr (.inl ⟨rfl, g.S, g.R, r1, Int.le_refl _, by omega, Int.le_refl _, rfl⟩)⟩⟩⟩) (fun e => absurd ho e) (fun _ => hnc _ hk), .stay ho rfl rfl⟩
  · -- one of those that are given out
    have hc := hcell (b + k)
    refine rgLoad (rgCell 0 N (rgAdd fr (b + k))) (by omega) (by rw [hint]; simp [rgWant, hk, hst, ha, hz, hlo, hkk, rgAdd_add]) fun won => ?_
    rw [hsl k (Nat.le_refl _) hk2]
    have hmore : s.took ++ [g.A (b + k)] = rgFrom g.A b (k + 1) := by rw [htk, rgFrom_add, rgFrom_one]
    by_cases e : k + 1 = N / 2
    · have hg : rgGive s (g.A (b + k)) won = { s with took := rgFrom g.A b (k + 1), k := s.k + 1, over := some ⟨4, 0, rgFrom g.A b (k + 1)⟩ } := by unfold rgGive rgPushGive; rw [if_pos hk, if_neg (by omega), if_neg (by omega), if_neg (by omega), if_neg (by omega), if_neg (by omega), hmore, if_pos (by omega)]
      rw [hg, e]
      exact ⟨g.empty 0, g.hand 0, h.ends hW hs ho (by simp), .ends rfl rfl (by rw [hh]; exact .full _ (by rw [rgFrom_len]; omega) hk rfl rfl)⟩
    · have hg : rgGive s (g.A (b + k)) won = { s with took := rgFrom g.A b (k + 1), k := s.k + 1 } := by unfold rgGive rgPushGive; rw [if_pos hk, if_neg (by omega), if_neg (by omega), if_neg (by omega), if_neg (by omega), if_neg (by omega), hmore, if_neg (by omega)]
      rw [hg]
      exact ⟨g, [], h.stay hW hs ho (fun _ => .inl ⟨rfl, .inl ⟨ha, hz, hk, hp.task, hp.top, hp.last, .inr ⟨hst, b, k + 1, by show s.k + 1 = _; omega, by omega, hlo, hh, rfl, hbT, fun j h1 h2 => hsl j (by omega) h2⟩⟩⟩) (fun e => absurd ho e) (fun _ => hnc _ hk), .stay ho rfl rfl⟩
end
end Go.Proofs.YtjbgkaleickknaaGreat
