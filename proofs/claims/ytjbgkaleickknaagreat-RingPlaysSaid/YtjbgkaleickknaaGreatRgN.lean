import Derived.Test.YtjbgkaleickknaaGreatRgL
/-
  What an owner and thieves, each with a ring of its own, keep, whoever steps.
-/
namespace Go.Proofs.YtjbgkaleickknaaGreat
set_option maxRecDepth 100000
set_option linter.unusedSimpArgs false
set_option linter.unusedVariables false
open Go

/-- A head whose two numbers are a and b, counted from fr. -/
def rgH (fr a b : Int) : Int := rgPair (rgAdd fr a) (rgAdd fr b)
theorem rgH_hi (fr a b : Int) : rgHi (rgH fr a b) = rgAdd fr a := rgHi_pair (rgAdd_range fr b)
theorem rgH_lo (fr a b : Int) : rgLo (rgH fr a b) = rgAdd fr b := rgLo_pair (rgAdd_range fr b)
theorem rgH_U (fr a b : Int) : M.U (rgH fr a b) := rgPair_U (rgAdd_range fr a) (rgAdd_range fr b)
theorem rgAdd_inj {fr x y : Int} (h : rgAdd fr x = rgAdd fr y) (hx : 0 ≤ x ∧ x ≤ 1000000) (hy : 0 ≤ y ∧ y ≤ 1000000) : x = y := by unfold rgAdd at h; omega
theorem rgH_inj {fr a b c d : Int} (h : rgH fr a b = rgH fr c d) (ha : 0 ≤ a ∧ a ≤ 1000000) (hb : 0 ≤ b ∧ b ≤ 1000000) (hc : 0 ≤ c ∧ c ≤ 1000000) (hd : 0 ≤ d ∧ d ≤ 1000000) : a = c ∧ b = d := by
  have h1 := congrArg rgHi h
  have h2 := congrArg rgLo h
  rw [rgH_hi, rgH_hi] at h1
  rw [rgH_lo, rgH_lo] at h2
  exact ⟨rgAdd_inj h1 ha hc, rgAdd_inj h2 hb hd⟩

/-- What is known beside the words: how many the thieves let go of (S), who went out of it (R), who came into it (T), which tasks (A), the last popped one; where the rings of the others begin, what they have, what each has in its hand. -/
structure RgG where
  S : Int
  R : Int
  T : Int
  A : Int → Int
  last : Int
  rr : Nat → Int
  lst : Nat → List Int
  hand : Nat → List Int
def rgAt (N i : Nat) : Nat := i * (N + 2)
/-- n tasks, from the number x on. -/
def rgFrom (A : Int → Int) (x : Int) (n : Nat) : List Int := (List.range n).map fun j : Nat => A (x + (j : Int))
theorem rgFrom_len (A : Int → Int) (x : Int) (n : Nat) : (rgFrom A x n).length = n := by simp [rgFrom]
theorem rgFrom_at (A : Int → Int) (x : Int) (n j : Nat) (h : j < n) : (rgFrom A x n).getD j 0 = A (x + (j : Int)) := by simp [rgFrom, List.getD, h]
theorem rgFrom_add (A : Int → Int) (x : Int) (m n : Nat) : rgFrom A x (m + n) = rgFrom A x m ++ rgFrom A (x + (m : Int)) n := by
  simp only [rgFrom, List.range_add, List.map_append, List.map_map]
  congr 1
  apply List.map_congr_left
  intro j _
  simp only [Function.comp]
  congr 1
  omega
theorem rgFrom_same {A A' : Int → Int} {x : Int} {n : Nat} (h : ∀ j : Nat, j < n → A' (x + (j : Int)) = A (x + (j : Int))) : rgFrom A' x n = rgFrom A x n := by
  apply List.map_congr_left
  intro j hj
  exact h j (List.mem_range.1 hj)
theorem rgFrom_one (A : Int → Int) (x : Int) : rgFrom A x 1 = [A x] := by simp [rgFrom]
def rgRow (g : RgG) : List Int := rgFrom g.A g.R (g.T - g.R).toNat

structure RgMem (N W : Nat) (fr : Int) (us : List Int) (g : RgG) : Prop where
  right : ∀ i, i < W → dqRight (rgAt N i : Nat) N
  len : us.length = W * (N + 2)
  head : us.getD 0 0 = rgH fr g.S g.R
  tail : us.getD 1 0 = rgAdd fr g.T
  range : 0 ≤ g.S ∧ g.S ≤ g.R ∧ g.R ≤ g.T ∧ g.T ≤ g.S + N ∧ g.T ≤ 1000000
  slots : ∀ x, g.S ≤ x → x < g.T → us.getD (rgCell 0 N (rgAdd fr x)) 0 = g.A x
  tasks : ∀ x, M.U (g.A x)
  rise : ∀ x y, g.R ≤ x → x < y → y < g.T → g.A x < g.A y
  low : ∀ x, g.R ≤ x → x < g.T → g.last < g.A x
  rings : ∀ i, 0 < i → i < W → RgL N (rgAt N i) us (g.rr i) (g.lst i)
  own0 : g.lst 0 = []

/-- An earlier head. -/
def rgOld (fr : Int) (g : RgG) (h : Int) : Prop := ∃ a b, 0 ≤ a ∧ a ≤ g.S ∧ 0 ≤ b ∧ b ≤ g.R ∧ h = rgH fr a b
/-- A push under way. -/
structure RgP (N : Nat) (fr : Int) (us : List Int) (g : RgG) (s : RgS) : Prop where
  at0 : s.at_ = 0
  sz : s.size = N
  kind : s.kind = 1
  task : M.U s.task
  top : ∀ x, g.R ≤ x → x < g.T → g.A x < s.task
  last : g.last < s.task
  st : g.hand 0 = [s.task] ∧ s.took = [] ∧ s.k = 0 ∧ (s.step = 1 ∨ s.step = 2 ∧ rgOld fr g s.h ∨ s.step = 3 ∧ s.t = rgAdd fr g.T ∧ g.T < g.S + N ∨
      s.step = 4 ∧ s.t = rgAdd fr g.T ∧ g.T < g.S + N ∧ us.getD (rgCell 0 N (rgAdd fr g.T)) 0 = s.task ∨ s.step = 5 ∧ ∃ x, 0 ≤ x ∧ x ≤ g.S ∧ s.h = rgH fr x x ∧ N ≤ g.T - x) ∨
    s.step = 6 ∧ ∃ (b : Int) (k : Nat), s.k = k ∧ k < N / 2 ∧ rgLo s.h = rgAdd fr b ∧ g.hand 0 = s.task :: rgFrom g.A b (N / 2) ∧ s.took = rgFrom g.A b k ∧ (b + (N / 2 : Nat) ≤ g.T) ∧ ∀ j : Nat, k ≤ j → j < N / 2 → us.getD (rgCell 0 N (rgAdd fr (b + j))) 0 = g.A (b + j)
/-- A pop of the owner under way. -/
structure RgQ (N : Nat) (fr : Int) (us : List Int) (g : RgG) (s : RgS) : Prop where
  at0 : s.at_ = 0
  sz : s.size = N
  kind : s.kind = 2
  took : s.took = []
  st : g.hand 0 = [] ∧ (s.step = 1 ∨ s.step = 2 ∧ rgOld fr g s.h ∨ s.step = 3 ∧ ∃ a b, 0 ≤ a ∧ a ≤ g.S ∧ 0 ≤ b ∧ b ≤ g.R ∧ s.h = rgH fr a b ∧ b < g.T) ∨
    s.step = 4 ∧ ∃ v b, rgLo s.h = rgAdd fr b ∧ us.getD (rgCell 0 N (rgAdd fr b)) 0 = v ∧ g.hand 0 = [v] ∧ g.last < v ∧ ∀ x, g.R ≤ x → x < g.T → v < g.A x
/-- Whether it has claimed some that are not let go of yet. -/
def rgClaims (s : RgS) : Prop := s.kind = 3 ∧ (s.step = 6 ∨ s.step = 60 ∨ s.step = 7 ∨ s.step = 8)
def rgClaim (fr : Int) (g : RgG) (i n : Nat) : Prop := g.S + n ≤ g.R ∧ ∀ j : Nat, j < n → (g.hand i).getD j 0 = g.A (g.S + j)
def rgLaid (N : Nat) (us : List Int) (g : RgG) (i m : Nat) : Prop := ∀ j : Nat, j < m → us.getD (rgCell (rgAt N i) N (rgAdd (g.rr i) ((g.lst i).length + j))) 0 = (g.hand i).getD j 0
/-- A steal under way. -/
structure RgT (N : Nat) (fr : Int) (us : List Int) (g : RgG) (i : Nat) (s : RgS) : Prop where
  at0 : s.at_ = 0
  sz : s.size = N
  kind : s.kind = 3
  tgt : s.target = (rgAt N i : Nat)
  st : g.hand i = [] ∧ s.took = [] ∧ s.k = 0 ∧ (s.step = 1 ∨ s.u = rgAdd (g.rr i) (g.lst i).length ∧ (s.step = 2 ∨ (g.lst i).length ≤ N / 2 ∧ (s.step = 3 ∨ s.step = 4 ∧ rgOld fr g s.h ∨
      s.step = 5 ∧ ∃ x tau, 0 ≤ x ∧ x ≤ g.S ∧ s.h = rgH fr x x ∧ tau ≤ g.T ∧ 1 ≤ tau - x ∧ tau - x ≤ N ∧ s.n = rgCount (tau - x)))) ∨
    s.u = rgAdd (g.rr i) (g.lst i).length ∧ (g.lst i).length ≤ N / 2 ∧ (∀ v ∈ g.hand i, M.U v) ∧ ∃ n : Nat, s.n = n ∧ 1 ≤ n ∧ n ≤ N / 2 ∧ (g.hand i).length = n ∧
      (s.step = 6 ∧ s.t = rgAdd fr g.S ∧ rgClaim fr g i n ∧ (∃ k : Nat, s.k = k ∧ k < n ∧ s.took = (g.hand i).take k ∧ rgLaid N us g i k) ∨
       s.step = 60 ∧ s.t = rgAdd fr g.S ∧ rgClaim fr g i n ∧ (∃ k : Nat, s.k = k ∧ k + 1 < n ∧ s.took = (g.hand i).take (k + 1) ∧ rgLaid N us g i k) ∨
       (s.step = 7 ∨ s.step = 8) ∧ rgClaim fr g i n ∧ s.took = g.hand i ∧ rgLaid N us g i (n - 1) ∧ (s.step = 8 → M.U s.h) ∨
       s.step = 9 ∧ 1 < n ∧ s.took = g.hand i ∧ rgLaid N us g i (n - 1))
/-- A pop of one's own ring under way. -/
structure RgO (N : Nat) (us : List Int) (g : RgG) (i : Nat) (s : RgS) : Prop where
  at0 : s.at_ = (rgAt N i : Nat)
  sz : s.size = N
  kind : s.kind = 2
  took : s.took = []
  st : g.hand i = [] ∧ (s.step = 1 ∨ s.step = 2 ∧ s.h = rgPair (g.rr i) (g.rr i) ∨ s.step = 3 ∧ s.h = rgPair (g.rr i) (g.rr i) ∧ 1 ≤ (g.lst i).length) ∨
    s.step = 4 ∧ ∃ v, us.getD (rgCell (rgAt N i) N (rgLo s.h)) 0 = v ∧ g.hand i = [v]
def RgWk (N : Nat) (fr : Int) (us : List Int) (g : RgG) (i : Nat) (s : RgS) : Prop := i = 0 ∧ (RgP N fr us g s ∨ RgQ N fr us g s) ∨ 0 < i ∧ (RgT N fr us g i s ∨ RgO N us g i s)
structure RgInv (N W : Nat) (fr : Int) (us : List Int) (ss : Nat → Option RgS) (g : RgG) : Prop where
  mem : RgMem N W fr us g
  wk : ∀ i s, i < W → ss i = some s → s.over = none → RgWk N fr us g i s
  idle : ∀ i, i < W → (∀ s, ss i = some s → s.over ≠ none) → g.hand i = []
  one : ∀ i j s u, i < W → j < W → ss i = some s → s.over = none → rgClaims s → ss j = some u → u.over = none → rgClaims u → i = j

section
variable {N W i j : Nat} {fr : Int} {us us' : List Int} {ss : Nat → Option RgS} {g g' : RgG} {s s' u : RgS}
theorem rgOld.later {h : Int} (a : rgOld fr g h) (h1 : g.S ≤ g'.S) (h2 : g.R ≤ g'.R) : rgOld fr g' h := by
  obtain ⟨x, y, a1, a2, a3, a4, a5⟩ := a
  exact ⟨x, y, a1, by omega, a3, by omega, a5⟩
/-- What another one's step leaves of a push. -/
theorem RgP.later (h : RgP N fr us g s) (h1 : g.S ≤ g'.S) (h2 : g.R ≤ g'.R) (h3 : g'.T = g.T) (h4 : g'.A = g.A) (h5 : g'.last = g.last) (h6 : g'.hand 0 = g.hand 0) (h0 : dqRight (0 : Nat) N) (hc : ∀ c, 1 ≤ c → c < N + 2 → us'.getD c 0 = us.getD c 0) : RgP N fr us' g' s := by
  have hcell : ∀ x, us'.getD (rgCell 0 N (rgAdd fr x)) 0 = us.getD (rgCell 0 N (rgAdd fr x)) 0 := fun x => by
    have := rgCell_range (a := 0) h0 (rgAdd fr x)
    exact hc _ (by omega) (by omega)
  refine ⟨h.at0, h.sz, h.kind, h.task, fun x a b => by rw [h4]; exact h.top x (by omega) (by omega), by rw [h5]; exact h.last, ?_⟩
  rcases h.st with ⟨a, b, c, d⟩ | ⟨a, b, k, c⟩
  · refine .inl ⟨by rw [h6]; exact a, b, c, ?_⟩
    rcases d with d | ⟨d, e⟩ | ⟨d, e, f⟩ | ⟨d, e, f, f2⟩ | ⟨d, x, e, f, f2, f3⟩
    · exact .inl d
    · exact .inr (.inl ⟨d, e.later h1 h2⟩)
    · exact .inr (.inr (.inl ⟨d, by rw [h3]; exact e, by omega⟩))
    · exact .inr (.inr (.inr (.inl ⟨d, by rw [h3]; exact e, by omega, by rw [h3, hcell]; exact f2⟩)))
    · exact .inr (.inr (.inr (.inr ⟨d, x, e, by omega, f2, by omega⟩)))
  · obtain ⟨c1, c2, c3, c4, c5, c6, c7⟩ := c
    exact .inr ⟨a, b, k, c1, c2, c3, by rw [h6, h4]; exact c4, by rw [h4]; exact c5, by rw [h3]; exact c6, fun j a b => by rw [hcell, h4]; exact c7 j a b⟩
theorem RgQ.later (h : RgQ N fr us g s) (h1 : g.S ≤ g'.S) (h2 : g.R ≤ g'.R) (h3 : g'.T = g.T) (h4 : g'.A = g.A) (h5 : g'.last = g.last) (h6 : g'.hand 0 = g.hand 0) (h0 : dqRight (0 : Nat) N) (hc : ∀ c, 1 ≤ c → c < N + 2 → us'.getD c 0 = us.getD c 0) : RgQ N fr us' g' s := by
  refine ⟨h.at0, h.sz, h.kind, h.took, ?_⟩
  rcases h.st with ⟨a, b⟩ | ⟨a, v, b, b1, b2, b3, b4, b5⟩
  · refine .inl ⟨by rw [h6]; exact a, ?_⟩
    rcases b with b | ⟨b, c⟩ | ⟨b, x, y, c1, c2, c3, c4, c5, c6⟩
    · exact .inl b
    · exact .inr (.inl ⟨b, c.later h1 h2⟩)
    · exact .inr (.inr ⟨b, x, y, c1, by omega, c3, by omega, c5, by omega⟩)
  · have := rgCell_range (a := 0) h0 (rgAdd fr b)
    exact .inr ⟨a, v, b, b1, by rw [hc _ (by omega) (by omega)]; exact b2, by rw [h6]; exact b3, by rw [h5]; exact b4, fun x c d => by rw [h4]; exact b5 x (by omega) (by omega)⟩
/-- What another one's step leaves of a steal. -/
theorem RgT.later (h : RgT N fr us g i s) (h1 : g.S ≤ g'.S) (h2 : g.R ≤ g'.R) (h3 : g.T ≤ g'.T) (h4 : ∀ x, x < g.T → g'.A x = g.A x) (hRT : g.R ≤ g.T) (hS : rgClaims s → g'.S = g.S) (h5 : g'.rr i = g.rr i ∧ g'.lst i = g.lst i ∧ g'.hand i = g.hand i) (hr : dqRight (rgAt N i : Nat) N) (hc : ∀ c, rgAt N i ≤ c → c < rgAt N i + N + 2 → us'.getD c 0 = us.getD c 0) : RgT N fr us' g' i s := by
  obtain ⟨e1, e2, e3⟩ := h5
  have hlaid : ∀ m, rgLaid N us g i m → rgLaid N us' g' i m := fun m hl j hj => by
    have := rgCell_range hr (rgAdd (g.rr i) ((g.lst i).length + j))
    rw [e1, e2, e3, hc _ (by omega) (by omega)]
    exact hl j hj
  have hcl : ∀ n, rgClaims s → rgClaim fr g i n → rgClaim fr g' i n := fun n hs hl => by
    have hS' := hS hs
    refine ⟨by have := hl.1; omega, fun j hj => ?_⟩
    have := hl.1
    rw [e3, hS', hl.2 j hj, h4 _ (by omega)]
  refine ⟨h.at0, h.sz, h.kind, h.tgt, ?_⟩
  rcases h.st with ⟨a, b, c, d⟩ | ⟨a, b, b', n, n1, n2, n3, n4, c⟩
  · refine .inl ⟨by rw [e3]; exact a, b, c, ?_⟩
    rcases d with d | ⟨d, e⟩
    · exact .inl d
    · refine .inr ⟨by rw [e1, e2]; exact d, ?_⟩
      rcases e with e | ⟨e, f⟩
      · exact .inl e
      · refine .inr ⟨by rw [e2]; exact e, ?_⟩
        rcases f with f | ⟨f, f1⟩ | ⟨f, x, tau, f1, f2, f3, f4, f5, f6, f7⟩
        · exact .inl f
        · exact .inr (.inl ⟨f, f1.later h1 h2⟩)
        · exact .inr (.inr ⟨f, x, tau, f1, by omega, f3, by omega, f5, f6, f7⟩)
  · refine .inr ⟨by rw [e1, e2]; exact a, by rw [e2]; exact b, by rw [e3]; exact b', n, n1, n2, n3, by rw [e3]; exact n4, ?_⟩
    have hk := h.kind
    rcases c with ⟨c, c1, c2, k, c3, c4, c5, c6⟩ | ⟨c, c1, c2, k, c3, c4, c5, c6⟩ | ⟨c, c1, c2, c3, c4⟩ | ⟨c, c1, c2, c3⟩
    · have hs : rgClaims s := ⟨hk, .inl c⟩
      exact .inl ⟨c, by rw [hS hs]; exact c1, hcl n hs c2, k, c3, c4, by rw [e3]; exact c5, hlaid _ c6⟩
    · have hs : rgClaims s := ⟨hk, .inr (.inl c)⟩
      exact .inr (.inl ⟨c, by rw [hS hs]; exact c1, hcl n hs c2, k, c3, c4, by rw [e3]; exact c5, hlaid _ c6⟩)
    · have hs : rgClaims s := ⟨hk, .inr (.inr c)⟩
      exact .inr (.inr (.inl ⟨c, hcl n hs c1, by rw [e3]; exact c2, hlaid _ c3, c4⟩))
    · exact .inr (.inr (.inr ⟨c, c1, by rw [e3]; exact c2, hlaid _ c3⟩))
theorem RgO.later (h : RgO N us g i s) (h5 : g'.rr i = g.rr i ∧ g'.lst i = g.lst i ∧ g'.hand i = g.hand i) (hr : dqRight (rgAt N i : Nat) N) (hc : ∀ c, rgAt N i ≤ c → c < rgAt N i + N + 2 → us'.getD c 0 = us.getD c 0) : RgO N us' g' i s := by
  obtain ⟨e1, e2, e3⟩ := h5
  refine ⟨h.at0, h.sz, h.kind, h.took, ?_⟩
  rcases h.st with ⟨a, b⟩ | ⟨a, v, b, c⟩
  · exact .inl ⟨by rw [e3]; exact a, by rw [e1, e2]; exact b⟩
  · have := rgCell_range hr (rgLo s.h)
    exact .inr ⟨a, v, by rw [hc _ (by omega) (by omega)]; exact b, by rw [e3]; exact c⟩
/-- One worker's state is another one, and what is there may be. -/
theorem RgInv.upd (h : RgInv N W fr us ss g) (hi : i < W) (hs : ss i = some s) (ho : s.over = none) (hm : RgMem N W fr us' g') (hsame : ∀ j, j ≠ i → g'.rr j = g.rr j ∧ g'.lst j = g.lst j ∧ g'.hand j = g.hand j)
    (hwi : s'.over = none → RgWk N fr us' g' i s') (hid : s'.over ≠ none → g'.hand i = []) (hmono : g.S ≤ g'.S ∧ g.R ≤ g'.R ∧ g.T ≤ g'.T) (hA : ∀ x, x < g.T → g'.A x = g.A x)
    (h0 : i ≠ 0 → g'.T = g.T ∧ g'.A = g.A ∧ g'.last = g.last ∧ ∀ c, 1 ≤ c → c < N + 2 → us'.getD c 0 = us.getD c 0) (hcl : g'.S = g.S ∨ g.S = g.R ∨ rgClaims s)
    (hring : ∀ j, j ≠ i → 0 < j → j < W → ∀ c, rgAt N j ≤ c → c < rgAt N j + N + 2 → us'.getD c 0 = us.getD c 0) (hone : s'.over = none → rgClaims s' → rgClaims s ∨ g.S = g.R) : RgInv N W fr us' (updG ss i (some s')) g' := by
  have hRT := h.mem.range.2.2.1
  -- who claims has not let go
  have hlt : ∀ j u, j < W → ss j = some u → u.over = none → rgClaims u → g.S < g.R := fun j u hj hu hou hc => by
    rcases h.wk j u hj hu hou with ⟨-, hp | hp⟩ | ⟨-, hp | hp⟩
    · have := hp.kind; have := hc.1; omega
    · have := hp.kind; have := hc.1; omega
    · rcases hp.st with ⟨-, -, -, d⟩ | ⟨-, -, -, n, -, n2, -, -, c⟩
      · have := hc.2
        rcases d with d | ⟨-, d | ⟨-, d | ⟨d, -⟩ | ⟨d, -⟩⟩⟩ <;> omega
      · have := hc.2
        rcases c with ⟨-, -, c, -⟩ | ⟨-, -, c, -⟩ | ⟨-, c, -⟩ | ⟨c, -⟩
        · have := c.1; omega
        · have := c.1; omega
        · have := c.1; omega
        · omega
    · have := hp.kind; have := hc.1; omega
  refine ⟨hm, fun j u hj hu hou => ?_, fun j hj hn => ?_, fun j k u v hj hk hu hou hcu hv hov hcv => ?_⟩
  · by_cases e : j = i
    · subst e
      rw [updG_same] at hu
      cases hu
      exact hwi hou
    · rw [updG_ne _ _ e] at hu
      have hS : rgClaims u → g'.S = g.S := fun hc => by
        rcases hcl with a | a | a
        · exact a
        · have := hlt j u hj hu hou hc; omega
        · exact absurd (h.one j i u s hj hi hu hou hc hs ho a) e
      rcases h.wk j u hj hu hou with ⟨rfl, hp⟩ | ⟨h1, hp⟩
      · obtain ⟨b1, b2, b3, b4⟩ := h0 (Ne.symm e)
        have hh := (hsame 0 e).2.2
        have hr := h.mem.right 0 hj
        rw [show rgAt N 0 = 0 by simp [rgAt]] at hr
        exact .inl ⟨rfl, hp.imp (fun hp => hp.later hmono.1 hmono.2.1 b1 b2 b3 hh hr b4) (fun hp => hp.later hmono.1 hmono.2.1 b1 b2 b3 hh hr b4)⟩
      · exact .inr ⟨h1, hp.imp (fun hp => hp.later hmono.1 hmono.2.1 hmono.2.2 hA hRT hS (hsame j e) (h.mem.right j hj) (hring j e h1 hj)) (fun hp => hp.later (hsame j e) (h.mem.right j hj) (hring j e h1 hj))⟩
  · by_cases e : j = i
    · subst e
      exact hid (hn s' (updG_same _ _ _))
    · rw [(hsame j e).2.2]
      exact h.idle j hj fun u hu => hn u (by rw [updG_ne _ _ e]; exact hu)
  · by_cases e : j = i
    · by_cases e2 : k = i
      · rw [e, e2]
      · subst e
        rw [updG_same] at hu
        cases hu
        rw [updG_ne _ _ e2] at hv
        rcases hone hou hcu with a | a
        · exact h.one j k s v hj hk hs ho a hv hov hcv
        · have := hlt k v hk hv hov hcv; omega
    · rw [updG_ne _ _ e] at hu
      by_cases e2 : k = i
      · subst e2
        rw [updG_same] at hv
        cases hv
        rcases hone hov hcv with a | a
        · exact h.one j k u s hj hk hu hou hcu hs ho a
        · have := hlt j u hj hu hou hcu; omega
      · rw [updG_ne _ _ e2] at hv
        exact h.one j k u v hj hk hu hou hcu hv hov hcv
end
end Go.Proofs.YtjbgkaleickknaaGreat
