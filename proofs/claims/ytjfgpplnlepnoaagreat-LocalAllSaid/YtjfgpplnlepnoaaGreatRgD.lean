import Derived.Test.YtjfgpplnlepnoaaGreatRgL
import Derived.Test.YtjfgpplnlepnoaaGreatRgB
/-
  Two rings, and what any deed of one who is alone makes of them.
-/
namespace Go.Proofs.YtjfgpplnlepnoaaGreat
set_option maxRecDepth 100000
set_option linter.unusedSimpArgs false
set_option linter.unusedVariables false
open Go

theorem RgL.all {N a : Nat} {us xs : List Int} {r : Int} (h : RgL N a us r xs) : rgAllOf a N us = some xs := by
  have hz := rgSz h.right
  have hfew := h.few
  have e1 : rgLo (us.getD a 0) = r := by rw [h.head]; exact rgLo_pair h.rr
  have e2 : rgLo (us.getD (a + 1) 0) = rgAdd r xs.length := by rw [h.tail]; exact rgLo_add _ _
  have e3 : M.aheadI (rgAdd r xs.length) r = xs.length := rgAhead_own h.rr _ (by omega) (by omega)
  unfold rgAllOf
  simp only [Int.toNat_natCast, show ((a : Int) + 1).toNat = a + 1 by omega, e1, e2, e3]
  rw [if_neg (by omega)]
  congr 1
  apply List.ext_getElem
  · simp
  · intro i h1 h2
    simp only [List.length_map, List.length_range] at h1
    simp only [List.getElem_map, List.getElem_range]
    have := h.slots i (by omega)
    unfold rgCell at this
    rw [this, List.getD, List.getElem?_eq_getElem h2]
    rfl
/-- A ring at the cell 0, and one behind it. -/
def RgTwo (N : Nat) (us xs ts : List Int) : Prop := us.length = 2 * N + 4 ∧ ∃ r r2, RgL N 0 us r xs ∧ RgL N (N + 2) us r2 ts
def raAt (k N : Nat) : Nat := if k = 4 then N + 2 else 0
def raKind (k : Nat) : Int := if k < 2 then 1 else if k = 3 then 3 else 2
def raTask (k : Nat) (v : Int) : Int := if k < 2 then v else 0
def raTg (k N : Nat) : Nat := if k = 3 then N + 2 else 0
inductive RaDeed (N k : Nat) (v : Int) (xs ts : List Int) (c u : Int) (l xs' ts' : List Int) : Prop
  | push : k < 2 → xs.length < N → c = 0 → u = 0 → l = [] → xs' = xs ++ [v] → ts' = ts → RaDeed N k v xs ts c u l xs' ts'
  | full : k < 2 → xs.length = N → c = 4 → u = 0 → l = xs.take (N / 2) → xs' = xs.drop (N / 2) → ts' = ts → RaDeed N k v xs ts c u l xs' ts'
  | popNone : k = 2 → xs = [] → c = 5 → u = 0 → l = [] → xs' = [] → ts' = ts → RaDeed N k v xs ts c u l xs' ts'
  | pop : k = 2 → xs = u :: xs' → c = 0 → l = [] → ts' = ts → RaDeed N k v xs ts c u l xs' ts'
  | stealFull : k = 3 → N / 2 < ts.length → c = 4 → u = 0 → l = [] → xs' = xs → ts' = ts → RaDeed N k v xs ts c u l xs' ts'
  | stealNone : k = 3 → ts.length ≤ N / 2 → xs = [] → c = 5 → u = 0 → l = [] → xs' = [] → ts' = ts → RaDeed N k v xs ts c u l xs' ts'
  | steal (nn : Nat) : k = 3 → ts.length ≤ N / 2 → nn = xs.length - xs.length / 2 → 1 ≤ nn → c = 0 → u = xs.getD (nn - 1) 0 → l = [] → xs' = xs.drop nn → ts' = ts ++ xs.take (nn - 1) → RaDeed N k v xs ts c u l xs' ts'
  | otherNone : k = 4 → ts = [] → c = 5 → u = 0 → l = [] → xs' = xs → ts' = [] → RaDeed N k v xs ts c u l xs' ts'
  | other : k = 4 → ts = u :: ts' → c = 0 → l = [] → xs' = xs → RaDeed N k v xs ts c u l xs' ts'
theorem RgTwo.deed {N : Nat} {us xs ts : List Int} (h : RgTwo N us xs ts) (k : Nat) (hk : k < 5) (v : Int) (hv : M.U v) :
    ∃ (n : Nat) (us' : List Int) (s' : RgS) (c u : Int) (l xs' ts' : List Int), 0 < n ∧ n ≤ N + 10 ∧ Solo ringM us (rgBegin (raAt k N) N (raKind k) (raTask k v) (raTg k N) true) n us' s' ∧ s'.over = some ⟨c, u, l⟩ ∧ RgTwo N us' xs' ts' ∧ RaDeed N k v xs ts c u l xs' ts' := by
  obtain ⟨hlen, r, r2, h1, h2⟩ := h
  have hz := rgSz h1.right
  have push : ∀ k, k < 2 → raAt k N = 0 → raKind k = 1 → raTask k v = v → raTg k N = 0 → ∃ (n : Nat) (us' : List Int) (s' : RgS) (c u : Int) (l xs' ts' : List Int), 0 < n ∧ n ≤ N + 10 ∧ Solo ringM us (rgBegin (raAt k N) N (raKind k) (raTask k v) (raTg k N) true) n us' s' ∧ s'.over = some ⟨c, u, l⟩ ∧ RgTwo N us' xs' ts' ∧ RaDeed N k v xs ts c u l xs' ts' := by
    intro k hk e1 e2 e3 e4
    rw [e1, e2, e3, e4]
    obtain ⟨n, us', s', n0, n1, hs, hl, ho, hc⟩ := h1.push v hv
    have h3 := h2.other hl (fun j j1 j2 => ho j (by omega))
    rcases hc with ⟨a, b, c⟩ | ⟨a, b, c⟩
    · exact ⟨n, us', s', 0, 0, [], xs ++ [v], ts, n0, n1, hs, b, ⟨by omega, _, _, c, h3⟩, .push hk a rfl rfl rfl rfl rfl⟩
    · exact ⟨n, us', s', 4, 0, _, xs.drop (N / 2), ts, n0, n1, hs, b, ⟨by omega, _, _, c, h3⟩, .full hk a rfl rfl rfl rfl rfl⟩
  rcases (show k = 0 ∨ k = 1 ∨ k = 2 ∨ k = 3 ∨ k = 4 by omega) with rfl | rfl | rfl | rfl | rfl
  · exact push 0 (by omega) rfl rfl rfl rfl
  · exact push 1 (by omega) rfl rfl rfl rfl
  · rw [show raAt 2 N = 0 from rfl, show raKind 2 = 2 from rfl, show raTask 2 v = 0 from rfl, show raTg 2 N = 0 from rfl]
    obtain ⟨n, us', s', n0, n1, hs, hl, ho, hc⟩ := h1.pop
    have h3 := h2.other hl (fun j j1 j2 => ho j (by omega))
    rcases hc with ⟨a, b, rfl⟩ | ⟨y, ys, a, b, c⟩
    · exact ⟨n, _, s', 5, 0, [], [], ts, n0, n1, hs, b, ⟨by omega, _, _, a ▸ h1, h2⟩, .popNone rfl a rfl rfl rfl rfl rfl⟩
    · exact ⟨n, us', s', 0, y, [], ys, ts, n0, n1, hs, b, ⟨by omega, _, _, c, h3⟩, .pop rfl a rfl rfl rfl⟩
  · rw [show raAt 3 N = 0 from rfl, show raKind 3 = 3 from rfl, show raTask 3 v = 0 from rfl, show raTg 3 N = N + 2 from rfl]
    obtain ⟨n, us', s', n0, n1, hs, hc⟩ := h1.steal h2 (by omega)
    rcases hc with ⟨a, b, rfl⟩ | ⟨a, b, c, rfl⟩ | ⟨nn, a, b, c, d, e⟩
    · exact ⟨n, _, s', 4, 0, [], xs, ts, n0, n1, hs, b, ⟨by omega, _, _, h1, h2⟩, .stealFull rfl a rfl rfl rfl rfl rfl⟩
    · exact ⟨n, _, s', 5, 0, [], [], ts, n0, n1, hs, c, ⟨by omega, _, _, b ▸ h1, h2⟩, .stealNone rfl a b rfl rfl rfl rfl rfl⟩
    · exact ⟨n, us', s', 0, _, [], _, _, n0, n1, hs, d, ⟨by rw [e.len]; omega, _, _, e.own, e.other⟩, .steal nn rfl c a b rfl rfl rfl rfl rfl⟩
  · rw [show raAt 4 N = N + 2 from rfl, show raKind 4 = 2 from rfl, show raTask 4 v = 0 from rfl, show raTg 4 N = 0 from rfl]
    obtain ⟨n, us', s', n0, n1, hs, hl, ho, hc⟩ := h2.pop
    have h3 := h1.other hl (fun j j1 j2 => ho j (by omega))
    rcases hc with ⟨a, b, rfl⟩ | ⟨y, ys, a, b, c⟩
    · exact ⟨n, _, s', 5, 0, [], xs, [], n0, n1, hs, b, ⟨by omega, _, _, h1, a ▸ h2⟩, .otherNone rfl a rfl rfl rfl rfl rfl⟩
    · exact ⟨n, us', s', 0, y, [], xs, ys, n0, n1, hs, b, ⟨by omega, _, _, h3, c⟩, .other rfl a rfl rfl rfl⟩
/-- New rings. -/
theorem RgL.new {N a : Nat} {us : List Int} {r : Int} (hr : dqRight a N) (hl : a + N + 2 ≤ us.length) (hrr : 0 ≤ r ∧ r < 4294967296) (hh : us.getD a 0 = rgPair r r) (ht : us.getD (a + 1) 0 = r) : RgL N a us r [] :=
  ⟨hr, hl, hrr, hh, by rw [ht]; exact (rgAdd_zero hrr).symm, by simp, fun i hi => by simp at hi, fun x hx => by simp at hx⟩
end Go.Proofs.YtjfgpplnlepnoaaGreat
