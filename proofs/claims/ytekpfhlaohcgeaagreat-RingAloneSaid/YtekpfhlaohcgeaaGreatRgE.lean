/-
  Contracts: first of the statements of layer 8; a walk of the five that a round makes.
-/
import Derived.Test.YtekpfhlaohcgeaaGreatRgD
import Derived.Test.YtekpfhlaohcgeaaGreatAt
import Derived.Test.YtekpfhlaohcgeaaGreatRgX
namespace Go.Proofs.YtekpfhlaohcgeaaGreat
set_option maxRecDepth 100000
set_option linter.unusedSimpArgs false
set_option linter.unusedVariables false
open Go.ChangeShapes Go.WideShapes Go.ChangeAt Go.RowKit

/-- A row of one's own that isn't nil. -/
theorem InAt.of_owns {w : World} {base n : Nat} {e : TypeId} {v : Value} {xs : List Value} (h : w.ownsRow base e 1 v n xs) (hne : v ≠ .slice none 0 0) : ∃ g cap, v = .slice (some ⟨g, 0, none⟩) n cap ∧ base ≤ g ∧ InAt w g 0 cap e xs := by
  rcases h.2 with ⟨h1, -⟩ | ⟨g, cap, cur, h1, hb, hg, h4, h5, h6, h7⟩
  · exact absurd h1 hne
  · refine ⟨g, cap, h1, hb, ?_⟩
    refine ⟨by rw [h.1]; omega, h5, cur, hg, by omega, fun i u hu => ?_⟩
    have hi := (List.getElem?_eq_some_iff.1 hu).1
    have hl := h.1
    rw [← h7, List.getElem?_take_of_lt (by omega)] at hu
    rw [Nat.zero_add, ← Array.getElem?_toList]
    exact hu
theorem Sl.none (w : World) (p : Option Addr) (c : Nat) : Sl w 1 (.slice p 0 c) 0 [] := ⟨rfl, .inl ⟨p, c, rfl, rfl⟩⟩
theorem wds_take (n : Nat) (xs : List Int) : (ints .u64 xs).take n = ints .u64 (xs.take n) := by simp [ints, List.map_take]
theorem wds_drop (n : Nat) (xs : List Int) : (ints .u64 xs).drop n = ints .u64 (xs.drop n) := by simp [ints, List.map_drop]

set_option maxHeartbeats 800000 in
/-- A list without its first number, and what a pop tells. -/
theorem first_any (g off cap : Nat) (xs : List Int) (w : World) (h : InAt w g off cap 24 (ints .u64 xs)) :
    Calls Tryz.prog 31 #[.slice (some ⟨g, off, none⟩) xs.length cap] w fun e w' => ∃ off' cap', e = .returned (.tuple #[.slice (some ⟨g, off', none⟩) xs.tail.length cap', .agg #[.int .i64 (if xs = [] then 5 else 0), .int .u64 (xs.headD 0), .slice none 0 0]]) ∧ InAt w' g off' cap' 24 (ints .u64 xs.tail) ∧ Keeps [] w w' := by
  have HIn := Lib.hid h
  have hfew := h.few
  have hlt := h.lt
  unfold maxLen at hfew
  cases xs with
  | nil =>
    clear h
    simp only [List.length_nil, List.tail_nil, if_true, List.headD_nil]
    go_enter Tryz.func31, Tryz.ntmps31
    go_wp2
    obtain ⟨W2, hW2⟩ : ∃ W2, w.alloc (.cells #[.int .i64 5, .int .u64 0, .slice none 0 0] 65) = W2 := ⟨_, rfl⟩
    have r2 : Row W2 w.heap.size 65 [.int .i64 5, .int .u64 0, .slice none 0 0] := by rw [← hW2]; exact Row.new _ _ _
    have k2 : Keeps [] w W2 := by rw [← hW2]; exact (Keeps.refl _ _).alloc _
    have p0 := r2.cell (j := 0) rfl
    have p1 := r2.cell (j := 1) rfl
    have p2 := r2.cell (j := 2) rfl
    rw [hW2]
    refine bodyPost_ret (v := .tuple #[.slice (some ⟨g, off, none⟩) 0 cap, .agg #[.int .i64 5, .int .u64 0, .slice none 0 0]]) (by simp [results, Tryz.results31, go_sem, p0, p1, p2]) rfl ?_
    exact ⟨off, cap, rfl, HIn.out.keeps k2 (by simp), k2⟩
  | cons x xs =>
    have hin2 := h
    rw [show ints .u64 (x :: xs) = .int .u64 x :: ints .u64 xs from rfl] at hin2
    have cL := hin2.cell (i := 0) (u := .int .u64 x) rfl
    rw [Nat.add_zero] at cL
    have HT := Lib.hid hin2.tail
    have hfit := h.fits
    simp [ints] at hfit
    obtain ⟨n, hn⟩ : ∃ n, xs.length = n := ⟨_, rfl⟩
    simp only [List.length_cons, List.tail_cons, hn, List.headD_cons, if_neg (List.cons_ne_nil x xs)]
    rw [hn] at hfit
    clear h hin2
    obtain ⟨W1, hW1⟩ : ∃ W1, w.alloc (.cells #[.int .i64 0, .int .u64 0, .slice none 0 0] 65) = W1 := ⟨_, rfl⟩
    have r1 : Row W1 w.heap.size 65 [.int .i64 0, .int .u64 0, .slice none 0 0] := by rw [← hW1]; exact Row.new _ _ _
    have k1 : Keeps [] w W1 := by rw [← hW1]; exact (Keeps.refl _ _).alloc _
    have c1 := (k1.cell (p := ⟨g, off, none⟩) hlt (by simp)).trans cL
    have a0 := r1.cell (j := 0) rfl
    have a1 := r1.cell (j := 1) rfl
    have a2 := r1.cell (j := 2) rfl
    have f0 := r1.frozen 0
    have f1 := r1.frozen 1
    have f2 := r1.frozen 2
    have i1 : (1 : Int) ≤ (n : Int) + 1 := by omega
    clear cL
    go_enter Tryz.func31, Tryz.ntmps31
    by_cases hc1 : cap = 1
    · rw [if_pos hc1] at HT
      subst hc1
      obtain rfl : n = 0 := by omega
      go_wp2_with fail
      go_region
      obtain ⟨W3, hW3⟩ : ∃ W3, (((W1.setCell ⟨w.heap.size, 0, none⟩ (.int .i64 0)).setCell ⟨w.heap.size, 1, none⟩ (.int .u64 x)).setCell ⟨w.heap.size, 2, none⟩ (.slice none 0 0)).drew = W3 := ⟨_, rfl⟩
      have k3 : Keeps [] w W3 := by rw [← hW3]; exact (((k1.setCell (fun hl => absurd hl (Nat.lt_irrefl _)) _).setCell (fun hl => absurd hl (Nat.lt_irrefl _)) _).setCell (fun hl => absurd hl (Nat.lt_irrefl _)) _).drew
      have r3 : Row W3 w.heap.size 65 [.int .i64 0, .int .u64 x, .slice none 0 0] := by rw [← hW3]; exact (((r1.set 0 (.int .i64 0)).set 1 (.int .u64 x)).set 2 (.slice none 0 0)).keeps (Keeps.refl [] _).drew (by simp)
      have p0 := r3.cell (j := 0) rfl
      have p1 := r3.cell (j := 1) rfl
      have p2 := r3.cell (j := 2) rfl
      rw [hW3]
      have hin3 := HT.out.keeps k3 (by simp)
      clear hW3 r3 hW1 r1 k1 c1 a0 a1 a2 f0 f1 f2 i1
      go_wp2
      refine bodyPost_ret (v := .tuple #[.slice (some ⟨g, off, none⟩) 0 0, .agg #[.int .i64 0, .int .u64 x, .slice none 0 0]]) (by simp [results, Tryz.results31, go_sem, p0, p1, p2]) rfl ?_
      exact ⟨_, _, rfl, hin3, k3⟩
    · rw [if_neg hc1] at HT
      go_wp2_with fail
      go_region
      obtain ⟨W3, hW3⟩ : ∃ W3, (((W1.setCell ⟨w.heap.size, 0, none⟩ (.int .i64 0)).setCell ⟨w.heap.size, 1, none⟩ (.int .u64 x)).setCell ⟨w.heap.size, 2, none⟩ (.slice none 0 0)).drew = W3 := ⟨_, rfl⟩
      have k3 : Keeps [] w W3 := by rw [← hW3]; exact (((k1.setCell (fun hl => absurd hl (Nat.lt_irrefl _)) _).setCell (fun hl => absurd hl (Nat.lt_irrefl _)) _).setCell (fun hl => absurd hl (Nat.lt_irrefl _)) _).drew
      have r3 : Row W3 w.heap.size 65 [.int .i64 0, .int .u64 x, .slice none 0 0] := by rw [← hW3]; exact (((r1.set 0 (.int .i64 0)).set 1 (.int .u64 x)).set 2 (.slice none 0 0)).keeps (Keeps.refl [] _).drew (by simp)
      have p0 := r3.cell (j := 0) rfl
      have p1 := r3.cell (j := 1) rfl
      have p2 := r3.cell (j := 2) rfl
      rw [hW3]
      have hin3 := HT.out.keeps k3 (by simp)
      clear hW3 r3 hW1 r1 k1 c1 a0 a1 a2 f0 f1 f2 i1
      go_wp2
      refine bodyPost_ret (v := .tuple #[.slice (some ⟨g, off + 1, none⟩) n (cap - 1), .agg #[.int .i64 0, .int .u64 x, .slice none 0 0]]) (by simp [results, Tryz.results31, go_sem, p0, p1, p2]) rfl ?_
      exact ⟨_, _, rfl, hin3, k3⟩

/-- One of the five walks that a round makes, made since w0. -/
def RaWalk (w0 W : World) (mm : Nat) (v : Int) (N k : Nat) : Prop := ∃ S, LoneIO ringM (rgE mm) mm W S (rgBegin (raAt k N) N (raKind k) (raTask k v) (raTg k N) true) ∧ ∀ x ∈ S, w0.heap.size ≤ x
theorem RaWalk.keeps {w0 W W' : World} {mm N k : Nat} {v : Int} (h : RaWalk w0 W mm v N k) (hk : Keeps [] W W') : RaWalk w0 W' mm v N k := by
  obtain ⟨S, h1, h2⟩ := h
  exact ⟨S, (rgRuns mm).frame h1 hk (by simp), h2⟩
theorem RaWalk.push {w0 W : World} {mm N k : Nat} {v : Int} {S : List Nat} (hk : k < 2) (hr : dqRight ((0 : Nat) : Int) N) (h : LoneIO ringM (rgE mm) mm W S (rgBegin 0 N 1 v 0 (decide (dqRight 0 N)))) (hS : ∀ x ∈ S, w0.heap.size ≤ x) : RaWalk w0 W mm v N k := by
  refine ⟨S, ?_, hS⟩
  rw [decide_eq_true (show dqRight 0 (N : Int) from hr)] at h
  have e1 : raAt k N = 0 := if_neg (by omega)
  have e2 : raKind k = 1 := if_pos hk
  have e3 : raTask k v = v := if_pos hk
  have e4 : raTg k N = 0 := if_neg (by omega)
  rw [e1, e2, e3, e4]
  exact h
theorem RaWalk.pop {w0 W : World} {mm N : Nat} {v : Int} {S : List Nat} (hr : dqRight ((0 : Nat) : Int) N) (h : LoneIO ringM (rgE mm) mm W S (rgBegin 0 N 2 0 0 (decide (dqRight 0 N)))) (hS : ∀ x ∈ S, w0.heap.size ≤ x) : RaWalk w0 W mm v N 2 := by
  rw [decide_eq_true (show dqRight 0 (N : Int) from hr)] at h
  exact ⟨S, h, hS⟩
theorem RaWalk.steal {w0 W : World} {mm N : Nat} {v : Int} {S : List Nat} (hr : dqRight ((0 : Nat) : Int) N) (hr2 : dqRight ((N + 2 : Nat) : Int) N) (h : LoneIO ringM (rgE mm) mm W S (rgBegin 0 N 3 0 ((N : Int) + 2) (decide (rgFeeds 0 N ((N : Int) + 2) N)))) (hS : ∀ x ∈ S, w0.heap.size ≤ x) : RaWalk w0 W mm v N 3 := by
  rw [decide_eq_true (show rgFeeds 0 (N : Int) ((N : Int) + 2) N from ⟨hr, hr2, rfl, .inl (by omega)⟩)] at h
  exact ⟨S, h, hS⟩
theorem RaWalk.other {w0 W : World} {mm N : Nat} {v : Int} {S : List Nat} (hr2 : dqRight ((N + 2 : Nat) : Int) N) (h : LoneIO ringM (rgE mm) mm W S (rgBegin ((N : Int) + 2) N 2 0 0 (decide (dqRight ((N : Int) + 2) N)))) (hS : ∀ x ∈ S, w0.heap.size ≤ x) : RaWalk w0 W mm v N 4 := by
  rw [decide_eq_true (show dqRight ((N : Int) + 2) (N : Int) from hr2)] at h
  exact ⟨S, h, hS⟩
/-- A new walk of a worker who isn't busy: it is started, and goes to its end alone; what it tells is known, and the memory is the same one. -/
theorem Solo.begunM {σ : Type} {K : Mach σ} {I : World → List Nat → σ → Prop} {m : Nat} {R : Runs K I m} {us' : List Int} {s s' : σ} {n : Nat} {L : LSt} (h : Solo K L.us s n us' s') (D : Nat → Prop) (who most : Nat) (r : Rs) (o : Option Strand) (S : List Nat) (w0 w1 : World) (hL : Loom D w0 L) (hk : Keeps [] w0 w1) (ho : L.ts[who]? = some o) (hb : busy o = false) (hI : I w1 S s) (hS : ∀ k ∈ S, w0.heap.size ≤ k)
    (h0 : 0 < n) (hn : n ≤ most) (hm : most ≤ 1000000) (hst : L.steps ≤ 100000000000) (hr : K.res s' = some r) :
    ∃ (L1 M : LSt) (o' : Option Strand), (M.l = L.l ∧ M.mm = L.mm ∧ M.us = us' ∧ M.steps = L.steps + n ∧ M.ts[who]? = some o' ∧ busy o' = false ∧ o'.bind Strand.res = some r) ∧
      Calls Tryz.prog 25 #[.pointer (some ⟨L.l, 0, none⟩), .int .i64 (who : Int), .pointer (some ⟨m, 0, none⟩)] w1 (fun e w' => e = .returned (.int .i64 0) ∧ Loom D w' L1 ∧ Held D w0 w') ∧
      ∀ (w : World), Loom D w L1 → Calls Tryz.prog 30 #[.pointer (some ⟨L.l, 0, none⟩), .int .i64 (who : Int), .int .i64 (most : Int)] w fun e w' => e = .returned (.tuple #[.int .i64 (n : Int), .int .i64 0]) ∧ Loom D w' M ∧ Held D w w' := by
  have hlt := (List.getElem?_eq_some_iff.1 ho).1
  have hSt := start_at D L who o ⟨σ, K, I, m, R, s⟩ S w0 w1 hL hk ho hb hI hS
  refine ⟨{ L with ts := L.ts.set who (some ⟨σ, K, I, m, R, s⟩) }, LSt.ran { L with ts := L.ts.set who (some ⟨σ, K, I, m, R, s⟩) } who K I m R n us' s', some ⟨σ, K, I, m, R, s'⟩, ⟨rfl, rfl, rfl, rfl, ?_, by simp [busy, Strand.res, hr], by simp [Strand.res, hr]⟩, hSt.mono ?_, fun w hw => ?_⟩
  · show (List.set _ _ _)[who]? = _
    exact List.getElem?_set_self (by simpa using hlt)
  · rintro e w' ⟨rfl, a, b⟩
    exact ⟨rfl, a, (hk.held hL.dom (by simp)).trans (b.held (fun k hk' => Nat.lt_of_lt_of_le (hL.dom k hk') hk.size) (fun k hk' => by simp at hk'; subst hk'; exact hL.base.2.1))⟩
  · exact h.alone (I := I) (m := m) (R := R) D { L with ts := L.ts.set who (some ⟨σ, K, I, m, R, s⟩) } who most r w hw rfl (List.getElem?_set_self hlt) h0 hn hm hst hr
theorem RaDeed.few {N k : Nat} {v c u : Int} {xs ts l xs' ts' : List Int} (h : RaDeed N k v xs ts c u l xs' ts') : l.length ≤ N := by
  cases h with
  | full _ _ _ _ hl => subst hl; simp; omega
  | push _ _ _ _ hl => subst hl; simp
  | popNone _ _ _ _ hl => subst hl; simp
  | pop _ _ _ hl => subst hl; simp
  | stealFull _ _ _ _ hl => subst hl; simp
  | stealNone _ _ _ _ _ hl => subst hl; simp
  | steal _ _ _ _ _ _ _ hl => subst hl; simp
  | otherNone _ _ _ _ hl => subst hl; simp
  | other _ _ _ hl => subst hl; simp
theorem RaDeed.popped {N k : Nat} {v c u : Int} {xs ts l xs' ts' : List Int} (h : RaDeed N k v xs ts c u l xs' ts') (hk : k = 2) : xs' = xs.tail ∧ c = (if xs = [] then 5 else 0) ∧ u = xs.headD 0 ∧ l = [] ∧ ts' = ts := by
  cases h with
  | full h1 => omega
  | push h1 => omega
  | popNone h1 h2 h3 h4 h5 h6 h7 => subst h2; exact ⟨h6, h3, h4, h5, h7⟩
  | pop h1 h2 h3 h4 h5 => subst h2; exact ⟨rfl, h3, rfl, h4, h5⟩
  | stealFull h1 => omega
  | stealNone h1 => omega
  | steal _ h1 => omega
  | otherNone h1 => omega
  | other h1 => omega
theorem RaDeed.others {N k : Nat} {v c u : Int} {xs ts l xs' ts' : List Int} (h : RaDeed N k v xs ts c u l xs' ts') (hk : k = 4) : ts' = ts.tail ∧ c = (if ts = [] then 5 else 0) ∧ u = ts.headD 0 ∧ l = [] ∧ xs' = xs := by
  cases h with
  | full h1 => omega
  | push h1 => omega
  | popNone h1 => omega
  | pop h1 => omega
  | stealFull h1 => omega
  | stealNone h1 => omega
  | steal _ h1 => omega
  | otherNone h1 h2 h3 h4 h5 h6 h7 => subst h2; exact ⟨h7, h3, h4, h5, h6⟩
  | other h1 h2 h3 h4 h5 => subst h2; exact ⟨rfl, h3, rfl, h4, h5⟩
theorem RaDeed.pushed {N k : Nat} {v c u : Int} {xs ts l xs' ts' : List Int} (h : RaDeed N k v xs ts c u l xs' ts') (hk : k < 2) : (xs.length < N ∧ c = 0 ∧ u = 0 ∧ l = [] ∧ xs' = xs ++ [v] ∧ ts' = ts) ∨ (xs.length = N ∧ c = 4 ∧ u = 0 ∧ l = xs.take (N / 2) ∧ xs' = xs.drop (N / 2) ∧ ts' = ts) := by
  cases h with
  | full h1 h2 h3 h4 h5 h6 h7 => exact .inr ⟨h2, h3, h4, h5, h6, h7⟩
  | push h1 h2 h3 h4 h5 h6 h7 => exact .inl ⟨h2, h3, h4, h5, h6, h7⟩
  | popNone h1 => omega
  | pop h1 => omega
  | stealFull h1 => omega
  | stealNone h1 => omega
  | steal _ h1 => omega
  | otherNone h1 => omega
  | other h1 => omega
theorem RaDeed.stolen {N k : Nat} {v c u : Int} {xs ts l xs' ts' : List Int} (h : RaDeed N k v xs ts c u l xs' ts') (hk : k = 3) : (N / 2 < ts.length ∧ c = 4 ∧ u = 0 ∧ l = [] ∧ xs' = xs ∧ ts' = ts) ∨ (ts.length ≤ N / 2 ∧ xs.length = 0 ∧ c = 5 ∧ u = 0 ∧ l = [] ∧ xs' = xs ∧ ts' = ts) ∨
    ∃ nn, ts.length ≤ N / 2 ∧ nn = xs.length - xs.length / 2 ∧ 1 ≤ nn ∧ c = 0 ∧ u = xs.getD (nn - 1) 0 ∧ l = [] ∧ xs' = xs.drop nn ∧ ts' = ts ++ xs.take (nn - 1) := by
  cases h with
  | full h1 => omega
  | push h1 => omega
  | popNone h1 => omega
  | pop h1 => omega
  | stealFull h1 h2 h3 h4 h5 h6 h7 => exact .inl ⟨h2, h3, h4, h5, h6, h7⟩
  | stealNone h1 h2 h3 h4 h5 h6 h7 h8 => subst h3; exact .inr (.inl ⟨h2, rfl, h4, h5, h6, h7, h8⟩)
  | steal nn h1 h2 h3 h4 h5 h6 h7 h8 h9 => exact .inr (.inr ⟨nn, h2, h3, h4, h5, h6, h7, h8, h9⟩)
  | otherNone h1 => omega
  | other h1 => omega
theorem raFin {E : Nat → Prop} {wr W W' : World} {M : LSt} {X : List Nat} {g h g' h' z m : Nat} (hgm : (¬ E g ∧ g ≠ m) ∧ (¬ E h ∧ h ≠ m) ∧ g ≠ h) (hE : ∀ x, E x → x < z) (hgz : g < z ∧ h < z) (hmz : m < z) (hz : z + 1 < W.heap.size) (hH : Held E wr W)
    (hL : Loom (fun x => E x ∨ x = g ∨ x = h ∨ x = z + 1) W M) (hm : M.mm = m) (hk : Keeps X W W') (hX : ∀ x ∈ X, x = g ∨ x = z + 1) (hg' : g' = g ∨ W.heap.size ≤ g' ∧ g' < W'.heap.size) (hh' : h' = h ∨ W.heap.size ≤ h' ∧ h' < W'.heap.size) (hne : g' ≠ h') :
    ((¬ E g' ∧ g' ≠ m) ∧ (¬ E h' ∧ h' ≠ m) ∧ g' ≠ h') ∧ Held E wr W' ∧ Loom (fun x => E x ∨ x = g' ∨ x = h') W' M ∧ z ∉ X := by
  obtain ⟨n1, n2, n3⟩ := hgm
  refine ⟨⟨?_, ?_, hne⟩, hH.trans (hk.held (fun x hx => by have := hE x hx; omega) (fun x hx he => ?_)), hL.widenX hk (fun x hx => ?_) (fun hx => ?_) (fun x hx => ?_), fun hx => ?_⟩
  · rcases hg' with rfl | hg'
    · exact n1
    · exact ⟨fun he => by have := hE _ he; omega, by omega⟩
  · rcases hh' with rfl | hh'
    · exact n2
    · exact ⟨fun he => by have := hE _ he; omega, by omega⟩
  · rcases hX x hx with rfl | rfl
    · exact n1.1 he
    · have := hE _ he; omega
  · rcases hX x hx with rfl | rfl
    · exact .inr (.inl rfl)
    · exact .inr (.inr (.inr rfl))
  · rw [hm] at hx
    rcases hX _ hx with h1 | h1
    · exact n1.2 h1.symm
    · omega
  · rcases hx with hx | rfl | rfl
    · exact .inl (.inl hx)
    · rcases hg' with rfl | hg'
      · exact .inl (.inr (.inl rfl))
      · exact .inr hg'
    · rcases hh' with rfl | hh'
      · exact .inl (.inr (.inr (.inl rfl)))
      · exact .inr hh'
  · rcases hX _ hx with h1 | h1 <;> omega
end Go.Proofs.YtekpfhlaohcgeaaGreat
