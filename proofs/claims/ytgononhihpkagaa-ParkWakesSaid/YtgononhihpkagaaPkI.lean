/-
  A worker who prepared and waits, and callers: what holds whatever is picked.
-/
import Derived.Test.YtgononhihpkagaaPkA
import Derived.Test.YtgononhihpkagaaIdM
namespace Go.Proofs.Ytgononhihpkagaa
set_option maxRecDepth 100000
set_option linter.unusedSimpArgs false
set_option linter.unusedVariables false
open Go.ChangeShapes Go.WideShapes Go.ChangeAt Go.RowKit

theorem pw_or (u : Int) (hu : M.U u) : bits .or .u64 u 1 = u + 1 - u % 2 := by
  have h := M.or_bit u 0 hu (by decide)
  rw [show (((2 ^ 0 : Nat)) : Int) = 1 from rfl] at h
  rw [h]
  have u0 := hu.nn
  obtain ⟨y, rfl⟩ := Int.eq_ofNat_of_zero_le u0
  rw [Int.toNat_natCast, show 2 ^ 0 = 1 from rfl]
  have h1 : (y ||| 1) / 2 = y / 2 := by rw [Nat.or_div_two]; simp
  have h2 : (y ||| 1) % 2 = 1 := by rw [Nat.or_mod_two_eq_one]; simp
  omega
theorem pw_and (u : Int) (hu : M.U u) : bits .and .u64 u 18446744073709551614 = u - u % 2 := by
  have u0 := hu.nn
  obtain ⟨y, rfl⟩ := Int.eq_ofNat_of_zero_le u0
  have hy : y < 18446744073709551616 := by have := hu.lt; omega
  rw [show (18446744073709551614 : Int) = ((18446744073709551614 : Nat) : Int) from rfl, u64_and_nat _ _ hy (by decide), show (18446744073709551614 : Nat) = 18446744073709551615 - 2 ^ 0 from rfl, M.clear_bit y 0 (by simpa using hy) (by decide)]
  rw [M.bit_odd]
  simp only [Nat.pow_zero, Nat.div_one]
  by_cases c : y % 2 = 1 <;> simp [c] <;> omega

/-- One who waits for another epoch than K, n calls behind its preparing, at the word u. -/
def Pw (K n u : Int) (s : PkS) : Prop :=
  0 ≤ K ∧ K < 4294967296 ∧ M.U u ∧ u / 4294967296 = (K + n) % 4294967296 ∧ 0 ≤ n ∧ n ≤ 1000 ∧
  ((∃ x v, s = ⟨0, 3, K, 1, x, v, none⟩) ∨ (∃ x, s = ⟨0, 3, K, 2, x, 1, none⟩ ∧ M.U x ∧ x / 4294967296 = K ∧ (n = 0 → x = u)) ∨
   (∃ x v, s = ⟨0, 3, K, 3, x, v, none⟩ ∧ 0 < n) ∨ (∃ v, s.over = some ⟨0, v, []⟩ ∧ 0 < n ∧ u % 2 = 0))
theorem Pw.call {K n u : Int} {s : PkS} (h : Pw K n u s) (hn : n < 1000) : Pw K (n + 1) ((u + 4294967296) % 18446744073709551616) s := by
  obtain ⟨h1, h2, h3, h4, h5, h6, h7⟩ := h
  have u0 := h3.nn
  have u1 := h3.lt
  refine ⟨h1, h2, ⟨by omega, by omega⟩, by omega, by omega, by omega, ?_⟩
  rcases h7 with h | ⟨x, h, a, b, c⟩ | ⟨x, v, h, a⟩ | ⟨v, h, a, b⟩
  · exact .inl h
  · exact .inr (.inl ⟨x, h, a, b, fun h => by omega⟩)
  · exact .inr (.inr (.inl ⟨x, v, h, by omega⟩))
  · exact .inr (.inr (.inr ⟨v, h, by omega, by omega⟩))
theorem Pw.over {K n u : Int} {s : PkS} (h : Pw K n u s) (ho : s.over.isSome = true) : 0 < n ∧ u % 2 = 0 := by
  obtain ⟨-, -, -, -, -, -, h7⟩ := h
  rcases h7 with ⟨x, v, rfl⟩ | ⟨x, rfl, -⟩ | ⟨x, v, rfl, -⟩ | ⟨v, h, a, b⟩
  · cases ho
  · cases ho
  · cases ho
  · exact ⟨a, b⟩

/-- The loom of such a one, and of three callers who have nothing to do. -/
structure PwL (L : LSt) (l mm b m0 N : Nat) (u : Int) (s : PkS) : Prop where
  l : L.l = l
  mm : L.mm = mm
  b : L.b = b
  us : L.us = [u]
  len : L.ts.length = 4
  it : L.ts[0]? = some (some (pkStrand m0 s))
  others : ∀ j, 1 ≤ j → j < 4 → ∃ o, L.ts[j]? = some o ∧ busy o = false
  steps : L.steps ≤ N
theorem PwL.more {L : LSt} {l mm b m0 N M : Nat} {u : Int} {s : PkS} (h : PwL L l mm b m0 N u s) (hM : N ≤ M) : PwL L l mm b m0 M u s := { h with steps := Nat.le_trans h.steps hM }

theorem pw_code {u : Int} {k a b : Int} (hk : 1 ≤ k ∧ k ≤ 7) : C.code [u] ⟨k, 0, a, b⟩ = 0 := by
  simp only [C.code]
  rw [if_neg (by omega), if_neg (by simp)]
/-- A step of worker 0. -/
theorem PwL.step {L : LSt} {l mm b m0 N : Nat} {u : Int} {s : PkS} (h : PwL L l mm b m0 N u s) (hN : N ≤ 100000) (k a b' : Int) (u' : Int) (won : Bool) (hk : 1 ≤ k ∧ k ≤ 7) (hw : pkM.want s = some ⟨k, 0, a, b'⟩) (ha : M.U a) (hb : M.U b') (hd : C.deed k u a b' = (u', won)) (hp : k = 7 → won = true) (D : Nat → Prop) (w : World) (hL : Loom D w L) :
    ∃ L', Calls Try.prog 20 #[.pointer (some ⟨l, 0, none⟩), .int .i64 0] w (fun e w' => e = .returned (.int .i64 0) ∧ Loom D w' L' ∧ Held D w w') ∧ PwL L' l mm b m0 (N + 1) u' (pkM.give s u won) := by
  have hc : C.code L.us ⟨k, 0, a, b'⟩ = 0 := by rw [h.us]; exact pw_code hk
  have hu : C.told L.us ⟨k, 0, a, b'⟩ = u := by unfold C.told; rw [if_pos hc, h.us]; rfl
  have hwn : C.won L.us ⟨k, 0, a, b'⟩ = won := by
    unfold C.won; rw [if_pos hc, h.us]; show (C.deed k u a b').2 = won; rw [hd]
  have hnx : C.next L.us ⟨k, 0, a, b'⟩ = [u'] := by
    unfold C.next; rw [if_pos hc, h.us]; show [u].set 0 (C.deed k u a b').1 = [u']; rw [hd]; rfl
  have hpk : parks L.us ⟨k, 0, a, b'⟩ = false := by
    unfold parks
    by_cases h7 : k = 7
    · rw [hwn, hp h7]; simp
    · simp [h7]
  refine ⟨L.after 0 (pkStrand m0 s) ⟨k, 0, a, b'⟩, ?_, h.l, h.mm, h.b, ?_, ?_, ?_, ?_, ?_⟩
  · rw [← h.l]
    exact pick_fine D L 0 (pkStrand m0 s) ⟨k, 0, a, b'⟩ w hL h.it hw ⟨ha, hb⟩ hc hpk (by have := h.steps; omega)
  · simp only [LSt.after, hnx]
  · simp [LSt.after, h.len]
  · simp only [LSt.after, hu, hwn]
    rw [List.getElem?_set_self (by rw [h.len]; decide)]; rfl
  · intro j h1 h4
    simp only [LSt.after]
    rw [List.getElem?_set_ne (by omega)]
    exact h.others j h1 h4
  · simp only [LSt.after]
    have := h.steps; omega

/-- A pick of one who waits. -/
theorem pwPick {L : LSt} {l mm b m0 N : Nat} {K n u : Int} {s : PkS} (h : PwL L l mm b m0 N u s) (hN : N ≤ 100000) (hs : Pw K n u s) (D : Nat → Prop) (w : World) (hL : Loom D w L) :
    ∃ (f : Int) (L' : LSt) (u' : Int) (s' : PkS), Calls Try.prog 20 #[.pointer (some ⟨l, 0, none⟩), .int .i64 0] w (fun e w' => e = .returned (.int .i64 f) ∧ Loom D w' L' ∧ Held D w w') ∧ PwL L' l mm b m0 (N + 1) u' s' ∧ Pw K n u' s' ∧
      ((f = 0) ∨ (f = 10) ∨ (f = 11 ∧ n = 0)) := by
  obtain ⟨h1, h2, h3, h4, h5, h6, h7⟩ := hs
  have U0 : M.U 0 := ⟨by decide, by decide⟩
  have u0 := h3.nn
  have u1 := h3.lt
  rcases h7 with ⟨x, v, rfl⟩ | ⟨x, rfl, a1, a2, a3⟩ | ⟨x, v, rfl, a1⟩ | ⟨v, ho, a1, a2⟩
  · -- it loads
    obtain ⟨L', hC, hP⟩ := h.step hN 1 0 0 u true (by decide) rfl U0 U0 rfl (by decide) D w hL
    by_cases hn : n = 0
    · have hk : u / 4294967296 = K := by subst hn; omega
      have hg : pkM.give (⟨0, 3, K, 1, x, v, none⟩ : PkS) u true = ⟨0, 3, K, 2, u, 1, none⟩ := by simp [pkM, pkGive, hk]
      rw [hg] at hP
      exact ⟨0, L', u, _, hC, hP, ⟨h1, h2, h3, h4, h5, h6, .inr (.inl ⟨u, rfl, h3, hk, fun _ => rfl⟩)⟩, .inl rfl⟩
    · have hk : u / 4294967296 ≠ K := by omega
      have hg : pkM.give (⟨0, 3, K, 1, x, v, none⟩ : PkS) u true = ⟨0, 3, K, 3, u, v, none⟩ := by simp [pkM, pkGive, hk]
      rw [hg] at hP
      exact ⟨0, L', u, _, hC, hP, ⟨h1, h2, h3, h4, h5, h6, .inr (.inr (.inl ⟨u, v, rfl, by omega⟩))⟩, .inl rfl⟩
  · -- it waits
    by_cases hn : n = 0
    · have hx : x = u := a3 hn
      subst hx
      refine ⟨11, L, x, _, ?_, h.more (Nat.le_succ _), ⟨h1, h2, h3, h4, h5, h6, .inr (.inl ⟨x, rfl, a1, a2, a3⟩)⟩, .inr (.inr ⟨rfl, hn⟩)⟩
      rw [← h.l]
      refine (pick_parked D L 0 _ ⟨7, 0, x, 0⟩ w hL h.it rfl ⟨a1, U0⟩ ?_).mono ?_
      · rw [h.us]; unfold parks C.won
        rw [pw_code (by decide)]
        simp [C.deed]
      · rintro e w' ⟨rfl, c1, c2⟩
        exact ⟨rfl, c1, c2.held hL.dom (fun k hk => by simp at hk; subst hk; exact hL.base.2.2)⟩
    · have hne : u ≠ x := fun h => by subst h; omega
      obtain ⟨L', hC, hP⟩ := h.step hN 7 x 0 u true (by decide) rfl a1 U0 (by simp [C.deed, hne]) (fun _ => rfl) D w hL
      have hg : pkM.give (⟨0, 3, K, 2, x, 1, none⟩ : PkS) u true = ⟨0, 3, K, 1, x, 1, none⟩ := rfl
      rw [hg] at hP
      exact ⟨0, L', u, _, hC, hP, ⟨h1, h2, h3, h4, h5, h6, .inl ⟨x, 1, rfl⟩⟩, .inl rfl⟩
  · -- it means to wait no more
    have U2 : M.U 18446744073709551614 := ⟨by decide, by decide⟩
    obtain ⟨L', hC, hP⟩ := h.step hN 6 18446744073709551614 0 (u - u % 2) true (by decide) rfl U2 U0 (by simp [C.deed, pw_and u h3]) (by decide) D w hL
    have hg : pkM.give (⟨0, 3, K, 3, x, v, none⟩ : PkS) u true = ⟨0, 3, K, 3, x, v, some ⟨0, v, []⟩⟩ := rfl
    rw [hg] at hP
    exact ⟨0, L', u - u % 2, _, hC, hP, ⟨h1, h2, ⟨by omega, by omega⟩, by omega, h5, h6, .inr (.inr (.inr ⟨v, rfl, a1, by omega⟩))⟩, .inl rfl⟩
  · -- it has ended
    refine ⟨10, L, u, s, ?_, h.more (Nat.le_succ _), ⟨h1, h2, h3, h4, h5, h6, .inr (.inr (.inr ⟨v, ho, a1, a2⟩))⟩, .inr (.inl rfl)⟩
    rw [← h.l]
    refine (pick_idle D L 0 _ w hL h.it (by show pkM.want s = none; simp [pkM, ho])).mono ?_
    rintro e w' ⟨rfl, c1⟩
    exact ⟨rfl, hL.keeps c1, c1.held hL.dom (by simp)⟩

/-- Its result. -/
theorem pwResult {L : LSt} {l mm b m0 N : Nat} {u : Int} {s : PkS} (h : PwL L l mm b m0 N u s) (hr : s.over = none ∨ ∃ c v, s.over = some ⟨c, v, []⟩) (D : Nat → Prop) (w : World) (hL : Loom D w L) :
    Calls Try.prog 21 #[.pointer (some ⟨l, 0, none⟩), .int .i64 0] w fun e w' => ∃ c v q cc, e = .returned (.tuple #[.agg #[.int .i64 c, .int .u64 v, .slice q 0 cc], .bool s.over.isSome]) ∧ (∀ r, s.over = some r → r.code = c ∧ r.v = v) ∧ Keeps [] w w' := by
  rw [← h.l]
  rcases hr with hr | ⟨c, v, hr⟩
  · refine (pkResult_none D L 0 m0 s w hL h.it hr).mono ?_
    rintro e w' ⟨q, cc, rfl, hk⟩
    exact ⟨0, 0, q, cc, by rw [hr]; rfl, fun r h => by (rw [hr] at h; cases h), hk⟩
  · refine (pkResult D L 0 m0 s c v w hL h.it hr).mono ?_
    rintro e w' ⟨q, cc, rfl, hk⟩
    exact ⟨c, v, q, cc, by rw [hr]; rfl, fun r h => by (rw [hr] at h; cases h; exact ⟨rfl, rfl⟩), hk⟩
theorem Pw.res {K n u : Int} {s : PkS} (h : Pw K n u s) : s.over = none ∨ ∃ c v, s.over = some ⟨c, v, []⟩ := by
  obtain ⟨-, -, -, -, -, -, h7⟩ := h
  rcases h7 with ⟨x, v, rfl⟩ | ⟨x, rfl, -⟩ | ⟨x, v, rfl, -⟩ | ⟨v, h, a, b⟩
  · exact .inl rfl
  · exact .inl rfl
  · exact .inl rfl
  · exact .inr ⟨_, _, h⟩

/-- A caller's walk is started, and goes its only step. -/
theorem pwCall {L : LSt} {l mm b m0 N : Nat} {u : Int} {s : PkS} (h : PwL L l mm b m0 N u s) (hN : N ≤ 100000) (hu : M.U u) (who : Nat) (h1 : 1 ≤ who) (h4 : who < 4) (mc : Nat) (S : List Nat) (D : Nat → Prop) (w0 w : World) (hL : Loom D w0 L) (hk : Keeps [] w0 w) (hI : LoneI pkM (pkE mc) mc w S (pkNew 0 4 0)) (hS : ∀ k ∈ S, w0.heap.size ≤ k) :
    ∃ L1 L', Calls Try.prog 19 #[.pointer (some ⟨l, 0, none⟩), .int .i64 (who : Int), .pointer (some ⟨mc, 0, none⟩)] w (fun e w' => e = .returned (.int .i64 0) ∧ Loom D w' L1 ∧ Held D w0 w') ∧
      (∀ w1, Loom D w1 L1 → Calls Try.prog 20 #[.pointer (some ⟨l, 0, none⟩), .int .i64 (who : Int)] w1 (fun e w' => e = .returned (.int .i64 0) ∧ Loom D w' L' ∧ Held D w1 w')) ∧
      PwL L' l mm b m0 (N + 1) ((u + 4294967296) % 18446744073709551616) s := by
  obtain ⟨o, ho, hb⟩ := h.others who h1 h4
  have hlt : who < L.ts.length := by rw [h.len]; exact h4
  have hSt := start_at D L who o (pkStrand mc (pkNew 0 4 0)) S w0 w hL hk ho hb hI hS
  have UA : M.U 4294967296 := ⟨by decide, by decide⟩
  have U0 : M.U 0 := ⟨by decide, by decide⟩
  have hw : (pkStrand mc (pkNew 0 4 0)).want = some ⟨4, 0, 4294967296, 0⟩ := rfl
  have hc : C.code L.us ⟨4, 0, 4294967296, 0⟩ = 0 := by rw [h.us]; exact pw_code (by decide)
  have hnx : C.next L.us ⟨4, 0, 4294967296, 0⟩ = [(u + 4294967296) % 18446744073709551616] := by
    unfold C.next; rw [if_pos hc, h.us]; rfl
  refine ⟨{ L with ts := L.ts.set who (some (pkStrand mc (pkNew 0 4 0))) }, LSt.after { L with ts := L.ts.set who (some (pkStrand mc (pkNew 0 4 0))) } who (pkStrand mc (pkNew 0 4 0)) ⟨4, 0, 4294967296, 0⟩, ?_, fun w1 hL1 => ?_, h.l, h.mm, h.b, ?_, ?_, ?_, ?_, ?_⟩
  · rw [← h.l]
    refine hSt.mono ?_
    rintro e w' ⟨rfl, a, b⟩
    exact ⟨rfl, a, (hk.held hL.dom (by simp)).trans (b.held (fun k hk' => Nat.lt_of_lt_of_le (hL.dom k hk') hk.size) (fun k hk' => by simp at hk'; subst hk'; exact hL.base.2.1))⟩
  · have := pick_fine D _ who (pkStrand mc (pkNew 0 4 0)) ⟨4, 0, 4294967296, 0⟩ w1 hL1 (List.getElem?_set_self hlt) hw ⟨UA, U0⟩ hc (by simp [parks]) (by have := h.steps; simp only; omega)
    rw [← h.l]
    exact this
  · simp only [LSt.after, hnx]
  · simp [LSt.after, h.len]
  · simp only [LSt.after, List.set_set]
    rw [List.getElem?_set_ne (by omega)]
    exact h.it
  · intro j h1' h4'
    simp only [LSt.after, List.set_set]
    by_cases hj : who = j
    · subst hj
      refine ⟨_, List.getElem?_set_self hlt, ?_⟩
      rfl
    · rw [List.getElem?_set_ne hj]
      exact h.others j h1' h4'
  · simp only [LSt.after]
    have := h.steps; omega

/-- n picks of worker 0, as a chain of steps at a loom. -/
theorem PwL.chain {l mm b m0 : Nat} (n : Nat) (us : Nat → Int) (ss : Nat → PkS) (N : Nat) (hN : N ≤ 50000) (hn : n ≤ 100)
    (hst : ∀ i, i < n → ∃ k a b' won, (1 ≤ k ∧ k ≤ 7) ∧ pkM.want (ss i) = some ⟨k, 0, a, b'⟩ ∧ M.U a ∧ M.U b' ∧ C.deed k (us i) a b' = (us (i + 1), won) ∧ (k = 7 → won = true) ∧ pkM.give (ss i) (us i) won = ss (i + 1)) :
    ∀ L, PwL L l mm b m0 N (us 0) (ss 0) → ∃ Ls : Nat → LSt, Ls 0 = L ∧ (∀ i, i < n → OneStep 0 (Ls i) (Ls (i + 1))) ∧ PwL (Ls n) l mm b m0 (N + n) (us n) (ss n) := by
  have one : ∀ i L N', i < n → N' ≤ 100000 → PwL L l mm b m0 N' (us i) (ss i) → ∃ M, OneStep 0 L M ∧ PwL M l mm b m0 (N' + 1) (us (i + 1)) (ss (i + 1)) := by
    intro i L N' hi hN' h
    obtain ⟨k, a, b', won, hk, hw, ha, hb, hd, hp, hg⟩ := hst i hi
    have hc : C.code L.us ⟨k, 0, a, b'⟩ = 0 := by rw [h.us]; exact pw_code hk
    have hu : C.told L.us ⟨k, 0, a, b'⟩ = us i := by unfold C.told; rw [if_pos hc, h.us]; rfl
    have hwn : C.won L.us ⟨k, 0, a, b'⟩ = won := by
      unfold C.won; rw [if_pos hc, h.us]; show (C.deed k (us i) a b').2 = won; rw [hd]
    have hnx : C.next L.us ⟨k, 0, a, b'⟩ = [us (i + 1)] := by
      unfold C.next; rw [if_pos hc, h.us]; show [us i].set 0 (C.deed k (us i) a b').1 = [us (i + 1)]; rw [hd]; rfl
    have hpk : parks L.us ⟨k, 0, a, b'⟩ = false := by
      unfold parks
      by_cases h7 : k = 7
      · rw [hwn, hp h7]; simp
      · simp [h7]
    refine ⟨L.after 0 (pkStrand m0 (ss i)) ⟨k, 0, a, b'⟩, ⟨_, _, h.it, hw, ⟨ha, hb⟩, hc, hpk, rfl⟩, h.l, h.mm, h.b, ?_, ?_, ?_, ?_, ?_⟩
    · simp only [LSt.after, hnx]
    · simp [LSt.after, h.len]
    · simp only [LSt.after, hu, hwn]
      rw [List.getElem?_set_self (by rw [h.len]; decide), ← hg]; rfl
    · intro j h1 h4
      simp only [LSt.after]
      rw [List.getElem?_set_ne (by omega)]
      exact h.others j h1 h4
    · simp only [LSt.after]
      have := h.steps; omega
  intro L h
  have go : ∀ j, j ≤ n → ∃ Ls : Nat → LSt, Ls 0 = L ∧ (∀ i, i < j → OneStep 0 (Ls i) (Ls (i + 1))) ∧ PwL (Ls j) l mm b m0 (N + j) (us j) (ss j) := by
    intro j
    induction j with
    | zero => intro _; exact ⟨fun _ => L, rfl, fun i hi => by omega, h⟩
    | succ j ih =>
      intro hj
      obtain ⟨Ls, e0, e1, e2⟩ := ih (by omega)
      obtain ⟨M, o1, o2⟩ := one j (Ls j) (N + j) (by omega) (by omega) e2
      refine ⟨fun i => if i ≤ j then Ls i else M, by simp [e0], fun i hi => ?_, by simp only [show ¬ j + 1 ≤ j by omega, if_false]; exact o2⟩
      by_cases hij : i < j
      · have h1 : i ≤ j := by omega
        have h2 : i + 1 ≤ j := by omega
        simp only [h1, h2, if_true]
        exact e1 i hij
      · obtain rfl : j = i := by omega
        have h1 : ¬ j + 1 ≤ j := by omega
        simp only [Nat.le_refl, if_true, h1, if_false]
        exact o1
  exact go n (Nat.le_refl _)

/-- Alone, uncalled: it is parked. -/
theorem pwParks {L : LSt} {l mm b m0 N : Nat} {K u : Int} {s : PkS} (h : PwL L l mm b m0 N u s) (hN : N ≤ 50000) (hs : Pw K 0 u s) :
    ∃ (L' : LSt) (s' : PkS), PwL L' l mm b m0 (N + 1) u s' ∧ Pw K 0 u s' ∧ s'.over = none ∧
      (∀ (D : Nat → Prop) (w : World), Loom D w L → Calls Try.prog 22 #[.pointer (some ⟨l, 0, none⟩), .int .i64 0, .int .i64 9] w fun e w' => ∃ a c, e = .returned (.tuple #[.int .i64 a, .int .i64 c]) ∧ Loom D w' L' ∧ Held D w w') ∧
      (∀ (D : Nat → Prop) (w : World), Loom D w L' → Calls Try.prog 23 #[.pointer (some ⟨l, 0, none⟩), .int .i64 0] w fun e w' => e = .returned (.bool true) ∧ Loom D w' L' ∧ Held D w w') := by
  obtain ⟨h1, h2, h3, h4, h5, h6, h7⟩ := hs
  have U0 : M.U 0 := ⟨by decide, by decide⟩
  have u0 := h3.nn
  have hk : u / 4294967296 = K := by omega
  have pp : parks [u] ⟨7, 0, u, 0⟩ = true := by
    unfold parks C.won
    rw [pw_code (by decide)]
    simp [C.deed]
  have park : ∀ (L' : LSt) (M : Nat), PwL L' l mm b m0 M u ⟨0, 3, K, 2, u, 1, none⟩ → ∀ (D : Nat → Prop) (w : World), Loom D w L' → Calls Try.prog 23 #[.pointer (some ⟨l, 0, none⟩), .int .i64 0] w fun e w' => e = .returned (.bool true) ∧ Loom D w' L' ∧ Held D w w' := by
    intro L' M hP D w hL
    have := parked_some D L' 0 _ ⟨7, 0, u, 0⟩ w hL hP.it rfl ⟨h3, U0⟩
    rw [hP.us, pp, hP.l] at this
    refine this.mono ?_
    rintro e w' ⟨rfl, c1, c2⟩
    exact ⟨rfl, c1, c2.held hL.dom (fun k hk => by simp at hk; subst hk; exact hL.base.2.2)⟩
  rcases h7 with ⟨x, v, rfl⟩ | ⟨x, rfl, a1, a2, a3⟩ | ⟨x, v, rfl, a1⟩ | ⟨v, ho, a1, a2⟩
  · obtain ⟨Ls, e0, e1, e2⟩ := PwL.chain (l := l) (mm := mm) (b := b) (m0 := m0) 1 (fun _ => u) (fun i => if i = 0 then ⟨0, 3, K, 1, x, v, none⟩ else ⟨0, 3, K, 2, u, 1, none⟩) N hN (by decide) (fun i hi => by
      obtain rfl : i = 0 := by omega
      refine ⟨1, 0, 0, true, by decide, rfl, U0, U0, rfl, by decide, ?_⟩
      simp [pkM, pkGive, hk]) L h
    have e2' : PwL (Ls 1) l mm b m0 (N + 1) u ⟨0, 3, K, 2, u, 1, none⟩ := e2
    refine ⟨Ls 1, _, e2', ⟨h1, h2, h3, h4, h5, h6, .inr (.inl ⟨u, rfl, h3, hk, fun _ => rfl⟩)⟩, rfl, fun D w hL => ?_, park _ _ e2'⟩
    have := alone_parks D 0 9 1 Ls _ ⟨7, 0, u, 0⟩ w (by rw [e0]; exact hL) (by decide) (by decide) (by rw [e0]; have := h.steps; omega) e1 e2'.it rfl ⟨h3, U0⟩ (by rw [e2'.us]; exact pp) rfl
    rw [e0, h.l] at this
    exact this.mono fun e w' ⟨a, b, c⟩ => ⟨_, _, a, b, c⟩
  · obtain rfl : x = u := a3 rfl
    refine ⟨L, _, h.more (Nat.le_succ _), ⟨h1, h2, h3, h4, h5, h6, .inr (.inl ⟨x, rfl, a1, a2, a3⟩)⟩, rfl, fun D w hL => ?_, park _ _ h⟩
    have := alone_parks D 0 9 0 (fun _ => L) _ ⟨7, 0, x, 0⟩ w hL (by decide) (by decide) (by have := h.steps; show L.steps ≤ _; omega) (fun i hi => by omega) h.it rfl ⟨h3, U0⟩ (by show parks L.us _ = true; rw [h.us]; exact pp) rfl
    rw [h.l] at this
    exact this.mono fun e w' ⟨a, b, c⟩ => ⟨_, _, a, b, c⟩
  · omega
  · omega

/-- Alone, called: it ends, and means to wait no more. -/
theorem pwEnds {L : LSt} {l mm b m0 N : Nat} {K n u : Int} {s : PkS} (h : PwL L l mm b m0 N u s) (hN : N ≤ 50000) (hs : Pw K n u s) (hn : 0 < n) :
    ∃ (L' : LSt) (u' : Int) (s' : PkS), PwL L' l mm b m0 (N + 3) u' s' ∧ Pw K n u' s' ∧ s'.over.isSome = true ∧
      (∀ (D : Nat → Prop) (w : World), Loom D w L → Calls Try.prog 22 #[.pointer (some ⟨l, 0, none⟩), .int .i64 0, .int .i64 9] w fun e w' => ∃ a c, e = .returned (.tuple #[.int .i64 a, .int .i64 c]) ∧ Loom D w' L' ∧ Held D w w') := by
  obtain ⟨h1, h2, h3, h4, h5, h6, h7⟩ := hs
  have U0 : M.U 0 := ⟨by decide, by decide⟩
  have U2 : M.U 18446744073709551614 := ⟨by decide, by decide⟩
  have u0 := h3.nn
  have u1 := h3.lt
  have hk : u / 4294967296 ≠ K := by omega
  have fin : ∀ v x, Pw K n (u - u % 2) ⟨0, 3, K, 3, x, v, some ⟨0, v, []⟩⟩ := fun v x => ⟨h1, h2, ⟨by omega, by omega⟩, by omega, h5, h6, .inr (.inr (.inr ⟨v, rfl, hn, by omega⟩))⟩
  have key : ∀ (r : Nat) (us : Nat → Int) (ss : Nat → PkS) (v x : Int), 0 < r → r ≤ 3 → us 0 = u → ss 0 = s → us r = u - u % 2 → ss r = ⟨0, 3, K, 3, x, v, some ⟨0, v, []⟩⟩ →
      (∀ i, i < r → ∃ k a b' won, (1 ≤ k ∧ k ≤ 7) ∧ pkM.want (ss i) = some ⟨k, 0, a, b'⟩ ∧ M.U a ∧ M.U b' ∧ C.deed k (us i) a b' = (us (i + 1), won) ∧ (k = 7 → won = true) ∧ pkM.give (ss i) (us i) won = ss (i + 1)) →
      ∃ (L' : LSt) (u' : Int) (s' : PkS), PwL L' l mm b m0 (N + 3) u' s' ∧ Pw K n u' s' ∧ s'.over.isSome = true ∧
      (∀ (D : Nat → Prop) (w : World), Loom D w L → Calls Try.prog 22 #[.pointer (some ⟨l, 0, none⟩), .int .i64 0, .int .i64 9] w fun e w' => ∃ a c, e = .returned (.tuple #[.int .i64 a, .int .i64 c]) ∧ Loom D w' L' ∧ Held D w w') := by
    intro r us ss v x r0 r3 q0 q1 q2 q3 hst
    obtain ⟨Ls, e0, e1, e2⟩ := PwL.chain (l := l) (mm := mm) (b := b) (m0 := m0) r us ss N hN (by omega) hst L (by rw [q0, q1]; exact h)
    rw [q2, q3] at e2
    refine ⟨Ls r, _, _, e2.more (by omega), fin v x, rfl, fun D w hL => ?_⟩
    have := alone_ends D 0 9 r Ls _ w (by rw [e0]; exact hL) r0 (by omega) (by decide) (by rw [e0]; have := h.steps; omega) e1 e2.it (by show pkM.want _ = none; rfl) rfl
    rw [e0, h.l] at this
    exact this.mono fun e w' ⟨a, b, c⟩ => ⟨_, _, a, b, c⟩
  rcases h7 with ⟨x, v, rfl⟩ | ⟨x, rfl, a1, a2, a3⟩ | ⟨x, v, rfl, a1⟩ | ⟨v, ho, a1, a2⟩
  · refine key 2 (fun i => if i = 2 then u - u % 2 else u) (fun i => if i = 0 then ⟨0, 3, K, 1, x, v, none⟩ else if i = 1 then ⟨0, 3, K, 3, u, v, none⟩ else ⟨0, 3, K, 3, u, v, some ⟨0, v, []⟩⟩) v u (by decide) (by decide) rfl rfl rfl rfl (fun i hi => ?_)
    rcases (show i = 0 ∨ i = 1 by omega) with rfl | rfl
    · exact ⟨1, 0, 0, true, by decide, rfl, U0, U0, rfl, by decide, by simp [pkM, pkGive, hk]⟩
    · exact ⟨6, 18446744073709551614, 0, true, by decide, rfl, U2, U0, by simp [C.deed, pw_and u h3], by decide, rfl⟩
  · have hne : u ≠ x := fun h => by subst h; omega
    refine key 3 (fun i => if i = 3 then u - u % 2 else u) (fun i => if i = 0 then ⟨0, 3, K, 2, x, 1, none⟩ else if i = 1 then ⟨0, 3, K, 1, x, 1, none⟩ else if i = 2 then ⟨0, 3, K, 3, u, 1, none⟩ else ⟨0, 3, K, 3, u, 1, some ⟨0, 1, []⟩⟩) 1 u (by decide) (by decide) rfl rfl rfl rfl (fun i hi => ?_)
    rcases (show i = 0 ∨ i = 1 ∨ i = 2 by omega) with rfl | rfl | rfl
    · exact ⟨7, x, 0, true, by decide, rfl, a1, U0, by simp [C.deed, hne], fun _ => rfl, rfl⟩
    · exact ⟨1, 0, 0, true, by decide, rfl, U0, U0, rfl, by decide, by simp [pkM, pkGive, hk]⟩
    · exact ⟨6, 18446744073709551614, 0, true, by decide, rfl, U2, U0, by simp [C.deed, pw_and u h3], by decide, rfl⟩
  · refine key 1 (fun i => if i = 1 then u - u % 2 else u) (fun i => if i = 0 then ⟨0, 3, K, 3, x, v, none⟩ else ⟨0, 3, K, 3, x, v, some ⟨0, v, []⟩⟩) v x (by decide) (by decide) rfl rfl rfl rfl (fun i hi => ?_)
    obtain rfl : i = 0 := by omega
    exact ⟨6, 18446744073709551614, 0, true, by decide, rfl, U2, U0, by simp [C.deed, pw_and u h3], by decide, rfl⟩
  · refine ⟨L, u, s, h.more (by omega), ⟨h1, h2, h3, h4, h5, h6, .inr (.inr (.inr ⟨v, ho, a1, a2⟩))⟩, by rw [ho]; rfl, fun D w hL => ?_⟩
    have := alone_idle D L 0 9 _ w hL h.it (by show pkM.want s = none; simp [pkM, ho])
    rw [h.l] at this
    exact this.mono fun e w' ⟨a, b⟩ => ⟨_, _, a, hL.keeps b, b.held hL.dom (by simp)⟩

/-- The preparing: its only step. -/
theorem pwPrepares {L : LSt} {l mm b m0 N : Nat} {u : Int} (h : PwL L l mm b m0 N u (pkNew 0 1 0)) (hN : N ≤ 100000) (hu : M.U u) (D : Nat → Prop) (w : World) (hL : Loom D w L) :
    ∃ (L' : LSt) (s' : PkS), Calls Try.prog 20 #[.pointer (some ⟨l, 0, none⟩), .int .i64 0] w (fun e w' => e = .returned (.int .i64 0) ∧ Loom D w' L' ∧ Held D w w') ∧ PwL L' l mm b m0 (N + 1) (u + 1 - u % 2) s' ∧ s'.over = some ⟨0, u / 4294967296, []⟩ := by
  have U1 : M.U 1 := ⟨by decide, by decide⟩
  have U0 : M.U 0 := ⟨by decide, by decide⟩
  obtain ⟨L', hC, hP⟩ := h.step hN 5 1 0 (u + 1 - u % 2) true (by decide) rfl U1 U0 (by simp [C.deed, pw_or u hu]) (by decide) D w hL
  exact ⟨L', _, hC, hP, rfl⟩
theorem Pw.begin {u : Int} (hu : M.U u) : Pw (u / 4294967296) 0 (u + 1 - u % 2) (pkNew 0 3 (u / 4294967296)) := by
  have u0 := hu.nn
  have u1 := hu.lt
  exact ⟨by omega, by omega, ⟨by omega, by omega⟩, by omega, by omega, by omega, .inl ⟨0, 0, rfl⟩⟩

/-- The waiting is started. -/
theorem pwStart {L : LSt} {l mm b m0 N : Nat} {u K : Int} {s : PkS} (h : PwL L l mm b m0 N u s) (ho : s.over.isSome = true) (mw : Nat) (S : List Nat) (D : Nat → Prop) (w0 w : World) (hL : Loom D w0 L) (hk : Keeps [] w0 w) (hI : LoneI pkM (pkE mw) mw w S (pkNew 0 3 K)) (hS : ∀ k ∈ S, w0.heap.size ≤ k) :
    ∃ L', Calls Try.prog 19 #[.pointer (some ⟨l, 0, none⟩), .int .i64 0, .pointer (some ⟨mw, 0, none⟩)] w (fun e w' => e = .returned (.int .i64 0) ∧ Loom D w' L' ∧ Held D w0 w') ∧ PwL L' l mm b mw N u (pkNew 0 3 K) := by
  have hlt : 0 < L.ts.length := by rw [h.len]; decide
  have hSt := start_at D L 0 _ (pkStrand mw (pkNew 0 3 K)) S w0 w hL hk h.it (by show (!s.over.isSome) = false; rw [ho]; rfl) hI hS
  refine ⟨{ L with ts := L.ts.set 0 (some (pkStrand mw (pkNew 0 3 K))) }, ?_, h.l, h.mm, h.b, h.us, ?_, List.getElem?_set_self hlt, ?_, h.steps⟩
  · rw [← h.l]
    refine hSt.mono ?_
    rintro e w' ⟨rfl, a, b⟩
    exact ⟨rfl, a, (hk.held hL.dom (by simp)).trans (b.held (fun k hk' => Nat.lt_of_lt_of_le (hL.dom k hk') hk.size) (fun k hk' => by simp at hk'; subst hk'; exact hL.base.2.1))⟩
  · simp [h.len]
  · intro j h1 h4
    simp only
    rw [List.getElem?_set_ne (by omega)]
    exact h.others j h1 h4
end Go.Proofs.Ytgononhihpkagaa
