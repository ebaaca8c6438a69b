/-
  A queue of which one walk alone has the steps: its deeds are a list's.
-/
import Derived.Test.YtejekciekcbagaaGreatQuF
import Derived.Test.YtejekciekcbagaaGreatSolo
import Derived.Test.YtejekciekcbagaaGreatArG
namespace Go.Proofs.YtejekciekcbagaaGreat
set_option maxRecDepth 100000
set_option linter.unusedSimpArgs false
set_option linter.unusedVariables false
open Go

/-- n steps of one who is alone. -/
def Pre {σ : Type} (K : Mach σ) (us : List Int) (s : σ) (n : Nat) (us1 : List Int) (s1 : σ) : Prop := ∀ m us' s', Solo K us1 s1 m us' s' → Solo K us s (n + m) us' s'
section
variable {σ : Type} {K : Mach σ} {us us1 us2 : List Int} {s s1 s2 : σ} {n m : Nat}
theorem Pre.refl (us : List Int) (s : σ) : Pre K us s 0 us s := fun _ _ _ h => by rwa [Nat.zero_add]
theorem Pre.trans (h : Pre K us s n us1 s1) (g : Pre K us1 s1 m us2 s2) : Pre K us s (n + m) us2 s2 := fun _ _ _ hs => by rw [Nat.add_assoc]; exact h _ _ _ (g _ _ _ hs)
theorem Pre.one (x : C.Acc) (hw : K.want s = some x) (hok : x.ok) (hc : C.code us x = 0) (h7 : x.k ≠ 7) : Pre K us s 1 (C.next us x) (K.give s (C.told us x) (C.won us x)) := fun _ _ _ h => by
  rw [Nat.add_comm]; exact .step x hw hok hc h7 h
theorem Pre.end (h : Pre K us s n us1 s1) (hw : K.want s1 = none) : Solo K us s n us1 s1 := h 0 _ _ (.done hw)
theorem Pre.to {s3 : σ} (h : Pre K us s n us1 s1) (e : s1 = s3) : Pre K us s n us1 s3 := e ▸ h
theorem acc_U0 : M.U 0 := ⟨by decide, by decide⟩
theorem acc_code {k c a b : Int} {i : Nat} (hk : 1 ≤ k ∧ k ≤ 7) (hi : c = (i : Int)) (hc : i < us.length) : C.code us ⟨k, c, a, b⟩ = 0 := by
  subst hi
  unfold C.code
  rw [if_neg (by simp only; omega), if_neg (by simp only; omega)]
theorem Pre.load {c : Int} (i : Nat) (hw : K.want s = some ⟨1, c, 0, 0⟩) (hi : c = (i : Int)) (hc : i < us.length) : Pre K us s 1 us (K.give s (us.getD i 0) true) := by
  have hcd : C.code us ⟨1, c, 0, 0⟩ = 0 := acc_code (by omega) hi hc
  have h := Pre.one (K := K) (us := us) _ hw ⟨acc_U0, acc_U0⟩ hcd (show (1 : Int) ≠ 7 by decide)
  subst hi
  have e1 : C.next us ⟨1, (i : Int), 0, 0⟩ = us := by
    unfold C.next
    rw [if_pos hcd]
    simp [C.deed, List.getElem?_eq_getElem hc]
  have e2 : C.told us ⟨1, (i : Int), 0, 0⟩ = us.getD i 0 := by unfold C.told; rw [if_pos hcd]; rfl
  have e3 : C.won us ⟨1, (i : Int), 0, 0⟩ = true := by unfold C.won; rw [if_pos hcd]; rfl
  rwa [e1, e2, e3] at h
theorem Pre.store {c a : Int} (i : Nat) (hw : K.want s = some ⟨2, c, a, 0⟩) (hi : c = (i : Int)) (hc : i < us.length) (ha : M.U a) : Pre K us s 1 (us.set i a) (K.give s (us.getD i 0) true) := by
  have hcd : C.code us ⟨2, c, a, 0⟩ = 0 := acc_code (by omega) hi hc
  have h := Pre.one (K := K) (us := us) _ hw ⟨ha, acc_U0⟩ hcd (show (2 : Int) ≠ 7 by decide)
  subst hi
  have e1 : C.next us ⟨2, (i : Int), a, 0⟩ = us.set i a := by unfold C.next; rw [if_pos hcd]; rfl
  have e2 : C.told us ⟨2, (i : Int), a, 0⟩ = us.getD i 0 := by unfold C.told; rw [if_pos hcd]; rfl
  have e3 : C.won us ⟨2, (i : Int), a, 0⟩ = true := by unfold C.won; rw [if_pos hcd]; rfl
  rwa [e1, e2, e3] at h
theorem Pre.cas {c a b : Int} (i : Nat) (hw : K.want s = some ⟨3, c, a, b⟩) (hi : c = (i : Int)) (hc : i < us.length) (ha : M.U a) (hb : M.U b) (he : us.getD i 0 = a) : Pre K us s 1 (us.set i b) (K.give s a true) := by
  have hcd : C.code us ⟨3, c, a, b⟩ = 0 := acc_code (by omega) hi hc
  have h := Pre.one (K := K) (us := us) _ hw ⟨ha, hb⟩ hcd (show (3 : Int) ≠ 7 by decide)
  subst hi
  have hd : C.deed 3 (us.getD i 0) a b = (b, true) := by simp only [C.deed]; rw [he]; simp
  have e1 : C.next us ⟨3, (i : Int), a, b⟩ = us.set i b := by unfold C.next; rw [if_pos hcd]; show us.set _ (C.deed 3 (us.getD i 0) a b).1 = _; rw [hd]; rfl
  have e2 : C.told us ⟨3, (i : Int), a, b⟩ = a := by unfold C.told; rw [if_pos hcd]; exact he
  have e3 : C.won us ⟨3, (i : Int), a, b⟩ = true := by unfold C.won; rw [if_pos hcd]; show (C.deed 3 (us.getD i 0) a b).2 = _; rw [hd]
  rwa [e1, e2, e3] at h
end

theorem qm_sub (s : QuS) (t : ArS) (ho : s.over = none) : quNest.sub { s with sub := some t } = some t := by
  show (if s.over.isSome then none else some t) = some t
  rw [ho]; rfl
/-- Who is in the arena wants what that one does. -/
theorem qm_want (s : QuS) (t : ArS) (ho : s.over = none) : queueM.want { s with sub := some t } = arenaM.want t := by
  simp only [queueM, Nest.mach, qm_sub s t ho]
theorem qm_give (s : QuS) (t : ArS) (ho : s.over = none) (v : Int) (won : Bool) (ha : arenaM.res (arenaM.give t v won) = none) : queueM.give { s with sub := some t } v won = { s with sub := some (arenaM.give t v won) } := by
  simp only [queueM, Nest.mach, qm_sub s t ho, ha]
  rfl
theorem quLeft_sub (s : QuS) (t : Option ArS) (r : Rs) : quLeft { s with sub := t } r = quLeft s r := by
  unfold quLeft
  simp only [quEnd, quBack]
theorem qm_left (s : QuS) (t : ArS) (ho : s.over = none) (v : Int) (won : Bool) {r : Rs} (ha : arenaM.res (arenaM.give t v won) = some r) : queueM.give { s with sub := some t } v won = quLeft s r := by
  simp only [queueM, Nest.mach, qm_sub s t ho, ha]
  exact quLeft_sub s _ r
section
variable {us : List Int} {n : Nat} {s : QuS}
/-- A node is taken. -/
theorem Pre.taken (ho : s.over = none) (h2 : 2 ≤ n) (h4 : n ≤ 4096) (hl : us.length = 3 * n + 3) (hU : ∀ j, M.U (us.getD j 0)) (f : Nat) (hf : us.getD 2 0 % 4294967296 = (f : Int)) (f1 : 1 ≤ f) (f2 : f ≤ n) :
    Pre queueM us { s with sub := some (arTake 2 n) } 3 (us.set 2 (arNext (us.getD 2 0) (us.getD (2 + f) 0 % 4294967296))) (quLeft s ⟨0, f, []⟩) := by
  have hr : arRight 2 n := ⟨by omega, by omega, by omega, by omega⟩
  obtain ⟨hv, hhv⟩ : ∃ hv, us.getD 2 0 = hv := ⟨_, rfl⟩
  obtain ⟨lk, hlk⟩ : ∃ lk, us.getD (2 + f) 0 = lk := ⟨_, rfl⟩
  have Uh : M.U hv := hhv ▸ hU 2
  have e0 : arTake 2 n = ⟨2, n, false, 0, 1, 0, 0, none⟩ := by unfold arTake; rw [if_pos hr]
  rw [hhv] at hf
  rw [e0, hlk, hhv]
  have p1 := Pre.load (K := queueM) (us := us) (s := { s with sub := some ⟨2, n, false, 0, 1, 0, 0, none⟩ }) 2 ((qm_want s _ ho).trans rfl) rfl (by omega)
  have g1 : arenaM.give ⟨2, n, false, 0, 1, 0, 0, none⟩ hv true = ⟨2, n, false, 0, 2, hv, 0, none⟩ := by
    have q1 : ¬ hv % 4294967296 = 0 := by omega
    have q2 : ¬ (n : Int) < hv % 4294967296 := by omega
    simp [arenaM, arGive, arHead, q1, q2]
  rw [hhv, qm_give s _ ho hv true (by rw [g1]; rfl), g1] at p1
  have p2 := Pre.load (K := queueM) (us := us) (s := { s with sub := some ⟨2, n, false, 0, 2, hv, 0, none⟩ }) (2 + f) ((qm_want s _ ho).trans rfl) (by simp only [hf]; omega) (by omega)
  rw [hlk, qm_give s _ ho lk true rfl] at p2
  have p3 := Pre.cas (K := queueM) (us := us) (s := { s with sub := some ⟨2, n, false, 0, 3, hv, lk, none⟩ }) 2 ((qm_want s _ ho).trans rfl) rfl (by omega) Uh (arNext_U _ _ Uh (by omega) (by omega)) hhv
  rw [qm_left s _ ho hv true (r := ⟨0, hv % 4294967296, []⟩) rfl, hf] at p3
  exact (p1.trans p2).trans p3
theorem Pre.bare (ho : s.over = none) (h2 : 2 ≤ n) (h4 : n ≤ 4096) (hl : us.length = 3 * n + 3) (hf : us.getD 2 0 % 4294967296 = 0) :
    Pre queueM us { s with sub := some (arTake 2 n) } 1 us (quLeft s ⟨7, 0, []⟩) := by
  have hr : arRight 2 n := ⟨by omega, by omega, by omega, by omega⟩
  obtain ⟨hv, hhv⟩ : ∃ hv, us.getD 2 0 = hv := ⟨_, rfl⟩
  have e0 : arTake 2 n = ⟨2, n, false, 0, 1, 0, 0, none⟩ := by unfold arTake; rw [if_pos hr]
  rw [hhv] at hf
  rw [e0]
  have p1 := Pre.load (K := queueM) (us := us) (s := { s with sub := some ⟨2, n, false, 0, 1, 0, 0, none⟩ }) 2 ((qm_want s _ ho).trans rfl) rfl (by omega)
  have g1 : arenaM.give ⟨2, n, false, 0, 1, 0, 0, none⟩ hv true = ⟨2, n, false, 0, 2, hv, 0, some ⟨7, 0, []⟩⟩ := by
    simp [arenaM, arGive, arHead, hf]
  rw [hhv, qm_left s _ ho hv true (r := ⟨7, 0, []⟩) (by rw [g1]; rfl)] at p1
  exact p1
/-- A node is put back. -/
theorem Pre.back (ho : s.over = none) (h2 : 2 ≤ n) (h4 : n ≤ 4096) (hl : us.length = 3 * n + 3) (hU : ∀ j, M.U (us.getD j 0)) (x : Nat) (x1 : 1 ≤ x) (x2 : x ≤ n) :
    Pre queueM us { s with sub := some (arPut 2 n x) } 3 ((us.set (2 + x) (us.getD 2 0 % 4294967296)).set 2 (arNext (us.getD 2 0) x)) (quLeft s ⟨0, 0, []⟩) := by
  have hr : arRight 2 n := ⟨by omega, by omega, by omega, by omega⟩
  obtain ⟨hv, hhv⟩ : ∃ hv, us.getD 2 0 = hv := ⟨_, rfl⟩
  have Uh : M.U hv := hhv ▸ hU 2
  have e0 : arPut 2 n x = ⟨2, n, true, x, 1, 0, 0, none⟩ := by unfold arPut; rw [if_pos ⟨hr, by omega, by omega⟩]
  rw [e0, hhv]
  have p1 := Pre.load (K := queueM) (us := us) (s := { s with sub := some ⟨2, n, true, x, 1, 0, 0, none⟩ }) 2 ((qm_want s _ ho).trans rfl) rfl (by omega)
  rw [hhv, qm_give s _ ho hv true rfl] at p1
  have p2 := Pre.store (K := queueM) (us := us) (s := { s with sub := some ⟨2, n, true, x, 2, hv, 0, none⟩ }) (2 + x) ((qm_want s _ ho).trans rfl) (by simp only; omega) (by omega) (a := hv % 4294967296) ⟨by omega, by omega⟩
  rw [qm_give s _ ho _ true rfl] at p2
  have hget : (us.set (2 + x) (hv % 4294967296)).getD 2 0 = hv := by rw [getD_set _ _ _ _ (by omega), if_neg (by omega), hhv]
  have p3 := Pre.cas (K := queueM) (us := us.set (2 + x) (hv % 4294967296)) (s := { s with sub := some ⟨2, n, true, x, 3, hv, us.getD (2 + x) 0, none⟩ }) 2 ((qm_want s _ ho).trans rfl) rfl (by simp; omega) Uh (arNext_U _ _ Uh (show (0 : Int) ≤ x by omega) (show (x : Int) < 4294967296 by omega)) hget
  rw [qm_left s _ ho hv true (r := ⟨0, 0, []⟩) rfl] at p3
  exact (p1.trans p2).trans p3
theorem quTail_ok {s : QuS} {t : Int} (h : ¬ quWrong s.n t) : quTail s t = { s with t := t, step := 4 } := by unfold quTail; rw [if_neg h]
theorem quHead_ok {s : QuS} {t : Int} (h : ¬ quWrong s.n t) : quHead s t = { s with h := t, step := 2 } := by unfold quHead; rw [if_neg h]
theorem quFive_empty {s : QuS} (h1 : quNode s.x = 0) (h2 : quNode s.t = quNode s.h) : quFive s = quEnd s 5 0 := by unfold quFive; rw [if_pos ⟨h1, h2⟩]
theorem quFive_some {s : QuS} (h1 : ¬ quNode s.x = 0) (h2 : ¬ quWrong s.n s.x) (h3 : ¬ quNode s.t = quNode s.h) : quFive s = { s with step := 5 } := by
  unfold quFive; rw [if_neg (fun h => h1 h.1), if_neg h1, if_neg h2, if_neg h3]
/-- A Put that isn't in the arena. -/
def qp (n : Nat) (l N : List Int) (k : Nat) (step t x code : Int) (inn : Bool) : QuS := ⟨0, n, true, l, N, k, step, none, 0, t, x, 0, code, inn, none⟩
/-- A Take that isn't in the arena. -/
def qt (n : Nat) (step h t x v : Int) (inn : Bool) : QuS := ⟨0, n, false, [], [], 0, step, none, h, t, x, v, 0, inn, none⟩
/-- A node gets its task, and the next one. -/
theorem Pre.wrote (h2 : 2 ≤ n) (hl : us.length = 3 * n + 3) (hU : ∀ j, M.U (us.getD j 0)) (l N : List Int) (k : Nat) (t x code : Int) (inn : Bool) (y : Nat) (hy : N.getD k 0 = (y : Int)) (y1 : 1 ≤ y) (y2 : y ≤ n) (Ul : M.U (l.getD k 0)) (z0 : 0 ≤ N.getD (k + 1) 0 ∧ N.getD (k + 1) 0 < 4294967296) :
    Pre queueM us (qp n l N k 20 t x code inn) 3 ((us.set (2 + n + y) (l.getD k 0)).set (2 + 2 * n + y) (arNext (us.getD (2 + 2 * n + y) 0) (N.getD (k + 1) 0))) (qp n l N (k + 1) (if k + 1 = N.length then 3 else 20) t (us.getD (2 + 2 * n + y) 0) code inn) := by
  have p1 := Pre.store (K := queueM) (us := us) (s := qp n l N k 20 t x code inn) (2 + n + y) rfl (by show (0 : Int) + 2 + n + N.getD k 0 = _; rw [hy]; omega) (by omega) Ul
  have g : (us.set (2 + n + y) (l.getD k 0)).getD (2 + 2 * n + y) 0 = us.getD (2 + 2 * n + y) 0 := by rw [getD_set _ _ _ _ (by omega), if_neg (by omega)]
  have p2 := Pre.load (K := queueM) (us := us.set (2 + n + y) (l.getD k 0)) (s := qp n l N k 21 t x code inn) (2 + 2 * n + y) rfl (by show (0 : Int) + 2 + 2 * n + N.getD k 0 = _; rw [hy]; omega) (by simp; omega)
  rw [g] at p2
  have p3 := Pre.store (K := queueM) (us := us.set (2 + n + y) (l.getD k 0)) (s := qp n l N k 22 t (us.getD (2 + 2 * n + y) 0) code inn) (2 + 2 * n + y) rfl (by show (0 : Int) + 2 + 2 * n + N.getD k 0 = _; rw [hy]; omega) (by simp; omega) (arNext_U _ _ (hU _) z0.1 z0.2)
  exact (p1.trans p2).trans p3
/-- The row of nodes is hung on. -/
theorem Pre.linked (h2 : 2 ≤ n) (h4 : n ≤ 4096) (hl : us.length = 3 * n + 3) (hU : ∀ j, M.U (us.getD j 0)) (l N : List Int) (k : Nat) (t0 x0 code : Int) (tl y0 yl : Nat) (ht : quNode (us.getD 1 0) = (tl : Int)) (t1 : 1 ≤ tl) (t2 : tl ≤ n)
    (hx : quNode (us.getD (2 + 2 * n + tl) 0) = 0) (hy0 : N.getD 0 0 = (y0 : Int)) (hyl : N.getD (N.length - 1) 0 = (yl : Int)) (b0 : y0 ≤ n) (bl : yl ≤ n) :
    ∃ s', Pre queueM us (qp n l N k 3 t0 x0 code false) 5 ((us.set (2 + 2 * n + tl) (arNext (us.getD (2 + 2 * n + tl) 0) y0)).set 1 (arNext (us.getD 1 0) yl)) s' ∧ s'.over = some ⟨0, 0, []⟩ := by
  obtain ⟨t, htt⟩ : ∃ t, us.getD 1 0 = t := ⟨_, rfl⟩
  obtain ⟨x, hxx⟩ : ∃ x, us.getD (2 + 2 * n + tl) 0 = x := ⟨_, rfl⟩
  have Ut : M.U t := htt ▸ hU 1
  have Ux : M.U x := hxx ▸ hU _
  rw [htt] at ht
  rw [hxx] at hx
  rw [htt, hxx]
  have nw : ¬ quWrong (n : Int) t := by unfold quWrong; omega
  have p1 := Pre.load (K := queueM) (us := us) (s := qp n l N k 3 t0 x0 code false) 1 rfl rfl (by omega)
  have g1 : queueM.give (qp n l N k 3 t0 x0 code false) (us.getD 1 0) true = qp n l N k 4 t x0 code false := by
    show quTail (qp n l N k 3 t0 x0 code false) (us.getD 1 0) = _
    rw [htt]
    exact quTail_ok nw
  rw [g1] at p1
  have p2 := Pre.load (K := queueM) (us := us) (s := qp n l N k 4 t x0 code false) (2 + 2 * n + tl) rfl (by show (0 : Int) + 2 + 2 * n + quNode t = _; rw [ht]; omega) (by omega)
  rw [hxx] at p2
  have p3 := Pre.load (K := queueM) (us := us) (s := qp n l N k 5 t x code false) 1 rfl rfl (by omega)
  have g3 : queueM.give (qp n l N k 5 t x code false) (us.getD 1 0) true = qp n l N k 6 t x code false := by
    show (if us.getD 1 0 ≠ t then quTail (qp n l N k 5 t x code false) (us.getD 1 0) else if (n : Int) < quNode x then _ else _) = _
    rw [if_neg (fun hne => hne htt), if_neg (by omega)]; rfl
  rw [g3] at p3
  have w4 : queueM.want (qp n l N k 6 t x code false) = some ⟨3, quNext 0 n (quNode t), x, arNext x (N.getD 0 0)⟩ := by
    show some (if quNode x = 0 then _ else _) = _
    rw [if_pos hx]; rfl
  have p4 := Pre.cas (K := queueM) (us := us) (s := qp n l N k 6 t x code false) (2 + 2 * n + tl) w4 (by show (0 : Int) + 2 + 2 * n + quNode t = _; rw [ht]; omega) (by omega) Ux (arNext_U _ _ Ux (by rw [hy0]; omega) (by rw [hy0]; omega)) hxx
  have g4 : queueM.give (qp n l N k 6 t x code false) x true = qp n l N k 7 t x code true := by
    show (if quNode x = 0 ∧ true = true then _ else _) = _
    rw [if_pos ⟨hx, rfl⟩]; rfl
  rw [g4, hy0] at p4
  have e1 : (us.set (2 + 2 * n + tl) (arNext x y0)).getD 1 0 = t := by rw [getD_set _ _ _ _ (by omega), if_neg (by omega), htt]
  have p5 := Pre.cas (K := queueM) (us := us.set (2 + 2 * n + tl) (arNext x y0)) (s := qp n l N k 7 t x code true) (c := 0 + 1) (a := t) (b := arNext t yl) 1 (by show some (⟨3, 0 + 1, t, arNext t (N.getD (N.length - 1) 0)⟩ : C.Acc) = _; rw [hyl]) rfl (by simp; omega) Ut (arNext_U _ _ Ut (by omega) (by omega)) e1
  exact ⟨_, (((p1.trans p2).trans p3).trans p4).trans p5, rfl⟩
/-- Nothing is there. -/
theorem Pre.empty (h2 : 2 ≤ n) (h4 : n ≤ 4096) (hl : us.length = 3 * n + 3) (d : Nat) (hd : quNode (us.getD 0 0) = (d : Int)) (d1 : 1 ≤ d) (d2 : d ≤ n) (ht : quNode (us.getD 1 0) = (d : Int)) (hx : quNode (us.getD (2 + 2 * n + d) 0) = 0) :
    ∃ s', Pre queueM us (quTake 0 n) 4 us s' ∧ s'.over = some ⟨5, 0, []⟩ := by
  obtain ⟨h, hh⟩ : ∃ h, us.getD 0 0 = h := ⟨_, rfl⟩
  obtain ⟨t, htt⟩ : ∃ t, us.getD 1 0 = t := ⟨_, rfl⟩
  obtain ⟨x, hxx⟩ : ∃ x, us.getD (2 + 2 * n + d) 0 = x := ⟨_, rfl⟩
  rw [hh] at hd
  rw [htt] at ht
  rw [hxx] at hx
  have hr : quRight 0 n := ⟨by omega, by omega, by omega, by omega⟩
  have e0 : quTake 0 n = qt n 1 0 0 0 0 false := by unfold quTake; rw [if_pos hr]; rfl
  have nw : ¬ quWrong (n : Int) h := by unfold quWrong; omega
  rw [e0]
  have p1 := Pre.load (K := queueM) (us := us) (s := qt n 1 0 0 0 0 false) 0 rfl rfl (by omega)
  have g1 : queueM.give (qt n 1 0 0 0 0 false) (us.getD 0 0) true = qt n 2 h 0 0 0 false := by
    show quHead (qt n 1 0 0 0 0 false) (us.getD 0 0) = _
    rw [hh]
    exact quHead_ok nw
  rw [g1] at p1
  have p2 := Pre.load (K := queueM) (us := us) (s := qt n 2 h 0 0 0 false) 1 rfl rfl (by omega)
  rw [htt] at p2
  have p3 := Pre.load (K := queueM) (us := us) (s := qt n 3 h t 0 0 false) (2 + 2 * n + d) rfl (by show (0 : Int) + 2 + 2 * n + quNode h = _; rw [hd]; omega) (by omega)
  rw [hxx] at p3
  have p4 := Pre.load (K := queueM) (us := us) (s := qt n 4 h t x 0 false) 0 rfl rfl (by omega)
  have g4 : queueM.give (qt n 4 h t x 0 false) (us.getD 0 0) true = quEnd (qt n 4 h t x 0 false) 5 0 := by
    show (if us.getD 0 0 ≠ h then _ else quFive (qt n 4 h t x 0 false)) = _
    rw [if_neg (fun hne => hne hh)]
    exact quFive_empty hx (ht.trans hd.symm)
  rw [g4] at p4
  exact ⟨_, ((p1.trans p2).trans p3).trans p4, rfl⟩
/-- The first task is taken. -/
theorem Pre.first (h2 : 2 ≤ n) (h4 : n ≤ 4096) (hl : us.length = 3 * n + 3) (hU : ∀ j, M.U (us.getD j 0)) (d e : Nat) (hd : quNode (us.getD 0 0) = (d : Int)) (d1 : 1 ≤ d) (d2 : d ≤ n) (ht : quNode (us.getD 1 0) ≠ (d : Int)) (hx : quNode (us.getD (2 + 2 * n + d) 0) = (e : Int)) (e1 : 1 ≤ e) (e2 : e ≤ n) :
    ∃ s', Pre queueM us (quTake 0 n) 9 (((us.set 0 (arNext (us.getD 0 0) e)).set (2 + d) (us.getD 2 0 % 4294967296)).set 2 (arNext (us.getD 2 0) d)) s' ∧ s'.over = some ⟨0, us.getD (2 + n + e) 0, []⟩ := by
  obtain ⟨h, hh⟩ : ∃ h, us.getD 0 0 = h := ⟨_, rfl⟩
  obtain ⟨t, htt⟩ : ∃ t, us.getD 1 0 = t := ⟨_, rfl⟩
  obtain ⟨x, hxx⟩ : ∃ x, us.getD (2 + 2 * n + d) 0 = x := ⟨_, rfl⟩
  obtain ⟨v, hvv⟩ : ∃ v, us.getD (2 + n + e) 0 = v := ⟨_, rfl⟩
  have Uh : M.U h := hh ▸ hU 0
  rw [hh] at hd
  rw [htt] at ht
  rw [hxx] at hx
  rw [hh, hvv]
  have hr : quRight 0 n := ⟨by omega, by omega, by omega, by omega⟩
  have e0 : quTake 0 n = qt n 1 0 0 0 0 false := by unfold quTake; rw [if_pos hr]; rfl
  have nw : ¬ quWrong (n : Int) h := by unfold quWrong; omega
  have nx : ¬ quWrong (n : Int) x := by unfold quWrong; omega
  rw [e0]
  have p1 := Pre.load (K := queueM) (us := us) (s := qt n 1 0 0 0 0 false) 0 rfl rfl (by omega)
  have g1 : queueM.give (qt n 1 0 0 0 0 false) (us.getD 0 0) true = qt n 2 h 0 0 0 false := by
    show quHead (qt n 1 0 0 0 0 false) (us.getD 0 0) = _
    rw [hh]
    exact quHead_ok nw
  rw [g1] at p1
  have p2 := Pre.load (K := queueM) (us := us) (s := qt n 2 h 0 0 0 false) 1 rfl rfl (by omega)
  rw [htt] at p2
  have p3 := Pre.load (K := queueM) (us := us) (s := qt n 3 h t 0 0 false) (2 + 2 * n + d) rfl (by show (0 : Int) + 2 + 2 * n + quNode h = _; rw [hd]; omega) (by omega)
  rw [hxx] at p3
  have p4 := Pre.load (K := queueM) (us := us) (s := qt n 4 h t x 0 false) 0 rfl rfl (by omega)
  have g4 : queueM.give (qt n 4 h t x 0 false) (us.getD 0 0) true = qt n 5 h t x 0 false := by
    show (if us.getD 0 0 ≠ h then _ else quFive (qt n 4 h t x 0 false)) = _
    rw [if_neg (fun hne => hne hh)]
    exact quFive_some (show ¬ quNode x = 0 by omega) nx (show ¬ quNode t = quNode h by omega)
  rw [g4] at p4
  have p5 := Pre.load (K := queueM) (us := us) (s := qt n 5 h t x 0 false) (2 + n + e) rfl (by show (0 : Int) + 2 + n + quNode x = _; rw [hx]; omega) (by omega)
  rw [hvv] at p5
  have p6 := Pre.cas (K := queueM) (us := us) (s := qt n 6 h t x v false) (c := 0) (a := h) (b := arNext h e) 0 (by show some (⟨3, 0, h, arNext h (quNode x)⟩ : C.Acc) = _; rw [hx]) rfl (by omega) Uh (arNext_U _ _ Uh (by omega) (by omega)) hh
  have g6 : queueM.give (qt n 6 h t x v false) h true = { qt n 6 h t x v true with sub := some (arPut 2 n d) } := by
    show { qt n 6 h t x v true with sub := some (arPut ((0 : Int) + 2) n (quNode h)) } = _
    rw [hd]; rfl
  rw [g6] at p6
  have hU6 : ∀ j, M.U ((us.set 0 (arNext h e)).getD j 0) := fun j => by
    rw [getD_set _ _ _ _ (by omega)]
    by_cases c : j = 0
    · rw [if_pos c]; exact arNext_U _ _ Uh (by omega) (by omega)
    · rw [if_neg c]; exact hU j
  have p7 := Pre.back (us := us.set 0 (arNext h e)) (s := qt n 6 h t x v true) rfl h2 h4 (by simp; omega) hU6 d d1 d2
  rw [show (us.set 0 (arNext h e)).getD 2 0 = us.getD 2 0 by rw [getD_set _ _ _ _ (by omega), if_neg (by omega)]] at p7
  exact ⟨_, (((((p1.trans p2).trans p3).trans p4).trans p5).trans p6).trans p7, rfl⟩
end
end Go.Proofs.YtejekciekcbagaaGreat

/-
  What a queue holds, while one walk alone has the steps.
-/
namespace Go.Proofs.YtejekciekcbagaaGreat
set_option maxRecDepth 100000
set_option linter.unusedSimpArgs false
set_option linter.unusedVariables false
open Go

/-- A queue of n nodes at cell 0: D are the nodes of its row, lst its tasks, F the free nodes, H those that a walk has in hand. -/
structure QuInv (n : Nat) (us : List Int) (D : List Nat) (lst : List Int) (F H : List Nat) : Prop where
  n2 : 2 ≤ n
  n4 : n ≤ 4096
  len : us.length = 3 * n + 3
  U : ∀ j, M.U (us.getD j 0)
  nd : (D ++ F ++ H).Nodup
  rg : ∀ x ∈ D ++ F ++ H, 1 ≤ x ∧ x ≤ n
  cnt : D.length + F.length + H.length = n
  dl : D.length = lst.length + 1
  hd : quNode (us.getD 0 0) = (D.getD 0 0 : Nat)
  tl : quNode (us.getD 1 0) = (D.getD lst.length 0 : Nat)
  nx : ∀ i, i < D.length → quNode (us.getD (2 + 2 * n + D.getD i 0) 0) = (D.getD (i + 1) 0 : Nat)
  tk : ∀ i, i < lst.length → us.getD (2 + n + D.getD (i + 1) 0) 0 = lst.getD i 0
  fh : us.getD 2 0 % 4294967296 = (F.getD 0 0 : Nat)
  fx : ∀ i, i < F.length → us.getD (2 + F.getD i 0) 0 % 4294967296 = (F.getD (i + 1) 0 : Nat)
theorem arNext_lo (h i : Int) (i0 : 0 ≤ i) (i1 : i < 4294967296) : arNext h i % 4294967296 = i := by unfold arNext; omega
theorem quNode_next (h i : Int) (i0 : 0 ≤ i) (i1 : i < 4294967296) : quNode (arNext h i) = i := arNext_lo h i i0 i1
theorem getD_mem {l : List Nat} {i : Nat} (h : i < l.length) : l.getD i 0 ∈ l := by rw [List.getD, List.getElem?_eq_getElem h]; exact List.getElem_mem h
theorem getD_past {α : Type} {l : List α} {i : Nat} {z : α} (h : l.length ≤ i) : l.getD i z = z := by rw [List.getD, List.getElem?_eq_none h]; rfl
theorem getD_app1 {α : Type} {l m : List α} {i : Nat} {z : α} (h : i < l.length) : (l ++ m).getD i z = l.getD i z := by simp [List.getD, List.getElem?_append_left h]
theorem getD_app2 {α : Type} {l m : List α} {i : Nat} {z : α} (h : l.length ≤ i) : (l ++ m).getD i z = m.getD (i - l.length) z := by simp [List.getD, List.getElem?_append_right h]
section
variable {n : Nat} {us us' : List Int} {D F H : List Nat} {lst : List Int} {f x d e : Nat} {v : Int}
theorem QuInv.inD (h : QuInv n us D lst F H) {i : Nat} (hi : i < D.length) : 1 ≤ D.getD i 0 ∧ D.getD i 0 ≤ n := h.rg _ (List.mem_append_left _ (List.mem_append_left _ (getD_mem hi)))
theorem QuInv.inF (h : QuInv n us D lst F H) {i : Nat} (hi : i < F.length) : 1 ≤ F.getD i 0 ∧ F.getD i 0 ≤ n := h.rg _ (List.mem_append_left _ (List.mem_append_right _ (getD_mem hi)))
theorem QuInv.inH (h : QuInv n us D lst F H) {y : Nat} (hy : y ∈ H) : 1 ≤ y ∧ y ≤ n := h.rg _ (by simp [hy])
theorem QuInv.DH (h : QuInv n us D lst F H) {i y : Nat} (hi : i < D.length) (hy : y ∈ H) : D.getD i 0 ≠ y := fun e => by
  have := List.nodup_append.1 h.nd
  exact this.2.2 _ (List.mem_append_left _ (getD_mem hi)) _ hy e
theorem QuInv.FH (h : QuInv n us D lst F H) {i y : Nat} (hi : i < F.length) (hy : y ∈ H) : F.getD i 0 ≠ y := fun e => by
  have := List.nodup_append.1 h.nd
  exact this.2.2 _ (List.mem_append_right _ (getD_mem hi)) _ hy e
theorem QuInv.DF (h : QuInv n us D lst F H) {i y : Nat} (hi : i < D.length) (hy : y ∈ F) : D.getD i 0 ≠ y := fun e => by
  have := List.nodup_append.1 (List.nodup_append.1 h.nd).1
  exact this.2.2 _ (getD_mem hi) _ hy e
/-- Other words, the same but for those of nodes in hand. -/
theorem QuInv.cells (h : QuInv n us D lst F H) {y : Nat} (hy : y ∈ H) (hl : us'.length = us.length) (hU : ∀ j, M.U (us'.getD j 0)) (hc : ∀ j, j ≠ 2 + n + y → j ≠ 2 + 2 * n + y → us'.getD j 0 = us.getD j 0) : QuInv n us' D lst F H := by
  have hyr := h.inH hy
  have n2 := h.n2
  refine { h with len := hl.trans h.len, U := hU, hd := ?_, tl := ?_, nx := fun i hi => ?_, tk := fun i hi => ?_, fh := ?_, fx := fun i hi => ?_ }
  · rw [hc 0 (by omega) (by omega)]; exact h.hd
  · rw [hc 1 (by omega) (by omega)]; exact h.tl
  · have := h.inD hi
    have hne := h.DH hi hy
    rw [hc _ (by omega) (by omega)]; exact h.nx i hi
  · have hi' : i + 1 < D.length := by rw [h.dl]; omega
    have := h.inD hi'
    have hne := h.DH hi' hy
    rw [hc _ (by omega) (by omega)]; exact h.tk i hi
  · rw [hc 2 (by omega) (by omega)]; exact h.fh
  · have := h.inF hi
    rw [hc _ (by omega) (by omega)]; exact h.fx i hi
/-- A node is taken in hand. -/
theorem QuInv.take (h : QuInv n us D lst (f :: F) H) : QuInv n (us.set 2 (arNext (us.getD 2 0) (us.getD (2 + f) 0 % 4294967296))) D lst F (H ++ [f]) := by
  have n2 := h.n2
  have n4 := h.n4
  have hlen := h.len
  have hlk : us.getD (2 + f) 0 % 4294967296 = (F.getD 0 0 : Nat) := by simpa using h.fx 0 (by simp)
  have hp : (D ++ (f :: F) ++ H).Perm (D ++ F ++ (H ++ [f])) := by
    rw [List.append_assoc, List.append_assoc, List.cons_append]
    refine List.Perm.append_left _ ?_
    rw [← List.append_assoc]
    exact (List.perm_append_singleton f (F ++ H)).symm
  have hn4 : ∀ i, (F.getD i 0 : Nat) ≤ n := fun i => by
    by_cases hi : i < F.length
    · have := (h.rg (F.getD i 0) (by simp only [List.mem_append, List.mem_cons]; exact .inl (.inr (.inr (getD_mem hi))))).2; exact this
    · rw [getD_past (by omega)]; omega
  have h4 := hn4 0
  have hset : ∀ j, j ≠ 2 → (us.set 2 (arNext (us.getD 2 0) (us.getD (2 + f) 0 % 4294967296))).getD j 0 = us.getD j 0 := fun j hj => by rw [getD_set _ _ _ _ (by omega), if_neg hj]
  refine { n2 := n2, n4 := n4, len := by simpa using hlen, U := fun j => ?_, nd := hp.nodup_iff.1 h.nd, rg := fun x hx => h.rg x (hp.mem_iff.2 hx), cnt := ?_, dl := h.dl, hd := ?_, tl := ?_, nx := fun i hi => ?_, tk := fun i hi => ?_, fh := ?_, fx := fun i hi => ?_ }
  · rw [getD_set _ _ _ _ (by omega)]
    by_cases c : j = 2
    · rw [if_pos c]; exact arNext_U _ _ (h.U 2) (by omega) (by omega)
    · rw [if_neg c]; exact h.U j
  · have := h.cnt; simp only [List.length_cons, List.length_append, List.length_nil] at this ⊢; omega
  · rw [hset 0 (by omega)]; exact h.hd
  · rw [hset 1 (by omega)]; exact h.tl
  · rw [hset _ (by omega)]; exact h.nx i hi
  · rw [hset _ (by omega)]; exact h.tk i hi
  · rw [getD_set _ _ _ _ (by omega), if_pos rfl, arNext_lo _ _ (by omega) (by omega)]; exact hlk
  · have h1 := h.fx (i + 1) (by simp; omega)
    simp only [List.getD_cons_succ] at h1
    have h2 := h.rg (F.getD i 0) (by simp only [List.mem_append, List.mem_cons]; exact .inl (.inr (.inr (getD_mem hi))))
    rw [hset _ (by omega)]; exact h1
/-- A node is put back. -/
theorem QuInv.back (h : QuInv n us D lst F (x :: H)) : QuInv n ((us.set (2 + x) (us.getD 2 0 % 4294967296)).set 2 (arNext (us.getD 2 0) x)) D lst (x :: F) H := by
  have n2 := h.n2
  have n4 := h.n4
  have hlen := h.len
  have hxr := h.inH (y := x) (by simp)
  have hp : (D ++ F ++ (x :: H)).Perm (D ++ (x :: F) ++ H) := by
    rw [List.append_assoc, List.append_assoc, List.cons_append]
    refine List.Perm.append_left _ ?_
    exact List.perm_middle
  have hset : ∀ j, j ≠ 2 → j ≠ 2 + x → ((us.set (2 + x) (us.getD 2 0 % 4294967296)).set 2 (arNext (us.getD 2 0) x)).getD j 0 = us.getD j 0 := fun j h1 h2 => by
    rw [getD_set _ _ _ _ (by simp; omega), if_neg h1, getD_set _ _ _ _ (by omega), if_neg h2]
  have hset2 : ((us.set (2 + x) (us.getD 2 0 % 4294967296)).set 2 (arNext (us.getD 2 0) x)).getD 2 0 = arNext (us.getD 2 0) x := by rw [getD_set _ _ _ _ (by simp; omega), if_pos rfl]
  have hsetx : ((us.set (2 + x) (us.getD 2 0 % 4294967296)).set 2 (arNext (us.getD 2 0) x)).getD (2 + x) 0 = us.getD 2 0 % 4294967296 := by rw [getD_set _ _ _ _ (by simp; omega), if_neg (by omega), getD_set _ _ _ _ (by omega), if_pos rfl]
  refine { n2 := n2, n4 := n4, len := by simpa using hlen, U := fun j => ?_, nd := hp.nodup_iff.1 h.nd, rg := fun y hy => h.rg y (hp.mem_iff.2 hy), cnt := ?_, dl := h.dl, hd := ?_, tl := ?_, nx := fun i hi => ?_, tk := fun i hi => ?_, fh := ?_, fx := fun i hi => ?_ }
  · by_cases c : j = 2
    · rw [c, hset2]; exact arNext_U _ _ (h.U 2) (by omega) (by omega)
    · by_cases c2 : j = 2 + x
      · rw [c2, hsetx]; exact ⟨by omega, by omega⟩
      · rw [hset j c c2]; exact h.U j
  · have := h.cnt; simp only [List.length_cons] at this ⊢; omega
  · rw [hset 0 (by omega) (by omega)]; exact h.hd
  · rw [hset 1 (by omega) (by omega)]; exact h.tl
  · have := h.inD hi
    rw [hset _ (by omega) (by omega)]; exact h.nx i hi
  · have := h.inD (i := i + 1) (by rw [h.dl]; omega)
    rw [hset _ (by omega) (by omega)]; exact h.tk i hi
  · rw [hset2, arNext_lo _ _ (by omega) (by omega)]; rfl
  · cases i with
    | zero =>
      show ((us.set (2 + x) _).set 2 _).getD (2 + x) 0 % 4294967296 = (F.getD 0 0 : Nat)
      rw [hsetx]
      have := h.fh
      omega
    | succ i =>
      have hi' : i < F.length := by simpa using hi
      simp only [List.getD_cons_succ]
      have h1 := h.inF hi'
      have h2 := h.FH hi' (y := x) (by simp)
      rw [hset _ (by omega) (by omega)]; exact h.fx i hi'
/-- The row in hand is hung on. -/
theorem QuInv.link (h : QuInv n us D lst F H) (hH : 0 < H.length) (l : List Int) (hl : l.length = H.length) (ht : ∀ i, i < H.length → us.getD (2 + n + H.getD i 0) 0 = l.getD i 0) (hn : ∀ i, i < H.length → quNode (us.getD (2 + 2 * n + H.getD i 0) 0) = (H.getD (i + 1) 0 : Nat)) :
    QuInv n ((us.set (2 + 2 * n + D.getD lst.length 0) (arNext (us.getD (2 + 2 * n + D.getD lst.length 0) 0) (H.getD 0 0 : Nat))).set 1 (arNext (us.getD 1 0) (H.getD (H.length - 1) 0 : Nat))) (D ++ H) (lst ++ l) F [] := by
  have n2 := h.n2
  have n4 := h.n4
  have hlen := h.len
  have hdl := h.dl
  have hT := h.inD (i := lst.length) (by omega)
  have h0 := h.inH (getD_mem hH)
  have hL := h.inH (getD_mem (show H.length - 1 < H.length by omega))
  obtain ⟨T, hTT⟩ : ∃ T, D.getD lst.length 0 = T := ⟨_, rfl⟩
  obtain ⟨y0, hy0⟩ : ∃ y, H.getD 0 0 = y := ⟨_, rfl⟩
  obtain ⟨yl, hyl⟩ : ∃ y, H.getD (H.length - 1) 0 = y := ⟨_, rfl⟩
  rw [hTT] at hT
  rw [hy0] at h0
  rw [hyl] at hL
  rw [hTT, hy0, hyl]
  obtain ⟨ws, hws⟩ : ∃ ws, (us.set (2 + 2 * n + T) (arNext (us.getD (2 + 2 * n + T) 0) (y0 : Int))).set 1 (arNext (us.getD 1 0) (yl : Int)) = ws := ⟨_, rfl⟩
  have hset : ∀ j, j ≠ 1 → j ≠ 2 + 2 * n + T → ws.getD j 0 = us.getD j 0 := fun j h1 h2 => by
    rw [← hws, getD_set _ _ _ _ (by simp; omega), if_neg h1, getD_set _ _ _ _ (by omega), if_neg h2]
  have hset1 : ws.getD 1 0 = arNext (us.getD 1 0) yl := by rw [← hws, getD_set _ _ _ _ (by simp; omega), if_pos rfl]
  have hsetT : ws.getD (2 + 2 * n + T) 0 = arNext (us.getD (2 + 2 * n + T) 0) y0 := by rw [← hws, getD_set _ _ _ _ (by simp; omega), if_neg (by omega), getD_set _ _ _ _ (by omega), if_pos rfl]
  have hwl : ws.length = us.length := by rw [← hws]; simp
  rw [hws]
  have hp : (D ++ F ++ H).Perm (D ++ H ++ F ++ []) := by
    rw [List.append_nil, List.append_assoc, List.append_assoc]
    exact List.Perm.append_left _ List.perm_append_comm
  have hinj : ∀ i, i < D.length → i ≠ lst.length → D.getD i 0 ≠ T := fun i hi hne e => by
    have hnd := (List.nodup_append.1 (List.nodup_append.1 h.nd).1).1
    rw [← hTT, List.getD, List.getD, List.getElem?_eq_getElem hi, List.getElem?_eq_getElem (show lst.length < D.length by omega)] at e
    exact hne ((List.getElem_inj hnd).1 e)
  refine { n2 := n2, n4 := n4, len := hwl.trans hlen, U := fun j => ?_, nd := hp.nodup_iff.1 h.nd, rg := fun y hy => h.rg y (hp.mem_iff.2 hy), cnt := ?_, dl := ?_, hd := ?_, tl := ?_, nx := fun i hi => ?_, tk := fun i hi => ?_, fh := ?_, fx := fun i hi => ?_ }
  · by_cases c : j = 1
    · rw [c, hset1]; exact arNext_U _ _ (h.U 1) (by omega) (by omega)
    · by_cases c2 : j = 2 + 2 * n + T
      · rw [c2, hsetT]; exact arNext_U _ _ (h.U _) (by omega) (by omega)
      · rw [hset j c c2]; exact h.U j
  · have := h.cnt; simp only [List.length_append, List.length_nil]; omega
  · simp only [List.length_append]; omega
  · rw [hset 0 (by omega) (by omega), getD_app1 (by omega)]; exact h.hd
  · rw [hset1, quNode_next _ _ (by omega) (by omega), getD_app2 (by simp only [List.length_append]; omega), ← hyl]
    congr 2
    simp only [List.length_append]; omega
  · by_cases c : i < D.length
    · rw [getD_app1 c]
      have hr := h.inD c
      by_cases c2 : i = lst.length
      · rw [c2, hTT, hsetT, quNode_next _ _ (by omega) (by omega), getD_app2 (by omega), ← hy0]
        congr 2; omega
      · have := hinj i c c2
        rw [hset _ (by omega) (by omega), getD_app1 (by omega)]; exact h.nx i c
    · have hi' : i - D.length < H.length := by simp only [List.length_append] at hi; omega
      rw [getD_app2 (by omega)]
      have hm := getD_mem hi'
      have hr := h.inH hm
      have hne : H.getD (i - D.length) 0 ≠ T := fun e => by
        have := h.DH (i := lst.length) (by omega) hm
        rw [hTT] at this; exact this e.symm
      rw [hset _ (by omega) (by omega), hn _ hi', getD_app2 (by omega)]
      congr 2; omega
  · have hrange : ∀ y, 1 ≤ y → y ≤ n → ws.getD (2 + n + y) 0 = us.getD (2 + n + y) 0 := fun y h1 h2 => hset _ (by omega) (by omega)
    by_cases c : i < lst.length
    · rw [getD_app1 (show i + 1 < D.length by omega), getD_app1 c]
      have hr := h.inD (i := i + 1) (by omega)
      rw [hrange _ hr.1 hr.2]; exact h.tk i c
    · have hi' : i - lst.length < H.length := by simp only [List.length_append] at hi; omega
      rw [getD_app2 (show D.length ≤ i + 1 by omega), getD_app2 (show lst.length ≤ i by omega), show i + 1 - D.length = i - lst.length by omega]
      have hr := h.inH (getD_mem hi')
      rw [hrange _ hr.1 hr.2]; exact ht _ hi'
  · rw [hset 2 (by omega) (by omega)]; exact h.fh
  · have hr := h.inF hi
    rw [hset _ (by omega) (by omega)]; exact h.fx i hi
/-- The first one is taken. -/
theorem QuInv.first (h : QuInv n us (d :: e :: D) (v :: lst) F []) : us.getD (2 + n + e) 0 = v ∧ QuInv n (((us.set 0 (arNext (us.getD 0 0) e)).set (2 + d) (us.getD 2 0 % 4294967296)).set 2 (arNext (us.getD 2 0) d)) (e :: D) lst (d :: F) [] := by
  have n2 := h.n2
  have n4 := h.n4
  have hlen := h.len
  have hd := h.inD (i := 0) (by simp)
  have he := h.inD (i := 1) (by simp)
  simp only [List.getD_cons_zero, List.getD_cons_succ] at hd he
  refine ⟨by simpa using h.tk 0 (by simp), ?_⟩
  have hne : d ≠ e := fun c => by
    have := h.nd
    simp [c] at this
  -- the node d is in hand, behind another head
  have hD2 : ∀ i, i < (e :: D).length → (d :: e :: D).getD (i + 1) 0 = (e :: D).getD i 0 := fun i _ => List.getD_cons_succ
  obtain ⟨vs, hvs⟩ : ∃ vs, us.set 0 (arNext (us.getD 0 0) (e : Int)) = vs := ⟨_, rfl⟩
  have hset : ∀ j, j ≠ 0 → vs.getD j 0 = us.getD j 0 := fun j hj => by rw [← hvs, getD_set _ _ _ _ (by omega), if_neg hj]
  have hset0 : vs.getD 0 0 = arNext (us.getD 0 0) e := by rw [← hvs, getD_set _ _ _ _ (by omega), if_pos rfl]
  have hp : (d :: e :: D ++ F ++ []).Perm (e :: D ++ F ++ [d]) := by
    rw [List.append_nil]
    exact (List.perm_append_singleton d (e :: D ++ F)).symm
  have hmid : QuInv n vs (e :: D) lst F [d] := by
    refine { n2 := n2, n4 := n4, len := by rw [← hvs]; simpa using hlen, U := fun j => ?_, nd := hp.nodup_iff.1 h.nd, rg := fun y hy => h.rg y (hp.mem_iff.2 hy), cnt := ?_, dl := ?_, hd := ?_, tl := ?_, nx := fun i hi => ?_, tk := fun i hi => ?_, fh := ?_, fx := fun i hi => ?_ }
    · by_cases c : j = 0
      · rw [c, hset0]; exact arNext_U _ _ (h.U 0) (by omega) (by omega)
      · rw [hset j c]; exact h.U j
    · have := h.cnt; simp only [List.length_cons, List.length_nil] at this ⊢; omega
    · have := h.dl; simp only [List.length_cons] at this ⊢; omega
    · rw [hset0, quNode_next _ _ (by omega) (by omega)]; rfl
    · rw [hset 1 (by omega)]
      have := h.tl
      simpa using this
    · have := h.nx (i + 1) (by simp only [List.length_cons] at hi ⊢; omega)
      simp only [List.getD_cons_succ] at this
      rw [hset _ (by omega)]; exact this
    · have := h.tk (i + 1) (by simp only [List.length_cons]; omega)
      simp only [List.getD_cons_succ] at this
      rw [hset _ (by omega)]; exact this
    · rw [hset 2 (by omega)]; exact h.fh
    · rw [hset _ (by omega)]; exact h.fx i hi
  have hb := hmid.back
  rw [hset 2 (by omega)] at hb
  rw [hvs]
  exact hb
end
end Go.Proofs.YtejekciekcbagaaGreat

/-
  The deeds of a walk that is alone at a queue are a list's.
-/
namespace Go.Proofs.YtejekciekcbagaaGreat
set_option maxRecDepth 100000
set_option linter.unusedSimpArgs false
set_option linter.unusedVariables false
open Go

def nodesI (N : List Nat) : List Int := N.map fun x : Nat => (x : Int)
theorem nodesI_len (N : List Nat) : (nodesI N).length = N.length := by simp [nodesI]
theorem nodesI_at (N : List Nat) (k : Nat) : (nodesI N).getD k 0 = ((N.getD k 0 : Nat) : Int) := by
  by_cases h : k < N.length
  · simp [nodesI, List.getD, h]
  · simp [nodesI, List.getD, List.getElem?_eq_none (Nat.le_of_not_lt h)]
theorem nodesI_snoc (N : List Nat) (f : Nat) : nodesI N ++ [(f : Int)] = nodesI (N ++ [f]) := by simp [nodesI]
section
variable {n : Nat} {us : List Int} {D F : List Nat} {lst : List Int}
theorem qleft_more {l : List Int} {N : List Nat} {f : Nat} (h : N.length + 1 < l.length) : quLeft (qp n l (nodesI N) 0 1 0 0 0 false) ⟨0, f, []⟩ = { qp n l (nodesI (N ++ [f])) 0 1 0 0 0 false with sub := some (arTake 2 n) } := by
  rw [← nodesI_snoc]
  show (if (nodesI N).length + 1 < l.length then _ else _) = _
  rw [nodesI_len, if_pos h]
  rfl
theorem qleft_last {l : List Int} {N : List Nat} {f : Nat} (h : ¬ N.length + 1 < l.length) : quLeft (qp n l (nodesI N) 0 1 0 0 0 false) ⟨0, f, []⟩ = qp n l (nodesI (N ++ [f])) 0 20 0 0 0 false := by
  rw [← nodesI_snoc]
  show (if (nodesI N).length + 1 < l.length then _ else _) = _
  rw [nodesI_len, if_neg h]
  rfl
/-- All the nodes are taken. -/
theorem QuInv.takes (l : List Int) : ∀ (r : Nat) (us : List Int) (F N : List Nat), QuInv n us D lst F N → N.length + (r + 1) = l.length → r + 1 ≤ F.length →
    ∃ us' F' N', Pre queueM us { qp n l (nodesI N) 0 1 0 0 0 false with sub := some (arTake 2 n) } (3 * (r + 1)) us' (qp n l (nodesI N') 0 20 0 0 0 false) ∧ QuInv n us' D lst F' N' ∧ N'.length = l.length := by
  intro r
  induction r with
  | zero =>
    intro us F N h hl hF
    cases F with
    | nil => simp at hF
    | cons f F =>
      have hf := h.inF (i := 0) (by simp)
      have p := Pre.taken (s := qp n l (nodesI N) 0 1 0 0 0 false) rfl h.n2 h.n4 h.len h.U f h.fh hf.1 hf.2
      rw [qleft_last (by omega)] at p
      exact ⟨_, F, N ++ [f], p, h.take, by simp; omega⟩
  | succ r ih =>
    intro us F N h hl hF
    cases F with
    | nil => simp at hF
    | cons f F =>
      have hf := h.inF (i := 0) (by simp)
      have p := Pre.taken (s := qp n l (nodesI N) 0 1 0 0 0 false) rfl h.n2 h.n4 h.len h.U f h.fh hf.1 hf.2
      rw [qleft_more (by omega)] at p
      obtain ⟨us', F', N', p', h', hl'⟩ := ih _ F (N ++ [f]) h.take (by simp; omega) (by simpa using hF)
      refine ⟨us', F', N', ?_, h', hl'⟩
      have := p.trans p'
      rwa [show 3 + 3 * (r + 1) = 3 * (r + 1 + 1) by omega] at this
/-- The nodes that were taken are put back. -/
theorem QuInv.backs (l : List Int) (N : List Nat) : ∀ (r : Nat) (us : List Int) (F : List Nat) (k : Nat), QuInv n us D lst F (N.drop k) → k + r = N.length →
    ∃ us' F' s', Pre queueM us (quBack (qp n l (nodesI N) k 10 0 0 7 false)) (3 * r) us' s' ∧ s'.over = some ⟨7, 0, []⟩ ∧ QuInv n us' D lst F' [] := by
  intro r
  induction r with
  | zero =>
    intro us F k h hk
    have e : quBack (qp n l (nodesI N) k 10 0 0 7 false) = quEnd (qp n l (nodesI N) k 10 0 0 7 false) 7 0 := by
      show (if k = (nodesI N).length then _ else _) = _
      rw [nodesI_len, if_pos (by omega)]; rfl
    rw [e]
    rw [List.drop_eq_nil_of_le (by omega)] at h
    exact ⟨us, F, _, Pre.refl _ _, rfl, h⟩
  | succ r ih =>
    intro us F k h hk
    have hkN : k < N.length := by omega
    have hdr : N.drop k = N.getD k 0 :: N.drop (k + 1) := by
      rw [List.drop_eq_getElem_cons hkN, List.getD, List.getElem?_eq_getElem hkN]; rfl
    obtain ⟨x, hx⟩ : ∃ x, N.getD k 0 = x := ⟨_, rfl⟩
    rw [hdr, hx] at h
    have hxr := h.inH (y := x) (by simp)
    have e : quBack (qp n l (nodesI N) k 10 0 0 7 false) = { qp n l (nodesI N) (k + 1) 10 0 0 7 false with sub := some (arPut 2 n x) } := by
      show (if k = (nodesI N).length then _ else { qp n l (nodesI N) (k + 1) 10 0 0 7 false with sub := some (arPut ((0 : Int) + 2) n ((nodesI N).getD k 0)) }) = _
      rw [nodesI_len, if_neg (by omega), nodesI_at, hx]; rfl
    rw [e]
    have p := Pre.back (s := qp n l (nodesI N) (k + 1) 10 0 0 7 false) rfl h.n2 h.n4 h.len h.U x hxr.1 hxr.2
    have e2 : quLeft (qp n l (nodesI N) (k + 1) 10 0 0 7 false) ⟨0, 0, []⟩ = quBack (qp n l (nodesI N) (k + 1) 10 0 0 7 false) := rfl
    rw [e2] at p
    obtain ⟨us', F', s', p', ho, h'⟩ := ih _ (x :: F) (k + 1) h.back (by omega)
    refine ⟨us', F', s', ?_, ho, h'⟩
    have := p.trans p'
    rwa [show 3 + 3 * r = 3 * (r + 1) by omega] at this
/-- There aren't as many free nodes. -/
theorem QuInv.refused (l : List Int) : ∀ (F : List Nat) (us : List Int) (N : List Nat), QuInv n us D lst F N → N.length + F.length < l.length →
    ∃ us' F' s' m, Pre queueM us { qp n l (nodesI N) 0 1 0 0 0 false with sub := some (arTake 2 n) } (m + 1) us' s' ∧ m ≤ 3 * F.length + 3 * (N.length + F.length) ∧ s'.over = some ⟨7, 0, []⟩ ∧ QuInv n us' D lst F' [] := by
  intro F
  induction F with
  | nil =>
    intro us N h hl
    have p := Pre.bare (s := qp n l (nodesI N) 0 1 0 0 0 false) rfl h.n2 h.n4 h.len h.fh
    have e : quLeft (qp n l (nodesI N) 0 1 0 0 0 false) ⟨7, 0, []⟩ = quBack (qp n l (nodesI N) 0 10 0 0 7 false) := rfl
    rw [e] at p
    obtain ⟨us', F', s', p', ho, h'⟩ := QuInv.backs l N N.length us [] 0 h (by omega)
    refine ⟨us', F', s', 3 * N.length, ?_, by simp, ho, h'⟩
    have := p.trans p'
    rwa [Nat.add_comm] at this
  | cons f F ih =>
    intro us N h hl
    have hf := h.inF (i := 0) (by simp)
    have p := Pre.taken (s := qp n l (nodesI N) 0 1 0 0 0 false) rfl h.n2 h.n4 h.len h.U f h.fh hf.1 hf.2
    simp only [List.length_cons] at hl
    rw [qleft_more (by omega)] at p
    obtain ⟨us', F', s', m, p', hm, ho, h'⟩ := ih _ (N ++ [f]) h.take (by simp; omega)
    refine ⟨us', F', s', 3 + m, ?_, ?_, ho, h'⟩
    · have := p.trans p'
      rwa [← Nat.add_assoc] at this
    · simp only [List.length_cons, List.length_append, List.length_nil] at hm ⊢; omega
/-- The first k of them have their tasks, and the next ones. -/
def QuMid (n : Nat) (us l : List Int) (N : List Nat) (k : Nat) : Prop := ∀ i, i < k → us.getD (2 + n + N.getD i 0) 0 = l.getD i 0 ∧ quNode (us.getD (2 + 2 * n + N.getD i 0) 0) = (N.getD (i + 1) 0 : Nat)
theorem QuInv.writes (l : List Int) (hlU : ∀ v ∈ l, M.U v) (N : List Nat) : ∀ (r : Nat) (us : List Int) (k : Nat) (t x : Int), QuInv n us D lst F N → N.length = l.length → k + (r + 1) = N.length → QuMid n us l N k →
    ∃ us' x', Pre queueM us (qp n l (nodesI N) k 20 t x 0 false) (3 * (r + 1)) us' (qp n l (nodesI N) N.length 3 t x' 0 false) ∧ QuInv n us' D lst F N ∧ QuMid n us' l N N.length := by
  have step : ∀ (us : List Int) (k : Nat) (t x : Int), QuInv n us D lst F N → N.length = l.length → k < N.length → QuMid n us l N k →
      ∃ us' x', Pre queueM us (qp n l (nodesI N) k 20 t x 0 false) 3 us' (qp n l (nodesI N) (k + 1) (if k + 1 = N.length then 3 else 20) t x' 0 false) ∧ QuInv n us' D lst F N ∧ QuMid n us' l N (k + 1) := by
    intro us k t x h hl hk hmid
    have n2 := h.n2
    have n4 := h.n4
    have hlen := h.len
    have hm := getD_mem hk
    have hr := h.inH hm
    have hUl : M.U (l.getD k 0) := by rw [List.getD, List.getElem?_eq_getElem (by omega)]; exact hlU _ (List.getElem_mem _)
    have hz : 0 ≤ (nodesI N).getD (k + 1) 0 ∧ (nodesI N).getD (k + 1) 0 < 4294967296 := by
      rw [nodesI_at]
      by_cases c : k + 1 < N.length
      · have := h.inH (getD_mem c); omega
      · rw [getD_past (by omega)]; omega
    have p := Pre.wrote (us := us) n2 hlen h.U l (nodesI N) k t x 0 false (N.getD k 0) (nodesI_at _ _) hr.1 hr.2 hUl hz
    rw [nodesI_len] at p
    obtain ⟨y, hy⟩ : ∃ y, N.getD k 0 = y := ⟨_, rfl⟩
    rw [hy] at p hm hr
    obtain ⟨ws, hws⟩ : ∃ ws, (us.set (2 + n + y) (l.getD k 0)).set (2 + 2 * n + y) (arNext (us.getD (2 + 2 * n + y) 0) ((nodesI N).getD (k + 1) 0)) = ws := ⟨_, rfl⟩
    have hset : ∀ j, j ≠ 2 + n + y → j ≠ 2 + 2 * n + y → ws.getD j 0 = us.getD j 0 := fun j h1 h2 => by
      rw [← hws, getD_set _ _ _ _ (by simp; omega), if_neg h2, getD_set _ _ _ _ (by omega), if_neg h1]
    have hset1 : ws.getD (2 + n + y) 0 = l.getD k 0 := by rw [← hws, getD_set _ _ _ _ (by simp; omega), if_neg (by omega), getD_set _ _ _ _ (by omega), if_pos rfl]
    have hset2 : ws.getD (2 + 2 * n + y) 0 = arNext (us.getD (2 + 2 * n + y) 0) ((nodesI N).getD (k + 1) 0) := by rw [← hws, getD_set _ _ _ _ (by simp; omega), if_pos rfl]
    rw [hws] at p
    refine ⟨ws, _, p, h.cells hm (by rw [← hws]; simp) (fun j => ?_) hset, fun i hi => ?_⟩
    · by_cases c : j = 2 + n + y
      · rw [c, hset1]; exact hUl
      · by_cases c2 : j = 2 + 2 * n + y
        · rw [c2, hset2]; exact arNext_U _ _ (h.U _) hz.1 hz.2
        · rw [hset j c c2]; exact h.U j
    · by_cases c : i = k
      · subst c
        rw [hy, hset1, hset2, quNode_next _ _ hz.1 hz.2, nodesI_at]
        exact ⟨rfl, rfl⟩
      · have hi' : i < N.length := by omega
        have hri := h.inH (getD_mem hi')
        have hne : N.getD i 0 ≠ y := fun e => by
          have hnd := (List.nodup_append.1 h.nd).2.1
          rw [← hy, List.getD, List.getD, List.getElem?_eq_getElem hi', List.getElem?_eq_getElem hk] at e
          exact c ((List.getElem_inj hnd).1 e)
        rw [hset _ (by omega) (by omega), hset _ (by omega) (by omega)]
        exact hmid i (by omega)
  intro r
  induction r with
  | zero =>
    intro us k t x h hl hk hmid
    obtain ⟨us', x', p, h', hm⟩ := step us k t x h hl (by omega) hmid
    rw [if_pos (by omega)] at p
    have hkN : k + 1 = N.length := by omega
    rw [hkN] at p hm
    exact ⟨us', x', p, h', hm⟩
  | succ r ih =>
    intro us k t x h hl hk hmid
    obtain ⟨us1, x1, p, h1, hm1⟩ := step us k t x h hl (by omega) hmid
    rw [if_neg (by omega)] at p
    obtain ⟨us', x', p', h', hm'⟩ := ih us1 (k + 1) t x1 h1 hl (by omega) hm1
    refine ⟨us', x', ?_, h', hm'⟩
    have := p.trans p'
    rwa [show 3 + 3 * (r + 1) = 3 * (r + 1 + 1) by omega] at this
theorem qm_over {s : QuS} {r : Rs} (h : s.over = some r) : queueM.want s = none ∧ queueM.res s = some r := by
  have hs : quNest.sub s = none := by
    show (if s.over.isSome then none else s.sub) = none
    rw [h]; rfl
  refine ⟨?_, h⟩
  simp only [queueM, Nest.mach, hs]
  show (if s.over.isSome then none else _) = none
  rw [h]; rfl
/-- A put of tasks. -/
theorem QuInv.put (h : QuInv n us D lst F []) (l : List Int) (hl1 : 1 ≤ l.length) (hl3 : l.length ≤ 3) (hlU : ∀ v ∈ l, M.U v) :
    ∃ m us' s' D' F', Solo queueM us (quPut 0 n l) m us' s' ∧ 0 < m ∧ m ≤ 200 ∧ ((l.length ≤ F.length ∧ queueM.res s' = some ⟨0, 0, []⟩ ∧ QuInv n us' D' (lst ++ l) F' []) ∨ (F.length < l.length ∧ queueM.res s' = some ⟨7, 0, []⟩ ∧ QuInv n us' D' lst F' [])) := by
  have n2 := h.n2
  have n4 := h.n4
  have hr : quRight 0 n := ⟨by omega, by omega, by omega, by omega⟩
  have e0 : quPut 0 n l = { qp n l (nodesI []) 0 1 0 0 0 false with sub := some (arTake 2 n) } := by
    unfold quPut
    rw [if_neg (fun c => c.elim (fun c => c hr) (fun c => by omega)), if_neg (by omega)]
    rfl
  rw [e0]
  by_cases hF : l.length ≤ F.length
  · obtain ⟨us1, F1, N, p1, h1, hN⟩ := QuInv.takes l (l.length - 1) us F [] h (by simp; omega) (by omega)
    obtain ⟨us2, x2, p2, h2, hm2⟩ := QuInv.writes l hlU N (l.length - 1) us1 0 0 0 h1 hN (by omega) (fun i hi => by omega)
    have hT := h2.inD (i := lst.length) (by rw [h2.dl]; omega)
    have hN0 : 0 < N.length := by omega
    have hy0 := h2.inH (getD_mem hN0)
    have hyl := h2.inH (getD_mem (show N.length - 1 < N.length by omega))
    have hxT := h2.nx lst.length (by rw [h2.dl]; omega)
    rw [getD_past (show D.length ≤ lst.length + 1 by rw [h2.dl]; omega)] at hxT
    obtain ⟨s', p3, ho⟩ := Pre.linked (us := us2) n2 n4 h2.len h2.U l (nodesI N) N.length 0 x2 0 (D.getD lst.length 0) (N.getD 0 0) (N.getD (N.length - 1) 0) h2.tl hT.1 hT.2 hxT (nodesI_at _ _) (by rw [nodesI_len]; exact nodesI_at _ _) hy0.2 hyl.2
    have h3 := h2.link hN0 l hN.symm (fun i hi => (hm2 i hi).1) (fun i hi => (hm2 i hi).2)
    obtain ⟨w1, w2⟩ := qm_over ho
    exact ⟨_, _, s', D ++ N, F1, ((p1.trans p2).trans p3).end w1, by omega, by omega, .inl ⟨hF, w2, h3⟩⟩
  · obtain ⟨us', F', s', m, p, hm, ho, h'⟩ := QuInv.refused l F us [] h (by simp; omega)
    obtain ⟨w1, w2⟩ := qm_over ho
    exact ⟨_, us', s', D, F', p.end w1, by omega, by simp at hm; omega, .inr ⟨by omega, w2, h'⟩⟩
/-- A take. -/
theorem QuInv.pop (h : QuInv n us D lst F []) :
    ∃ m us' s' D' F', Solo queueM us (quTake 0 n) m us' s' ∧ 0 < m ∧ m ≤ 200 ∧ ((lst = [] ∧ queueM.res s' = some ⟨5, 0, []⟩ ∧ QuInv n us' D' lst F' []) ∨ ∃ v lst', lst = v :: lst' ∧ queueM.res s' = some ⟨0, v, []⟩ ∧ QuInv n us' D' lst' F' []) := by
  have n2 := h.n2
  have n4 := h.n4
  have hdl := h.dl
  cases lst with
  | nil =>
    have hd := h.inD (i := 0) (by rw [hdl]; decide)
    have hx := h.nx 0 (by rw [hdl]; decide)
    rw [getD_past (show D.length ≤ 0 + 1 by rw [hdl]; decide)] at hx
    obtain ⟨s', p, ho⟩ := Pre.empty (us := us) n2 n4 h.len (D.getD 0 0) h.hd hd.1 hd.2 h.tl hx
    obtain ⟨w1, w2⟩ := qm_over ho
    exact ⟨_, us, s', D, F, p.end w1, by omega, by omega, .inl ⟨rfl, w2, h⟩⟩
  | cons v lst =>
    match D, h, hdl with
    | d :: e :: D, h, hdl =>
      have hd := h.inD (i := 0) (by simp)
      have he := h.inD (i := 1) (by simp)
      have hx := h.nx 0 (by simp)
      obtain ⟨ev, h'⟩ := h.first
      have htl := h.tl
      have hne : quNode (us.getD 1 0) ≠ (d : Int) := fun c => by
        rw [htl] at c
        have hnd := (List.nodup_append.1 (List.nodup_append.1 h.nd).1).1
        have hlt : (v :: lst).length < (d :: e :: D).length := by rw [hdl]; omega
        rw [List.getD, List.getElem?_eq_getElem hlt] at c
        have c' : (d :: e :: D)[(v :: lst).length] = (d :: e :: D)[0] := by simpa using Int.ofNat_inj.1 c
        have := (List.getElem_inj hnd).1 c'
        simp at this
      obtain ⟨s', p, ho⟩ := Pre.first (us := us) n2 n4 h.len h.U d e h.hd hd.1 hd.2 hne hx he.1 he.2
      rw [ev] at ho
      obtain ⟨w1, w2⟩ := qm_over ho
      exact ⟨_, _, s', e :: D, d :: F, p.end w1, by omega, by omega, .inr ⟨v, lst, rfl, w2, h'⟩⟩
    | [], _, hdl => simp at hdl
    | [_], _, hdl => simp at hdl
end
end Go.Proofs.YtejekciekcbagaaGreat

/-
  What is told of a queue, and how it begins.
-/
namespace Go.Proofs.YtejekciekcbagaaGreat
set_option maxRecDepth 100000
set_option linter.unusedSimpArgs false
set_option linter.unusedVariables false
open Go

section
variable {n : Nat} {us : List Int} {D F : List Nat} {lst : List Int}
theorem QuInv.follow (h : QuInv n us D lst F []) : ∀ (f i : Nat), i ≤ lst.length → lst.length - i ≤ f → quFollow us 0 n f ((D.getD (i + 1) 0 : Nat) : Int) (lst.take i) = some lst := by
  have hdl := h.dl
  intro f
  induction f with
  | zero =>
    intro i hi hf
    rw [getD_past (by omega)]
    unfold quFollow
    rw [if_pos (by rfl), List.take_of_length_le (by omega)]
  | succ f ih =>
    intro i hi hf
    by_cases c : i = lst.length
    · rw [getD_past (by omega)]
      unfold quFollow
      rw [if_pos (by rfl), List.take_of_length_le (by omega)]
    · have hr := h.inD (i := i + 1) (by omega)
      have hx := h.nx (i + 1) (by omega)
      have ht := h.tk i (by omega)
      unfold quFollow
      rw [if_neg (by omega), if_pos (by omega)]
      have e1 : quNx us 0 n ((D.getD (i + 1) 0 : Nat) : Int) = ((D.getD (i + 1 + 1) 0 : Nat) : Int) := by
        unfold quNx
        rw [← hx]
        congr 2
        all_goals (simp only [Int.toNat_natCast]; try omega)
      have e2 : quTk us 0 n ((D.getD (i + 1) 0 : Nat) : Int) = lst.getD i 0 := by
        unfold quTk
        rw [← ht]
        congr 1
        all_goals (simp only [Int.toNat_natCast]; try omega)
      rw [e1, e2]
      have e3 : lst.take i ++ [lst.getD i 0] = lst.take (i + 1) := by
        rw [List.take_succ_eq_append_getElem (show i < lst.length by omega), List.getD, List.getElem?_eq_getElem (show i < lst.length by omega)]; rfl
      rw [e3]
      exact ih (i + 1) (by omega) (by omega)
theorem QuInv.all (h : QuInv n us D lst F []) : quAllOf us 0 n = some lst := by
  have hdl := h.dl
  have hc := h.cnt
  have hr := h.inD (i := 0) (by omega)
  have hx := h.nx 0 (by omega)
  unfold quAllOf
  rw [h.hd, if_pos (by omega)]
  have e1 : quNx us 0 n ((D.getD 0 0 : Nat) : Int) = ((D.getD (0 + 1) 0 : Nat) : Int) := by
    unfold quNx
    rw [← hx]
    congr 2
    all_goals (simp only [Int.toNat_natCast]; try omega)
  rw [e1]
  exact h.follow (n - 1) 0 (Nat.zero_le _) (by simp only [List.length_nil] at hc; omega)
theorem QuInv.frees (h : QuInv n us D lst F []) : F.length = n - 1 - lst.length ∧ lst.length + F.length + 1 = n ∧ us.getD 2 0 % 4294967296 = (F.headD 0 : Nat) ∧ (∀ k x, F[k]? = some x → us.getD (2 + x) 0 % 4294967296 = (((F[k + 1]?).getD 0 : Nat) : Int)) ∧ (∀ x ∈ F, 1 ≤ x ∧ x ≤ n) ∧ F.Nodup := by
  have hdl := h.dl
  have hc := h.cnt
  simp only [List.length_nil] at hc
  refine ⟨by omega, by omega, ?_, fun k x hk => ?_, fun x hx => h.rg x (by simp [hx]), (List.nodup_append.1 (List.nodup_append.1 h.nd).1).2.1⟩
  · rw [h.fh]; cases F <;> rfl
  · have hlt := (List.getElem?_eq_some_iff.1 hk).1
    have := h.fx k hlt
    have e : F.getD k 0 = x := by rw [List.getD, hk]; rfl
    rw [e] at this
    exact this
/-- A deed of one who is alone: a put of the tasks l, or a take. -/
inductive QaDeed (n : Nat) (l xs : List Int) : Int → Int → List Int → Prop
  | full : 0 < l.length → n ≤ xs.length + l.length → QaDeed n l xs 7 0 xs
  | put : 0 < l.length → xs.length + l.length < n → QaDeed n l xs 0 0 (xs ++ l)
  | empty : l.length = 0 → xs = [] → QaDeed n l xs 5 0 xs
  | take (u : Int) (xs' : List Int) : l.length = 0 → xs = u :: xs' → QaDeed n l xs 0 u xs'
theorem QuInv.deed (h : QuInv n us D lst F []) (l : List Int) (hl3 : l.length ≤ 3) (hlU : ∀ v ∈ l, M.U v) :
    ∃ (m : Nat) (us' : List Int) (s' : QuS) (D' F' : List Nat) (c u : Int) (xs' : List Int), Solo queueM us (if l.length = 0 then quTake 0 n else quPut 0 n l) m us' s' ∧ 0 < m ∧ m ≤ 200 ∧ queueM.res s' = some ⟨c, u, []⟩ ∧ QuInv n us' D' xs' F' [] ∧ QaDeed n l lst c u xs' := by
  have hf := h.frees.2.1
  by_cases h0 : l.length = 0
  · rw [if_pos h0]
    obtain ⟨m, us', s', D', F', hs, m0, m2, hc⟩ := h.pop
    rcases hc with ⟨rfl, hr, h'⟩ | ⟨v, lst', rfl, hr, h'⟩
    · exact ⟨m, us', s', D', F', 5, 0, _, hs, m0, m2, hr, h', .empty h0 rfl⟩
    · exact ⟨m, us', s', D', F', 0, v, lst', hs, m0, m2, hr, h', .take v lst' h0 rfl⟩
  · rw [if_neg h0]
    obtain ⟨m, us', s', D', F', hs, m0, m2, hc⟩ := h.put l (by omega) hl3 hlU
    rcases hc with ⟨hF, hr, h'⟩ | ⟨hF, hr, h'⟩
    · exact ⟨m, us', s', D', F', 0, 0, _, hs, m0, m2, hr, h', .put (by omega) (by omega)⟩
    · exact ⟨m, us', s', D', F', 7, 0, _, hs, m0, m2, hr, h', .full (by omega) (by omega)⟩
/-- A queue without tasks. -/
theorem QuInv.new (n2 : 2 ≤ n) (n4 : n ≤ 4096) : QuInv n (quRow n) [1] [] (arFree n 2) [] := by
  have hrow : ∀ j, j ≤ n → (quRow n).getD (2 + j) 0 = arLink n 2 n j := fun j hj => by
    rw [quRow_at _ _ (by omega), if_neg (by omega), if_pos (by omega), show 2 + j - 2 = j by omega, arRow_at _ _ _ _ hj]
  have hlen := arFree_len n 2
  have hmem : ∀ x, x ∈ arFree n 2 → 2 ≤ x ∧ x ≤ n := fun x hx => by
    obtain ⟨k, hk⟩ := List.getElem?_of_mem hx
    rw [arFree_at] at hk
    split at hk
    · cases hk; omega
    · cases hk
  refine { n2 := n2, n4 := n4, len := quRow_len n, U := fun j => ?_, nd := ?_, rg := fun x hx => ?_, cnt := ?_, dl := rfl, hd := ?_, tl := ?_, nx := fun i hi => ?_, tk := fun i hi => ?_, fh := ?_, fx := fun i hi => ?_ }
  · by_cases c : j < 3 * n + 3
    · rw [quRow_at _ _ c]
      by_cases c1 : j < 2
      · rw [if_pos c1]; exact ⟨by decide, by decide⟩
      · rw [if_neg c1]
        by_cases c2 : j - 2 ≤ n
        · rw [if_pos c2, List.getD, List.getElem?_eq_getElem (by rw [arRow_len]; omega)]
          exact arRow_top n4 (by omega) _ (List.getElem_mem _)
        · rw [if_neg c2]; exact ⟨by decide, by decide⟩
    · rw [getD_past (by rw [quRow_len]; omega)]; exact ⟨by decide, by decide⟩
  · rw [List.append_nil, List.nodup_append]
    refine ⟨by simp, arFree_nodup n 2, fun a ha b hb e => ?_⟩
    have h1 := hmem b hb
    simp at ha
    omega
  · rw [List.append_nil] at hx
    rcases List.mem_append.1 hx with hx | hx
    · simp at hx; omega
    · have := hmem x hx; omega
  · simp only [List.length_cons, List.length_nil, hlen]; omega
  · rw [quRow_at _ _ (by omega), if_pos (by omega)]; rfl
  · rw [quRow_at _ _ (by omega), if_pos (by omega)]; rfl
  · have hi0 : i = 0 := by simp at hi; exact hi
    subst hi0
    simp only [List.getD_cons_zero]
    rw [quRow_at _ _ (by omega), if_neg (by omega), if_neg (by omega)]; rfl
  · simp at hi
  · have e := hrow 0 (by omega)
    rw [Nat.add_zero] at e
    rw [e, arLink_num n4 (by omega)]
    have hh : (arFree n 2).getD 0 0 = 2 := by rw [List.getD, arFree_at, if_pos (by omega)]; rfl
    rw [hh]
    unfold arLink
    rw [if_pos rfl, if_pos (by omega)]
    try rfl
  · have hx : (arFree n 2)[i]? = some ((arFree n 2).getD i 0) := by rw [List.getD, List.getElem?_eq_getElem hi]; rfl
    have hm := hmem _ (List.mem_of_getElem? hx)
    rw [hrow _ hm.2, arLink_num n4 (by omega), arChain (by omega) i _ hx]
    rfl
end
end Go.Proofs.YtejekciekcbagaaGreat
