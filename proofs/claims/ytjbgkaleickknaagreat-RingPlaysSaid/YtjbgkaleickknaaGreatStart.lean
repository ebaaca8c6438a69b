import Derived.Test.YtjbgkaleickknaaGreatLoom5
import Derived.Test.YtjbgkaleickknaaGreatAcs
import Derived.Test.YtjbgkaleickknaaGreatLook
/-
  A worker who is alone: its walk goes as its machine, to the end.
-/
namespace Go.Proofs.YtjbgkaleickknaaGreat
set_option maxRecDepth 100000
set_option linter.unusedSimpArgs false
set_option linter.unusedVariables false
open Go.ChangeShapes Go.WideShapes Go.ChangeAt Go.RowKit

/-- From the words us and the state s on, n steps lead to us' and s', where nothing is wanted. -/
inductive Solo {σ : Type} (K : Mach σ) : List Int → σ → Nat → List Int → σ → Prop
  | done {us : List Int} {s : σ} : K.want s = none → Solo K us s 0 us s
  | step {us us' : List Int} {s s' : σ} {n : Nat} (x : C.Acc) : K.want s = some x → x.ok → C.code us x = 0 → x.k ≠ 7 → Solo K (C.next us x) (K.give s (C.told us x) (C.won us x)) n us' s' → Solo K us s (n + 1) us' s'
theorem Solo.ended {σ : Type} {K : Mach σ} {us us' : List Int} {s s' : σ} {n : Nat} (h : Solo K us s n us' s') : K.want s' = none := by
  induction h with
  | done h => exact h
  | step _ _ _ _ _ _ ih => exact ih

/-- The loom behind it. -/
def LSt.ran {σ : Type} (L : LSt) (who : Nat) (K : Mach σ) (I : World → List Nat → σ → Prop) (m : Nat) (R : Runs K I m) (n : Nat) (us' : List Int) (s' : σ) : LSt :=
  { L with us := us', ts := L.ts.set who (some ⟨σ, K, I, m, R, s'⟩), steps := L.steps + n }
theorem Solo.chain {σ : Type} {K : Mach σ} {I : World → List Nat → σ → Prop} {m : Nat} {R : Runs K I m} {us us' : List Int} {s s' : σ} {n : Nat} (h : Solo K us s n us' s') :
    ∀ (L : LSt) (who : Nat), L.us = us → L.ts[who]? = some (some ⟨σ, K, I, m, R, s⟩) → ∃ Ls : Nat → LSt, Ls 0 = L ∧ (∀ i, i < n → OneStep who (Ls i) (Ls (i + 1))) ∧ Ls n = L.ran who K I m R n us' s' := by
  induction h with
  | done hw =>
    intro L who hu ht
    refine ⟨fun _ => L, rfl, fun i hi => by omega, ?_⟩
    obtain ⟨hlt, hg⟩ := List.getElem?_eq_some_iff.1 ht
    cases L
    simp only at hu hlt hg
    subst hu
    simp only [LSt.ran, ← hg, List.set_getElem_self, Nat.add_zero]
  | step x hx hok hc hk hrest ih =>
    intro L who hu ht
    rename_i us0 us1 s0 s1 n0
    have hlt := (List.getElem?_eq_some_iff.1 ht).1
    have hone : OneStep who L (L.after who ⟨σ, K, I, m, R, s0⟩ x) := ⟨_, x, ht, hx, hok, by rw [hu]; exact hc, by simp [parks, hk], rfl⟩
    obtain ⟨Ls, h0, h1, h2⟩ := ih (L.after who ⟨σ, K, I, m, R, s0⟩ x) who (by simp [LSt.after, hu]) (by simp only [LSt.after, Strand.go, hu]; rw [List.getElem?_set_self hlt])
    refine ⟨fun i => if i = 0 then L else Ls (i - 1), rfl, fun i hi => ?_, ?_⟩
    · cases i with
      | zero => simpa [h0] using hone
      | succ i => simpa using h1 i (by omega)
    · simp only [Nat.succ_ne_zero, if_false, Nat.add_sub_cancel]
      rw [h2]
      simp only [LSt.ran, LSt.after, List.set_set]
      congr 1
      omega

section
variable {σ : Type} {K : Mach σ}
theorem solo_load {us us' : List Int} {s s' : σ} {n : Nat} (i : Nat) (v : Int) (hw : K.want s = some ⟨1, (i : Int), 0, 0⟩) (hi : i < us.length) (hv : us.getD i 0 = v) (h : ∀ won, Solo K us (K.give s v won) n us' s') : Solo K us s (n + 1) us' s' := by
  have U0 : M.U 0 := ⟨by decide, by decide⟩
  obtain ⟨h1, h2, h3⟩ := C.load_at us i hi 0 0
  refine .step _ hw ⟨U0, U0⟩ h1 (by simp) ?_
  rw [h2, h3, hv]
  exact h _
theorem solo_store {us us' : List Int} {s s' : σ} {n : Nat} (i : Nat) (a : Int) (hw : K.want s = some ⟨2, (i : Int), a, 0⟩) (hi : i < us.length) (ha : M.U a) (h : ∀ v won, Solo K (us.set i a) (K.give s v won) n us' s') : Solo K us s (n + 1) us' s' := by
  have U0 : M.U 0 := ⟨by decide, by decide⟩
  obtain ⟨h1, h2, h3⟩ := C.store_at us i hi a 0
  refine .step _ hw ⟨ha, U0⟩ h1 (by simp) ?_
  rw [h2, h3]
  exact h _ _
theorem solo_cas {us us' : List Int} {s s' : σ} {n : Nat} (i : Nat) (a b : Int) (hw : K.want s = some ⟨3, (i : Int), a, b⟩) (hi : i < us.length) (ha : M.U a) (hb : M.U b) (he : us.getD i 0 = a) (h : Solo K (us.set i b) (K.give s a true) n us' s') : Solo K us s (n + 1) us' s' := by
  obtain ⟨h1, h2, h3, -⟩ := C.cas_at us i hi a b
  obtain ⟨h4, h5⟩ := h3 he
  refine .step _ hw ⟨ha, hb⟩ h1 (by simp) ?_
  rw [h4, h5, h2, he]
  exact h
end

theorem getD_setN (us : List Int) {i j : Nat} (v d : Int) (h : i ≠ j) : (us.set i v).getD j d = us.getD j d := by
  simp [List.getD, List.getElem?_set_ne h]
theorem getD_setS (us : List Int) {i : Nat} (v d : Int) (h : i < us.length) : (us.set i v).getD i d = v := by
  simp [List.getD, h]

/-- Alone of one whose walk goes to its end. -/
theorem Solo.alone {σ : Type} {K : Mach σ} {I : World → List Nat → σ → Prop} {m : Nat} {R : Runs K I m} {us us' : List Int} {s s' : σ} {n : Nat} (h : Solo K us s n us' s') (D : Nat → Prop) (L : LSt) (who most : Nat) (r : Rs) (w : World) (hL : Loom D w L) (hu : L.us = us) (ht : L.ts[who]? = some (some ⟨σ, K, I, m, R, s⟩)) (h0 : 0 < n) (hn : n ≤ most) (hm : most ≤ 1000000) (hst : L.steps ≤ 100000000000) (hr : K.res s' = some r) :
    Calls Tryz.prog 18 #[.pointer (some ⟨L.l, 0, none⟩), .int .i64 (who : Int), .int .i64 (most : Int)] w fun e w' => e = .returned (.tuple #[.int .i64 (n : Int), .int .i64 0]) ∧ Loom D w' (L.ran who K I m R n us' s') ∧ Held D w w' := by
  obtain ⟨Ls, e0, e1, e2⟩ := h.chain (I := I) (m := m) (R := R) L who hu ht
  have hlt := (List.getElem?_eq_some_iff.1 ht).1
  have := alone_ends D who most n Ls (some ⟨σ, K, I, m, R, s'⟩) w (by rw [e0]; exact hL) h0 hn hm (by rw [e0]; exact hst) e1 (by rw [e2]; simp only [LSt.ran]; rw [List.getElem?_set_self hlt]) (by show K.want s' = none; exact h.ended) (by simp [busy, Strand.res, hr])
  rw [e0, e2] at this
  exact this
/-- And its result. -/
theorem ran_result {σ : Type} {K : Mach σ} {I : World → List Nat → σ → Prop} {m : Nat} {R : Runs K I m} {us' : List Int} {s' : σ} {n : Nat} (D : Nat → Prop) (L : LSt) (who : Nat) (c v : Int) (w : World) (hL : Loom D w (L.ran who K I m R n us' s')) (hw : who < L.ts.length) (hr : K.res s' = some ⟨c, v, []⟩) :
    Calls Tryz.prog 14 #[.pointer (some ⟨L.l, 0, none⟩), .int .i64 (who : Int)] w fun e w' => ∃ q cc, e = .returned (.tuple #[.agg #[.int .i64 c, .int .u64 v, .slice q 0 cc], .bool true]) ∧ Keeps [] w w' := by
  have := loomResult_at D _ who (some ⟨σ, K, I, m, R, s'⟩) w hL (by simp only [LSt.ran]; rw [List.getElem?_set_self hw])
  refine this.mono ?_
  rintro e w' ⟨lv, rfl, hown, hk⟩
  simp only [Option.bind, Strand.res, hr, Option.getD_some, List.length_nil] at hown ⊢
  obtain ⟨q, cc, rfl⟩ := (Sl.of_owns hown).len
  exact ⟨q, cc, rfl, hk⟩
/-- What Alone does, and what Result tells then. -/
def SoloDoes (l who most n : Nat) (L M : LSt) (code v : Int) : Prop :=
  (∀ (D : Nat → Prop) (w : World), Loom D w L → Calls Tryz.prog 18 #[.pointer (some ⟨l, 0, none⟩), .int .i64 (who : Int), .int .i64 (most : Int)] w fun e w' => e = .returned (.tuple #[.int .i64 (n : Int), .int .i64 0]) ∧ Loom D w' M ∧ Held D w w') ∧
  (∀ (D : Nat → Prop) (w : World), Loom D w M → Calls Tryz.prog 14 #[.pointer (some ⟨l, 0, none⟩), .int .i64 (who : Int)] w fun e w' => ∃ q c, e = .returned (.tuple #[.agg #[.int .i64 code, .int .u64 v, .slice q 0 c], .bool true]) ∧ Keeps [] w w')
theorem Solo.does {σ : Type} {K : Mach σ} {I : World → List Nat → σ → Prop} {m : Nat} {R : Runs K I m} {us us' : List Int} {s s' : σ} {n : Nat} (h : Solo K us s n us' s') (L : LSt) (who most : Nat) (c v : Int) (hu : L.us = us) (ht : L.ts[who]? = some (some ⟨σ, K, I, m, R, s⟩)) (h0 : 0 < n) (hn : n ≤ most) (hm : most ≤ 1000000) (hst : L.steps ≤ 100000000000) (hr : K.res s' = some ⟨c, v, []⟩) :
    SoloDoes L.l who most n L (L.ran who K I m R n us' s') c v :=
  ⟨fun D w hL => h.alone D L who most _ w hL hu ht h0 hn hm hst hr, fun D w hL => ran_result D L who c v w hL (List.getElem?_eq_some_iff.1 ht).1 hr⟩
/-- A new walk of a worker who isn't busy: it is started, goes to its end alone, and tells its result. -/
theorem Solo.begun {σ : Type} {K : Mach σ} {I : World → List Nat → σ → Prop} {m : Nat} {R : Runs K I m} {us' : List Int} {s s' : σ} {n : Nat} {L : LSt} (h : Solo K L.us s n us' s') (D : Nat → Prop) (who most : Nat) (c v : Int) (o : Option Strand) (S : List Nat) (w0 w1 : World) (hL : Loom D w0 L) (hk : Keeps [] w0 w1) (ho : L.ts[who]? = some o) (hb : busy o = false) (hI : I w1 S s) (hS : ∀ k ∈ S, w0.heap.size ≤ k)
    (h0 : 0 < n) (hn : n ≤ most) (hm : most ≤ 1000000) (hst : L.steps ≤ 100000000000) (hr : K.res s' = some ⟨c, v, []⟩) :
    ∃ (L1 M : LSt) (o' : Option Strand), (M.l = L.l ∧ M.g = L.g ∧ M.mm = L.mm ∧ M.b = L.b ∧ M.us = us' ∧ M.steps = L.steps + n ∧ M.ts[who]? = some o' ∧ busy o' = false ∧ M.ts.length = L.ts.length ∧ ∀ i, i ≠ who → M.ts[i]? = L.ts[i]?) ∧
      Calls Tryz.prog 11 #[.pointer (some ⟨L.l, 0, none⟩), .int .i64 (who : Int), .pointer (some ⟨m, 0, none⟩)] w1 (fun e w' => e = .returned (.int .i64 0) ∧ Loom D w' L1 ∧ Held D w0 w') ∧ SoloDoes L.l who most n L1 M c v := by
  have hlt := (List.getElem?_eq_some_iff.1 ho).1
  have hSt := start_at D L who o ⟨σ, K, I, m, R, s⟩ S w0 w1 hL hk ho hb hI hS
  have hDo := h.does (I := I) (m := m) (R := R) { L with ts := L.ts.set who (some ⟨σ, K, I, m, R, s⟩) } who most c v rfl (List.getElem?_set_self hlt) h0 hn hm hst hr
  refine ⟨{ L with ts := L.ts.set who (some ⟨σ, K, I, m, R, s⟩) }, LSt.ran { L with ts := L.ts.set who (some ⟨σ, K, I, m, R, s⟩) } who K I m R n us' s', some ⟨σ, K, I, m, R, s'⟩, ⟨rfl, rfl, rfl, rfl, rfl, rfl, ?_, by simp [busy, Strand.res, hr], ?_, fun i hi => ?_⟩, hSt.mono ?_, hDo⟩
  · show (List.set _ _ _)[who]? = _
    exact List.getElem?_set_self (by simpa using hlt)
  · simp [LSt.ran]
  · show (List.set (List.set _ _ _) _ _)[i]? = _
    rw [List.getElem?_set_ne (Ne.symm hi), List.getElem?_set_ne (Ne.symm hi)]
  · rintro e w' ⟨rfl, a, b⟩
    exact ⟨rfl, a, (hk.held hL.dom (by simp)).trans (b.held (fun k hk' => Nat.lt_of_lt_of_le (hL.dom k hk') hk.size) (fun k hk' => by simp at hk'; subst hk'; exact hL.base.2.1))⟩
end Go.Proofs.YtjbgkaleickknaaGreat

/-
  A machine alone, reckoned.
-/
namespace Go.Proofs.YtjbgkaleickknaaGreat
set_option maxRecDepth 100000
set_option linter.unusedSimpArgs false
set_option linter.unusedVariables false
open Go.ChangeShapes Go.WideShapes Go.ChangeAt Go.RowKit

/-- A machine alone, reckoned. -/
def accOk (x : C.Acc) : Bool := decide (0 ≤ x.a ∧ x.a < 18446744073709551616 ∧ 0 ≤ x.b ∧ x.b < 18446744073709551616)
def soloRun {σ : Type} (K : Mach σ) : Nat → List Int → σ → Option (Nat × List Int × σ)
  | 0, _, _ => none
  | f + 1, us, s => match K.want s with
    | none => some (0, us, s)
    | some x => if accOk x = true ∧ C.code us x = 0 ∧ x.k ≠ 7 then
        match soloRun K f (C.next us x) (K.give s (C.told us x) (C.won us x)) with
        | none => none
        | some (n, us', s') => some (n + 1, us', s')
      else none
theorem soloRun_solo {σ : Type} (K : Mach σ) : ∀ (f : Nat) (us : List Int) (s : σ) (n : Nat) (us' : List Int) (s' : σ), soloRun K f us s = some (n, us', s') → Solo K us s n us' s'
  | 0, us, s, n, us', s', h => by simp [soloRun] at h
  | f + 1, us, s, n, us', s', h => by
    unfold soloRun at h
    cases hw : K.want s with
    | none =>
      simp only [hw] at h
      simp only [Option.some.injEq, Prod.mk.injEq] at h
      obtain ⟨rfl, rfl, rfl⟩ := h
      exact .done hw
    | some x =>
      simp only [hw] at h
      split at h
      · rename_i hc
        cases hr : soloRun K f (C.next us x) (K.give s (C.told us x) (C.won us x)) with
        | none => simp [hr] at h
        | some r =>
          obtain ⟨n1, us1, s1⟩ := r
          simp only [hr, Option.some.injEq, Prod.mk.injEq] at h
          obtain ⟨rfl, rfl, rfl⟩ := h
          have ho := hc.1
          simp only [accOk, decide_eq_true_eq] at ho
          exact .step x hw ⟨⟨ho.1, ho.2.1⟩, ⟨ho.2.2.1, ho.2.2.2⟩⟩ hc.2.1 hc.2.2 (soloRun_solo K f _ _ _ _ _ hr)
      · simp at h
end Go.Proofs.YtjbgkaleickknaaGreat

/-
  A walk that was made ahead is started: its blocks were set aside till then.
-/
namespace Go.Proofs.YtjbgkaleickknaaGreat
set_option maxRecDepth 100000
set_option linter.unusedSimpArgs false
set_option linter.unusedVariables false
open Go.ChangeShapes Go.WideShapes Go.ChangeAt Go.RowKit

/-
  A chapter's example: walks that were made at once, and are done one after the other.
-/
/-- The blocks that no walk of the example that has begun may write: those of E, the rows of the walks, of the codes and of what is wanted, and the blocks of the walks that come. -/
def exD (N : Nat) (E : Nat → Prop) (bl cl dl : Nat) (γ : Nat → List Nat) (k x : Nat) : Prop := E x ∨ x = bl ∨ x = cl ∨ x = dl ∨ ∃ j, k ≤ j ∧ j < N ∧ x ∈ γ j
theorem exD.next {N : Nat} {E : Nat → Prop} {bl cl dl : Nat} {γ : Nat → List Nat} {k x : Nat} (h : exD N E bl cl dl γ (k + 1) x) : exD N E bl cl dl γ k x := by
  rcases h with h | h | h | h | ⟨j, h1, h2, h3⟩
  · exact .inl h
  · exact .inr (.inl h)
  · exact .inr (.inr (.inl h))
  · exact .inr (.inr (.inr (.inl h)))
  · exact .inr (.inr (.inr (.inr ⟨j, by omega, h2, h3⟩)))
/-- A walk of the example. -/
def ExW {σ : Type} (I : Nat → World → List Nat → σ → Prop) (st : Nat → σ) (w : World) (x : Value) (γ : List Nat) (k : Nat) : Prop := ∃ m, x = .pointer (some ⟨m, 0, none⟩) ∧ I m w γ (st k)
theorem ExW.keeps {σ : Type} {K : Mach σ} {I : Nat → World → List Nat → σ → Prop} (R : ∀ m, Runs K (I m) m) {st : Nat → σ} {w w' : World} {x : Value} {γ : List Nat} {k : Nat} (h : ExW I st w x γ k) (hk : Keeps [] w w') : ExW I st w' x γ k := by
  obtain ⟨m, e, h⟩ := h
  exact ⟨m, e, (R m).frame h hk (by simp)⟩
/-- All of the example's walks: each is there, and its blocks are its own, and none of the rows'. -/
structure ExAll {σ : Type} (N : Nat) (I : Nat → World → List Nat → σ → Prop) (st : Nat → σ) (w0 w : World) (bl : Nat) (xs : Nat → Value) (γ : Nat → List Nat) : Prop where
  row : Row w bl 44 ((List.range N).map xs)
  new : w0.heap.size ≤ bl ∧ bl < w.heap.size
  walks : ∀ j, j < N → ExW I st w (xs j) (γ j) j
  own : ∀ j, j < N → (∀ x ∈ γ j, w0.heap.size ≤ x ∧ x < w.heap.size ∧ x ≠ bl) ∧ ∀ i, i < N → i ≠ j → ∀ x ∈ γ j, x ∉ γ i
theorem ExAll.keeps {σ : Type} {K : Mach σ} {N : Nat} {I : Nat → World → List Nat → σ → Prop} (R : ∀ m, Runs K (I m) m) {st : Nat → σ} {w0 w w' : World} {bl : Nat} {xs : Nat → Value} {γ : Nat → List Nat} (h : ExAll N I st w0 w bl xs γ) (hk : Keeps [] w w') : ExAll N I st w0 w' bl xs γ :=
  ⟨h.row.keeps hk (by simp), ⟨h.new.1, Nat.lt_of_lt_of_le h.new.2 hk.size⟩, fun j hj => (h.walks j hj).keeps R hk, fun j hj => ⟨fun x hx => ⟨((h.own j hj).1 x hx).1, Nat.lt_of_lt_of_le ((h.own j hj).1 x hx).2.1 hk.size, ((h.own j hj).1 x hx).2.2⟩, (h.own j hj).2⟩⟩
/-- They were made one after the other. -/
theorem ExAll.of {σ : Type} {N : Nat} {I : Nat → World → List Nat → σ → Prop} {st : Nat → σ} {w0 w : World} {bl : Nat} {xs : Nat → Value} {γ : Nat → List Nat} (lo : Nat → Nat) (row : Row w bl 44 ((List.range N).map xs)) (hbl : bl < w.heap.size) (walks : ∀ j, j < N → ExW I st w (xs j) (γ j) j)
    (h0 : w0.heap.size ≤ lo 0) (hN : lo N ≤ bl) (hlo : ∀ j, j < N → lo j ≤ lo (j + 1)) (hγ : ∀ j, j < N → ∀ x ∈ γ j, lo j ≤ x ∧ x < lo (j + 1)) : ExAll N I st w0 w bl xs γ := by
  have mono : ∀ d i, i + d ≤ N → lo i ≤ lo (i + d) := by
    intro d
    induction d with
    | zero => intro i _; exact Nat.le_refl _
    | succ d ih => intro i h; exact Nat.le_trans (ih i (by omega)) (hlo (i + d) (by omega))
  have m1 : ∀ i j, i ≤ j → j ≤ N → lo i ≤ lo j := fun i j h1 h2 => by have := mono (j - i) i (by omega); rwa [show i + (j - i) = j by omega] at this
  refine ⟨row, ⟨?_, hbl⟩, walks, fun j hj => ⟨fun x hx => ?_, fun i hi hij x hx hx2 => ?_⟩⟩
  · have := m1 0 N (Nat.zero_le _) (Nat.le_refl _); omega
  · have := hγ j hj x hx
    have := m1 0 j (Nat.zero_le _) (by omega)
    have := m1 (j + 1) N (by omega) (Nat.le_refl _)
    omega
  · have a := hγ j hj x hx
    have b := hγ i hi x hx2
    rcases Nat.lt_or_gt_of_ne hij with h | h
    · have := m1 (i + 1) j (by omega) (by omega); omega
    · have := m1 (j + 1) i (by omega) (by omega); omega
end Go.Proofs.YtjbgkaleickknaaGreat
