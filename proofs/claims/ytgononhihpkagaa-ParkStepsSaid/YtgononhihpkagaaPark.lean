/-
  A worker's walk goes some steps, and is parked then, or has ended.
-/
import Derived.Test.YtgononhihpkagaaLoom5
namespace Go.Proofs.Ytgononhihpkagaa
set_option maxRecDepth 100000
set_option linter.unusedSimpArgs false
set_option linter.unusedVariables false
open Go.ChangeShapes Go.WideShapes Go.ChangeAt Go.RowKit

set_option maxRecDepth 100000 in
set_option maxHeartbeats 1600000 in
/-- n steps, and then the walk is parked. -/
theorem alone_parks (D : Nat → Prop) (who most n : Nat) (Ls : Nat → LSt) (t : Strand) (x : C.Acc) (w : World) (h : Loom D w (Ls 0)) (hn : n < most) (hm : most ≤ 1000000) (hs : (Ls 0).steps ≤ 100000000000)
    (hst : ∀ i, i < n → OneStep who (Ls i) (Ls (i + 1))) (ho : (Ls n).ts[who]? = some (some t)) (hw : t.want = some x) (hx : x.ok) (hp : parks (Ls n).us x = true) (hb : t.res = none) :
    Calls Try.prog 22 #[.pointer (some ⟨(Ls 0).l, 0, none⟩), .int .i64 (who : Int), .int .i64 (most : Int)] w fun e w' => e = .returned (.tuple #[.int .i64 (n : Int), .int .i64 11]) ∧ Loom D w' (Ls n) ∧ Held D w w' := by
  have hl := steps_l hst
  obtain ⟨t0, x0, e1, e2⟩ : ∃ t0 x0, (Ls 0).ts[who]? = some (some t0) ∧ t0.want = some x0 := by
    cases n with
    | zero => exact ⟨t, x, ho, hw⟩
    | succ n => obtain ⟨t0, x0, e1, e2, -⟩ := (hst 0 (by omega)).ex; exact ⟨t0, x0, e1, e2⟩
  have HW := Lib.hid (wanted_some D (Ls 0) who (some t0) x0 w h e1 e2)
  obtain ⟨l, hll⟩ : ∃ l, (Ls 0).l = l := ⟨_, rfl⟩
  rw [hll] at hl HW ⊢
  have HP : Hid (∀ i W, i < n → Loom D W (Ls i) → Calls Try.prog 20 #[.pointer (some ⟨l, 0, none⟩), .int .i64 (who : Int)] W fun e w' => e = .returned (.int .i64 0) ∧ Loom D w' (Ls (i + 1)) ∧ Held D W w') := Lib.hid fun i W hi hW => by
    have := pick_step D who _ _ W hW (hst i hi) (by have := (hl i (by omega)).2; omega)
    rwa [(hl i (by omega)).1] at this
  have HI : Hid (∀ W, Loom D W (Ls n) → Calls Try.prog 20 #[.pointer (some ⟨l, 0, none⟩), .int .i64 (who : Int)] W fun e w' => e = .returned (.int .i64 11) ∧ Loom D w' (Ls n) ∧ Held D W w') := Lib.hid fun W hW => by
    have := pick_parked D _ who (some t) x W hW ho hw hx hp
    rw [(hl n (Nat.le_refl _)).1] at this
    refine this.mono ?_
    rintro e w' ⟨rfl, a, b⟩
    exact ⟨rfl, a, b.held hW.dom (fun k hk => by simp at hk; subst hk; exact hW.base.2.2)⟩
  have hbu : busy (some t) = true := by simp [busy, hb]
  have HBu : Hid (∀ W, Loom D W (Ls n) → Calls Try.prog 51 #[.pointer (some ⟨l, 0, none⟩), .int .i64 (who : Int)] W fun e w' => e = .returned (.bool true) ∧ Keeps [] W w') := Lib.hid fun W hW => by
    have := busy_at D _ who (some t) W hW ho
    rwa [(hl n (Nat.le_refl _)).1, hbu] at this
  have HL := Lib.hid h
  have below : ∀ {a b : World} {M : LSt}, Loom D a M → Keeps [] a b → Held D a b := fun ha hk => hk.held ha.dom (by simp)
  obtain ⟨xk, xc, xa, xb⟩ := x0
  clear h hst ho hw hb hs hl e1 e2 hll hx hp hbu
  go_enter Try.func22, Try.ntmps22
  go_wp2_with fail
  refine HW.out.mono ?_
  rintro e w1 ⟨rfl, k1⟩
  have HK1 := Lib.hid k1
  clear k1 HW
  go_wp2
  go_loopw [10, 11] (fun d l wr => ∃ i : Nat, i ≤ n ∧ d = .int .i64 (i : Int) ∧ (l = .int .i64 0 ∨ (i = n ∧ l = .int .i64 11)) ∧ Loom D wr (Ls i) ∧ Held D w wr) (fun d l _ => (n - (intOf d).toNat) * 2 + (if intOf l = 0 then 1 else 0))
  case atStart =>
    have k := HK1.out.alloc (.cells #[.int .i64 xk, .int .i64 xc, .int .u64 xa, .int .u64 xb] 73)
    exact ⟨0, Nat.zero_le _, rfl, .inl rfl, HL.out.keeps k, below HL.out k⟩
  case round =>
    obtain ⟨i, hi, rfl, hlast, hL, hb⟩ := hrel
    have HLi := Lib.hid hL
    have HBi := Lib.hid hb
    clear hL hb
    have hsz : w.heap.size ≤ wr.heap.size := HBi.out.size
    rcases hlast with rfl | ⟨rfl, rfl⟩
    · have hlt : i < most := by omega
      by_cases hin : i < n
      · go_wp2_with fail
        refine (HP.out i wr hin HLi.out).mono ?_
        rintro e w2 ⟨rfl, hL2, hb2⟩
        have HR := Lib.hid (⟨hL2, HBi.out.trans hb2⟩ : _ ∧ _)
        clear hL2 hb2
        go_wp2
        go_roundw
        case rel => exact ⟨i + 1, by omega, by go_num, .inl rfl, HR.out⟩
        case measure => simp [intOf]; omega
      · obtain rfl : n = i := by omega
        go_wp2_with fail
        refine (HI.out wr HLi.out).mono ?_
        rintro e w2 ⟨rfl, hL2, hb2⟩
        have HR := Lib.hid (⟨hL2, HBi.out.trans hb2⟩ : Loom D w2 (Ls n) ∧ Held D w w2)
        clear hL2 hb2
        go_wp2
        go_roundw
        case rel => exact ⟨n, by omega, rfl, .inr ⟨rfl, rfl⟩, HR.out⟩
        case measure => simp [intOf]
    · go_wp2_with fail
      refine (HBu.out wr HLi.out).mono ?_
      rintro e w2 ⟨rfl, k2⟩
      have HR := Lib.hid (⟨HLi.out.keeps k2, HBi.out.trans (below HLi.out k2)⟩ : Loom D w2 (Ls i) ∧ Held D w w2)
      clear k2
      go_wp2
      go_ret2
      exact ⟨rfl, HR.out⟩

/-- n steps of a machine at words. -/
inductive Part {σ : Type} (K : Mach σ) : List Int → σ → Nat → List Int → σ → Prop
  | nil {us : List Int} {s : σ} : Part K us s 0 us s
  | step {us us' : List Int} {s s' : σ} {n : Nat} (x : C.Acc) : K.want s = some x → x.ok → C.code us x = 0 → parks us x = false → Part K (C.next us x) (K.give s (C.told us x) (C.won us x)) n us' s' → Part K us s (n + 1) us' s'
/-- The loom behind them. -/
def LSt.went {σ : Type} (L : LSt) (who : Nat) (K : Mach σ) (I : World → List Nat → σ → Prop) (m : Nat) (R : Runs K I m) (n : Nat) (us' : List Int) (s' : σ) : LSt :=
  { L with us := us', ts := L.ts.set who (some ⟨σ, K, I, m, R, s'⟩), steps := L.steps + n }
theorem Part.chain {σ : Type} {K : Mach σ} {I : World → List Nat → σ → Prop} {m : Nat} {R : Runs K I m} {us us' : List Int} {s s' : σ} {n : Nat} (h : Part K us s n us' s') :
    ∀ (L : LSt) (who : Nat), L.us = us → L.ts[who]? = some (some ⟨σ, K, I, m, R, s⟩) → ∃ Ls : Nat → LSt, Ls 0 = L ∧ (∀ i, i < n → OneStep who (Ls i) (Ls (i + 1))) ∧ Ls n = L.went who K I m R n us' s' := by
  induction h with
  | nil =>
    intro L who hu ht
    refine ⟨fun _ => L, rfl, fun i hi => by omega, ?_⟩
    obtain ⟨hlt, hg⟩ := List.getElem?_eq_some_iff.1 ht
    cases L
    simp only at hu hlt hg
    subst hu
    simp only [LSt.went, ← hg, List.set_getElem_self, Nat.add_zero]
  | step x hx hok hc hk hrest ih =>
    intro L who hu ht
    rename_i us0 us1 s0 s1 n0
    have hlt := (List.getElem?_eq_some_iff.1 ht).1
    have hone : OneStep who L (L.after who ⟨σ, K, I, m, R, s0⟩ x) := ⟨_, x, ht, hx, hok, by rw [hu]; exact hc, by rw [hu]; exact hk, rfl⟩
    obtain ⟨Ls, h0, h1, h2⟩ := ih (L.after who ⟨σ, K, I, m, R, s0⟩ x) who (by simp [LSt.after, hu]) (by simp only [LSt.after, Strand.go, hu]; rw [List.getElem?_set_self hlt])
    refine ⟨fun i => if i = 0 then L else Ls (i - 1), rfl, fun i hi => ?_, ?_⟩
    · cases i with
      | zero => simpa [h0] using hone
      | succ i => simpa using h1 i (by omega)
    · simp only [Nat.succ_ne_zero, if_false, Nat.add_sub_cancel]
      rw [h2]
      simp only [LSt.went, LSt.after, List.set_set]
      congr 1
      omega
/-- Alone of one whose walk goes to its end. -/
theorem Part.alone {σ : Type} {K : Mach σ} {I : World → List Nat → σ → Prop} {m : Nat} {R : Runs K I m} {us us' : List Int} {s s' : σ} {n : Nat} (h : Part K us s n us' s') (D : Nat → Prop) (L : LSt) (who most : Nat) (r : Rs) (w : World) (hL : Loom D w L) (hu : L.us = us) (ht : L.ts[who]? = some (some ⟨σ, K, I, m, R, s⟩)) (h0 : 0 < n) (hn : n ≤ most) (hm : most ≤ 1000000) (hst : L.steps ≤ 100000000000) (hw : K.want s' = none) (hr : K.res s' = some r) :
    Calls Try.prog 22 #[.pointer (some ⟨L.l, 0, none⟩), .int .i64 (who : Int), .int .i64 (most : Int)] w fun e w' => e = .returned (.tuple #[.int .i64 (n : Int), .int .i64 0]) ∧ Loom D w' (L.went who K I m R n us' s') ∧ Held D w w' := by
  obtain ⟨Ls, e0, e1, e2⟩ := h.chain (I := I) (m := m) (R := R) L who hu ht
  have hlt := (List.getElem?_eq_some_iff.1 ht).1
  have := alone_ends D who most n Ls (some ⟨σ, K, I, m, R, s'⟩) w (by rw [e0]; exact hL) h0 hn hm (by rw [e0]; exact hst) e1 (by rw [e2]; simp only [LSt.went]; rw [List.getElem?_set_self hlt]) (by show K.want s' = none; exact hw) (by simp [busy, Strand.res, hr])
  rw [e0, e2] at this
  exact this
/-- Alone of one whose walk is parked then. -/
theorem Part.parked {σ : Type} {K : Mach σ} {I : World → List Nat → σ → Prop} {m : Nat} {R : Runs K I m} {us us' : List Int} {s s' : σ} {n : Nat} (h : Part K us s n us' s') (D : Nat → Prop) (L : LSt) (who most : Nat) (x : C.Acc) (w : World) (hL : Loom D w L) (hu : L.us = us) (ht : L.ts[who]? = some (some ⟨σ, K, I, m, R, s⟩)) (hn : n < most) (hm : most ≤ 1000000) (hst : L.steps ≤ 100000000000) (hw : K.want s' = some x) (hx : x.ok) (hp : parks us' x = true) (hr : K.res s' = none) :
    Calls Try.prog 22 #[.pointer (some ⟨L.l, 0, none⟩), .int .i64 (who : Int), .int .i64 (most : Int)] w fun e w' => e = .returned (.tuple #[.int .i64 (n : Int), .int .i64 11]) ∧ Loom D w' (L.went who K I m R n us' s') ∧ Held D w w' := by
  obtain ⟨Ls, e0, e1, e2⟩ := h.chain (I := I) (m := m) (R := R) L who hu ht
  have hlt := (List.getElem?_eq_some_iff.1 ht).1
  have := alone_parks D who most n Ls ⟨σ, K, I, m, R, s'⟩ x w (by rw [e0]; exact hL) hn hm (by rw [e0]; exact hst) e1 (by rw [e2]; simp only [LSt.went]; rw [List.getElem?_set_self hlt]) hw hx (by rw [e2]; exact hp) hr
  rw [e0, e2] at this
  exact this
/-- Reckoned: n steps. -/
def accFine (x : C.Acc) : Bool := decide (0 ≤ x.a ∧ x.a < 18446744073709551616 ∧ 0 ≤ x.b ∧ x.b < 18446744073709551616)
def partRun {σ : Type} (K : Mach σ) : Nat → List Int → σ → Option (List Int × σ)
  | 0, us, s => some (us, s)
  | f + 1, us, s => match K.want s with
    | none => none
    | some x => if accFine x = true ∧ C.code us x = 0 ∧ parks us x = false then partRun K f (C.next us x) (K.give s (C.told us x) (C.won us x)) else none
theorem partRun_part {σ : Type} (K : Mach σ) : ∀ (n : Nat) (us : List Int) (s : σ) (us' : List Int) (s' : σ), partRun K n us s = some (us', s') → Part K us s n us' s'
  | 0, us, s, us', s', h => by
    simp only [partRun, Option.some.injEq, Prod.mk.injEq] at h
    obtain ⟨rfl, rfl⟩ := h
    exact .nil
  | n + 1, us, s, us', s', h => by
    unfold partRun at h
    cases hw : K.want s with
    | none => simp [hw] at h
    | some x =>
      simp only [hw] at h
      split at h
      · rename_i hc
        have ho := hc.1
        simp only [accFine, decide_eq_true_eq] at ho
        exact .step x hw ⟨⟨ho.1, ho.2.1⟩, ⟨ho.2.2.1, ho.2.2.2⟩⟩ hc.2.1 hc.2.2 (partRun_part K n _ _ _ _ h)
      · cases h
end Go.Proofs.Ytgononhihpkagaa
