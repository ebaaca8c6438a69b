/-
  Workers that add: sums, and how a loom of such goes on.
-/
import Derived.Test.YtplmmflpodpbmaaAwake5
namespace Go.Proofs.Ytplmmflpodpbmaa
open Go.ChangeShapes Go.WideShapes Go.ChangeAt Go.RowKit

def sumN (f : Nat → Nat) : Nat → Nat
  | 0 => 0
  | n + 1 => sumN f n + f n
def sumI (f : Nat → Int) : Nat → Int
  | 0 => 0
  | n + 1 => sumI f n + f n
theorem sumN_congr {f g : Nat → Nat} {n : Nat} (h : ∀ i, i < n → f i = g i) : sumN f n = sumN g n := by
  induction n with
  | zero => rfl
  | succ n ih => simp only [sumN]; rw [ih fun i hi => h i (by omega), h n (by omega)]
theorem sumI_congr {f g : Nat → Int} {n : Nat} (h : ∀ i, i < n → f i = g i) : sumI f n = sumI g n := by
  induction n with
  | zero => rfl
  | succ n ih => simp only [sumI]; rw [ih fun i hi => h i (by omega), h n (by omega)]
theorem sumN_const (t n : Nat) : sumN (fun _ => t) n = t * n := by
  induction n with
  | zero => rfl
  | succ n ih => simp only [sumN]; rw [ih, Nat.mul_succ]
theorem sumN_le {f : Nat → Nat} {t n : Nat} (h : ∀ i, i < n → f i ≤ t) : sumN f n ≤ t * n := by
  induction n with
  | zero => exact Nat.le_refl _
  | succ n ih => simp only [sumN]; have := ih fun i hi => h i (by omega); have := h n (by omega); rw [Nat.mul_succ]; omega
/-- c, but k at who. -/
def upd (c : Nat → Nat) (who k : Nat) : Nat → Nat := fun i => if i = who then k else c i
theorem upd_same (c : Nat → Nat) (who k : Nat) : upd c who k who = k := by simp [upd]
theorem upd_ne (c : Nat → Nat) {who i : Nat} (k : Nat) (h : i ≠ who) : upd c who k i = c i := by simp [upd, h]
theorem upd_upd (c : Nat → Nat) (who j k : Nat) : upd (upd c who j) who k = upd c who k := by
  funext i; unfold upd; split <;> rfl
theorem upd_self (c : Nat → Nat) (who : Nat) : upd c who (c who) = c := by
  funext i; unfold upd; split
  · rename_i h; rw [h]
  · rfl
theorem sumN_upd (c : Nat → Nat) {who n : Nat} (h : who < n) (k : Nat) : sumN (upd c who k) n + c who = sumN c n + k := by
  induction n with
  | zero => omega
  | succ n ih =>
    simp only [sumN]
    by_cases e : who = n
    · subst e
      rw [upd_same, sumN_congr (g := c) fun i hi => upd_ne c k (by omega)]; omega
    · have := ih (by omega)
      rw [upd_ne c k (Ne.symm e)]; omega
theorem sumI_upd (c : Nat → Nat) (z : Nat → Int) {who n : Nat} (h : who < n) (k : Nat) : sumI (fun i => (upd c who k i : Int) * z i) n = sumI (fun i => (c i : Int) * z i) n + ((k : Int) - (c who : Int)) * z who := by
  induction n with
  | zero => omega
  | succ n ih =>
    simp only [sumI]
    by_cases e : who = n
    · subst e
      rw [upd_same, sumI_congr (g := fun i => (c i : Int) * z i) fun i hi => by rw [upd_ne c k (by omega)], Int.sub_mul]; omega
    · rw [ih (by omega), upd_ne c k (Ne.symm e)]; omega

@[reducible] def addAcc (z : Int) : C.Acc := ⟨4, 0, z, 0⟩
/-- What the cell is, when worker i has added c i times. -/
def addsD (zs : List Int) (c : Nat → Nat) : Int := sumI (fun i => (c i : Int) * zs.getD i 0) zs.length % 18446744073709551616
/-- The workers of L add the numbers of zs, each T times; worker i has done so c i times. -/
structure Adds (zs : List Int) (T l m b : Nat) (L : LSt) (c : Nat → Nat) : Prop where
  l : L.l = l
  m : L.mm = m
  b : L.b = b
  us : L.us = [addsD zs c]
  th : ∀ i, i < zs.length → ∃ mi told, L.ts[i]? = some (some (plainStrand mi (List.replicate T (addAcc (zs.getD i 0))) told)) ∧ told.length = c i
  top : ∀ i, i < zs.length → c i ≤ T
  steps : L.steps = sumN c zs.length

theorem addsD_upd (zs : List Int) (c : Nat → Nat) {who : Nat} (h : who < zs.length) : addsD zs (upd c who (c who + 1)) = (addsD zs c + zs.getD who 0) % 18446744073709551616 := by
  unfold addsD
  rw [sumI_upd c (fun i => zs.getD i 0) h, show ((c who + 1 : Nat) : Int) - (c who : Int) = 1 by omega, Int.one_mul, Int.emod_add_emod]
theorem addsD_U (zs : List Int) (c : Nat → Nat) : M.U (addsD zs c) := ⟨Int.emod_nonneg _ (by decide), Int.emod_lt_of_pos _ (by decide)⟩
theorem addsD_zero (zs : List Int) : addsD zs (fun _ => 0) = 0 := by
  unfold addsD
  have : sumI (fun i => ((0 : Nat) : Int) * zs.getD i 0) zs.length = 0 := by
    generalize zs.length = n
    induction n with
    | zero => rfl
    | succ n ih => simp only [sumI]; rw [ih]; simp
  rw [this]; rfl
theorem next_add (d z : Int) : C.next [d] (addAcc z) = [(d + z) % 18446744073709551616] ∧ C.told [d] (addAcc z) = d ∧ C.code [d] (addAcc z) = 0 ∧ parks [d] (addAcc z) = false := ⟨rfl, rfl, rfl, rfl⟩

theorem Adds.busy {zs : List Int} {T l m b : Nat} {L : LSt} {c : Nat → Nat} (h : Adds zs T l m b L c) {who : Nat} (hw : who < zs.length) (hc : c who = T) :
    ∃ o, L.ts[who]? = some o ∧ o.bind Strand.want = none ∧ busy o = false := by
  obtain ⟨mi, told, h1, h2⟩ := h.th who hw
  refine ⟨_, h1, ?_, ?_⟩
  · show (List.replicate T (addAcc (zs.getD who 0)))[told.length]? = none
    simp; omega
  · simp only [_root_.Go.Proofs.Ytplmmflpodpbmaa.busy, Strand.res, plainStrand, plainM, List.length_replicate]
    rw [if_pos (by omega)]; rfl

theorem Adds.one {zs : List Int} {T l m b : Nat} {L : LSt} {c : Nat → Nat} (h : Adds zs T l m b L c) (hz : ∀ z ∈ zs, M.U z) {who : Nat} (hw : who < zs.length) (hc : c who < T) :
    ∃ M, OneStep who L M ∧ Adds zs T l m b M (upd c who (c who + 1)) := by
  obtain ⟨mi, told, h1, h2⟩ := h.th who hw
  have hlt := (List.getElem?_eq_some_iff.1 h1).1
  have hU : M.U (zs.getD who 0) := hz _ (by rw [List.getD, List.getElem?_eq_getElem hw]; exact List.getElem_mem hw)
  obtain ⟨n1, n2, n3, n4⟩ := next_add (addsD zs c) (zs.getD who 0)
  refine ⟨L.after who _ (addAcc (zs.getD who 0)), ⟨_, addAcc (zs.getD who 0), h1, ?_, ⟨hU, (⟨by decide, by decide⟩ : M.U 0)⟩, ?_, ?_, rfl⟩, ?_⟩
  · rw [plainStrand_want, List.getElem?_replicate, if_pos (by omega)]
  · rw [h.us]; exact n3
  · rw [h.us]; exact n4
  · refine ⟨h.l, h.m, h.b, ?_, fun i hi => ?_, fun i hi => ?_, ?_⟩
    · show C.next L.us _ = _
      rw [h.us, n1, addsD_upd zs c hw]
    · show ∃ mi told, (L.ts.set who _)[i]? = _ ∧ _
      by_cases e : i = who
      · subst e
        rw [List.getElem?_set_self hlt, plainStrand_go _ _ _ _ _ (by simp; omega), upd_same]
        exact ⟨mi, _, rfl, by simp [h2]⟩
      · rw [List.getElem?_set_ne (Ne.symm e), upd_ne c _ e]
        exact h.th i hi
    · unfold upd
      split
      · omega
      · exact h.top i hi
    · show L.steps + 1 = _
      have := sumN_upd c hw (c who + 1)
      rw [h.steps]; omega

/-- Several steps of one worker. -/
theorem Adds.many {zs : List Int} {T l m b : Nat} {L : LSt} {c : Nat → Nat} (h : Adds zs T l m b L c) (hz : ∀ z ∈ zs, M.U z) {who : Nat} (hw : who < zs.length) (k : Nat) (hk : c who + k ≤ T) :
    ∃ Ls : Nat → LSt, Ls 0 = L ∧ (∀ i, i < k → OneStep who (Ls i) (Ls (i + 1))) ∧ ∀ i, i ≤ k → Adds zs T l m b (Ls i) (upd c who (c who + i)) := by
  induction k with
  | zero =>
    refine ⟨fun _ => L, rfl, fun i hi => by omega, fun i hi => ?_⟩
    obtain rfl : i = 0 := by omega
    rw [Nat.add_zero, upd_self]; exact h
  | succ k ih =>
    obtain ⟨Ls, h0, h1, h2⟩ := ih (by omega)
    obtain ⟨M, m1, m2⟩ := (h2 k (Nat.le_refl _)).one hz hw (by rw [upd_same]; omega)
    rw [upd_upd, upd_same] at m2
    refine ⟨fun i => if i ≤ k then Ls i else M, by simp [h0], fun i hi => ?_, fun i hi => ?_⟩
    · by_cases e : i < k
      · simp only; rw [if_pos (by omega), if_pos (by omega)]; exact h1 i e
      · obtain rfl : i = k := by omega
        simp only; rw [if_pos (by omega), if_neg (by omega)]; exact m1
    · by_cases e : i ≤ k
      · simp only; rw [if_pos e]; exact h2 i e
      · obtain rfl : i = k + 1 := by omega
        simp only; rw [if_neg e]; exact m2
/-- When all have done all. -/
theorem addsD_all (zs : List Int) (T : Nat) {c : Nat → Nat} (h : ∀ i, i < zs.length → c i = T) : addsD zs c = sumI (fun i => zs.getD i 0 * (T : Int)) zs.length % 18446744073709551616 := by
  unfold addsD
  rw [sumI_congr (g := fun i => zs.getD i 0 * (T : Int)) fun i hi => by rw [h i hi, Int.mul_comm]]
/-- Workers of whom the first k have their walks. -/
structure Starts (zs : List Int) (T l m b : Nat) (L : LSt) (k : Nat) : Prop where
  l : L.l = l
  m : L.mm = m
  b : L.b = b
  us : L.us = [0]
  len : L.ts.length = zs.length
  th : ∀ i, i < k → ∃ mi, L.ts[i]? = some (some (plainStrand mi (List.replicate T (addAcc (zs.getD i 0))) []))
  no : ∀ i, k ≤ i → i < zs.length → L.ts[i]? = some none
  steps : L.steps = 0
theorem Starts.next {zs : List Int} {T l m b : Nat} {L : LSt} {k : Nat} (h : Starts zs T l m b L k) (hk : k < zs.length) (mi : Nat) :
    Starts zs T l m b { L with ts := L.ts.set k (some (plainStrand mi (List.replicate T (addAcc (zs.getD k 0))) [])) } (k + 1) := by
  refine ⟨h.l, h.m, h.b, h.us, by simpa using h.len, fun i hi => ?_, fun i hi hl => ?_, h.steps⟩
  · show ∃ mi, (L.ts.set k _)[i]? = _
    by_cases e : i = k
    · subst e; rw [List.getElem?_set_self (by rw [h.len]; exact hk)]; exact ⟨mi, rfl⟩
    · rw [List.getElem?_set_ne (Ne.symm e)]; exact h.th i (by omega)
  · show (L.ts.set k _)[i]? = _
    rw [List.getElem?_set_ne (by omega)]; exact h.no i (by omega) hl
theorem Starts.adds {zs : List Int} {T l m b : Nat} {L : LSt} (h : Starts zs T l m b L zs.length) : Adds zs T l m b L fun _ => 0 := by
  refine ⟨h.l, h.m, h.b, by rw [h.us, addsD_zero], fun i hi => ?_, fun i hi => Nat.zero_le _, by rw [h.steps, sumN_const, Nat.zero_mul]⟩
  obtain ⟨mi, hm⟩ := h.th i hi
  exact ⟨mi, [], hm, rfl⟩
theorem accs_snoc (k : Nat) (x : C.Acc) : accs (List.replicate k x) ++ [.int .i64 x.k, .int .i64 x.c, .int .u64 x.a, .int .u64 x.b] = accs (List.replicate (k + 1) x) := by
  rw [List.replicate_succ']
  simp [accs]
end Go.Proofs.Ytplmmflpodpbmaa
