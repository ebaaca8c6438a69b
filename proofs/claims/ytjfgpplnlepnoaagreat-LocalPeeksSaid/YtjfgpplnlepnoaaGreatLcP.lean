import Derived.Test.YtjfgpplnlepnoaaGreatLcM
import Derived.Test.YtjfgpplnlepnoaaGreatDqS
import Derived.Test.YtjfgpplnlepnoaaGreatRgD
import Derived.Test.YtjfgpplnlepnoaaGreatDqA
/-
  A local row whose workers are alone: what its words hold, what a walk makes of that, what a peek tells.
-/
namespace Go.Proofs.YtjfgpplnlepnoaaGreat
set_option maxRecDepth 100000
set_option linter.unusedSimpArgs false
set_option linter.unusedVariables false
open Go

/-- An access, a cells further. -/
def C.Acc.up (x : C.Acc) (a : Int) : C.Acc := ⟨x.k, x.c + a, x.a, x.b⟩
theorem C.Acc.up_zero (x : C.Acc) : x.up 0 = x := by simp [C.Acc.up]
/-- What is ahead of a memory, and what is behind it, plays no part. -/
theorem acc_in (pre us post : List Int) (x : C.Acc) (h : C.code us x = 0) :
    C.code (pre ++ us ++ post) (x.up pre.length) = 0 ∧ C.told (pre ++ us ++ post) (x.up pre.length) = C.told us x ∧ C.won (pre ++ us ++ post) (x.up pre.length) = C.won us x ∧ C.next (pre ++ us ++ post) (x.up pre.length) = pre ++ C.next us x ++ post := by
  have hk : ¬ (x.k < 1 ∨ 7 < x.k) ∧ ¬ (x.c < 0 ∨ (us.length : Int) ≤ x.c) := by
    unfold C.code at h
    split at h
    · cases h
    · split at h
      · cases h
      · exact ⟨by assumption, by assumption⟩
  have h2 : C.code (pre ++ us ++ post) (x.up pre.length) = 0 := by
    unfold C.code C.Acc.up
    rw [if_neg hk.1, if_neg (by simp only [List.length_append]; omega)]
  obtain ⟨n, hn⟩ := Int.eq_ofNat_of_zero_le (show 0 ≤ x.c by omega)
  have hlt : n < us.length := by omega
  have hi : (x.up pre.length).c.toNat = pre.length + n := by simp only [C.Acc.up]; omega
  have hx : x.c.toNat = n := by omega
  have hg : (pre ++ us ++ post).getD (pre.length + n) 0 = us.getD n 0 := by
    simp [List.getD, List.append_assoc, List.getElem?_append_right, List.getElem?_append_left hlt]
  have hs : ∀ v, (pre ++ us ++ post).set (pre.length + n) v = pre ++ us.set n v ++ post := fun v => by
    rw [List.append_assoc, List.set_append_right _ _ (by omega), Nat.add_sub_cancel_left, List.set_append_left _ _ hlt, List.append_assoc]
  refine ⟨h2, ?_, ?_, ?_⟩
  · unfold C.told
    rw [if_pos h2, if_pos h, hi, hx, hg]
  · unfold C.won
    rw [if_pos h2, if_pos h, hi, hx, hg]
    rfl
  · unfold C.next
    rw [if_pos h2, if_pos h, hi, hx, hg, hs]
    rfl
/-- A machine alone in a part of a memory. -/
theorem Solo.embed {σ τ : Type} {K : Mach σ} {K' : Mach τ} (f : σ → τ) (pre post : List Int) (hw : ∀ s, K'.want (f s) = (K.want s).map (fun x => x.up pre.length)) (hg : ∀ s v won, K'.give (f s) v won = f (K.give s v won)) {us us' : List Int} {s s' : σ} {n : Nat} (h : Solo K us s n us' s') :
    Solo K' (pre ++ us ++ post) (f s) n (pre ++ us' ++ post) (f s') := by
  induction h with
  | done h => exact .done (by rw [hw, h]; rfl)
  | step x hx hok hc hk _ ih =>
    obtain ⟨a, b, c, d⟩ := acc_in pre _ post x hc
    refine .step (x.up pre.length) (by rw [hw, hx]; rfl) hok a hk ?_
    rw [b, c, d, hg]
    exact ih
def dqUpS (a : Int) (s : DqS) : DqS := { s with at_ := s.at_ + a }
theorem dqUpS_want (a : Int) (s : DqS) : dequeM.want (dqUpS a s) = (dequeM.want s).map (fun x => x.up a) := by
  have hs : ∀ n, dqSlot (s.at_ + a) s.size n = dqSlot s.at_ s.size n + a := fun n => by unfold dqSlot; omega
  unfold dequeM dqUpS
  simp only
  split
  · rfl
  · simp only [Option.map_some, Option.some.injEq]
    unfold dqWant C.Acc.up
    simp only [hs, show s.at_ + a + 1 = s.at_ + 1 + a by omega]
    repeat' split
    all_goals rfl
theorem dqUpS_give (a : Int) (s : DqS) (v : Int) (won : Bool) : dequeM.give (dqUpS a s) v won = dqUpS a (dequeM.give s v won) := by
  unfold dequeM dqUpS
  simp only
  split
  · rfl
  · unfold dqGive
    simp only
    repeat' split
    all_goals rfl
theorem dqUpS_new {a size : Int} (k v : Int) (h : dqRight 0 size) (h2 : dqRight a size) : dqUpS a (dqNew 0 size k v) = dqNew a size k v := by
  unfold dqUpS dqNew
  simp [h, h2]
/-- The words of a row of size N at cell 0, and of one behind it: the first one holds xs. -/
def LpHas (kind : Int) (N : Nat) (us xs : List Int) : Prop :=
  (kind = 0 ∧ ∃ u1 u2 T T2, us = u1 ++ u2 ∧ DqL N 0 T u1 xs ∧ DqL N 0 T2 u2 []) ∨ (kind = 1 ∧ ∃ ts, RgTwo N us xs ts)
def lpBegin (kind : Int) (N : Nat) (k : Nat) (v : Int) : LcS :=
  if k = 0 then lcPush kind 0 N v else if k = 1 then lcPop kind 0 N else if k = 2 then lcSteal kind 0 N kind (N + 2) N else lcPop kind (N + 2) N
theorem LpHas.deed {kind : Int} {N : Nat} {us xs : List Int} (h : LpHas kind N us xs) (k : Nat) (hk : k < 4) (v : Int) (hv : M.U v) (hN : N ≤ 32) :
    ∃ (n : Nat) (us' : List Int) (s' : LcS) (r : Rs) (xs' : List Int), 0 < n ∧ n ≤ 50 ∧ Solo lcM us (lpBegin kind N k v) n us' s' ∧ lcM.res s' = some r ∧ LpHas kind N us' xs' := by
  rcases h with ⟨rfl, u1, u2, T, T2, rfl, h1, h2⟩ | ⟨rfl, ts, h⟩
  · have hr1 : dqRight 0 N := h1.right
    have hr2 : dqRight ((N : Int) + 2) N := ⟨hr1.1, by omega, by omega⟩
    have lcr : lcRight 0 ((N : Int) + 2) N := ⟨.inl rfl, hr2⟩
    by_cases h3 : k = 3
    · subst h3
      obtain ⟨n, us', s', n0, n6, hs, hc⟩ := h2.pop
      have e : lpBegin 0 N 3 v = .dq (dqUpS ((u1.length : Nat) : Int) (dqNew 0 N 2 0)) := by
        have := h1.len
        rw [show ((u1.length : Nat) : Int) = (N : Int) + 2 by omega, dqUpS_new 2 0 hr1 hr2]; rfl
      have hs2 := hs.embed (K' := lcM) (fun s => LcS.dq (dqUpS ((u1.length : Nat) : Int) s)) u1 [] (fun s => dqUpS_want _ s) (fun s v won => congrArg LcS.dq (dqUpS_give _ s v won))
      simp only [List.append_nil] at hs2
      rcases hc with ⟨-, ho, hq⟩ | ⟨y, ys, he, -⟩
      · exact ⟨n, u1 ++ us', .dq (dqUpS ((u1.length : Nat) : Int) s'), ⟨5, 0, []⟩, xs, n0, by omega, by rw [e]; exact hs2, ho, .inl ⟨rfl, u1, us', T, T2, rfl, h1, hq⟩⟩
      · simp at he
    · obtain ⟨r, hr, hb⟩ : ∃ r, (r = 0 ∨ r = 1 ∨ r = 2 ∨ r = 3) ∧ lpBegin 0 N k v = .dq (dqNew 0 N (dqK2 r) (dqT2 r v)) := by
        rcases (show k = 0 ∨ k = 1 ∨ k = 2 by omega) with rfl | rfl | rfl
        · exact ⟨0, .inl rfl, rfl⟩
        · exact ⟨1, .inr (.inl rfl), rfl⟩
        · exact ⟨2, .inr (.inr (.inl rfl)), by simp [lpBegin, lcSteal, lcr, dqK2, dqT2]⟩
      obtain ⟨n, us', s', c, u, ys, T', n0, n6, hs, ho, hq, -, -⟩ := h1.deed r v hr hv
      have hs2 := hs.embed (K' := lcM) (fun s => LcS.dq s) [] u2 (fun s => by
        show dequeM.want s = _
        cases dequeM.want s with
        | none => rfl
        | some x => simp [C.Acc.up_zero]) (fun s v won => rfl)
      simp only [List.nil_append] at hs2
      exact ⟨n, us' ++ u2, .dq s', ⟨c, u, []⟩, ys, n0, by omega, by rw [hb]; exact hs2, ho, .inl ⟨rfl, us', u2, T', T2, rfl, hq, h2⟩⟩
  · obtain ⟨hl, r1, r2, g1, g2⟩ := id h
    have hr1 : dqRight 0 N := by simpa using g1.right
    have hr2 : dqRight ((N : Int) + 2) N := by simpa using g2.right
    have lcr : lcRight 1 ((N : Int) + 2) N := ⟨.inr rfl, hr2⟩
    have hfe : rgFeeds 0 N ((N : Int) + 2) N := ⟨hr1, hr2, rfl, .inl (by omega)⟩
    obtain ⟨j, hj, hb⟩ : ∃ j, j < 5 ∧ lpBegin 1 N k v = .rg (rgBegin (raAt j N) N (raKind j) (raTask j v) (raTg j N) true) := by
      rcases (show k = 0 ∨ k = 1 ∨ k = 2 ∨ k = 3 by omega) with rfl | rfl | rfl | rfl
      · exact ⟨0, by omega, by simp [lpBegin, lcPush, hr1, raAt, raKind, raTask, raTg]⟩
      · exact ⟨2, by omega, by simp [lpBegin, lcPop, hr1, raAt, raKind, raTask, raTg]⟩
      · exact ⟨3, by omega, by simp [lpBegin, lcSteal, lcr, hfe, raAt, raKind, raTask, raTg]⟩
      · exact ⟨4, by omega, by simp [lpBegin, lcPop, hr2, raAt, raKind, raTask, raTg]⟩
    obtain ⟨n, us', s', c, u, l, xs', ts', n0, n6, hs, ho, hq, -⟩ := h.deed j hj v hv
    have hs2 := hs.embed (K' := lcM) (fun s => LcS.rg s) [] [] (fun s => by
      show ringM.want s = _
      cases ringM.want s with
      | none => rfl
      | some x => simp [C.Acc.up_zero]) (fun s v won => rfl)
    simp only [List.nil_append, List.append_nil] at hs2
    exact ⟨n, us', .rg s', ⟨c, u, l⟩, xs', n0, by omega, by rw [hb]; exact hs2, ho, .inr ⟨rfl, ts', hq⟩⟩
theorem LpHas.init {kind : Int} {N : Nat} (hk : kind = 0 ∨ kind = 1) (hr : dqRight 0 N) (hN : N ≤ 32) : LpHas kind N (List.replicate (2 * N + 4) 0) [] := by
  have hg : ∀ (n j : Nat), (List.replicate n (0 : Int)).getD j 0 = 0 := fun n j => by
    simp [List.getD, List.getElem?_replicate]
    split <;> rfl
  have hp : dqPow N := hr.1
  rcases hk with rfl | rfl
  · have h : DqL N 0 0 (List.replicate (N + 2) 0) [] := ⟨hp, by simp, by rw [hg]; decide, by rw [hg]; decide, by simp, by decide, fun i hi => by simp at hi, fun x hx => by simp at hx⟩
    exact .inl ⟨rfl, _, _, 0, 0, by rw [List.replicate_append_replicate, show N + 2 + (N + 2) = 2 * N + 4 by omega], h, h⟩
  · have h2 : dqRight ((N + 2 : Nat) : Int) N := ⟨hr.1, by omega, by omega⟩
    refine .inr ⟨rfl, [], by simp, 0, 0, .new (by simpa using hr) (by simp; omega) (by decide) (by rw [hg]; decide) (by rw [hg]), .new h2 (by simp; omega) (by decide) (by rw [hg]; decide) (by rw [hg])⟩
/-- A peek tells 1 just if there is something in it. -/
theorem LpHas.peek {kind : Int} {N : Nat} {us xs : List Int} (h : LpHas kind N us xs) :
    ∃ s', Solo lcM us (lcPeek kind 0 N) 2 us s' ∧ lcM.res s' = some ⟨0, lkV (decide (0 < xs.length)), []⟩ := by
  have two : ∀ (x y : Int), 1 < us.length → us.getD 0 0 = x → us.getD 1 0 = y → lcPeek kind 0 N = .lk ⟨kind, 0, 0, 0, 0, none⟩ → kind ≠ 2 → lkIs kind x y = decide (0 < xs.length) → ∃ s', Solo lcM us (lcPeek kind 0 N) 2 us s' ∧ lcM.res s' = some ⟨0, lkV (decide (0 < xs.length)), []⟩ := by
    intro x y hl hx hy hp hk2 hi
    rw [hp]
    refine ⟨.lk ⟨kind, 0, 0, 1, x, some ⟨0, lkV (decide (0 < xs.length)), []⟩⟩, ?_, rfl⟩
    refine solo_load (K := lcM) 0 x rfl (by omega) hx (fun won => ?_)
    have e1 : lcM.give (.lk ⟨kind, 0, 0, 0, 0, none⟩) x won = .lk ⟨kind, 0, 0, 1, x, none⟩ := by simp [lcM, lkM, lkGive, hk2]
    rw [e1]
    refine solo_load (K := lcM) 1 y (by simp [lcM, lkM, lkWant, hk2]) hl hy (fun won => ?_)
    have e2 : lcM.give (.lk ⟨kind, 0, 0, 1, x, none⟩) y won = .lk ⟨kind, 0, 0, 1, x, some ⟨0, lkV (decide (0 < xs.length)), []⟩⟩ := by simp [lcM, lkM, lkGive, hi]
    rw [e2]
    exact .done rfl
  rcases h with ⟨rfl, u1, u2, T, T2, rfl, h1, h2⟩ | ⟨rfl, ts, hl, r, r2, h1, h2⟩
  · have hl := h1.len
    have hf := h1.few
    have hr := h1.right
    have hs : (N : Int) ≤ 256 := by have := hr.1; omega
    have g : ∀ i, i < 2 → (u1 ++ u2).getD i 0 = u1.getD i 0 := fun i hi => by simp [List.getD, List.getElem?_append_left (show i < u1.length by omega)]
    refine two _ _ (by simp; omega) ((g 0 (by omega)).trans h1.top) ((g 1 (by omega)).trans h1.bottom) (by simp [lcPeek, lkNew, lcRight, hr]) (by decide) ?_
    have ha := dqAhead_U 0 (T + xs.length) T (by omega) (by omega)
    simp only [lkIs, if_true, ha]
    congr 1
    exact propext ⟨fun h => by omega, fun h => by omega⟩
  · have hf := h1.few
    have hr : dqRight 0 N := by simpa using h1.right
    have hs : (N : Int) ≤ 256 := by have := hr.1; omega
    refine two _ _ (by omega) h1.head h1.tail (by simp [lcPeek, lkNew, lcRight, hr]) (by decide) ?_
    have e2 : rgLo (rgAdd r xs.length) = rgAdd r xs.length := rgLo_add _ _
    have e3 : M.aheadI (rgAdd r xs.length) r = xs.length := rgAhead_own h1.rr _ (by omega) (by omega)
    have e1 : rgLo (rgPair r r) = r := rgLo_pair h1.rr
    simp only [lkIs, e1, e2, e3, if_true, show ¬ ((1 : Int) = 0) by decide, if_false]
    congr 1
    exact propext ⟨fun h => by omega, fun h => by omega⟩

/-- What is in a row depends on its cells alone. -/
theorem dqAllOf_sub (a size : Nat) (us : List Int) (hr : dqRight a size) (hl : a + size + 1 < us.length) : dqAllOf 0 size ((us.drop a).take (size + 2)) = dqAllOf a size us := by
  have hs : 2 ≤ size := by have := hr.1; omega
  have hg : ∀ j, j < size + 2 → ((us.drop a).take (size + 2)).getD j 0 = us.getD (a + j) 0 := fun j hj => by
    simp [List.getD, List.getElem?_take, hj, List.getElem?_drop]
  unfold dqAllOf
  simp only [show (0 : Int).toNat = 0 from rfl, show ((0 : Int) + 1).toNat = 1 from rfl, Int.toNat_natCast, show ((a : Int) + 1).toNat = a + 1 by omega]
  rw [hg 0 (by omega), hg 1 (by omega)]
  simp only [Nat.add_zero]
  split
  · rfl
  · congr 1
    apply List.map_congr_left
    intro i _
    have h0 := dqSlot_range (at_ := 0) (size := (size : Int)) (n := (us.getD a 0 + (i : Int)) % 18446744073709551616) (by omega)
    have he : (dqSlot a size ((us.getD a 0 + (i : Int)) % 18446744073709551616)).toNat = a + (dqSlot 0 size ((us.getD a 0 + (i : Int)) % 18446744073709551616)).toNat := by
      unfold dqSlot at *
      omega
    rw [hg _ (by omega), he]
theorem dqAllOf_len (at_ size : Int) (us xs : List Int) (h : dqAllOf at_ size us = some xs) (hs : 0 ≤ size ∧ size ≤ 256) : xs.length ≤ 256 := by
  unfold dqAllOf at h
  simp only at h
  split at h
  · cases h
  · rename_i hn
    cases h
    rw [List.length_map, List.length_range]
    omega
theorem rgAllOf_sub (a size : Nat) (us : List Int) (hr : dqRight a size) (hl : a + size + 1 < us.length) : rgAllOf 0 size ((us.drop a).take (size + 2)) = rgAllOf a size us := by
  have hs : 2 ≤ size := by have := hr.1; omega
  have hg : ∀ j, j < size + 2 → ((us.drop a).take (size + 2)).getD j 0 = us.getD (a + j) 0 := fun j hj => by
    simp [List.getD, List.getElem?_take, hj, List.getElem?_drop]
  unfold rgAllOf
  simp only [show (0 : Int).toNat = 0 from rfl, show ((0 : Int) + 1).toNat = 1 from rfl, Int.toNat_natCast, show ((a : Int) + 1).toNat = a + 1 by omega]
  rw [hg 0 (by omega), hg 1 (by omega)]
  simp only [Nat.add_zero]
  split
  · rfl
  · congr 1
    apply List.map_congr_left
    intro i _
    have h0 := dqSlot_range (at_ := 0) (size := (size : Int)) (n := rgAdd (rgLo (us.getD a 0)) (i : Int)) (by omega)
    have he : (dqSlot a size (rgAdd (rgLo (us.getD a 0)) (i : Int))).toNat = a + (dqSlot 0 size (rgAdd (rgLo (us.getD a 0)) (i : Int))).toNat := by
      unfold dqSlot at *
      omega
    rw [hg _ (by omega), he]
theorem rgAllOf_len (at_ size : Int) (us xs : List Int) (h : rgAllOf at_ size us = some xs) (hs : 0 ≤ size ∧ size ≤ 256) : xs.length ≤ 256 := by
  unfold rgAllOf at h
  simp only at h
  split at h
  · cases h
  · rename_i hn
    cases h
    rw [List.length_map, List.length_range]
    omega
/-- What is in a row of a kind. -/
def lcAllOf (kind at_ size : Int) (us : List Int) : Option (List Int) := if kind = 0 then dqAllOf at_ size us else rgAllOf at_ size us
theorem lcAllOf_sub (kind : Int) (a size : Nat) (us : List Int) (hr : dqRight a size) (hl : a + size + 1 < us.length) : lcAllOf kind 0 size ((us.drop a).take (size + 2)) = lcAllOf kind a size us := by
  unfold lcAllOf
  split
  · exact dqAllOf_sub a size us hr hl
  · exact rgAllOf_sub a size us hr hl
theorem lcAllOf_len (kind at_ size : Int) (us xs : List Int) (h : lcAllOf kind at_ size us = some xs) (hs : 0 ≤ size ∧ size ≤ 256) : xs.length ≤ 256 := by
  unfold lcAllOf at h
  split at h
  · exact dqAllOf_len at_ size us xs h hs
  · exact rgAllOf_len at_ size us xs h hs
theorem DqL.all {size : Nat} {fr T : Int} {us xs : List Int} (h : DqL size fr T us xs) : dqAllOf 0 size us = some xs := by
  have hs : (size : Int) ≤ 256 := by have := h.right.1; omega
  have hf := h.few
  have ha := dqAhead_U fr (T + xs.length) T (by omega) (by omega)
  rw [show T + (xs.length : Int) - T = xs.length by omega] at ha
  unfold dqAllOf
  simp only [show (0 : Int).toNat = 0 from rfl, show ((0 : Int) + 1).toNat = 1 from rfl, h.top, h.bottom, ha]
  rw [if_neg (by omega)]
  simp only [Int.toNat_natCast]
  congr 1
  refine List.ext_getElem (by simp) (fun i h1 h2 => ?_)
  simp only [List.getElem_map, List.getElem_range]
  have e : (dqU fr T + (i : Int)) % 18446744073709551616 = dqU fr (T + i) := by unfold dqU; omega
  rw [e]
  have := h.slots i h2
  unfold dqCell at this
  rw [this]
  simp [List.getD, h2]
theorem LpHas.all {kind : Int} {N : Nat} {us xs : List Int} (h : LpHas kind N us xs) : lcAllOf kind 0 N us = some xs ∧ us.length = 2 * N + 4 ∧ (kind = 0 ∨ kind = 1) ∧ dqRight 0 N := by
  rcases h with ⟨rfl, u1, u2, T, T2, rfl, h1, h2⟩ | ⟨rfl, ts, hl, r, r2, h1, h2⟩
  · have e1 := h1.len
    have e2 := h2.len
    refine ⟨?_, by simp; omega, .inl rfl, h1.right⟩
    show dqAllOf 0 N (u1 ++ u2) = some xs
    have := dqAllOf_sub 0 N (u1 ++ u2) h1.right (by simp; omega)
    rw [← h1.all]
    simp only [List.drop_zero, ← e1, List.take_left] at this
    simpa using this.symm
  · have hr : dqRight 0 N := by simpa using h1.right
    exact ⟨h1.all, hl, .inr rfl, hr⟩
end Go.Proofs.YtjfgpplnlepnoaaGreat
