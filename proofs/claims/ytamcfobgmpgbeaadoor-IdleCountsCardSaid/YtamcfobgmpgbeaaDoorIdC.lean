/-
  Workers at a yard: what holds of its cell at every step.
-/
import Derived.Test.YtamcfobgmpgbeaaDoorIdM
import Derived.Test.YtamcfobgmpgbeaaDoorAcs
namespace Go.Proofs.YtamcfobgmpgbeaaDoor
set_option maxRecDepth 100000
set_option linter.unusedSimpArgs false
set_option linter.unusedVariables false
open Go

/-- A worker's walk under way. -/
structure IdWk (W i : Nat) (s : IdS) : Prop where
  at0 : s.at_ = 0
  sn : s.n = W
  kind : s.kind = 1 ∨ s.kind = 2 ∨ s.kind = 3 ∨ s.kind = 4 ∨ s.kind = 5
  who : s.kind = 5 ∨ s.who = i
  knows : s.known = true → s.made.1 = 0 ∧ M.U s.x
/-- W workers at a yard at cell 0: sr are searching; al: who is idle. -/
structure IdInv (W : Nat) (us : List Int) (ss : Nat → Option IdS) (sr : Int) (al : Nat → Bool) : Prop where
  wn : 1 ≤ W ∧ W ≤ 16
  cell : ∃ mk : Nat, us = [sr * 4294967296 + mk] ∧ mk < 2 ^ W ∧ ∀ j, j < W → mk.testBit j = al j
  sr_ : 0 ≤ sr ∧ sr ≤ W
  wk : ∀ i s, i < W → ss i = some s → s.over = none → IdWk W i s
/-- What a step of the worker i leads to. -/
inductive IdEv (W i : Nat) (s s' : IdS) (sr : Int) (al : Nat → Bool) : Int → (Nat → Bool) → Prop
  | go : s'.over = none → IdEv W i s s' sr al sr al
  | no (c : Int) : c ≠ 0 → s'.over = some ⟨c, 0, []⟩ → IdEv W i s s' sr al sr al
  | sleep : s.kind = 1 → s'.over = some ⟨0, 0, []⟩ → IdEv W i s s' sr al sr (updG al i true)
  | leave : s.kind = 2 → al i = true → s'.over = some ⟨0, 0, []⟩ → IdEv W i s s' sr al sr (updG al i false)
  | search : s.kind = 3 → s'.over = some ⟨0, 0, []⟩ → IdEv W i s s' sr al (sr + 1) al
  | found : s.kind = 4 → s'.over = some ⟨0, if sr - 1 = 0 then 1 else 0, []⟩ → IdEv W i s s' sr al (sr - 1) al
  | choose (c : Nat) : s.kind = 5 → sr = 0 → c < W → al c = true → s'.over = some ⟨0, (c : Int), []⟩ → IdEv W i s s' sr al 1 (updG al c false)

theorem idMask_lt {W mk : Nat} (h : mk < 2 ^ W) (hW : W ≤ 16) : (mk : Int) < 65536 := by
  have : 2 ^ W ≤ 2 ^ 16 := Nat.pow_le_pow_right (by decide) hW
  have h2 : (2 : Nat) ^ 16 = 65536 := by decide
  omega
theorem testBit_or_pow (x k j : Nat) : (x ||| 2 ^ k).testBit j = (x.testBit j || decide (k = j)) := by
  rw [Nat.testBit_or, Nat.testBit_two_pow]
/-- A mask without one of its bits. -/
theorem testBit_sub_pow {x k : Nat} (hk : k < 64) (hx : x < 2 ^ 64) (h : x.testBit k = true) (j : Nat) : (x - 2 ^ k).testBit j = (x.testBit j && decide (k ≠ j)) := by
  have h1 := M.clear_bit x k hx hk
  rw [if_pos h] at h1
  have e : (18446744073709551615 - 2 ^ k : Nat) = 2 ^ 64 - (2 ^ k + 1) := by omega
  rw [← h1, e, Nat.testBit_and, Nat.testBit_two_pow_sub_succ (by have := M.pow_lt64 hk; simpa using this), Nat.testBit_two_pow]
  by_cases c2 : j < 64
  · simp [c2]
  · have : x.testBit j = false := Nat.testBit_lt_two_pow (Nat.lt_of_lt_of_le hx (Nat.pow_le_pow_right (by decide) (Nat.ge_of_not_lt c2)))
    simp [this]
/-- The lowest idle worker. -/
theorem field_low {x W : Nat} (hx : x < 2 ^ 64) (hW : W ≤ 16) (hf : M.fieldN x 0 W ≠ 0) : Lib.ctz 64 (M.fieldN x 0 W) < W ∧ x.testBit (Lib.ctz 64 (M.fieldN x 0 W)) = true := by
  have h := (M.drop_low _ hf (Nat.lt_of_lt_of_le (M.fieldN_lt _ _ _) (Nat.pow_le_pow_right (by decide) (by omega)))).1
  rw [M.fieldN_tb, Nat.zero_add, Bool.and_eq_true, decide_eq_true_eq] at h
  exact h
theorem idMade_U {W : Nat} {kind who x : Int} (hW : W ≤ 16) (hk : kind = 1 ∨ kind = 2 ∨ kind = 3 ∨ kind = 4 ∨ kind = 5) (hwho : kind = 5 ∨ 0 ≤ who ∧ who < 16) (hx : M.U x) (hc : (idMade W kind who x).1 = 0) : M.U (idMade W kind who x).2.1 := by
  have h0 := hx.nn
  have h1 := hx.lt
  rcases hk with rfl | rfl | rfl | rfl | rfl
  · simp only [idMade, if_true]
    exact M.or_bit_lt x who.toNat hx (by omega)
  · simp only [idMade, show ¬ (2 : Int) = 1 by decide, if_false, if_true] at hc ⊢
    cases hb : x.toNat.testBit who.toNat with
    | false => simp [hb] at hc
    | true =>
      simp only [if_true]
      have := M.pow_le_of_bit hb
      have := Nat.two_pow_pos who.toNat
      constructor <;> omega
  · simp only [idMade, show ¬ (3 : Int) = 1 by decide, show ¬ (3 : Int) = 2 by decide, if_false, if_true] at hc ⊢
    by_cases hb : (W : Int) ≤ 2 * (x / 4294967296)
    · simp [hb] at hc
    · rw [if_neg hb]; constructor <;> simp only <;> omega
  · simp only [idMade, show ¬ (4 : Int) = 1 by decide, show ¬ (4 : Int) = 2 by decide, show ¬ (4 : Int) = 3 by decide, if_false, if_true] at hc ⊢
    by_cases hb : x / 4294967296 = 0
    · simp [hb] at hc
    · rw [if_neg hb]; constructor <;> simp only <;> omega
  · simp only [idMade, show ¬ (5 : Int) = 1 by decide, show ¬ (5 : Int) = 2 by decide, show ¬ (5 : Int) = 3 by decide, show ¬ (5 : Int) = 4 by decide, if_false, Int.toNat_natCast] at hc ⊢
    by_cases hb : 0 < x / 4294967296 ∨ M.fieldN x.toNat 0 W = 0
    · rw [if_pos hb] at hc; simp at hc
    · rw [if_neg hb]
      have hb1 : ¬ 0 < x / 4294967296 := fun h => hb (.inl h)
      have hb2 : M.fieldN x.toNat 0 W ≠ 0 := fun h => hb (.inr h)
      have h3 := M.pow_le_of_bit (field_low hx.nat hW hb2).2
      have := Nat.two_pow_pos (Lib.ctz 64 (M.fieldN x.toNat 0 W))
      constructor <;> simp only <;> omega
theorem two_pow_mono {a b : Nat} (h : a < b) : 2 ^ a < 2 ^ b := Nat.pow_lt_pow_right (by decide) h
/-- What a Cas that is won makes of the cell. -/
theorem idMade_won {W i : Nat} {kind who : Int} {sr : Int} {mk : Nat} {al : Nat → Bool} (hW1 : 1 ≤ W) (hW : W ≤ 16) (hi : i < W) (hk : kind = 1 ∨ kind = 2 ∨ kind = 3 ∨ kind = 4 ∨ kind = 5) (hwho : kind = 5 ∨ who = i) (s0 : 0 ≤ sr) (s1 : sr ≤ W) (hmk : mk < 2 ^ W) (hb : ∀ j, j < W → mk.testBit j = al j)
    (hc : (idMade W kind who (sr * 4294967296 + mk)).1 = 0) (s s' : IdS) (hsk : s.kind = kind) (hs' : s'.over = some ⟨0, (idMade W kind who (sr * 4294967296 + mk)).2.2, []⟩) :
    ∃ (sr' : Int) (al' : Nat → Bool), (∃ mk' : Nat, [(idMade W kind who (sr * 4294967296 + mk)).2.1] = [sr' * 4294967296 + mk'] ∧ mk' < 2 ^ W ∧ ∀ j, j < W → mk'.testBit j = al' j) ∧ (0 ≤ sr' ∧ sr' ≤ W) ∧ IdEv W i s s' sr al sr' al' := by
  have hm16 := idMask_lt hmk hW
  have hm64 : mk < 2 ^ 64 := Nat.lt_of_lt_of_le hmk (Nat.pow_le_pow_right (by decide) (by omega))
  have hm32 : mk < 2 ^ 32 := Nat.lt_of_lt_of_le hmk (Nat.pow_le_pow_right (by decide) (by omega))
  have htn : (sr * 4294967296 + (mk : Int)).toNat = sr.toNat * 2 ^ 32 + mk := by omega
  have hdiv : (sr * 4294967296 + (mk : Int)) / 4294967296 = sr := by omega
  have htb : ∀ j, j < 32 → (sr.toNat * 2 ^ 32 + mk).testBit j = mk.testBit j := fun j hj => by
    rw [Nat.mul_comm, Nat.testBit_two_pow_mul_add _ hm32]
    simp [hj]
  have hfield : M.fieldN (sr.toNat * 2 ^ 32 + mk) 0 W = mk := by
    apply Nat.eq_of_testBit_eq
    intro j
    rw [M.fieldN_tb, Nat.zero_add]
    by_cases hj : j < W
    · simp [hj, htb j (by omega)]
    · have : mk.testBit j = false := Nat.testBit_lt_two_pow (Nat.lt_of_lt_of_le hmk (Nat.pow_le_pow_right (by decide) (Nat.ge_of_not_lt hj)))
      simp [hj, this]
  have hclear : ∀ c, c < W → mk.testBit c = true → ∃ mk' : Nat, mk' = mk - 2 ^ c ∧ mk' < 2 ^ W ∧ ∀ j, j < W → mk'.testBit j = updG al c false j := fun c hcW hbc => by
    refine ⟨_, rfl, Nat.lt_of_le_of_lt (Nat.sub_le _ _) hmk, fun j hj => ?_⟩
    rw [testBit_sub_pow (by omega) hm64 hbc, hb j hj]
    by_cases e : j = c
    · subst e; simp [updG_same]
    · rw [updG_ne _ _ e]; simp [Ne.symm e]
  rcases hk with rfl | rfl | rfl | rfl | rfl
  · -- sleep
    have hw : who = i := hwho.resolve_left (by decide)
    subst hw
    simp only [idMade, if_true] at hs' ⊢
    refine ⟨sr, updG al i true, ⟨mk ||| 2 ^ i, ?_, Nat.or_lt_two_pow hmk (two_pow_mono hi), fun j hj => ?_⟩, ⟨s0, s1⟩, .sleep hsk hs'⟩
    · congr 1
      rw [htn, Int.toNat_natCast]
      have e : (sr.toNat * 2 ^ 32 + mk) ||| 2 ^ i = sr.toNat * 2 ^ 32 + (mk ||| 2 ^ i) := by
        have hp32 : 2 ^ i < 2 ^ 32 := two_pow_mono (by omega)
        rw [Nat.mul_comm]
        apply Nat.eq_of_testBit_eq
        intro j
        rw [Nat.testBit_or, Nat.testBit_two_pow_mul_add _ hm32, Nat.testBit_two_pow_mul_add _ (Nat.or_lt_two_pow hm32 hp32), Nat.testBit_or]
        by_cases hj : j < 32
        · simp [hj]
        · have : (2 ^ i).testBit j = false := Nat.testBit_lt_two_pow (Nat.lt_of_lt_of_le hp32 (Nat.pow_le_pow_right (by decide) (Nat.ge_of_not_lt hj)))
          simp [hj, this]
      rw [e]
      omega
    · rw [testBit_or_pow, hb j hj]
      by_cases e : j = i
      · subst e; simp [updG_same]
      · rw [updG_ne _ _ e]; simp [Ne.symm e]
  · -- leave
    have hw : who = i := hwho.resolve_left (by decide)
    subst hw
    simp only [idMade, show ¬ (2 : Int) = 1 by decide, if_false, if_true, htn, Int.toNat_natCast, htb i (by omega)] at hc hs' ⊢
    cases hbi : mk.testBit i with
    | false => simp [hbi] at hc
    | true =>
      simp only [hbi, if_true] at hs' ⊢
      obtain ⟨mk', e1, e2, e3⟩ := hclear i hi hbi
      have hle := M.pow_le_of_bit hbi
      exact ⟨sr, updG al i false, ⟨mk', by (try dsimp only); congr 1; omega, e2, e3⟩, ⟨s0, s1⟩, .leave hsk (by rw [← hb i hi]; exact hbi) hs'⟩
  · -- search
    simp only [idMade, show ¬ (3 : Int) = 1 by decide, show ¬ (3 : Int) = 2 by decide, if_false, if_true, hdiv] at hc hs' ⊢
    by_cases hbu : (W : Int) ≤ 2 * sr
    · simp [hbu] at hc
    · rw [if_neg hbu] at hs' ⊢
      exact ⟨sr + 1, al, ⟨mk, by (try dsimp only); congr 1; omega, hmk, hb⟩, ⟨by omega, by omega⟩, .search hsk hs'⟩
  · -- found
    simp only [idMade, show ¬ (4 : Int) = 1 by decide, show ¬ (4 : Int) = 2 by decide, show ¬ (4 : Int) = 3 by decide, if_false, if_true, hdiv] at hc hs' ⊢
    by_cases hbu : sr = 0
    · simp [hbu] at hc
    · rw [if_neg hbu] at hs' ⊢
      refine ⟨sr - 1, al, ⟨mk, by (try dsimp only); congr 1; omega, hmk, hb⟩, ⟨by omega, by omega⟩, .found hsk ?_⟩
      rw [hs']
      by_cases h1 : sr = 1
      · simp [h1]
      · simp [h1, show ¬ sr - 1 = 0 by omega]
  · -- choose
    simp only [idMade, show ¬ (5 : Int) = 1 by decide, show ¬ (5 : Int) = 2 by decide, show ¬ (5 : Int) = 3 by decide, show ¬ (5 : Int) = 4 by decide, if_false, hdiv, htn, Int.toNat_natCast, hfield] at hc hs' ⊢
    by_cases hbu : 0 < sr ∨ mk = 0
    · rw [if_pos hbu] at hc; simp at hc
    · rw [if_neg hbu] at hs' ⊢
      have hsr : sr = 0 := by
        have h1 : ¬ 0 < sr := fun h => hbu (.inl h)
        omega
      have hm0 : mk ≠ 0 := fun h => hbu (.inr h)
      have hfm : M.fieldN mk 0 W = mk := by unfold M.fieldN; simp [Nat.mod_eq_of_lt hmk]
      have hlow := field_low (x := mk) (W := W) hm64 hW (by rw [hfm]; exact hm0)
      rw [hfm] at hlow
      obtain ⟨mk', e1, e2, e3⟩ := hclear _ hlow.1 hlow.2
      have hle := M.pow_le_of_bit hlow.2
      exact ⟨1, updG al (Lib.ctz 64 mk) false, ⟨mk', by (try dsimp only); congr 1; omega, e2, e3⟩, ⟨by omega, by omega⟩, .choose _ hsk hsr hlow.1 (by rw [← hb _ hlow.1]; exact hlow.2) hs'⟩
section
variable {W : Nat} {us : List Int} {ss : Nat → Option IdS} {sr : Int} {al : Nat → Bool}
theorem IdInv.upd (h : IdInv W us ss sr al) {i : Nat} {s' : IdS} {us' : List Int} {sr' : Int} {al' : Nat → Bool} (hc : ∃ mk : Nat, us' = [sr' * 4294967296 + mk] ∧ mk < 2 ^ W ∧ ∀ j, j < W → mk.testBit j = al' j) (hs : 0 ≤ sr' ∧ sr' ≤ W) (hw : s'.over = none → IdWk W i s') : IdInv W us' (updG ss i (some s')) sr' al' := by
  refine ⟨h.wn, hc, hs, fun j s hj hsj ho => ?_⟩
  by_cases e : j = i
  · subst e; rw [updG_same] at hsj; cases hsj; exact hw ho
  · rw [updG_ne _ _ e] at hsj; exact h.wk j s hj hsj ho
/-- A walk begins. -/
theorem IdInv.begin_ (h : IdInv W us ss sr al) {i : Nat} (hi : i < W) (kind : Int) (hk : kind = 1 ∨ kind = 2 ∨ kind = 3 ∨ kind = 4 ∨ kind = 5) (who : Int) (hw : kind = 5 ∨ who = i) : IdInv W us (updG ss i (some (idNew 0 W kind who))) sr al :=
  h.upd h.cell h.sr_ fun _ => ⟨rfl, rfl, hk, hw, fun hkn => by cases hkn⟩
/-- One step of the worker i. -/
theorem IdInv.step (h : IdInv W us ss sr al) {i : Nat} (hi : i < W) {s : IdS} (hs : ss i = some s) (ho : s.over = none) :
    (idWant s).ok ∧ C.code us (idWant s) = 0 ∧ (idWant s).k ≠ 7 ∧ ∃ s' sr' al', idGive s (C.told us (idWant s)) (C.won us (idWant s)) = s' ∧ IdInv W (C.next us (idWant s)) (updG ss i (some s')) sr' al' ∧ IdEv W i s s' sr al sr' al' ∧ s'.kind = s.kind := by
  have hw := h.wk i s hi hs ho
  obtain ⟨w1, w2⟩ := h.wn
  obtain ⟨mk, hus, hmk, hbits⟩ := h.cell
  obtain ⟨s0, s1⟩ := h.sr_
  have U0 : M.U 0 := ⟨by decide, by decide⟩
  have hm16 := idMask_lt hmk w2
  have hlen : us.length = 1 := by rw [hus]; rfl
  obtain ⟨u, hu⟩ : ∃ u, sr * 4294967296 + (mk : Int) = u := ⟨_, rfl⟩
  have hu0 : us.getD 0 0 = u := by rw [hus, hu]; rfl
  have hUu : M.U u := by unfold M.U; omega
  -- what a look leads to
  have look : ∀ v, v = u → (∃ s' sr' al', idSee s v = s' ∧ IdInv W us (updG ss i (some s')) sr' al' ∧ IdEv W i s s' sr al sr' al' ∧ s'.kind = s.kind) := by
    intro v hv
    subst hv
    by_cases hc : (idMade s.n s.kind s.who v).1 = 0
    · have e : idSee s v = { s with known := true, x := v, over := none } := by simp [idSee, hc]
      refine ⟨_, sr, al, e, h.upd ⟨mk, by rw [hus], hmk, hbits⟩ h.sr_ fun _ => ⟨hw.at0, hw.sn, hw.kind, hw.who, fun _ => ⟨hc, hUu⟩⟩, .go rfl, rfl⟩
    · have e : idSee s v = { s with known := true, x := v, over := some ⟨(idMade s.n s.kind s.who v).1, 0, []⟩ } := by simp [idSee, hc]
      exact ⟨_, sr, al, e, h.upd ⟨mk, by rw [hus], hmk, hbits⟩ h.sr_ fun hn => (by cases hn), .no _ hc rfl, rfl⟩
  cases hkn : s.known with
  | false =>
    have hwant : idWant s = ⟨1, ((0 : Nat) : Int), 0, 0⟩ := by simp [idWant, hkn, hw.at0]
    obtain ⟨l1, l2, l3⟩ := C.load_at us 0 (by omega) 0 0
    rw [hwant, l1, l2, l3, hu0]
    refine ⟨⟨U0, U0⟩, rfl, by simp, ?_⟩
    have hg : ∀ won, idGive s u won = idSee s u := fun won => by simp [idGive, hkn]
    rw [hg]
    exact look u rfl
  | true =>
    obtain ⟨hc0, hUx⟩ := hw.knows hkn
    have hwant : idWant s = ⟨3, ((0 : Nat) : Int), s.x, s.made.2.1⟩ := by simp [idWant, hkn, hw.at0]
    obtain ⟨c1, c2, c3, c4⟩ := C.cas_at us 0 (by omega) s.x s.made.2.1
    rw [hwant]
    have hwho : s.kind = 5 ∨ 0 ≤ s.who ∧ s.who < 16 := hw.who.imp_right fun h => by omega
    have hcc : (idMade (W : Int) s.kind s.who s.x).1 = 0 := by rw [← hw.sn]; exact hc0
    have hWU : M.U s.made.2.1 := by unfold IdS.made; rw [hw.sn]; exact idMade_U w2 hw.kind hwho hUx hcc
    refine ⟨⟨hUx, hWU⟩, c1, by simp, ?_⟩
    by_cases hx : us.getD 0 0 = s.x
    · obtain ⟨n1, n2⟩ := c3 hx
      rw [n1, n2]
      have hxu : s.x = u := by rw [← hx, hu0]
      have hg : idGive s (C.told us ⟨3, ((0 : Nat) : Int), s.x, s.made.2.1⟩) true = { s with over := some ⟨0, s.made.2.2, []⟩ } := by simp [idGive, hkn]
      rw [hg]
      have hmade : s.made = idMade (W : Int) s.kind s.who (sr * 4294967296 + (mk : Int)) := by unfold IdS.made; rw [hw.sn, hxu, hu]
      obtain ⟨sr', al', e1, e2, e3⟩ := idMade_won (i := i) (al := al) w1 w2 hi hw.kind hw.who s0 s1 hmk hbits (by rw [← hmade]; exact hc0) s { s with over := some ⟨0, s.made.2.2, []⟩ } rfl (by rw [hmade])
      rw [← hmade] at e1
      refine ⟨_, sr', al', rfl, h.upd ?_ e2 (fun hn => by cases hn), e3, rfl⟩
      obtain ⟨mk', f1, f2⟩ := e1
      refine ⟨mk', ?_, f2⟩
      rw [← f1, hus]
      rfl
    · obtain ⟨n1, n2⟩ := c4 hx
      rw [n1, n2, c2, hu0]
      have hg : idGive s u false = idSee s u := by simp [idGive]
      rw [hg]
      exact look u rfl
end
end Go.Proofs.YtamcfobgmpgbeaaDoor
