import Derived.Test.YtjbgkaleickknaaGreatRgNc
/-
  How many steps a worker has left, who is alone.
-/
namespace Go.Proofs.YtjbgkaleickknaaGreat
set_option maxRecDepth 100000
set_option linter.unusedSimpArgs false
set_option linter.unusedVariables false
open Go

/-- Whether its head is the one that is there. -/
def rgFresh (us : List Int) (s : RgS) : Prop := us.getD s.at_.toNat 0 = s.h
instance (us : List Int) (s : RgS) : Decidable (rgFresh us s) := by unfold rgFresh; infer_instance
def rgNeed (us : List Int) (s : RgS) : Int :=
  if s.kind = 1 then (if s.step = 1 then 13 else if s.step = 2 then (if rgFresh us s then 10 else 12) else if s.step = 3 then 2 else if s.step = 4 then 1 else if s.step = 5 then (if rgFresh us s then 9 else 11) else s.size / 2 - s.k)
  else if s.kind = 2 then (if s.step = 1 then 5 else if s.step = 2 then (if rgFresh us s then 3 else 5) else if s.step = 3 then (if rgFresh us s then 2 else 4) else 1)
  else (if s.step = 1 then 24 else if s.step = 2 then 23 else if s.step = 3 then 22 else if s.step = 4 then (if rgFresh us s then 21 else 23) else if s.step = 5 then (if rgFresh us s then 20 else 22)
    else if s.step = 6 then 4 + 2 * (s.n - 1 - s.k) else if s.step = 60 then 3 + 2 * (s.n - 1 - s.k) else if s.step = 7 then 3 else if s.step = 8 then (if rgFresh us s then 2 else 3) else 1)
theorem RgGo.and {us : List Int} {s : RgS} {P Q : RgS → List Int → Prop} (h1 : RgGo us s P) (h2 : RgGo us s Q) : RgGo us s fun s' us' => P s' us' ∧ Q s' us' := ⟨h1.1, h1.2.1, h1.2.2.1, h1.2.2.2, h2.2.2.2⟩
/-- One step less. -/
def RgLess (us : List Int) (s : RgS) : Prop := RgGo us s fun s' us' => s'.over = none → rgNeed us' s' < rgNeed us s

section
variable {N W i j : Nat} {fr : Int} {us us' : List Int} {ss : Nat → Option RgS} {g g' : RgG} {s s' u : RgS}
theorem RgInv.less1 (h : RgInv N W fr us ss g) (hW : 0 < W) (hp : RgP N fr us g s) (hN16 : N ≤ 16) : RgLess us s ∧ 0 ≤ rgNeed us s ∧ rgNeed us s ≤ 30 := by
  obtain ⟨hr, hlen, hN2, hN, hNh, hNe⟩ := h.mem.cells hW
  have hk := hp.kind
  have ha := hp.at0
  have hz := hp.sz
  have hcell := fun x => rgCell_range (a := 0) hr (rgAdd fr x)
  have hint := fun x => rgCell_int (a := 0) hr (rgAdd fr x)
  rcases hp.st with ⟨hh, htk, hk0, hst⟩ | ⟨hst, b, k, hkk, hk2, hlo, hh, htk, hbT, hsl⟩
  · rcases hst with hst | ⟨hst, a, b, a1, a2, b1, b2, hhd⟩ | ⟨hst, ht, hlt⟩ | ⟨hst, ht, hlt, hsl⟩ | ⟨hst, x, x1, x2, hhd, x3⟩
    · refine ⟨rgLoad 0 (by omega) (by simp [rgWant, hk, hst, ha]) fun won _ => ?_, by simp [rgNeed, hk, hst]⟩
      have hg : rgGive s (us.getD 0 0) won = { s with h := us.getD 0 0, step := 2 } := by unfold rgGive rgPushGive; rw [if_pos hk, if_pos hst]
      rw [hg]
      simp [rgNeed, hk, hst, rgFresh, ha]
    · refine ⟨rgLoad 1 (by omega) (by simp [rgWant, hk, hst, ha]) fun won ho => ?_, by simp only [rgNeed, hk, hst]; simp; split <;> omega⟩
      have hg : (rgGive s (us.getD 1 0) won = { s with t := rgLo (us.getD 1 0), step := 3 }) ∨ (rgGive s (us.getD 1 0) won = { s with t := rgLo (us.getD 1 0), step := 5 }) ∨ (rgGive s (us.getD 1 0) won = { s with t := rgLo (us.getD 1 0), step := 5, over := some ⟨8, 0, []⟩ }) := by
        unfold rgGive rgPushGive
        rw [if_pos hk, if_neg (by omega), if_pos hst]
        split
        · exact .inl rfl
        · split
          · exact .inr (.inl rfl)
          · exact .inr (.inr rfl)
      rcases hg with hg | hg | hg
      · rw [hg]; simp only [rgNeed, hk, hst]; simp; split <;> omega
      · rw [hg]; simp only [rgNeed, hk, hst, rgFresh]; simp; split <;> omega
      · rw [hg] at ho; simp at ho
    · have hc := hcell g.T
      refine ⟨rgStore (rgCell 0 N (rgAdd fr g.T)) s.task (by omega) (by rw [hint]; simp [rgWant, hk, hst, ha, hz, ht]) hp.task fun x won _ => ?_, by simp [rgNeed, hk, hst]⟩
      have hg : rgGive s x won = { s with step := 4 } := by unfold rgGive rgPushGive; rw [if_pos hk, if_neg (by omega), if_neg (by omega), if_pos hst]
      rw [hg]
      simp [rgNeed, hk, hst]
    · refine ⟨rgStore 1 (rgAdd fr (g.T + 1)) (by omega) (by simp [rgWant, hk, hst, ha, ht, rgAdd_add]) (rgAdd_U _ _) fun x won ho => ?_, by simp [rgNeed, hk, hst]⟩
      have hg : rgGive s x won = { s with over := some ⟨0, 0, []⟩ } := by unfold rgGive rgPushGive; rw [if_pos hk, if_neg (by omega), if_neg (by omega), if_neg (by omega), if_pos hst]
      rw [hg] at ho
      simp at ho
    · have hnew : rgPair (rgAdd (rgLo s.h) (s.size / 2)) (rgAdd (rgLo s.h) (s.size / 2)) = rgH fr (x + (N / 2 : Nat)) (x + (N / 2 : Nat)) := by rw [hhd, rgH_lo, rgAdd_add, hz, hNh]; rfl
      refine ⟨rgCas 0 s.h (rgH fr (x + (N / 2 : Nat)) (x + (N / 2 : Nat))) (by omega) (by simp [rgWant, hk, hst, ha, hnew]) (by rw [hhd]; exact rgH_U _ _ _) (rgH_U _ _ _) (fun e _ => ?_) (fun e _ => ?_), by simp only [rgNeed, hk, hst]; simp; split <;> omega⟩
      · have hg : rgGive s s.h true = { s with step := 6 } := by unfold rgGive rgPushGive; rw [if_pos hk, if_neg (by omega), if_neg (by omega), if_neg (by omega), if_neg (by omega), if_pos hst]; rfl
        rw [hg]
        have hf : rgFresh us s := by unfold rgFresh; rw [ha]; exact e
        simp only [rgNeed, hk, hst, hz, hk0]
        simp [hf]
        omega
      · have hg : rgGive s (us.getD 0 0) false = { s with h := us.getD 0 0, step := 2 } := by unfold rgGive rgPushGive; rw [if_pos hk, if_neg (by omega), if_neg (by omega), if_neg (by omega), if_neg (by omega), if_pos hst]; rfl
        rw [hg]
        have hf : ¬ rgFresh us s := by unfold rgFresh; rw [ha]; exact e
        simp [rgNeed, hk, hst, hf]
        simp [rgFresh, ha]
  · have hc := hcell (b + k)
    refine ⟨rgLoad (rgCell 0 N (rgAdd fr (b + k))) (by omega) (by rw [hint]; simp [rgWant, hk, hst, ha, hz, hlo, hkk, rgAdd_add]) fun won ho => ?_, by simp only [rgNeed, hk, hst, hz]; simp; omega⟩
    by_cases e : s.k + 1 = s.size / 2
    · have hg : rgGive s (us.getD (rgCell 0 N (rgAdd fr (b + k))) 0) won = { s with took := s.took ++ [us.getD (rgCell 0 N (rgAdd fr (b + k))) 0], k := s.k + 1, over := some ⟨4, 0, s.took ++ [us.getD (rgCell 0 N (rgAdd fr (b + k))) 0]⟩ } := by unfold rgGive rgPushGive; rw [if_pos hk, if_neg (by omega), if_neg (by omega), if_neg (by omega), if_neg (by omega), if_neg (by omega), if_pos e]
      rw [hg] at ho
      simp at ho
    · have hg : rgGive s (us.getD (rgCell 0 N (rgAdd fr (b + k))) 0) won = { s with took := s.took ++ [us.getD (rgCell 0 N (rgAdd fr (b + k))) 0], k := s.k + 1 } := by unfold rgGive rgPushGive; rw [if_pos hk, if_neg (by omega), if_neg (by omega), if_neg (by omega), if_neg (by omega), if_neg (by omega), if_neg e]
      rw [hg]
      simp only [rgNeed, hk, hst]
      simp
      omega
/-- A pop at the cell a. -/
theorem rgLess2 {a : Nat} (ha : s.at_ = a) (hk : s.kind = 2) (hr : dqRight (a : Nat) N) (hz : s.size = N) (hl : a + N + 2 ≤ us.length) (hst : s.step = 1 ∨ s.step = 2 ∨ s.step = 3 ∨ s.step = 4) (hU : s.step = 3 → M.U s.h) : RgLess us s ∧ 0 ≤ rgNeed us s ∧ rgNeed us s ≤ 30 := by
  have nk1 : ¬ s.kind = 1 := by omega
  have hz2 := rgSz hr
  have hat : s.at_.toNat = a := by omega
  rcases hst with hst | hst | hst | hst
  · refine ⟨rgLoad a (by omega) (by simp [rgWant, hk, hst, ha]) fun won _ => ?_, by simp [rgNeed, hk, hst]⟩
    have hg : rgGive s (us.getD a 0) won = { s with h := us.getD a 0, step := 2 } := by unfold rgGive rgPopGive; rw [if_neg nk1, if_pos hk, if_pos hst]
    rw [hg]
    simp [rgNeed, hk, hst, rgFresh, hat]
  · refine ⟨rgLoad (a + 1) (by omega) (by simp [rgWant, hk, hst, ha]) fun won ho => ?_, by simp only [rgNeed, hk, hst]; simp; split <;> omega⟩
    have hg : (rgGive s (us.getD (a + 1) 0) won = { s with step := 3 }) ∨ (rgGive s (us.getD (a + 1) 0) won = { s with step := 3, over := some ⟨5, 0, []⟩ }) := by
      unfold rgGive rgPopGive
      rw [if_neg nk1, if_pos hk, if_neg (by omega), if_pos hst]
      split
      · exact .inr rfl
      · exact .inl rfl
    rcases hg with hg | hg
    · rw [hg]; simp only [rgNeed, hk, hst, rgFresh]; simp; split <;> omega
    · rw [hg] at ho; simp at ho
  · refine ⟨rgCas a s.h _ (by omega) (by simp only [rgWant, hk, hst, ha]; simp; rfl) (hU hst) (rgPair_U (by split; exact rgAdd_range _ _; exact rgHi_range (hU hst)) (rgAdd_range _ _)) (fun e _ => ?_) (fun e _ => ?_), by simp only [rgNeed, hk, hst]; simp; split <;> omega⟩
    · have hg : rgGive s s.h true = { s with step := 4 } := by unfold rgGive rgPopGive; rw [if_neg nk1, if_pos hk, if_neg (by omega), if_neg (by omega), if_pos hst]; rfl
      rw [hg]
      simp only [rgNeed, hk, hst]
      simp
      split <;> omega
    · have hg : rgGive s (us.getD a 0) false = { s with h := us.getD a 0, step := 2 } := by unfold rgGive rgPopGive; rw [if_neg nk1, if_pos hk, if_neg (by omega), if_neg (by omega), if_pos hst]; rfl
      rw [hg]
      have hf : ¬ rgFresh us s := by unfold rgFresh; rw [hat]; exact e
      simp [rgNeed, hk, hst, hf]
      simp [rgFresh, hat]
  · have hc := rgCell_range hr (rgLo s.h)
    refine ⟨rgLoad (rgCell a N (rgLo s.h)) (by omega) (by rw [rgCell_int hr]; simp [rgWant, hk, hst, ha, hz]) fun won ho => ?_, by simp [rgNeed, hk, hst]⟩
    have hg : rgGive s (us.getD (rgCell a N (rgLo s.h)) 0) won = { s with over := some ⟨0, us.getD (rgCell a N (rgLo s.h)) 0, []⟩ } := by unfold rgGive rgPopGive; rw [if_neg nk1, if_pos hk, if_neg (by omega), if_neg (by omega), if_neg (by omega)]
    rw [hg] at ho
    simp at ho
theorem RgInv.less3 (h : RgInv N W fr us ss g) (h0 : 0 < i) (hi : i < W) (hp : RgT N fr us g i s) (hN16 : N ≤ 16) : RgLess us s ∧ 0 ≤ rgNeed us s ∧ rgNeed us s ≤ 30 := by
  have hL := h.mem.rings i h0 hi
  have hri := h.mem.right i hi
  have hll := hL.len
  obtain ⟨hr, hlen, hN2, hN, hNh, hNe⟩ := h.mem.cells (by omega)
  obtain ⟨r1, r2, r3, r4, r5⟩ := h.mem.range
  have hge := rgAt_ge N h0
  have hk := hp.kind
  have ha := hp.at0
  have hz := hp.sz
  have htg := hp.tgt
  have nk1 : ¬ s.kind = 1 := by omega
  have nk2 : ¬ s.kind = 2 := by omega
  have hcell := fun x => rgCell_range (a := 0) hr (rgAdd fr x)
  have hint := fun x => rgCell_int (a := 0) hr (rgAdd fr x)
  have hat : s.at_.toNat = 0 := by omega
  rcases hp.st with ⟨hh, htk, hk0, hst | ⟨hu, hst | ⟨hle, hst | ⟨hst, a, b, a1, a2, b1, b2, hhd⟩ | ⟨hst, x, tau, x1, x2, hhd, x3, x4, x5, hn⟩⟩⟩⟩ | ⟨hu, hle, hU, n, hn, n1, n2, hln, hst⟩
  · refine ⟨rgLoad (rgAt N i + 1) (by omega) (by simp [rgWant, hk, hst, htg]) fun won _ => ?_, by simp [rgNeed, hk, hst]⟩
    have hg : rgGive s (us.getD (rgAt N i + 1) 0) won = { s with u := rgLo (us.getD (rgAt N i + 1) 0), step := 2 } := by unfold rgGive rgStealGive; rw [if_neg nk1, if_neg nk2, if_pos hst]
    rw [hg]
    simp [rgNeed, hk, hst]
  · refine ⟨rgLoad (rgAt N i) (by omega) (by simp [rgWant, hk, hst, htg]) fun won ho => ?_, by simp [rgNeed, hk, hst]⟩
    have hg : (rgGive s (us.getD (rgAt N i) 0) won = { s with step := 3 }) ∨ (rgGive s (us.getD (rgAt N i) 0) won = { s with step := 3, over := some ⟨4, 0, []⟩ }) := by
      unfold rgGive rgStealGive
      rw [if_neg nk1, if_neg nk2, if_neg (by omega), if_pos hst]
      split
      · exact .inr rfl
      · exact .inl rfl
    rcases hg with hg | hg
    · rw [hg]; simp [rgNeed, hk, hst]
    · rw [hg] at ho; simp at ho
  · refine ⟨rgLoad 0 (by omega) (by simp [rgWant, hk, hst, ha]) fun won _ => ?_, by simp [rgNeed, hk, hst]⟩
    have hg : rgGive s (us.getD 0 0) won = { s with h := us.getD 0 0, step := 4 } := by unfold rgGive rgStealGive; rw [if_neg nk1, if_neg nk2, if_neg (by omega), if_neg (by omega), if_pos hst]
    rw [hg]
    simp [rgNeed, hk, hst, rgFresh, ha]
  · refine ⟨rgLoad 1 (by omega) (by simp [rgWant, hk, hst, ha]) fun won ho => ?_, by simp only [rgNeed, hk, hst]; simp; split <;> omega⟩
    have hah : M.aheadI (rgLo (us.getD 1 0)) (rgLo s.h) = g.T - b := by rw [h.mem.tail, rgLo_add, hhd, rgH_lo]; exact rgAhead_add fr g.T b (by omega) (by omega)
    by_cases e1 : rgHi s.h = rgLo s.h
    · by_cases e2 : (N : Int) < g.T - b
      · have hg : rgGive s (us.getD 1 0) won = { s with n := rgCount (g.T - b), step := 3 } := by unfold rgGive rgStealGive; rw [if_neg nk1, if_neg nk2, if_neg (by omega), if_neg (by omega), if_neg (by omega), if_pos hst, hah, if_pos e1, if_pos (by omega)]
        have hf : ¬ rgFresh us s := fun hf => by
          unfold rgFresh at hf
          rw [hat, h.mem.head, hhd] at hf
          obtain ⟨f1, f2⟩ : g.S = a ∧ g.R = b := rgH_inj hf (by omega) (by omega) (by omega) (by omega)
          have e3 : a = b := by rw [hhd, rgH_hi, rgH_lo] at e1; exact rgAdd_inj e1 (by omega) (by omega)
          omega
        rw [hg]
        simp [rgNeed, hk, hst, hf]
      · by_cases e4 : g.T - b < 1
        · have hg : rgGive s (us.getD 1 0) won = { s with n := rgCount (g.T - b), step := 5, over := some ⟨5, 0, []⟩ } := by unfold rgGive rgStealGive; rw [if_neg nk1, if_neg nk2, if_neg (by omega), if_neg (by omega), if_neg (by omega), if_pos hst, hah, if_pos e1, if_neg (by omega), if_pos e4]
          rw [hg] at ho
          simp at ho
        · have hg : rgGive s (us.getD 1 0) won = { s with n := rgCount (g.T - b), step := 5 } := by unfold rgGive rgStealGive; rw [if_neg nk1, if_neg nk2, if_neg (by omega), if_neg (by omega), if_neg (by omega), if_pos hst, hah, if_pos e1, if_neg (by omega), if_neg e4]
          rw [hg]
          simp only [rgNeed, hk, hst, rgFresh]
          simp
          split <;> omega
    · have hg : rgGive s (us.getD 1 0) won = { s with n := rgCount (g.T - b), step := 5, over := some ⟨8, 0, []⟩ } := by unfold rgGive rgStealGive; rw [if_neg nk1, if_neg nk2, if_neg (by omega), if_neg (by omega), if_neg (by omega), if_pos hst, hah, if_neg e1]
      rw [hg] at ho
      simp at ho
  · rw [rgCount_small x4] at hn
    have hnew : rgPair (rgHi s.h) (rgAdd (rgLo s.h) s.n) = rgH fr x (x + s.n) := by rw [hhd, rgH_hi, rgH_lo, rgAdd_add]; rfl
    refine ⟨rgCas 0 s.h (rgH fr x (x + s.n)) (by omega) (by simp [rgWant, hk, hst, ha, hnew]) (by rw [hhd]; exact rgH_U _ _ _) (rgH_U _ _ _) (fun e _ => ?_) (fun e _ => ?_), by simp only [rgNeed, hk, hst]; simp; split <;> omega⟩
    · have hg : rgGive s s.h true = { s with t := rgLo s.h, step := 6 } := by unfold rgGive rgStealGive; rw [if_neg nk1, if_neg nk2, if_neg (by omega), if_neg (by omega), if_neg (by omega), if_neg (by omega), if_pos hst]; rfl
      have hf : rgFresh us s := by unfold rgFresh; rw [hat]; exact e
      rw [hg]
      simp only [rgNeed, hk, hst, hk0]
      simp [hf]
      omega
    · have hg : rgGive s (us.getD 0 0) false = { s with h := us.getD 0 0, step := 4 } := by unfold rgGive rgStealGive; rw [if_neg nk1, if_neg nk2, if_neg (by omega), if_neg (by omega), if_neg (by omega), if_neg (by omega), if_pos hst]; rfl
      have hf : ¬ rgFresh us s := by unfold rgFresh; rw [hat]; exact e
      rw [hg]
      simp [rgNeed, hk, hst, hf]
      simp [rgFresh, ha]
  · rcases hst with ⟨hst, ht, hcl, k, hkk, hkn, htk, hlaid⟩ | ⟨hst, ht, hcl, k, hkk, hkn, htk, hlaid⟩ | ⟨hst, hcl, htk, hlaid, hhU⟩ | ⟨hst, hn1, htk, hlaid⟩
    · have hc := hcell (g.S + k)
      refine ⟨rgLoad (rgCell 0 N (rgAdd fr (g.S + k))) (by omega) (by rw [hint]; simp [rgWant, hk, hst, ha, hz, ht, hkk, rgAdd_add]) fun won _ => ?_, by simp only [rgNeed, hk, hst]; simp; omega⟩
      obtain ⟨v, hv⟩ : ∃ v, us.getD (rgCell 0 N (rgAdd fr (g.S + k))) 0 = v := ⟨_, rfl⟩
      rw [hv]
      by_cases e : s.k = s.n - 1
      · have hg : rgGive s v won = { s with took := s.took ++ [v], step := 7 } := by unfold rgGive rgStealGive; rw [if_neg nk1, if_neg nk2, if_neg (by omega), if_neg (by omega), if_neg (by omega), if_neg (by omega), if_neg (by omega), if_pos hst, if_pos e]
        rw [hg]
        simp only [rgNeed, hk, hst]
        simp
        try omega
      · have hg : rgGive s v won = { s with took := s.took ++ [v], step := 60 } := by unfold rgGive rgStealGive; rw [if_neg nk1, if_neg nk2, if_neg (by omega), if_neg (by omega), if_neg (by omega), if_neg (by omega), if_neg (by omega), if_pos hst, if_neg e]
        rw [hg]
        simp only [rgNeed, hk, hst]
        simp
        try omega
    · have hx : s.took.getD s.k.toNat 0 = (g.hand i).getD k 0 := by rw [htk, hkk]; simp [List.getD]
      have hvU : M.U ((g.hand i).getD k 0) := hU _ (by rw [List.getD, List.getElem?_eq_getElem (by omega)]; exact List.getElem_mem _)
      have hcr := rgCell_range hri (rgAdd (g.rr i) ((g.lst i).length + k))
      have hwant : rgWant s = ⟨2, ((rgCell (rgAt N i) N (rgAdd (g.rr i) ((g.lst i).length + k)) : Nat) : Int), (g.hand i).getD k 0, 0⟩ := by
        rw [rgCell_int hri]
        have : rgWant s = ⟨2, dqSlot s.target s.size (rgAdd s.u s.k), s.took.getD s.k.toNat 0, 0⟩ := by simp [rgWant, hk, hst]
        rw [this, htg, hz, hu, hx, hkk, rgAdd_add]
      refine ⟨rgStore _ _ (by omega) hwant hvU fun y won _ => ?_, by simp only [rgNeed, hk, hst]; simp; omega⟩
      have hg : rgGive s y won = { s with k := s.k + 1, step := 6 } := by unfold rgGive rgStealGive; rw [if_neg nk1, if_neg nk2, if_neg (by omega), if_neg (by omega), if_neg (by omega), if_neg (by omega), if_neg (by omega), if_neg (by omega), if_pos hst]
      rw [hg]
      simp only [rgNeed, hk, hst]
      simp
      omega
    · rcases hst with hst | hst
      · refine ⟨rgLoad 0 (by omega) (by simp [rgWant, hk, hst, ha]) fun won _ => ?_, by simp [rgNeed, hk, hst]⟩
        have hg : rgGive s (us.getD 0 0) won = { s with h := us.getD 0 0, step := 8 } := by unfold rgGive rgStealGive; rw [if_neg nk1, if_neg nk2, if_neg (by omega), if_neg (by omega), if_neg (by omega), if_neg (by omega), if_neg (by omega), if_neg (by omega), if_neg (by omega), if_pos hst]
        rw [hg]
        simp [rgNeed, hk, hst, rgFresh, ha]
      · refine ⟨rgCas 0 s.h (rgPair (rgLo s.h) (rgLo s.h)) (by omega) (by simp [rgWant, hk, hst, ha]) (hhU hst) (rgPair_U (rgLo_range _) (rgLo_range _)) (fun e ho => ?_) (fun e _ => ?_), by simp only [rgNeed, hk, hst]; simp; split <;> omega⟩
        · have hf : rgFresh us s := by unfold rgFresh; rw [hat]; exact e
          by_cases e1 : s.n = 1
          · have hg : rgGive s s.h true = { s with step := 9, over := some ⟨0, rgLast s, []⟩ } := by unfold rgGive rgStealGive; rw [if_neg nk1, if_neg nk2, if_neg (by omega), if_neg (by omega), if_neg (by omega), if_neg (by omega), if_neg (by omega), if_neg (by omega), if_neg (by omega), if_neg (by omega), if_pos hst, if_pos rfl, if_pos e1]
            rw [hg] at ho
            simp at ho
          · have hg : rgGive s s.h true = { s with step := 9 } := by unfold rgGive rgStealGive; rw [if_neg nk1, if_neg nk2, if_neg (by omega), if_neg (by omega), if_neg (by omega), if_neg (by omega), if_neg (by omega), if_neg (by omega), if_neg (by omega), if_neg (by omega), if_pos hst, if_pos rfl, if_neg e1]
            rw [hg]
            simp [rgNeed, hk, hst, hf]
        · have hg : rgGive s (us.getD 0 0) false = { s with h := us.getD 0 0 } := by unfold rgGive rgStealGive; rw [if_neg nk1, if_neg nk2, if_neg (by omega), if_neg (by omega), if_neg (by omega), if_neg (by omega), if_neg (by omega), if_neg (by omega), if_neg (by omega), if_neg (by omega), if_pos hst]; rfl
          have hf : ¬ rgFresh us s := by unfold rgFresh; rw [hat]; exact e
          rw [hg]
          simp [rgNeed, hk, hst, hf]
          simp [rgFresh, ha]
    · have hwant : rgWant s = ⟨2, ((rgAt N i + 1 : Nat) : Int), rgAdd s.u (s.n - 1), 0⟩ := by
        have : rgWant s = ⟨2, s.target + 1, rgAdd s.u (s.n - 1), 0⟩ := by simp [rgWant, hk, hst]
        rw [this, htg]
        rfl
      refine ⟨rgStore (rgAt N i + 1) _ (by omega) hwant (rgAdd_U _ _) fun y won ho => ?_, by simp [rgNeed, hk, hst]⟩
      have hg : rgGive s y won = { s with over := some ⟨0, rgLast s, []⟩ } := by unfold rgGive rgStealGive; rw [if_neg nk1, if_neg nk2, if_neg (by omega), if_neg (by omega), if_neg (by omega), if_neg (by omega), if_neg (by omega), if_neg (by omega), if_neg (by omega), if_neg (by omega), if_neg (by omega)]
      rw [hg] at ho
      simp at ho
theorem RgInv.less (h : RgInv N W fr us ss g) (hi : i < W) (hs : ss i = some s) (ho : s.over = none) (hN16 : N ≤ 16) : RgLess us s ∧ 0 ≤ rgNeed us s ∧ rgNeed us s ≤ 30 := by
  rcases h.wk i s hi hs ho with ⟨rfl, hp | hp⟩ | ⟨h0, hp | hp⟩
  · exact h.less1 hi hp hN16
  · obtain ⟨hr, hlen, -⟩ := h.mem.cells hi
    refine rgLess2 (a := 0) hp.at0 hp.kind hr hp.sz (by omega) ?_ ?_
    · rcases hp.st with ⟨-, e | ⟨e, -⟩ | ⟨e, -⟩⟩ | ⟨e, -⟩ <;> omega
    · intro e
      rcases hp.st with ⟨-, e2 | ⟨e2, -⟩ | ⟨e2, a, b, -, -, -, -, e3, -⟩⟩ | ⟨e2, -⟩
      · omega
      · omega
      · rw [e3]; exact rgH_U _ _ _
      · omega
  · exact h.less3 h0 hi hp hN16
  · have hL := h.mem.rings i h0 hi
    refine rgLess2 (a := rgAt N i) hp.at0 hp.kind (h.mem.right i hi) hp.sz hL.len ?_ ?_
    · rcases hp.st with ⟨-, e | ⟨e, -⟩ | ⟨e, -⟩⟩ | ⟨e, -⟩ <;> omega
    · intro e
      rcases hp.st with ⟨-, e2 | ⟨e2, -⟩ | ⟨e2, e3, -⟩⟩ | ⟨e2, -⟩
      · omega
      · omega
      · rw [e3]; exact hL.headU
      · omega
end
end Go.Proofs.YtjbgkaleickknaaGreat
