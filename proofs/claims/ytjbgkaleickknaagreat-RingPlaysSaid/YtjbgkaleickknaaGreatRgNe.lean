import Derived.Test.YtjbgkaleickknaaGreatRgNd
import Derived.Test.YtjbgkaleickknaaGreatCrew
import Derived.Test.YtjbgkaleickknaaGreatRgP
import Derived.Test.YtjbgkaleickknaaGreatRgB
/-
  A ring's plays: what holds at every pick.
-/
namespace Go.Proofs.YtjbgkaleickknaaGreat
set_option maxRecDepth 100000
set_option linter.unusedSimpArgs false
set_option linter.unusedVariables false
open Go Go.RowKit

def sumR (f : Nat → Nat) : Nat → Nat
  | 0 => 0
  | n + 1 => sumR f n + f n
theorem sumR_same {f f' : Nat → Nat} : ∀ n, (∀ j, j < n → f' j = f j) → sumR f' n = sumR f n
  | 0, _ => rfl
  | n + 1, h => by rw [sumR, sumR, sumR_same n (fun j hj => h j (by omega)), h n (by omega)]
theorem sumR_one {f f' : Nat → Nat} {i : Nat} : ∀ n, i < n → (∀ j, j ≠ i → f' j = f j) → sumR f' n + f i = sumR f n + f' i
  | 0, h, _ => by omega
  | n + 1, h, hs => by
    rw [sumR, sumR]
    by_cases e : i = n
    · subst e
      rw [sumR_same i (fun j hj => hs j (by omega))]
      omega
    · have := sumR_one n (by omega) hs
      rw [hs n (Ne.symm e)]
      omega
theorem sumR_ge {f : Nat → Nat} {i : Nat} : ∀ n, i < n → f i ≤ sumR f n
  | 0, h => by omega
  | n + 1, h => by
    rw [sumR]
    by_cases e : i = n
    · subst e; omega
    · have := sumR_ge (f := f) n (show i < n by omega); omega
/-- How often v is somewhere. -/
def rgTot (g : RgG) (W : Nat) (v : Int) : Nat := (rgRow g).count v + sumR (fun j => (g.lst j).count v + (g.hand j).count v) W
theorem RgEv.tot {g g' : RgG} {i W : Nat} {s s' : RgS} {gone : List Int} (e : RgEv g g' i s s' gone) (hi : i < W) (v : Int) : rgTot g' W v + gone.count v = rgTot g W v := by
  have h1 := sumR_one (f := fun j => (g.lst j).count v + (g.hand j).count v) (f' := fun j => (g'.lst j).count v + (g'.hand j).count v) W hi (fun j hj => by rw [(e.same j hj).1, (e.same j hj).2])
  have h2 := e.bal v
  unfold rgTot
  omega
/-- How often each came out, when these did, too. -/
def cntAdd (cnt : Int → Int) (l : List Int) : Int → Int := fun v => cnt v + (l.count v : Nat)
theorem cntAdd_nil (cnt : Int → Int) : cntAdd cnt [] = cnt := by funext v; simp [cntAdd]

/-- Which walk a worker begins. -/
def rgKd (who : Nat) (p : Bool) : Int := if p = true then (if 0 < who then 3 else 1) else 2
def rgNew (N who : Nat) (p : Bool) (v : Int) : RgS :=
  if p = true then (if 0 < who then rgBegin 0 N 3 0 (rgAt N who : Nat) true else rgBegin 0 N 1 v 0 true) else rgBegin (rgAt N who : Nat) N 2 0 0 true

/-- What holds behind k rounds, of which the first q are free. -/
structure RgPlay (N W q : Nat) (fr : Int) (k kn : Nat) (L : LSt) (ss : Nat → Option RgS) (g : RgG) (cnt : Int → Int) (next : Int) (hg : Nat → Bool) : Prop where
  crew : Crew ringM (fun m => LoneIO ringM (rgE m) m) rgRuns W L ss
  inv : RgInv N W fr L.us ss g
  n16 : N ≤ 16
  bal : ∀ v, cnt v + (rgTot g W v : Nat) = if 1 ≤ v ∧ v ≤ next then 1 else 0
  pos : ∀ v, 0 ≤ cnt v
  kinds : ∀ i s, i < W → ss i = some s → s.over = none → s.kind = rgKd i (hg i)
  task : ∀ s, ss 0 = some s → s.over = none → s.kind = 1 → s.task = next
  steps : ∀ i s, i < W → ss i = some s → s.over = none → (k : Int) - (q + 60 * i) + rgNeed L.us s < 60
  low : g.T ≤ k
  nx : 0 ≤ next ∧ next ≤ kn
  last : 0 ≤ g.last ∧ g.last ≤ next
  st : L.steps ≤ k
section
variable {N W q : Nat} {fr : Int} {k kn : Nat} {L : LSt} {ss : Nat → Option RgS} {g : RgG} {cnt : Int → Int} {next : Int} {hg : Nat → Bool}
theorem RgPlay.more (h : RgPlay N W q fr k k L ss g cnt next hg) : RgPlay N W q fr k (k + 1) L ss g cnt next hg := { h with nx := by have := h.nx; omega }
theorem RgPlay.same (h : RgPlay N W q fr k kn L ss g cnt next hg) {L' : LSt} (h1 : L'.ts = L.ts) (h2 : L'.us = L.us) (h3 : L'.steps = L.steps) : RgPlay N W q fr k kn L' ss g cnt next hg :=
  ⟨⟨by rw [h1]; exact h.crew.len, by rw [h1]; exact h.crew.th⟩, by rw [h2]; exact h.inv, h.n16, h.bal, h.pos, h.kinds, h.task, by rw [h2]; exact h.steps, h.low, h.nx, h.last, by rw [h3]; exact h.st⟩
theorem rgWork {o : Option RgS} (hb : atWork ringM o = true) : ∃ s, o = some s ∧ s.over = none := by
  cases o with
  | none => cases hb
  | some s =>
    refine ⟨s, rfl, ?_⟩
    cases ho : s.over with
    | none => rfl
    | some r => simp [atWork, ringM, ho] at hb
theorem rgIdle {o : Option RgS} (hb : atWork ringM o = false) : ∀ s, o = some s → s.over ≠ none := by
  rintro s rfl ho
  simp [atWork, ringM, ho] at hb
/-- A round in which nobody does anything. -/
theorem RgPlay.skip (h : RgPlay N W q fr k k L ss g cnt next hg) {who : Nat} (hl : q ≤ k) (hwho : who = (k - q) / 60) (hb : atWork ringM (ss who) = false) : RgPlay N W q fr (k + 1) (k + 1) L ss g cnt next hg :=
  { h with
    steps := fun i s hi hs ho => by
      have := h.steps i s hi hs ho
      have hne : i ≠ who := fun e => by subst e; exact rgIdle hb s hs ho
      have h2 := (h.inv.less hi hs ho h.n16).2
      have : ((k + 1 : Nat) : Int) - (q + 60 * i) ≤ 0 ∨ 60 ≤ (k : Int) - (q + 60 * i) := by omega
      omega
    low := by have := h.low; omega
    nx := by have := h.nx; omega
    st := by have := h.st; omega }
/-- What is in the row is one of those that were pushed. -/
theorem RgPlay.mem (h : RgPlay N W q fr k kn L ss g cnt next hg) {v : Int} (hv : 1 ≤ rgTot g W v) : 1 ≤ v ∧ v ≤ next ∧ cnt v = 0 ∧ rgTot g W v = 1 := by
  have h1 := h.bal v
  have h2 := h.pos v
  split at h1
  · rename_i e; omega
  · omega
theorem rgRow_mem {g : RgG} {x : Int} (h1 : g.R ≤ x) (h2 : x < g.T) (W : Nat) : 1 ≤ rgTot g W (g.A x) := by
  have : g.A x ∈ rgRow g := by
    unfold rgRow rgFrom
    refine List.mem_map.2 ⟨(x - g.R).toNat, List.mem_range.2 (by omega), ?_⟩
    congr 1
    omega
  have := List.one_le_count_iff.2 this
  unfold rgTot
  omega
theorem rgTot_hand (g : RgG) (W : Nat) (hd : Nat → List Int) (i : Nat) (hi : i < W) (h0 : g.hand i = []) (l : List Int) (v : Int) (hh : hd = updG g.hand i l) : rgTot { g with hand := hd } W v = rgTot g W v + l.count v := by
  have h1 := sumR_one (f := fun j => (g.lst j).count v + (g.hand j).count v) (f' := fun j => (g.lst j).count v + (hd j).count v) W hi (fun j hj => by rw [hh, updG_ne _ _ hj])
  have e : (rgRow { g with hand := hd }) = rgRow g := rfl
  rw [h0, hh, updG_same] at h1
  unfold rgTot
  rw [e, hh]
  simp only [List.count_nil] at h1 ⊢
  omega
/-- A new walk of one who isn't at work. -/
theorem RgInv.begin_ {us : List Int} (h : RgInv N W fr us ss g) {i : Nat} (hi : i < W) (hidle : ∀ s, ss i = some s → s.over ≠ none) {s' : RgS} (ho : s'.over = none) (hc : ¬ rgClaims s') (hd : Nat → List Int) (hdj : ∀ j, j ≠ i → hd j = g.hand j) (hwk : RgWk N fr us { g with hand := hd } i s') :
    RgInv N W fr us (updG ss i (some s')) { g with hand := hd } := by
  have hmem : RgMem N W fr us { g with hand := hd } := ⟨h.mem.right, h.mem.len, h.mem.head, h.mem.tail, h.mem.range, h.mem.slots, h.mem.tasks, h.mem.rise, h.mem.low, h.mem.rings, h.mem.own0⟩
  have hRT := h.mem.range.2.2.1
  refine ⟨hmem, fun j u hj hu hou => ?_, fun j hj hn => ?_, fun j k u v hj hk hu hou hcu hv hov hcv => ?_⟩
  · by_cases e : j = i
    · subst e
      rw [updG_same] at hu
      cases hu
      exact hwk
    · rw [updG_ne _ _ e] at hu
      rcases h.wk j u hj hu hou with ⟨rfl, hp⟩ | ⟨h1, hp⟩
      · have hr := h.mem.right 0 hj
        rw [show rgAt N 0 = 0 by simp [rgAt]] at hr
        exact .inl ⟨rfl, hp.imp (fun hp => hp.later (Int.le_refl _) (Int.le_refl _) rfl rfl rfl (hdj 0 e) hr (fun _ _ _ => rfl)) (fun hp => hp.later (Int.le_refl _) (Int.le_refl _) rfl rfl rfl (hdj 0 e) hr (fun _ _ _ => rfl))⟩
      · exact .inr ⟨h1, hp.imp (fun hp => hp.later (Int.le_refl _) (Int.le_refl _) (Int.le_refl _) (fun _ _ => rfl) hRT (fun _ => rfl) ⟨rfl, rfl, hdj j e⟩ (h.mem.right j hj) (fun _ _ _ => rfl)) (fun hp => hp.later ⟨rfl, rfl, hdj j e⟩ (h.mem.right j hj) (fun _ _ _ => rfl))⟩
  · by_cases e : j = i
    · subst e
      exact absurd ho (hn s' (updG_same _ _ _))
    · show hd j = []
      rw [hdj j e]
      exact h.idle j hj fun u hu => hn u (by rw [updG_ne _ _ e]; exact hu)
  · by_cases e : j = i
    · subst e; rw [updG_same] at hu; cases hu; exact absurd hcu hc
    · by_cases e2 : k = i
      · subst e2; rw [updG_same] at hv; cases hv; exact absurd hcv hc
      · rw [updG_ne _ _ e] at hu
        rw [updG_ne _ _ e2] at hv
        exact h.one j k u v hj hk hu hou hcu hv hov hcv
def nxG (who : Nat) (pp : Bool) (next : Int) : Int := if who = 0 ∧ pp = true then next + 1 else next
/-- A worker begins. -/
theorem RgPlay.start (h : RgPlay N W q fr k k L ss g cnt next hg) {who : Nat} (hw : who < W) (hk : k < q) (hb : atWork ringM (ss who) = false) (m : Nat) (pp : Bool) (hq : q ≤ 1000) :
    ∃ g', RgPlay N W q fr k (k + 1) { L with ts := L.ts.set who (some ⟨RgS, ringM, LoneIO ringM (rgE m) m, m, rgRuns m, rgNew N who pp (nxG who pp next)⟩) } (updG ss who (some (rgNew N who pp (nxG who pp next)))) g' cnt (nxG who pp next) (updG hg who pp) ∧ g'.last = g.last := by
  have hidle := rgIdle hb
  have hh := h.inv.idle who hw hidle
  have hnx := h.nx
  have hlast := h.last
  obtain ⟨v, hv⟩ : ∃ v, nxG who pp next = v := ⟨_, rfl⟩
  have hov : (rgNew N who pp v).over = none := by unfold rgNew; split; split; rfl; rfl; rfl
  have hst : (rgNew N who pp v).step = 1 := by unfold rgNew; split; split; rfl; rfl; rfl
  have hkd : (rgNew N who pp v).kind = rgKd who pp := by unfold rgNew rgKd; split; split; rfl; rfl; rfl
  have hcl : ¬ rgClaims (rgNew N who pp v) := fun c => by have := c.2; omega
  have hneed : rgNeed L.us (rgNew N who pp v) ≤ 30 := by
    unfold rgNeed
    rw [hst]
    simp
    split
    · omega
    · split <;> omega
  have hkinds : ∀ i s, i < W → updG ss who (some (rgNew N who pp v)) i = some s → s.over = none → s.kind = rgKd i (updG hg who pp i) := fun i s hi hs ho => by
    by_cases e : i = who
    · subst e; rw [updG_same] at hs ⊢; cases hs; exact hkd
    · rw [updG_ne _ _ e] at hs ⊢; exact h.kinds i s hi hs ho
  have hsteps : ∀ i s, i < W → updG ss who (some (rgNew N who pp v)) i = some s → s.over = none → (k : Int) - (q + 60 * i) + rgNeed L.us s < 60 := fun i s hi hs ho => by
    by_cases e : i = who
    · subst e; rw [updG_same] at hs; cases hs; omega
    · rw [updG_ne _ _ e] at hs; exact h.steps i s hi hs ho
  rw [hv]
  by_cases hp : who = 0 ∧ pp = true
  · obtain ⟨rfl, rfl⟩ := hp
    have hv1 : v = next + 1 := by rw [← hv]; rfl
    have hnew : rgNew N 0 true v = rgBegin 0 N 1 v 0 true := rfl
    have htot : rgTot g W v = 0 := by
      have h1 := h.bal v
      have h2 := h.pos v
      rw [if_neg (by omega)] at h1
      omega
    refine ⟨{ g with hand := updG g.hand 0 [v] }, ⟨h.crew.start hw m _, h.inv.begin_ hw hidle hov hcl _ (fun j hj => updG_ne _ _ hj) (.inl ⟨rfl, .inl ?_⟩), h.n16, fun x => ?_, h.pos, hkinds, fun s hs ho _ => ?_, hsteps, h.low, by omega, by show 0 ≤ g.last ∧ g.last ≤ v; omega, h.st⟩, rfl⟩
    · rw [hnew]
      refine ⟨rfl, rfl, rfl, ⟨by show 0 ≤ v; omega, by show v < _; omega⟩, fun x h1 h2 => ?_, by show g.last < v; omega, .inl ⟨by show updG g.hand 0 [v] 0 = [v]; exact updG_same _ _ _, rfl, rfl, .inl rfl⟩⟩
      have := h.mem (v := g.A x) (rgRow_mem (g := g) h1 h2 W)
      show g.A x < v
      omega
    · rw [rgTot_hand g W _ 0 hw hh [v] x rfl]
      have h1 := h.bal x
      by_cases e : x = v
      · subst e
        rw [if_pos (by omega)]
        rw [if_neg (by omega)] at h1
        simp
        omega
      · rw [List.count_cons_of_ne (Ne.symm e)]
        simp only [List.count_nil, Nat.add_zero]
        rw [h1]
        by_cases e2 : 1 ≤ x ∧ x ≤ next
        · rw [if_pos e2, if_pos (by omega)]
        · rw [if_neg e2, if_neg (by omega)]
    · rw [updG_same] at hs; cases hs; rfl
  · have hv1 : v = next := by rw [← hv]; exact if_neg hp
    subst hv1
    refine ⟨{ g with hand := g.hand }, ⟨h.crew.start hw m _, h.inv.begin_ hw hidle hov hcl _ (fun j hj => rfl) ?_, h.n16, h.bal, h.pos, hkinds, fun s hs ho h1 => ?_, hsteps, h.low, by omega, hlast, h.st⟩, rfl⟩
    · cases pp with
      | true =>
        have h0 : 0 < who := by
          rcases Nat.eq_zero_or_pos who with e | e
          · exact absurd ⟨e, rfl⟩ hp
          · exact e
        rw [show rgNew N who true v = rgBegin 0 N 3 0 (rgAt N who : Nat) true by unfold rgNew; rw [if_pos rfl, if_pos h0]]
        exact .inr ⟨h0, .inl ⟨rfl, rfl, rfl, rfl, .inl ⟨hh, rfl, rfl, .inl rfl⟩⟩⟩
      | false =>
        rw [show rgNew N who false v = rgBegin (rgAt N who : Nat) N 2 0 0 true from rfl]
        rcases Nat.eq_zero_or_pos who with e | e
        · subst e
          exact .inl ⟨rfl, .inr ⟨by show ((rgAt N 0 : Nat) : Int) = 0; simp [rgAt], rfl, rfl, rfl, .inl ⟨hh, .inl rfl⟩⟩⟩
        · exact .inr ⟨e, .inr ⟨rfl, rfl, rfl, rfl, .inl ⟨hh, .inl rfl⟩⟩⟩
    · by_cases e : 0 = who
      · subst e
        rw [updG_same] at hs
        cases hs
        cases pp with
        | true => exact absurd ⟨rfl, rfl⟩ hp
        | false => exact absurd h1 (by show ¬ (2 : Int) = 1; decide)
      · rw [updG_ne _ _ e] at hs; exact h.task s hs ho h1
theorem ringM_want {s : RgS} (ho : s.over = none) : ringM.want s = some (rgWant s) := by simp [ringM, ho]
theorem ringM_give {s : RgS} (v : Int) (won : Bool) (ho : s.over = none) : ringM.give s v won = rgGive s v won := by simp [ringM, ho]
/-- What a pick leads to. -/
theorem RgPlay.step (h : RgPlay N W q fr k kn L ss g cnt next hg) {who : Nat} (hw : who < W) {s : RgS} (hs : ss who = some s) (ho : s.over = none) (hf : k < q ∨ who = (k - q) / 60) (hk : k ≤ 10000) :
    ∃ M s' g' gone, OneStep who L M ∧ M.mm = L.mm ∧ RgPlay N W q fr (k + 1) kn M (updG ss who (some s')) g' (cntAdd cnt gone) next hg ∧ RgOut who s s' g.last g'.last gone ∧ s.kind = rgKd who (hg who) ∧ (s.kind = 1 → s.task = next) ∧ ∀ x ∈ gone, 1 ≤ x ∧ x ≤ next ∧ cnt x = 0 ∧ gone.count x = 1 := by
  have hlow := h.low
  obtain ⟨h1, h2, h3, ⟨g', gone, hinv, hev⟩, hless⟩ := (h.inv.step hw hs ho (by omega)).and (h.inv.less hw hs ho h.n16).1
  obtain ⟨M, m1, m2, m3, m4, m5⟩ := h.crew.step hw hs (ringM_want ho) h1 h2 h3
  rw [ringM_give _ _ ho] at m2
  obtain ⟨s', hs'⟩ : ∃ s', rgGive s (C.told L.us (rgWant s)) (C.won L.us (rgWant s)) = s' := ⟨_, rfl⟩
  rw [hs'] at hinv hev hless m2
  have hMs := m1.steps
  have hgone : ∀ x ∈ gone, 1 ≤ x ∧ x ≤ next ∧ cnt x = 0 ∧ gone.count x = 1 := fun x hx => by
    have a := List.one_le_count_iff.2 hx
    have b := hev.tot hw x
    obtain ⟨c1, c2, c3, c4⟩ := h.mem (v := x) (by omega)
    exact ⟨c1, c2, c3, by omega⟩
  refine ⟨M, s', g', gone, m1, m4, ⟨m2, by rw [m3]; exact hinv, h.n16, fun v => ?_, fun v => ?_, fun i u hi hu hou => ?_, fun u hu hou h1 => ?_, fun i u hi hu hou => ?_, by have := hev.top; omega, h.nx, ?_, by have := h.st; omega⟩, hev.out, h.kinds who s hw hs ho, ?_, hgone⟩
  · have a := hev.tot hw v
    have b := h.bal v
    unfold cntAdd
    omega
  · have := h.pos v
    unfold cntAdd
    omega
  · by_cases e : i = who
    · subst e; rw [updG_same] at hu; cases hu; rw [hev.kind]; exact h.kinds i s hi hs ho
    · rw [updG_ne _ _ e] at hu; exact h.kinds i u hi hu hou
  · by_cases e : 0 = who
    · subst e; rw [updG_same] at hu; cases hu; rw [hev.task]; exact h.task s hs ho (by rw [← hev.kind]; exact h1)
    · rw [updG_ne _ _ e] at hu; exact h.task u hu hou h1
  · by_cases e : i = who
    · subst e
      rw [updG_same] at hu
      cases hu
      have a := hless hou
      have b := h.steps i s hi hs ho
      rw [m3]
      omega
    · have hu2 := hu
      rw [updG_ne _ _ e] at hu
      have b := h.steps i u hi hu hou
      have c := (hinv.less hi hu2 hou h.n16).2.2
      rw [← m3] at c
      rcases hf with hf | hf
      · omega
      · by_cases e2 : who < i
        · omega
        · have d := (h.inv.less hi hu hou h.n16)
          have e3 : 60 ≤ (k : Int) - (q + 60 * i) := by omega
          have e4 := d.2.1
          omega
  · cases hev.out with
    | pop v k1 k2 k3 k4 =>
      have hx := hgone v (by simp)
      rcases Nat.eq_zero_or_pos who with e | e
      · have := k3 e; omega
      · have := k4 (by omega); have := h.last; omega
    | go _ e => have := h.last; omega
    | push _ _ e => have := h.last; omega
    | busy _ _ e => have := h.last; omega
    | full _ _ _ _ e => have := h.last; omega
    | empty _ _ e => have := h.last; omega
    | steal _ _ _ e => have := h.last; omega
    | none_ _ _ _ _ e => have := h.last; omega
  · intro h1
    have := h.kinds who s hw hs ho
    rcases Nat.eq_zero_or_pos who with e | e
    · subst e; exact h.task s hs ho h1
    · unfold rgKd at this
      rw [if_pos e] at this
      split at this <;> omega
/-- What came answers to. -/
def RgCame (who : Nat) (p : Bool) (c V : Int) (v : Int) (L gone : List Int) : Prop := (who = 0 ∧ p = true ∧ (c = 0 ∧ gone = [] ∨ c = 8 ∧ gone = [v] ∨ c = 4 ∧ gone = v :: L)) ∨ (¬ (who = 0 ∧ p = true) ∧ (c = 0 ∧ gone = [V] ∨ c = 5 ∧ gone = [] ∨ 0 < who ∧ p = true ∧ (c = 4 ∨ c = 8) ∧ gone = []))
/-- How the last popped one goes on. -/
def RgLastly (who : Nat) (p : Bool) (l l' : Int) (gone : List Int) : Prop := (who = 0 ∧ p = false ∧ (gone = [] ∧ l' = l ∨ gone = [l'] ∧ l < l')) ∨ (¬ (who = 0 ∧ p = false) ∧ l' = l)
theorem RgOut.law {who : Nat} {s s' : RgS} {p : Bool} {l l' next : Int} {gone : List Int} (h : RgOut who s s' l l' gone) (hk : s.kind = rgKd who p) (ht : s.kind = 1 → s.task = next) :
    (s'.over = none ∧ gone = [] ∧ l' = l) ∨ ∃ c V L, s'.over = some ⟨c, V, L⟩ ∧ L.length ≤ 256 ∧ RgCame who p c V next L gone ∧ RgLastly who p l l' gone := by
  have k1 : s.kind = 1 → who = 0 ∧ p = true := fun e => by
    unfold rgKd at hk
    split at hk
    · split at hk
      · omega
      · exact ⟨by omega, by assumption⟩
    · omega
  have k2 : s.kind = 2 → p = false := fun e => by
    unfold rgKd at hk
    split at hk
    · split at hk <;> omega
    · rename_i hp; simpa using hp
  have k3 : s.kind = 3 → 0 < who ∧ p = true := fun e => by
    unfold rgKd at hk
    split at hk
    · split at hk
      · exact ⟨by assumption, by assumption⟩
      · omega
    · omega
  cases h with
  | go e1 e2 => exact .inl ⟨e1, rfl, e2⟩
  | push e e1 e2 =>
    obtain ⟨a, b⟩ := k1 e
    exact .inr ⟨0, 0, [], e1, by simp, .inl ⟨a, b, .inl ⟨rfl, rfl⟩⟩, .inr ⟨fun h => by rw [b] at h; exact absurd h.2 (by decide), e2⟩⟩
  | busy e e1 e2 =>
    obtain ⟨a, b⟩ := k1 e
    exact .inr ⟨8, 0, [], e1, by simp, .inl ⟨a, b, .inr (.inl ⟨rfl, by rw [ht e]⟩)⟩, .inr ⟨fun h => by rw [b] at h; exact absurd h.2 (by decide), e2⟩⟩
  | full L eL e e1 e2 =>
    obtain ⟨a, b⟩ := k1 e
    exact .inr ⟨4, 0, L, e1, eL, .inl ⟨a, b, .inr (.inr ⟨rfl, by rw [ht e]⟩)⟩, .inr ⟨fun h => by rw [b] at h; exact absurd h.2 (by decide), e2⟩⟩
  | pop v e e1 e2 e3 =>
    have b := k2 e
    refine .inr ⟨0, v, [], e1, by simp, .inr ⟨fun h => by rw [b] at h; exact absurd h.2 (by decide), .inl ⟨rfl, rfl⟩⟩, ?_⟩
    by_cases hw : who = 0
    · obtain ⟨f1, f2⟩ := e2 hw
      exact .inl ⟨hw, b, .inr ⟨by rw [f2], by omega⟩⟩
    · exact .inr ⟨fun h => hw h.1, e3 hw⟩
  | empty e e1 e2 =>
    have b := k2 e
    refine .inr ⟨5, 0, [], e1, by simp, .inr ⟨fun h => by rw [b] at h; exact absurd h.2 (by decide), .inr (.inl ⟨rfl, rfl⟩)⟩, ?_⟩
    by_cases hw : who = 0
    · exact .inl ⟨hw, b, .inl ⟨rfl, e2⟩⟩
    · exact .inr ⟨fun h => hw h.1, e2⟩
  | steal v e e1 e2 =>
    obtain ⟨a, b⟩ := k3 e
    exact .inr ⟨0, v, [], e1, by simp, .inr ⟨fun h => by omega, .inl ⟨rfl, rfl⟩⟩, .inr ⟨fun h => by omega, e2⟩⟩
  | none_ c e ec e1 e2 =>
    obtain ⟨a, b⟩ := k3 e
    refine .inr ⟨c, 0, [], e1, by simp, .inr ⟨fun h => by omega, ?_⟩, .inr ⟨fun h => by omega, e2⟩⟩
    rcases ec with rfl | rfl | rfl
    · exact .inr (.inr ⟨a, b, .inl rfl, rfl⟩)
    · exact .inr (.inl ⟨rfl, rfl⟩)
    · exact .inr (.inr ⟨a, b, .inr rfl, rfl⟩)
end
end Go.Proofs.YtjbgkaleickknaaGreat
