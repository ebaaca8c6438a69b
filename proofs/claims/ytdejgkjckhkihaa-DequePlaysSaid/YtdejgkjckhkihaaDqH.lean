/-
  A deque's plays: which walk a worker begins; what holds at every pick.
-/
import Derived.Test.YtdejgkjckhkihaaDqC
import Derived.Test.YtdejgkjckhkihaaDqQ
import Derived.Test.YtdejgkjckhkihaaDqG
import Derived.Test.YtdejgkjckhkihaaCnt
namespace Go.Proofs.Ytdejgkjckhkihaa
set_option maxRecDepth 100000
set_option linter.unusedSimpArgs false
set_option linter.unusedVariables false
open Go Go.RowKit

/-- Which walk. -/
def bgK (who : Nat) (p : Bool) : Int := if 0 < who then 3 else if p = true then 1 else 2
def bgT (who : Nat) (p : Bool) (v : Int) : Int := if 0 < who then 0 else if p = true then v else 0
theorem begun_any (N who : Nat) (p : Bool) (v : Int) (w : World) (hN : (N : Int) ≤ 1000000) (hv : M.U v) :
    Calls Try.prog 17 #[.agg #[.int .i64 0, .int .i64 (N : Int)], .int .i64 (who : Int), .bool p, .int .u64 v] w fun e w' => ∃ (m : Nat) (S : List Nat), e = .returned (.pointer (some ⟨m, 0, none⟩)) ∧ LoneIO dequeM (dqE m) m w' S (dqNew 0 N (bgK who p) (bgT who p v)) ∧ Keeps [] w w' ∧ ∀ k ∈ S, w.heap.size ≤ k := by
  obtain ⟨W1, hW1⟩ : ∃ W1, w.alloc (.cells #[.int .i64 0, .int .i64 (N : Int)] 24) = W1 := ⟨_, rfl⟩
  have hk1 : Keeps [] w W1 := by rw [← hW1]; exact (Keeps.refl _ _).alloc _
  have hb : Box W1 w.heap.size #[.int .i64 0, .int .i64 (N : Int)] := by rw [← hW1]; exact Box.new _ _ _
  have b0 := hb.cells 0
  have b1 := hb.cells 1
  have HK := Lib.hid hk1
  have HV := Lib.hid hv
  have hsz := hk1.size
  clear hb hk1 hv
  go_enter Try.func17, Try.ntmps17
  by_cases hw : 0 < who
  · have d1 : decide ((0 : Int) < (who : Int)) = true := decide_eq_true (by omega)
    go_wp2_with fail
    clear hW1
    refine (dqSteal_made 0 N W1 (by omega)).mono ?_
    rintro e w3 ⟨m, S, rfl, hI, k3, hS⟩
    have HR : Hid (_ ∧ _ ∧ _) := Lib.hid ⟨hI, HK.out.trans k3, fun x hx => Nat.le_trans hsz (hS x hx)⟩
    clear hI k3 hS
    go_wp2
    go_ret
    refine ⟨m, S, rfl, ?_⟩
    rw [show bgK who p = 3 from if_pos hw, show bgT who p v = 0 from if_pos hw]
    exact HR.out
  · have d1 : decide ((0 : Int) < (who : Int)) = false := decide_eq_false (by omega)
    cases p with
    | true =>
      go_wp2_with fail
      clear hW1
      refine (dqPush_made 0 N v W1 (by omega) HV.out).mono ?_
      rintro e w3 ⟨m, S, rfl, hI, k3, hS⟩
      have HR : Hid (_ ∧ _ ∧ _) := Lib.hid ⟨hI, HK.out.trans k3, fun x hx => Nat.le_trans hsz (hS x hx)⟩
      clear hI k3 hS
      go_wp2
      go_ret
      refine ⟨m, S, rfl, ?_⟩
      rw [show bgK who true = 1 by simp [bgK, hw], show bgT who true v = v by simp [bgT, hw]]
      exact HR.out
    | false =>
      go_wp2_with fail
      clear hW1
      refine (dqPop_made 0 N W1 (by omega)).mono ?_
      rintro e w3 ⟨m, S, rfl, hI, k3, hS⟩
      have HR : Hid (_ ∧ _ ∧ _) := Lib.hid ⟨hI, HK.out.trans k3, fun x hx => Nat.le_trans hsz (hS x hx)⟩
      clear hI k3 hS
      go_wp2
      go_ret
      refine ⟨m, S, rfl, ?_⟩
      rw [show bgK who false = 2 by simp [bgK, hw], show bgT who false v = 0 by simp [bgT, hw]]
      exact HR.out

/-- What holds behind k rounds, of which the first q are free: W workers at a deque of N slots; at most kn pushes were begun. -/
structure DqPlay (N W q : Nat) (fr : Int) (k kn : Nat) (L : LSt) (ss : Nat → Option DqS) (T B : Int) (A cnt : Int → Int) (next stolen : Int) (p : Bool) (lim : Int) (hand : Option Int) : Prop where
  crew : DqCrew N W fr L ss T B A
  play : Play lim hand T B A cnt stolen
  own : PlayR next p (ss 0) lim hand
  thief : ∀ i s, 0 < i → i < W → ss i = some s → s.over = none → s.kind = 3
  steps : ∀ i s, i < W → ss i = some s → s.over = none → 1 ≤ s.step ∧ s.step ≤ 6 ∧ (k : Int) - (q + 20 * i) < s.step
  low : B ≤ k
  nx : 0 ≤ next ∧ next ≤ kn
  st : L.steps ≤ k
section
variable {N W q : Nat} {fr : Int} {k kn : Nat} {L : LSt} {ss : Nat → Option DqS} {T B : Int} {A cnt : Int → Int} {next stolen : Int} {p : Bool} {lim : Int} {hand : Option Int}
theorem DqInv.stepr (h : DqInv N W fr L.us ss T B A) {i : Nat} {s : DqS} (hi : i < W) (hs : ss i = some s) (ho : s.over = none) : 1 ≤ s.step ∧ s.step ≤ 6 := by
  rcases h.wk i s hi hs ho with h | ⟨-, h | h⟩
  · rcases h.st with h | h | h | h <;> omega
  · rcases h.st with h | h | h | h <;> omega
  · rcases h.st with h | h | h | h | h | h <;> omega
theorem DqPlay.lims (h : DqPlay N W q fr k kn L ss T B A cnt next stolen p lim hand) : next - 1 ≤ lim ∧ lim ≤ next := by
  cases hs : ss 0 with
  | none => have := (h.own.idle (by rw [hs]; exact fun s e => by cases e)).1; omega
  | some s =>
    cases ho : s.over with
    | none => rcases h.own.work s hs ho with ⟨-, -, -, e, -⟩ | ⟨-, -, e, -⟩ <;> omega
    | some r => have := (h.own.idle (by rw [hs]; intro u e; cases e; rw [ho]; simp)).1; omega
theorem DqPlay.same (h : DqPlay N W q fr k kn L ss T B A cnt next stolen p lim hand) {L' : LSt} (h1 : L'.ts = L.ts) (h2 : L'.us = L.us) (h3 : L'.steps = L.steps) : DqPlay N W q fr k kn L' ss T B A cnt next stolen p lim hand :=
  ⟨⟨⟨by rw [h1]; exact h.crew.crew.len, by rw [h1]; exact h.crew.crew.th⟩, by rw [h2]; exact h.crew.inv⟩, h.play, h.own, h.thief, h.steps, h.low, h.nx, by rw [h3]; exact h.st⟩
theorem dqNew_over {N : Nat} (h : dqPow N) (kd v : Int) : (dqNew 0 N kd v).over = none := by simp [dqNew, dqRight_pow h]
theorem DqPlay.more (h : DqPlay N W q fr k k L ss T B A cnt next stolen p lim hand) : DqPlay N W q fr k (k + 1) L ss T B A cnt next stolen p lim hand :=
  { h with nx := by have := h.nx; omega }
/-- A round in which nobody does anything. -/
theorem DqPlay.skip (h : DqPlay N W q fr k k L ss T B A cnt next stolen p lim hand) {who : Nat} (hl : q ≤ k) (hwho : who = (k - q) / 20) (hb : atWork dequeM (ss who) = false) : DqPlay N W q fr (k + 1) (k + 1) L ss T B A cnt next stolen p lim hand :=
  ⟨h.crew, h.play, h.own, h.thief, fun i s hi hs ho => by
    obtain ⟨a, b, c⟩ := h.steps i s hi hs ho
    refine ⟨a, b, ?_⟩
    have hne : i ≠ who := fun e => by subst e; exact h.crew.idle hb s hs ho
    omega, by have := h.low; omega, by have := h.nx; omega, by have := h.st; omega⟩
def pxt (who : Nat) (pp p : Bool) : Bool := if who = 0 then pp else p
def nxt (who : Nat) (pp : Bool) (next : Int) : Int := if who = 0 ∧ pp = true then next + 1 else next
/-- A worker begins. -/
theorem DqPlay.start (h : DqPlay N W q fr k k L ss T B A cnt next stolen p lim hand) {who : Nat} (hw : who < W) (hk : k < q) (hb : atWork dequeM (ss who) = false) (m : Nat) (pp : Bool) (hq : q ≤ 1000) :
    ∃ lim' hand', DqPlay N W q fr k (k + 1) { L with ts := L.ts.set who (some ⟨DqS, dequeM, LoneIO dequeM (dqE m) m, m, dqRuns m, dqNew 0 N (bgK who (pxt who pp p)) (bgT who (pxt who pp p) (nxt who pp next))⟩) }
      (updG ss who (some (dqNew 0 N (bgK who (pxt who pp p)) (bgT who (pxt who pp p) (nxt who pp next))))) T B A cnt (nxt who pp next) stolen (pxt who pp p) lim' hand' := by
  have hr := dqRight_pow h.crew.inv.size_
  have hN : ∀ kd v, dqNew 0 N kd v = ⟨0, N, kd, v, 1, 0, 0, 0, false, none⟩ := fun kd v => by simp [dqNew, hr]
  have hnx := h.nx
  have hst : ∀ (kd v : Int) i s, i < W → updG ss who (some (dqNew 0 N kd v)) i = some s → s.over = none → 1 ≤ s.step ∧ s.step ≤ 6 ∧ (k : Int) - (q + 20 * i) < s.step := fun kd v i s hi hs ho => by
    by_cases e : i = who
    · subst e
      rw [updG_same, hN] at hs
      cases hs
      exact ⟨by show (1 : Int) ≤ 1; decide, by show (1 : Int) ≤ 6; decide, by show _ < (1 : Int); omega⟩
    · rw [updG_ne _ _ e] at hs
      exact h.steps i s hi hs ho
  by_cases h0 : who = 0
  · subst h0
    obtain ⟨rfl, rfl⟩ := h.own.idle (h.crew.idle hb)
    have hth : ∀ (kd v : Int) i s, 0 < i → i < W → updG ss 0 (some (dqNew 0 N kd v)) i = some s → s.over = none → s.kind = 3 := fun kd v i s h1 hi hs ho => by
      rw [updG_ne _ _ (by omega)] at hs
      exact h.thief i s h1 hi hs ho
    rw [show pxt 0 pp p = pp from rfl]
    cases pp with
    | true =>
      rw [show nxt 0 true lim = lim + 1 by simp [nxt], show bgK 0 true = 1 from rfl, show bgT 0 true (lim + 1) = lim + 1 from rfl]
      refine ⟨lim, none, h.crew.begin_ hw hb m 1 (lim + 1) (.inr ⟨rfl, .inl ⟨rfl, ⟨by omega, by omega⟩⟩⟩), h.play, ⟨fun hi => absurd rfl (hi _ (by rw [updG_same, hN])), fun s hs ho => ?_⟩, hth _ _, hst _ _, h.low, by omega, h.st⟩
      rw [updG_same, hN] at hs
      cases hs
      exact .inl ⟨rfl, rfl, rfl, by omega, rfl⟩
    | false =>
      rw [show nxt 0 false lim = lim by simp [nxt], show bgK 0 false = 2 from rfl, show bgT 0 false lim = 0 from rfl]
      refine ⟨lim, none, h.crew.begin_ hw hb m 2 0 (.inr ⟨rfl, .inr rfl⟩), h.play, ⟨fun hi => absurd rfl (hi _ (by rw [updG_same, hN])), fun s hs ho => ?_⟩, hth _ _, hst _ _, h.low, by omega, h.st⟩
      rw [updG_same, hN] at hs
      cases hs
      exact .inr ⟨rfl, rfl, rfl, fun hc => absurd hc.1 (by show ¬ ((1 : Int) = 6); decide), fun _ => rfl⟩
  · rw [show pxt who pp p = p from if_neg h0, show nxt who pp next = next from if_neg (fun h => h0 h.1), show bgK who p = 3 from if_pos (by omega), show bgT who p next = 0 from if_pos (by omega)]
    refine ⟨lim, hand, h.crew.begin_ hw hb m 3 0 (.inl rfl), h.play, by rw [updG_ne _ _ (Ne.symm h0)]; exact h.own, fun i s h1 hi hs ho => ?_, hst _ _, h.low, by omega, h.st⟩
    by_cases e : i = who
    · subst e
      rw [updG_same, hN] at hs
      cases hs
      rfl
    · rw [updG_ne _ _ e] at hs
      exact h.thief i s h1 hi hs ho
/-- What a pick leads to. -/
inductive DqOut (who : Nat) (p : Bool) (next stolen : Int) (cnt : Int → Int) (P : (Int → Int) → Int → Prop) (T B : Int) (A : Int → Int) (r : Option Rs) : Prop
  | go : r = none → P cnt stolen → DqOut who p next stolen cnt P T B A r
  | steal (v : Int) : 0 < who → r = some ⟨0, v, []⟩ → 1 ≤ v → v ≤ next → cnt v = 0 → stolen < v → P (updZ cnt v 1) v → DqOut who p next stolen cnt P T B A r
  | nothing (c : Int) : 0 < who → (c = 5 ∨ c = 6) → r = some ⟨c, 0, []⟩ → P cnt stolen → DqOut who p next stolen cnt P T B A r
  | push : who = 0 → p = true → r = some ⟨0, 0, []⟩ → P cnt stolen → DqOut who p next stolen cnt P T B A r
  | full : who = 0 → p = true → r = some ⟨4, 0, []⟩ → 1 ≤ next → cnt next = 0 → P (updZ cnt next 1) stolen → DqOut who p next stolen cnt P T B A r
  | pop (v : Int) : who = 0 → p = false → r = some ⟨0, v, []⟩ → 1 ≤ v → v ≤ next → cnt v = 0 → (∀ x ∈ dqList T B A, x < v) → P (updZ cnt v 1) stolen → DqOut who p next stolen cnt P T B A r
  | empty : who = 0 → p = false → r = some ⟨5, 0, []⟩ → P cnt stolen → DqOut who p next stolen cnt P T B A r
theorem dqList_mem {T B x : Int} {A : Int → Int} (h : x ∈ dqList T B A) : ∃ y, T ≤ y ∧ y < B ∧ A y = x := by
  simp only [dqList, List.mem_map, List.mem_range] at h
  obtain ⟨i, hi, rfl⟩ := h
  exact ⟨T + i, by omega, by omega, rfl⟩
theorem DqPlay.step (h : DqPlay N W q fr k kn L ss T B A cnt next stolen p lim hand) {who : Nat} (hw : who < W) {s : DqS} (hs : ss who = some s) (ho : s.over = none) (hf : k < q ∨ who = (k - q) / 20) (hk : k ≤ 10000) :
    ∃ M s' T' B' A', OneStep who L M ∧ M.mm = L.mm ∧ DqOut who p next stolen cnt (fun cnt' stolen' => ∃ lim' hand', DqPlay N W q fr (k + 1) kn M (updG ss who (some s')) T' B' A' cnt' next stolen' p lim' hand') T' B' A' s'.over := by
  have hB := h.low
  obtain ⟨M, s', T', B', A', hone, hmm, hmb, hcM, hT1, hB1, hev, hkd, htk, hgv⟩ := h.crew.step hw hs ho (by omega)
  have hMs := hone.steps
  have hL := h.lims
  have hst : ∀ i u, i < W → updG ss who (some s') i = some u → u.over = none → 1 ≤ u.step ∧ u.step ≤ 6 ∧ ((k + 1 : Nat) : Int) - (q + 20 * i) < u.step := fun i u hi hu hou => by
    obtain ⟨a, b⟩ := hcM.inv.stepr hi hu hou
    refine ⟨a, b, ?_⟩
    by_cases e : i = who
    · subst e
      rw [updG_same] at hu
      cases hu
      obtain ⟨-, -, c⟩ := h.steps i s hi hs ho
      have := (dqGive_step s _ _ ho (by rw [← hgv]; exact hou)).1
      rw [← hgv] at this
      omega
    · rw [updG_ne _ _ e] at hu
      obtain ⟨x, y, z⟩ := h.steps i u hi hu hou
      rcases hf with hf | hf
      · omega
      · by_cases hq : k < q
        · omega
        · omega
  have hth : (0 < who → s.kind = 3) ∧ ∀ i u, 0 < i → i < W → updG ss who (some s') i = some u → u.over = none → u.kind = 3 := by
    refine ⟨fun h0 => h.thief who s h0 hw hs ho, fun i u h0 hi hu hou => ?_⟩
    by_cases e : i = who
    · subst e
      rw [updG_same] at hu
      cases hu
      rw [hkd]
      exact h.thief i s h0 hi hs ho
    · rw [updG_ne _ _ e] at hu
      exact h.thief i u h0 hi hu hou
  have mk : ∀ {cnt' : Int → Int} {stolen' lim' : Int} {hand' : Option Int}, Play lim' hand' T' B' A' cnt' stolen' → PlayR next p (updG ss who (some s') 0) lim' hand' → DqPlay N W q fr (k + 1) kn M (updG ss who (some s')) T' B' A' cnt' next stolen' p lim' hand' := fun h1 h2 =>
    ⟨hcM, h1, h2, hth.2, hst, by omega, h.nx, by have := h.st; omega⟩
  refine ⟨M, s', T', B', A', hone, hmm, ?_⟩
  rcases Nat.eq_zero_or_pos who with rfl | h0
  · -- the owner
    have hov : ∀ {l : Int} (_ : s'.over ≠ none), next = l → PlayR next p (updG ss 0 (some s') 0) l none := fun hn e => by rw [updG_same, ← e]; exact PlayR.over p hn
    rcases h.own.work s hs ho with ⟨hp, hk1, htask, hlim, hhand⟩ | ⟨hp, hk2, hlim, hh1, hh2⟩
    · subst hhand
      have hpl := h.play
      have hlim1 : lim + 1 = next := by omega
      have hin : 0 ≤ lim := by have := hpl.st; omega
      cases hev with
      | go e0 e1 e2 e3 e4 e5 =>
        subst e1 e2 e3
        exact .go e0 ⟨lim, none, mk hpl (by rw [updG_same]; exact ⟨fun hi => absurd e0 (hi _ rfl), fun u hu hou => by cases hu; exact .inl ⟨hp, by omega, by omega, hlim, rfl⟩⟩)⟩
      | push _ e0 e1 e2 e3 =>
        subst e1 e2 e3
        have := hpl.push h.crew.inv.range.2.1
        rw [hlim1, ← htask] at this
        exact .push rfl hp e0 ⟨s.task, none, mk this (hov (by rw [e0]; simp) htask.symm)⟩
      | full _ e0 e1 e2 e3 _ =>
        subst e1 e2 e3
        have := hpl.full hin
        rw [hlim1] at this
        exact .full rfl hp e0 (by omega) (hpl.none_ _ (by omega)) ⟨next, none, mk this (hov (by rw [e0]; simp) rfl)⟩
      | lost e _ _ _ _ _ _ _ => omega
      | pop e _ _ _ _ _ _ => omega
      | take e _ _ _ _ _ _ _ _ => omega
      | took e _ _ _ _ _ _ _ => omega
      | empty e _ _ _ _ _ _ => omega
      | steal e _ _ _ _ _ => omega
      | none_ e _ _ _ _ _ => omega
      | abort e _ _ _ _ => omega
    · have hpl := h.play
      have hk2' : s'.kind = 2 := by omega
      have hstep : s'.over = none → s'.step = s.step + 1 := fun e => by
        have := (dqGive_step s _ _ ho (by rw [← hgv]; exact e)).1
        rw [← hgv] at this
        exact this
      cases hev with
      | go e0 e1 e2 e3 e4 e5 =>
        subst e1 e2 e3
        have e6 := hstep e0
        have e7 := e5 hk2
        obtain rfl := hh2 (fun hc => by omega)
        exact .go e0 ⟨lim, none, mk hpl (by rw [updG_same]; exact ⟨fun hi => absurd e0 (hi _ rfl), fun u hu hou => by cases hu; exact .inr ⟨hp, hk2', hlim, fun hc => absurd hc.1 (by omega), fun _ => rfl⟩⟩)⟩
      | lost _ e5 e0 e4 e6 e1 e2 e3 =>
        subst e1 e2 e3
        obtain rfl := hh2 (fun hc => by omega)
        exact .go e0 ⟨lim, none, mk hpl (by rw [updG_same]; exact ⟨fun hi => absurd e0 (hi _ rfl), fun u hu hou => by cases hu; exact .inr ⟨hp, hk2', hlim, fun hc => absurd hc.2 (by rw [e4]; decide), fun _ => rfl⟩⟩)⟩
      | take _ e5 e0 e4 e6 e7 e1 e2 e3 =>
        subst e1 e2 e3
        obtain rfl := hh2 (fun hc => by omega)
        have e8 := hstep e0
        have := hpl.take e7
        exact .go e0 ⟨lim, some (A' T), mk this (by rw [updG_same]; exact ⟨fun hi => absurd e0 (hi _ rfl), fun u hu hou => by cases hu; exact .inr ⟨hp, hk2', hlim, fun _ => by rw [e6], fun hc => absurd ⟨by omega, e4⟩ hc⟩⟩)⟩
      | pop _ e5 e6 e0 e1 e2 e3 =>
        subst e1 e2 e3
        obtain rfl := hh2 (fun hc => by omega)
        obtain ⟨m1, m2, m3, m4, m5⟩ := hpl.mem (B - 1) e6 (by omega)
        refine .pop _ rfl hp e0 m1 (by omega) m3 (fun x hx => ?_) ⟨lim, none, mk (hpl.pop e6) (hov (by rw [e0]; simp) hlim.symm)⟩
        obtain ⟨y, y1, y2, rfl⟩ := dqList_mem hx
        exact hpl.rise y (B - 1) y1 y2 (by omega)
      | took _ e5 e6 e7 e0 e1 e2 e3 =>
        subst e1 e2 e3
        obtain rfl := hh1 ⟨e5, e6⟩
        obtain ⟨m1, m2, m3⟩ := hpl.held _ rfl
        refine .pop _ rfl hp e0 m1 (by omega) m3 (fun x hx => ?_) ⟨lim, none, mk (hpl.took e7) (hov (by rw [e0]; simp) hlim.symm)⟩
        obtain ⟨y, y1, y2, rfl⟩ := dqList_mem hx
        omega
      | empty _ e5 _ e0 e1 e2 e3 =>
        subst e1 e2 e3
        obtain rfl := hh2 e5
        exact .empty rfl hp e0 ⟨lim, none, mk hpl (hov (by rw [e0]; simp) hlim.symm)⟩
      | push e _ _ _ _ => omega
      | full e _ _ _ _ _ => omega
      | steal e _ _ _ _ _ => omega
      | none_ e _ _ _ _ _ => omega
      | abort e _ _ _ _ => omega
  · -- a thief
    have hk3 := hth.1 h0
    have hpl := h.play
    have hown : PlayR next p (updG ss who (some s') 0) lim hand := by rw [updG_ne _ _ (by omega)]; exact h.own
    cases hev with
    | go e0 e1 e2 e3 e4 e5 =>
      subst e1 e2 e3
      exact .go e0 ⟨lim, hand, mk hpl hown⟩
    | steal _ e5 e0 e1 e2 e3 =>
      subst e1 e2 e3
      obtain ⟨m1, m2, m3, m4, m5⟩ := hpl.mem T (Int.le_refl _) e5
      exact .steal _ h0 e0 m1 (by omega) m3 m4 ⟨lim, hand, mk (hpl.steal e5) hown⟩
    | none_ _ _ e0 e1 e2 e3 =>
      subst e1 e2 e3
      exact .nothing 5 h0 (.inl rfl) e0 ⟨lim, hand, mk hpl hown⟩
    | abort _ e0 e1 e2 e3 =>
      subst e1 e2 e3
      exact .nothing 6 h0 (.inr rfl) e0 ⟨lim, hand, mk hpl hown⟩
    | push e _ _ _ _ => omega
    | full e _ _ _ _ _ => omega
    | lost e _ _ _ _ _ _ _ => omega
    | pop e _ _ _ _ _ _ => omega
    | take e _ _ _ _ _ _ _ _ => omega
    | took e _ _ _ _ _ _ _ => omega
    | empty e _ _ _ _ _ _ => omega
end
/-- When nobody is at work: what came out, and what is in it. -/
structure DqEnd (xs : List Int) (cnt : Int → Int) (next : Int) : Prop where
  up : ∀ i j, i < j → j < xs.length → xs.getD i 0 < xs.getD j 0
  one : ∀ j, j < xs.length → 1 ≤ xs.getD j 0 ∧ xs.getD j 0 ≤ next ∧ cnt (xs.getD j 0) = 0
  all : ∀ v, 1 ≤ v → v ≤ next → cnt v = 1 ∨ v ∈ xs
def dqAft (xs : List Int) (cnt : Int → Int) (j : Nat) : Int → Int := fun v => if v ∈ xs.take j then 1 else cnt v
def dqPrev (xs : List Int) (j : Nat) : Int := if j = 0 then 0 else xs.getD (j - 1) 0
theorem dqAft_zero (xs : List Int) (cnt : Int → Int) : dqAft xs cnt 0 = cnt := by funext v; simp [dqAft]
theorem mem_take_getD {xs : List Int} {n : Nat} {v : Int} (h : v ∈ xs.take n) : ∃ i, i < n ∧ i < xs.length ∧ xs.getD i 0 = v := by
  obtain ⟨i, hi, rfl⟩ := List.mem_iff_getElem.1 h
  have h2 := hi
  rw [List.length_take] at h2
  refine ⟨i, by omega, by omega, ?_⟩
  rw [List.getElem_take, List.getD, List.getElem?_eq_getElem (by omega)]
  rfl
theorem getD_mem_take {xs : List Int} {i n : Nat} (h : i < n) (hi : i < xs.length) : xs.getD i 0 ∈ xs.take n := by
  refine List.mem_iff_getElem.2 ⟨i, by rw [List.length_take]; omega, ?_⟩
  rw [List.getElem_take, List.getD, List.getElem?_eq_getElem hi]
  rfl
section
variable {xs : List Int} {cnt : Int → Int} {next : Int}
theorem DqEnd.look (h : DqEnd xs cnt next) {j : Nat} (hj : j < xs.length) : dqAft xs cnt j (xs.getD j 0) = 0 := by
  unfold dqAft
  rw [if_neg]
  · exact (h.one j hj).2.2
  · intro hm
    obtain ⟨i, h1, h2, h3⟩ := mem_take_getD hm
    have := h.up i j h1 hj
    omega
theorem DqEnd.next_ (_h : DqEnd xs cnt next) {j : Nat} (hj : j < xs.length) : updZ (dqAft xs cnt j) (xs.getD j 0) 1 = dqAft xs cnt (j + 1) := by
  funext v
  unfold updZ dqAft
  by_cases e : v = xs.getD j 0
  · rw [if_pos e, if_pos (by rw [e]; exact getD_mem_take (by omega) hj)]
  · rw [if_neg e]
    have : v ∈ xs.take (j + 1) ↔ v ∈ xs.take j := by
      constructor
      · intro hm
        obtain ⟨i, h1, h2, h3⟩ := mem_take_getD hm
        have hne : i ≠ j := fun he => e (by rw [← h3, he])
        rw [← h3]
        exact getD_mem_take (by omega) h2
      · intro hm
        obtain ⟨i, h1, h2, h3⟩ := mem_take_getD hm
        rw [← h3]
        exact getD_mem_take (by omega) h2
    by_cases hm : v ∈ xs.take j
    · rw [if_pos hm, if_pos (this.2 hm)]
    · rw [if_neg hm, if_neg (fun h => hm (this.1 h))]
theorem DqEnd.fin (h : DqEnd xs cnt next) {v : Int} (h1 : 1 ≤ v) (h2 : v ≤ next) : dqAft xs cnt xs.length v = 1 := by
  unfold dqAft
  rw [List.take_length]
  rcases h.all v h1 h2 with h3 | h3
  · split
    · rfl
    · exact h3
  · rw [if_pos h3]
theorem DqEnd.prev (h : DqEnd xs cnt next) {j : Nat} (hj : j < xs.length) : dqPrev xs j < xs.getD j 0 := by
  unfold dqPrev
  by_cases e : j = 0
  · rw [if_pos e]; have := (h.one j hj).1; omega
  · rw [if_neg e]; exact h.up (j - 1) j (by omega) hj
theorem dqPrev_succ (xs : List Int) (j : Nat) : dqPrev xs (j + 1) = xs.getD j 0 := by simp [dqPrev]
end
theorem DqPlay.done {N W q : Nat} {fr : Int} {k kn : Nat} {L : LSt} {ss : Nat → Option DqS} {T B : Int} {A cnt : Int → Int} {next stolen : Int} {p : Bool} {lim : Int} {hand : Option Int}
    (h : DqPlay N W q fr k kn L ss T B A cnt next stolen p lim hand) (hW : 0 < W) (hk : k = q + 20 * W) : ¬ dqLow (ss 0) ∧ DqEnd (dqList T B A) cnt next := by
  have hidle : ∀ s, ss 0 = some s → s.over ≠ none := fun s hs ho => by
    have := h.steps 0 s hW hs ho
    omega
  obtain ⟨e1, e2⟩ := h.own.idle hidle
  have hpl := h.play
  have hlen : (dqList T B A).length = (B - T).toNat := by simp [dqList]
  have hget : ∀ j, j < (dqList T B A).length → (dqList T B A).getD j 0 = A (T + (j : Int)) := fun j hj => by
    rw [hlen] at hj
    simp [dqList, List.getD, hj]
  refine ⟨fun ⟨s, hs, ho, _⟩ => hidle s hs ho, fun i j hij hj => ?_, fun j hj => ?_, fun v h1 h2 => ?_⟩
  · rw [hget j hj, hget i (by omega)]
    exact hpl.rise _ _ (by omega) (by omega) (by rw [hlen] at hj; omega)
  · rw [hget j hj]
    obtain ⟨a, b, c, -⟩ := hpl.mem (T + (j : Int)) (by omega) (by rw [hlen] at hj; omega)
    exact ⟨a, by omega, c⟩
  · rcases hpl.once v h1 (by omega) with a | ⟨x, a, b, c⟩ | a
    · exact .inl a
    · right
      simp only [dqList, List.mem_map, List.mem_range]
      exact ⟨(x - T).toNat, by omega, by rw [← c]; congr 1; omega⟩
    · rw [e2] at a; cases a
end Go.Proofs.Ytdejgkjckhkihaa
