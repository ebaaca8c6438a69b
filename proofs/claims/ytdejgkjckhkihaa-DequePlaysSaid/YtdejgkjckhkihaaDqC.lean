/-
  Workers at a deque, at a loom: how it begins, how it goes on, what is in it when nobody is at work.
-/
import Derived.Test.YtdejgkjckhkihaaCrew
import Derived.Test.YtdejgkjckhkihaaDqI
import Derived.Test.YtdejgkjckhkihaaDqS
import Derived.Test.YtdejgkjckhkihaaDqP
namespace Go.Proofs.Ytdejgkjckhkihaa
set_option maxRecDepth 100000
set_option linter.unusedSimpArgs false
set_option linter.unusedVariables false
open Go

section
variable {size W : Nat} {fr : Int} {us : List Int} {ss : Nat → Option DqS} {T B : Int} {A : Int → Int}
/-- A new walk of one who isn't at work. -/
theorem DqInv.begin_ (h : DqInv size W fr us ss T B A) {i : Nat} (hi : i < W) (hidle : ∀ s, ss i = some s → s.over ≠ none) {s' : DqS} (ho : s'.over = none) (h1 : s'.step = 1) (h0 : s'.at_ = 0) (hz : s'.size = size)
    (hk : s'.kind = 3 ∨ i = 0 ∧ (s'.kind = 1 ∧ M.U s'.task ∨ s'.kind = 2)) : DqInv size W fr us (updG ss i (some s')) T B A := by
  have hl : dqLow (updG ss i (some s') 0) ↔ dqLow (ss 0) := by
    by_cases e : (0 : Nat) = i
    · subst e
      rw [updG_same]
      constructor
      · rintro ⟨u, hu, -, -, h3⟩; cases hu; omega
      · rintro ⟨u, hu, h2, -⟩; exact absurd h2 (hidle u hu)
    · rw [updG_ne _ _ e]
  refine h.upd hi rfl h.top h.range h.slots h.tasks (fun h' => h.low (hl.1 h')) (fun h' => h.high fun e => h' (hl.2 e)) (fun _ => ?_) (fun _ _ _ _ _ _ h => h) (fun _ _ _ _ _ h => h) (fun u _ _ _ _ hq => hq.imp fun hn => hn.upd fun _ _ h3 => by omega)
  rcases hk with h3 | ⟨rfl, ⟨h3, h4⟩ | h3⟩
  · exact .inl ⟨h0, hz, h3, .inl h1, fun h => absurd h1 h⟩
  · exact .inr ⟨rfl, .inl ⟨h0, hz, h3, h4, .inl h1, fun h => absurd h1 h, fun h => by omega, fun h => by omega⟩⟩
  · exact .inr ⟨rfl, .inr ⟨h0, hz, h3, .inl h1, fun h => absurd h1 h, fun h => by omega, fun h => by omega, fun h => by omega⟩⟩
/-- What is in it, while no pop has lowered it. -/
def dqList (T B : Int) (A : Int → Int) : List Int := (List.range (B - T).toNat).map fun i : Nat => A (T + (i : Int))
theorem DqInv.list (h : DqInv size W fr us ss T B A) (hl : ¬ dqLow (ss 0)) : DqL size fr T us (dqList T B A) := by
  obtain ⟨r1, r2, r3, r4⟩ := h.range
  have hlen : (dqList T B A).length = (B - T).toNat := by simp [dqList]
  refine ⟨h.size_, h.len, h.top, ?_, by rw [hlen]; omega, r1, fun i hi => ?_, fun x hx => ?_⟩
  · rw [h.high hl, hlen]; congr 1; omega
  · rw [hlen] at hi
    rw [h.slots _ (by omega) (by omega)]
    simp [dqList, List.getD, hi]
  · simp only [dqList, List.mem_map] at hx
    obtain ⟨i, -, rfl⟩ := hx
    exact h.tasks _
/-- A steal that tells Empty, while no pop has lowered it. -/
theorem DqInv.empty_ (h : DqInv size W fr us ss T B A) {s : DqS} (hk : DqT size fr T B A s) (hl : ¬ dqLow (ss 0)) (hov : s.over = none) (ho : (dqGive s (C.told us (dqWant s)) (C.won us (dqWant s))).over = some ⟨5, 0, []⟩) : T = B := by
  have hs3 := hk.kind
  have nk1 : ¬ s.kind = 1 := by omega
  have nk2 : ¬ s.kind = 2 := by omega
  have hlen := h.len
  obtain ⟨r1, r2, r3, r4⟩ := h.range
  rcases hk.st with h1 | h1 | h1 | h1
  · unfold dqGive at ho
    rw [if_neg nk1, if_neg nk2, if_pos h1] at ho
    simp [hov] at ho
  · obtain ⟨x, x1, x2, x3, -⟩ := hk.top (by omega)
    have l0 := C.load_at us 1 (by omega) 0 0
    have hw : dqWant s = ⟨1, ((1 : Nat) : Int), 0, 0⟩ := by simp [dqWant, hs3, h1, hk.at0]
    have ha : dqAhead (dqU fr B) s.t = B - x := by rw [x3]; exact dqAhead_U fr B x (by omega) (by omega)
    rw [hw, l0.2.2, h.high hl] at ho
    unfold dqGive at ho
    rw [if_neg nk1, if_neg nk2, if_neg (by omega), if_pos h1, ha] at ho
    by_cases hlt : B - x < 1
    · omega
    · rw [if_neg hlt] at ho; simp [hov] at ho
  · unfold dqGive at ho
    rw [if_neg nk1, if_neg nk2, if_neg (by omega), if_neg (by omega), if_pos h1] at ho
    simp [hov] at ho
  · unfold dqGive at ho
    rw [if_neg nk1, if_neg nk2, if_neg (by omega), if_neg (by omega), if_neg (by omega)] at ho
    cases hw : C.won us (dqWant s) <;> simp [hw] at ho
end

/-- Workers at a deque. -/
structure DqCrew (size W : Nat) (fr : Int) (L : LSt) (ss : Nat → Option DqS) (T B : Int) (A : Int → Int) : Prop where
  crew : Crew dequeM (fun m => LoneIO dequeM (dqE m) m) dqRuns W L ss
  inv : DqInv size W fr L.us ss T B A
theorem dequeM_want {s : DqS} (ho : s.over = none) : dequeM.want s = some (dqWant s) := by simp [dequeM, ho]
theorem dequeM_give {s : DqS} (v : Int) (won : Bool) (ho : s.over = none) : dequeM.give s v won = dqGive s v won := by simp [dequeM, ho]
theorem DqCrew.work {size W : Nat} {fr : Int} {L : LSt} {ss : Nat → Option DqS} {T B : Int} {A : Int → Int} (_h : DqCrew size W fr L ss T B A) {i : Nat} (hb : atWork dequeM (ss i) = true) : ∃ s, ss i = some s ∧ s.over = none := by
  cases hs : ss i with
  | none => rw [hs] at hb; cases hb
  | some s =>
    rw [hs] at hb
    refine ⟨s, rfl, ?_⟩
    cases ho : s.over with
    | none => rfl
    | some r => simp [atWork, dequeM, ho] at hb
theorem DqCrew.idle {size W : Nat} {fr : Int} {L : LSt} {ss : Nat → Option DqS} {T B : Int} {A : Int → Int} (_h : DqCrew size W fr L ss T B A) {i : Nat} (hb : atWork dequeM (ss i) = false) : ∀ s, ss i = some s → s.over ≠ none := by
  intro s hs ho
  rw [hs] at hb
  simp [atWork, dequeM, ho] at hb
theorem DqCrew.begin_ {size W : Nat} {fr : Int} {L : LSt} {ss : Nat → Option DqS} {T B : Int} {A : Int → Int} (h : DqCrew size W fr L ss T B A) {i : Nat} (hi : i < W) (hb : atWork dequeM (ss i) = false) (m : Nat) (kind v : Int)
    (hk : kind = 3 ∨ i = 0 ∧ (kind = 1 ∧ M.U v ∨ kind = 2)) : DqCrew size W fr { L with ts := L.ts.set i (some ⟨DqS, dequeM, LoneIO dequeM (dqE m) m, m, dqRuns m, dqNew 0 size kind v⟩) } (updG ss i (some (dqNew 0 size kind v))) T B A := by
  have hr := dqRight_pow h.inv.size_
  exact ⟨h.crew.start hi m _, h.inv.begin_ hi (h.idle hb) (by simp [dqNew, hr]) rfl rfl rfl hk⟩
theorem DqCrew.step {size W : Nat} {fr : Int} {L : LSt} {ss : Nat → Option DqS} {T B : Int} {A : Int → Int} (h : DqCrew size W fr L ss T B A) {i : Nat} (hi : i < W) {s : DqS} (hs : ss i = some s) (ho : s.over = none) (hB : B < 1000000) :
    ∃ M s' T' B' A', OneStep i L M ∧ M.mm = L.mm ∧ M.b = L.b ∧ DqCrew size W fr M (updG ss i (some s')) T' B' A' ∧ T' ≤ T + 1 ∧ B' ≤ B + 1 ∧ DqEv s s' T B T' B' A A' ∧ s'.kind = s.kind ∧ s'.task = s.task ∧ s' = dqGive s (C.told L.us (dqWant s)) (C.won L.us (dqWant s)) := by
  obtain ⟨h1, h2, h3, s', T', B', A', h4, h5, h6, h7, h8, h9, h10⟩ := h.inv.step hi hs ho hB
  obtain ⟨M, m1, m2, m3, m4, m5⟩ := h.crew.step hi hs (dequeM_want ho) h1 h2 h3
  rw [dequeM_give _ _ ho, h4] at m2
  exact ⟨M, s', T', B', A', m1, m4, m5, ⟨m2, by rw [m3]; exact h7⟩, h5, h6, h8, h9, h10, h4.symm⟩
end Go.Proofs.Ytdejgkjckhkihaa
