/-
  Contracts: an arena's Take and Put go as their machine.
-/
import Derived.Test.YtoomefclbemnlaaGreatArL
import Derived.Test.YtoomefclbemnlaaGreatArW
namespace Go.Proofs.YtoomefclbemnlaaGreat
set_option maxRecDepth 100000
set_option linter.unusedSimpArgs false
set_option linter.unusedVariables false
open Go.ChangeShapes Go.WideShapes Go.ChangeAt Go.RowKit

def arOk (s : ArS) : Prop := arRight s.at_ s.n ∧ (s.puts = true → 1 ≤ s.node ∧ s.node ≤ s.n) ∧ (s.step = 1 ∨ s.step = 2 ∨ s.step = 3) ∧ M.U s.h ∧ M.U s.link ∧ (s.step ≠ 1 → s.puts = false → 1 ≤ s.h % 4294967296 ∧ s.h % 4294967296 ≤ s.n)
def arFn (s : ArS) : FuncId := if s.step = 1 then 146 else if s.step = 2 then (if s.puts then 168 else 145) else 167
def arLook (s : ArS) : FuncId := if s.puts then 165 else 116
def arTy (s : ArS) : TypeId := if s.puts then 157 else 137
def arRest (s : ArS) : List Value := if s.puts then [.int .i64 s.node] else []
/-- What a walk of an arena knows, while it has not ended. -/
def arE (m : Nat) (w : World) (T : List Nat) (nx : Value) (s : ArS) : Prop :=
  s.over = none → arOk s ∧ ∃ p h v, p ∈ T ∧ nx = .func (.func (arFn s)) #[.pointer (some ⟨p, 0, none⟩)] #[] ∧
    Row w p (arTy s) (tnCells m s.at_ s.n h (.func (.func (arLook s)) #[.pointer (some ⟨p, 0, none⟩)] #[]) v (arRest s)) ∧ (s.step ≠ 1 → h = s.h ∧ (s.puts = false → v = s.h % 4294967296)) ∧ (s.puts = true → v = 0)
theorem arE_keeps (m : Nat) : ∀ w w' T A nx s, arE m w T nx s → Keeps A w w' → (∀ k ∈ T, k ∉ A) → arE m w' T nx s := by
  intro w w' T A nx s h hk hT hg
  obtain ⟨h0, p, hh, v, h1, h2, h3, h4⟩ := h hg
  exact ⟨h0, p, hh, v, h1, h2, h3.keeps hk (hT p h1), h4⟩

/-- What is done with each head that is told. -/
theorem look_goes (m p : Nat) (s : ArS) (hv v : Int) (T : List Nat) (st : WSt) (w : World) (hw : Wk w m st) (ho : st.over = false) (hs : st.sub = none) (hu : st.under = 1) (hpT : p ∈ T) (hT : ∀ k ∈ T, k < w.heap.size ∧ k ≠ m)
    (hov : s.over = none) (hok : arOk s) (hU : M.U hv) (hp : Row w p (arTy s) (tnCells m s.at_ s.n hv (.func (.func (arLook s)) #[.pointer (some ⟨p, 0, none⟩)] #[]) v (arRest s))) (hv0 : s.puts = true → v = 0) :
    Calls Tryz.prog (arLook s) #[.pointer (some ⟨p, 0, none⟩)] w fun e w' => e = .returned (.tuple #[]) ∧ Goes arenaM (arE m) m st T (arHead s hv) w w' := by
  obtain ⟨at_, n, puts, node, step, h, link, over⟩ := s
  obtain ⟨hr, hn, -, -, hlk, -⟩ := hok
  simp only at hr hn hlk hov hv0
  subst hov
  have hpm := (hT p hpT).2
  have hTm : ∀ k ∈ T, k ∉ [m] := fun k hk h => by simp at h; exact (hT k hk).2 h
  cases puts with
  | true =>
    obtain rfl : v = 0 := hv0 rfl
    have hH : arHead ⟨at_, n, true, node, step, h, link, none⟩ hv = ⟨at_, n, true, node, 2, hv, link, none⟩ := by simp [arHead]
    rw [hH]
    obtain ⟨n1, n2⟩ := hn rfl
    refine (lay_any m p at_ n hv node _ 0 _ st w hw hp ho hs hU hr n1 n2).mono ?_
    rintro e w2 ⟨rfl, h2, k2⟩
    refine ⟨rfl, k2.mono (by simp), .inl ⟨_, _, _, _, T, by simp [arenaM, arWant], rfl, h2, ?_, fun k hk => Nat.lt_of_lt_of_le (hT k hk).1 k2.size, fun k hk => ⟨(hT k hk).2, .inl hk⟩⟩⟩
    intro _
    exact ⟨⟨hr, fun _ => ⟨n1, n2⟩, .inr (.inl rfl), hU, hlk, fun _ h => (by cases h)⟩, p, hv, 0, hpT, by simp [arFn], hp.keeps k2 (hTm p hpT), fun _ => ⟨rfl, fun h => (by cases h)⟩, fun _ => rfl⟩
  | false =>
    by_cases hz : hv % 4294967296 = 0
    · have hH : arHead ⟨at_, n, false, node, step, h, link, none⟩ hv = ⟨at_, n, false, node, 2, hv, link, some ⟨7, 0, []⟩⟩ := by simp [arHead, hz]
      rw [hH]
      refine (follow_none m p at_ n hv _ v _ _ st w hw hp ho (by omega) hU hz).mono ?_
      rintro e w2 ⟨rfl, l', h2, o2, k2⟩
      refine ⟨rfl, k2.mono (by simp), .inr ⟨7, 0, [], l', by simp [arenaM], rfl, by simp, ?_, o2⟩⟩
      rw [← hs]; exact h2
    · by_cases hb : n < hv % 4294967296
      · have hH : arHead ⟨at_, n, false, node, step, h, link, none⟩ hv = ⟨at_, n, false, node, 2, hv, link, some ⟨9, 0, []⟩⟩ := by simp [arHead, hz, hb]
        rw [hH]
        refine (follow_bad m p at_ n hv _ v _ _ st w hw hp ho (by omega) hU hr.1 hb).mono ?_
        rintro e w2 ⟨rfl, l', h2, o2, k2⟩
        refine ⟨rfl, k2.mono (by simp), .inr ⟨9, 0, [], l', by simp [arenaM], rfl, by simp, ?_, o2⟩⟩
        rw [← hs]; exact h2
      · have hH : arHead ⟨at_, n, false, node, step, h, link, none⟩ hv = ⟨at_, n, false, node, 2, hv, link, none⟩ := by simp [arHead, hz, hb]
        rw [hH]
        have h1 : 1 ≤ hv % 4294967296 := by omega
        have h2 : hv % 4294967296 ≤ n := by omega
        refine (follow_good m p at_ n hv _ v _ _ st w hw hp hpm ho hs hU hr h1 h2).mono ?_
        rintro e w2 ⟨rfl, h3, h4, k2⟩
        refine ⟨rfl, k2.mono (by intro k hk _; simp at hk; rcases hk with rfl | rfl; simp; simp [hpT]), .inl ⟨_, _, _, _, T, by simp [arenaM, arWant], rfl, h3, ?_, fun k hk => Nat.lt_of_lt_of_le (hT k hk).1 k2.size, fun k hk => ⟨(hT k hk).2, .inl hk⟩⟩⟩
        intro _
        exact ⟨⟨hr, fun h => (by cases h), .inr (.inl rfl), hU, hlk, fun _ _ => ⟨h1, h2⟩⟩, p, hv, _, hpT, by simp [arFn], h4, fun _ => ⟨rfl, fun _ => rfl⟩, fun h => (by cases h)⟩

theorem read_goes (m p : Nat) (s : ArS) (h0 hv v : Int) (won : Bool) (T : List Nat) (st : WSt) (w : World) (hw : Wk w m st) (ho : st.over = false) (hs : st.sub = none) (hu : st.under = 1) (hpT : p ∈ T) (hT : ∀ k ∈ T, k < w.heap.size ∧ k ≠ m)
    (hov : s.over = none) (hok : arOk s) (hU : M.U hv) (hp : Row w p (arTy s) (tnCells m s.at_ s.n h0 (.func (.func (arLook s)) #[.pointer (some ⟨p, 0, none⟩)] #[]) v (arRest s))) (hv0 : s.puts = true → v = 0) :
    Calls Tryz.prog 146 #[.pointer (some ⟨p, 0, none⟩), .int .u64 hv, .bool won] w fun e w' => e = .returned (.tuple #[]) ∧ Goes arenaM (arE m) m st T (arHead s hv) w w' := by
  refine read_any (arLook s) m p s.at_ s.n h0 hv won v (arRest s) (arTy s) w _ hp (by unfold arLook; split <;> exact fun _ _ => by kernel_rfl) fun w1 h1 k1 => ?_
  have hpm := (hT p hpT).2
  refine (look_goes m p s hv v T st w1 (hw.keeps k1 (by simpa using Ne.symm hpm)) ho hs hu hpT (fun k hk => ⟨Nat.lt_of_lt_of_le (hT k hk).1 k1.size, (hT k hk).2⟩) hov hok hU h1 hv0).mono ?_
  rintro e w2 ⟨rfl, hg⟩
  exact ⟨rfl, hg.from (k1.mono (by intro k hk _; simp at hk; subst hk; simp [hpT]))⟩

theorem arSteps (m : Nat) : ∀ w T F fi ca s st v won x, Wk w m st → st.over = false → st.sub = none → st.under = 1 → (∀ k ∈ T, k < w.heap.size ∧ k ≠ m) → arE m w T (.func (.func F) fi ca) s → M.U v → arenaM.want s = some x →
      Calls Tryz.prog F (fi ++ (#[.int .u64 v, .bool won] ++ ca)) w fun e w' => e = .returned (.tuple #[]) ∧ Goes arenaM (arE m) m st T (arenaM.give s v won) w w' := by
  intro w T F fi ca s st v won x hw ho hs hu hT hE hv hx
  have hov : s.over = none := by
    cases h : s.over with
    | none => rfl
    | some r => simp [arenaM, h] at hx
  obtain ⟨hok, p, h, r, hpT, hn, hp, hh, hr0⟩ := hE hov
  injection hn with e1 e2 e3
  injection e1 with e1
  subst e1 e2 e3
  have hgv : arenaM.give s v won = arGive s v won := arTake_give s hov v won
  rw [hgv]
  have hpm := (hT p hpT).2
  have hTm : ∀ k ∈ T, k ∉ [m] := fun k hk h => by simp at h; exact (hT k hk).2 h
  rcases hok.2.2.1 with h1 | h2 | h3
  · have hF : arFn s = 146 := by simp [arFn, h1]
    rw [hF, show arGive s v won = arHead s v by simp [arGive, h1]]
    exact read_goes m p s h v r won T st w hw ho hs hu hpT hT hov hok hv hp hr0
  · have hne : s.step ≠ 1 := by omega
    obtain ⟨rfl, hrr⟩ := hh hne
    obtain ⟨at_, n, puts, node, step, h, link, over⟩ := s
    simp only at h2 hov hr0 hrr
    subst h2 hov
    obtain ⟨hr, hn, -, hU, hlk, hlo⟩ := hok
    simp only at hr hn hU hlk hlo
    have hG : arGive ⟨at_, n, puts, node, 2, h, link, none⟩ v won = ⟨at_, n, puts, node, 3, h, v, none⟩ := by simp [arGive]
    rw [hG]
    cases puts with
    | true =>
      obtain ⟨n1, n2⟩ := hn rfl
      obtain rfl : r = 0 := hr0 rfl
      refine (laid_any m p at_ n h node v won _ 0 _ st w hw hp ho hs hU n1 (by have := hr.2.1; omega)).mono ?_
      rintro e w2 ⟨rfl, h2, k2⟩
      refine ⟨rfl, k2.mono (by simp), .inl ⟨_, _, _, _, T, by simp [arenaM, arWant], rfl, h2, ?_, fun k hk => Nat.lt_of_lt_of_le (hT k hk).1 k2.size, fun k hk => ⟨(hT k hk).2, .inl hk⟩⟩⟩
      intro _
      exact ⟨⟨hr, fun _ => ⟨n1, n2⟩, .inr (.inr rfl), hU, hv, fun _ h => (by cases h)⟩, p, h, 0, hpT, by simp [arFn], hp.keeps k2 (hTm p hpT), fun _ => ⟨rfl, fun h => (by cases h)⟩, fun _ => rfl⟩
    | false =>
      obtain rfl := hrr rfl
      refine (linked_any m p at_ n h v won _ _ _ _ st w hw hp ho hs hU hv).mono ?_
      rintro e w2 ⟨rfl, h2, k2⟩
      refine ⟨rfl, k2.mono (by simp), .inl ⟨_, _, _, _, T, by simp [arenaM, arWant], rfl, h2, ?_, fun k hk => Nat.lt_of_lt_of_le (hT k hk).1 k2.size, fun k hk => ⟨(hT k hk).2, .inl hk⟩⟩⟩
      intro _
      exact ⟨⟨hr, fun h => (by cases h), .inr (.inr rfl), hU, hv, fun _ _ => hlo (by decide) rfl⟩, p, h, _, hpT, by simp [arFn], hp.keeps k2 (hTm p hpT), fun _ => ⟨rfl, fun _ => rfl⟩, fun h => (by cases h)⟩
  · have hF : arFn s = 167 := by simp [arFn, h3]
    rw [hF]
    cases won with
    | false =>
      rw [show arGive s v false = arHead s v by simp [arGive, h3]]
      exact tried_not p v w _ (read_goes m p s h v r false T st w hw ho hs hu hpT hT hov hok hv hp hr0)
    | true =>
      have hne : s.step ≠ 1 := by omega
      obtain ⟨rfl, hrr⟩ := hh hne
      refine (tried_won m p _ _ _ v _ r _ _ st w hw hp ho (by omega)).mono ?_
      rintro e w2 ⟨rfl, l', h2, o2, k2⟩
      refine ⟨rfl, k2.mono (by simp), .inr ⟨0, r, [], l', ?_, ?_, by simp, ?_, o2⟩⟩
      · simp [arenaM, arGive, h3]
      · show (arGive s v true).over = _
        unfold arGive
        rw [if_neg hne, if_neg (by omega), if_pos rfl]
        cases hp' : s.puts with
        | true => simp [hr0 hp']
        | false => simp [hrr hp']
      · rw [← hs]; exact h2
theorem arRuns (m : Nat) : Runs arenaM (LoneI arenaM (arE m) m) m := by
  refine runs_own arenaM (arE m) m (arE_keeps m) ?_ ?_ (fun _ _ _ => rfl) ?_ ?_ (arSteps m)
  · intro w T nx s h hov
    simp [arenaM, hov] at h
  · intro s v won h
    cases ho : s.over with
    | none => simp [arenaM, ho] at h
    | some r => simp [arenaM, ho]
  · intro s x h
    cases ho : s.over with
    | none => exact ho
    | some r => simp [arenaM, ho] at h
  · intro w T nx s x h hx
    have hov : s.over = none := by
      cases h : s.over with
      | none => rfl
      | some r => simp [arenaM, h] at hx
    obtain ⟨-, p, _, _, -, hn, -⟩ := h hov
    refine ⟨_, _, _, hn, ?_⟩
    unfold arFn
    split
    · exact fun _ _ => by kernel_rfl
    · split
      · split <;> exact fun _ _ => by kernel_rfl
      · exact fun _ _ => by kernel_rfl
end Go.Proofs.YtoomefclbemnlaaGreat
