/-
  Contracts: a deque's Push, Pop and Steal go as their machine.
-/
import Derived.Test.YtdejgkjckhkihaaDqR
namespace Go.Proofs.Ytdejgkjckhkihaa
set_option maxRecDepth 100000
set_option linter.unusedSimpArgs false
set_option linter.unusedVariables false
open Go.ChangeShapes Go.WideShapes Go.ChangeAt Go.RowKit

def dqOk (s : DqS) : Prop := dqRight s.at_ s.size ∧ (s.kind = 1 ∧ (s.step = 1 ∨ s.step = 2 ∨ s.step = 3 ∨ s.step = 4) ∨ s.kind = 2 ∧ (s.step = 1 ∨ s.step = 2 ∨ s.step = 3 ∨ s.step = 4 ∨ s.step = 5 ∨ s.step = 6) ∨ s.kind = 3 ∧ (s.step = 1 ∨ s.step = 2 ∨ s.step = 3 ∨ s.step = 4)) ∧ M.U s.task ∧ M.U s.b ∧ M.U s.t ∧ M.U s.v
def dqFn (s : DqS) : FuncId :=
  if s.kind = 1 then (if s.step = 1 then 56 else if s.step = 2 then 72 else if s.step = 3 then 92 else 98)
  else if s.kind = 2 then (if s.step = 1 then 58 else if s.step = 2 then 75 else if s.step = 3 then 94 else if s.step = 4 then (if dqAhead s.b s.t < 0 then 104 else 102) else if s.step = 5 then 105 else 104)
  else (if s.step = 1 then 57 else if s.step = 2 then 73 else if s.step = 3 then 93 else 100)
theorem dqFn_ok (s : DqS) : ∀ args w, (callFunc (dqFn s) args).run Try.prog w = .ok (.enter (dqFn s) args) w := by
  unfold dqFn
  repeat' split
  all_goals exact fun _ _ => by kernel_rfl
def dqTy (k : Int) : TypeId := if k = 1 then 84 else if k = 2 then 90 else 87
/-- Its tasks are let go of, when it has ended. -/
def dqSeen (w : World) (m p : Nat) (T : List Nat) (ov : Value) : Prop := ∃ g o b, DqWatch w m p g o b ov ∧ (g ∈ T ∧ o ∈ T ∧ b ∈ T) ∧ b ≠ o ∧ p ≠ g ∧ p ≠ o ∧ p ≠ b
theorem dqSeen.keeps {w w' : World} {m p : Nat} {T A : List Nat} {ov : Value} (h : dqSeen w m p T ov) (hk : Keeps A w w') (hA : ∀ k ∈ T, k ≠ p → k ∉ A) : dqSeen w' m p T ov := by
  obtain ⟨g, o, b, h1, ⟨h2, h3, h4⟩, h5, h6, h7, h8⟩ := h
  exact ⟨g, o, b, h1.keeps hk (hA g h2 (Ne.symm h6)) (hA o h3 (Ne.symm h7)) (hA b h4 (Ne.symm h8)), ⟨h2, h3, h4⟩, h5, h6, h7, h8⟩
def dqKnows (w : World) (m p : Nat) (T : List Nat) (ov : Value) (s : DqS) (top bottom task : Int) (rest : List Value) : Prop :=
  (s.kind = 1 → task = s.task ∧ (s.step ≠ 1 → bottom = s.b) ∧ dqSeen w m p T ov) ∧
  (s.kind = 2 → (s.step ≠ 1 → bottom = s.b) ∧ (4 ≤ s.step → top = s.t) ∧ (5 ≤ s.step → task = s.v) ∧
    ((s.step = 6 ∧ s.won = true ∧ rest = [.int .i64 0, .int .u64 s.v, .slice none 0 0] ∧ dqSeen w m p T ov) ∨ (¬ (s.step = 6 ∧ s.won = true) ∧ rest = [.int .i64 5, .int .u64 0, .slice none 0 0] ∧ ov = .slice none 0 0))) ∧
  (s.kind = 3 → (s.step ≠ 1 → top = s.t) ∧ (s.step = 4 → task = s.v) ∧ ov = .slice none 0 0)
/-- What a walk of a deque knows, while it has not ended. -/
def dqE (m : Nat) (w : World) (T : List Nat) (nx ov : Value) (s : DqS) : Prop :=
  s.over = none → dqOk s ∧ ∃ p top bottom task rest, p ∈ T ∧ nx = .func (.func (dqFn s)) #[.pointer (some ⟨p, 0, none⟩)] #[] ∧ Row w p (dqTy s.kind) (stCells m s.at_ s.size top bottom task rest) ∧ dqKnows w m p T ov s top bottom task rest
theorem dqE_keeps (m : Nat) : ∀ w w' T A nx ov s, dqE m w T nx ov s → Keeps A w w' → (∀ k ∈ T, k ∉ A) → dqE m w' T nx ov s := by
  intro w w' T A nx ov s h hk hT hg
  obtain ⟨h0, p, top, bottom, task, rest, h1, h2, h3, h4, h5, h6⟩ := h hg
  refine ⟨h0, p, top, bottom, task, rest, h1, h2, h3.keeps hk (hT p h1), fun e => ?_, fun e => ?_, h6⟩
  · obtain ⟨a, b, c⟩ := h4 e
    exact ⟨a, b, c.keeps hk fun k hk' _ => hT k hk'⟩
  · obtain ⟨a, b, c, d⟩ := h5 e
    refine ⟨a, b, c, d.imp_left ?_⟩
    rintro ⟨d1, d2, d3, d4⟩
    exact ⟨d1, d2, d3, d4.keeps hk fun k hk' _ => hT k hk'⟩
theorem dqEnded (m : Nat) : ∀ w T nx ov s, dequeM.want s = none → dqE m w T nx ov s := by
  intro w T nx ov s h hov
  simp [dequeM, hov] at h

/-- It asks again, and holds the same. -/
theorem dq_asks {m p : Nat} {st : WSt} {T : List Nat} {s s' : DqS} {w w2 : World} {x : C.Acc} {F : FuncId} (hp : p ∈ T) (hT : ∀ k ∈ T, k < w.heap.size ∧ k ≠ m) (hov : s'.over = none) (hx : dqWant s' = x) (hh : dequeM.held s' = dequeM.held s)
    (hw : Wk w2 m { st with x := x, nxt := .func (.func F) #[.pointer (some ⟨p, 0, none⟩)] #[], sub := none, after := .nilFunc }) (hk : Keeps [m, p] w w2) (hE : dqE m w2 T (.func (.func F) #[.pointer (some ⟨p, 0, none⟩)] #[]) st.outer s') :
    GoesO dequeM (dqE m) m st (dequeM.held s) T s' w w2 :=
  ⟨hk.mono (by intro k hk _; simp at hk; rcases hk with rfl | rfl; simp; simp [hp]), st.tasks, st.outer, .inl ⟨x, _, _, _, T, by simp [dequeM, hov, hx], hov, .inl ⟨rfl, hh⟩, hw, hE, fun k hk' => Nat.lt_of_lt_of_le (hT k hk').1 hk.size, fun k hk' => ⟨(hT k hk').2, .inl hk'⟩⟩⟩
/-- It has ended, and nobody let go of anything. -/
theorem dq_ends {m p : Nat} {st : WSt} {T : List Nat} {s s' : DqS} {w w2 : World} {c v : Int} {l' : Value} (hp : p ∈ T) (hov : s'.over = some ⟨c, v, []⟩) (hh : dequeM.held s = []) (hs : st.sub = none) (hout : st.outer = .slice none 0 0)
    (hw : Wk w2 m { st with nxt := .nilFunc, after := .nilFunc, over := true, code := c, v := v, l := l' }) (ho : w2.ownsRow w.heap.size 38 1 l' 0 []) (hk : Keeps [m, p] w w2) :
    GoesO dequeM (dqE m) m st (dequeM.held s) T s' w w2 :=
  ⟨hk.mono (by intro k hk _; simp at hk; rcases hk with rfl | rfl; simp; simp [hp]), st.tasks, st.outer, .inr ⟨c, v, [], l', by simp [dequeM, hov], hov, by simp, by rw [← hs]; exact hw, by simpa [ints] using ho, .inl ⟨hout, .inl ⟨rfl, by rw [hh]; simp [dequeM, dqHeld, hov]⟩⟩⟩⟩
/-- It has ended, and its tasks are let go of. -/
theorem dq_ends_seen {m p : Nat} {st : WSt} {T : List Nat} {s s' : DqS} {w w2 : World} {c v : Int} {l' : Value} {e : TypeId} {cs : List Value} (hp : p ∈ T) (hT : ∀ k ∈ T, k < w.heap.size ∧ k ≠ m) (hov : s'.over = some ⟨c, v, []⟩) (hs : st.sub = none) (hrow : Row w p e (.pointer (some ⟨m, 0, none⟩) :: cs)) (hseen : dqSeen w m p T st.outer)
    (hw : Wk w2 m { st with nxt := .nilFunc, after := .nilFunc, over := true, code := c, v := v, l := l' }) (ho : w2.ownsRow w.heap.size 38 1 l' 0 []) (hk : Keeps [m] w w2) :
    GoesO dequeM (dqE m) m st (dequeM.held s) T s' w w2 := by
  obtain ⟨g, o, b, h1, ⟨h2, h3, h4⟩, h5, h6, h7, h8⟩ := hseen
  have hpm := (hT p hp).2
  have hW := (h1.keeps hk (by simpa using (hT g h2).2) (by simpa using (hT o h3).2) (by simpa using (hT b h4).2)).watch ((hrow.keeps hk (by simpa using hpm)).cell (j := 0) rfl) (Nat.lt_of_lt_of_le (hT p hp).1 hk.size) (hT g h2).2 (hT o h3).2 (hT b h4).2 hpm h5 h7
  exact ⟨hk.mono (by simp), st.tasks, st.outer, .inr ⟨c, v, [], l', by simp [dequeM, hov], hov, by simp, by rw [← hs]; exact hw, by simpa [ints] using ho, .inr ⟨by simp [dequeM, dqHeld, hov], g, o, hW, .inl h3, fun x hx => by have := (ho.lt x hx).1; have := (hT o h3).1; omega⟩⟩⟩

set_option maxHeartbeats 1600000 in
/-- A push's step. -/
theorem dqPush_goes (m p : Nat) (w : World) (T : List Nat) (s : DqS) (st : WSt) (v top bottom task : Int) (won : Bool) (rest : List Value) (hw : Wk w m st) (ho : st.over = false) (hs : st.sub = none) (hu : st.under = 1) (hT : ∀ k ∈ T, k < w.heap.size ∧ k ≠ m) (hv : M.U v)
    (hov : s.over = none) (hk : s.kind = 1) (hok : dqOk s) (hpT : p ∈ T) (hp : Row w p (dqTy s.kind) (stCells m s.at_ s.size top bottom task rest)) (hkn : dqKnows w m p T st.outer s top bottom task rest) :
    Calls Try.prog (dqFn s) #[.pointer (some ⟨p, 0, none⟩), .int .u64 v, .bool won] w fun e w' => e = .returned (.tuple #[]) ∧ GoesO dequeM (dqE m) m st (dequeM.held s) T (dqGive s v won) w w' := by
  obtain ⟨at_, size, kind, stask, step, b, t, sv, swon, over⟩ := s
  simp only at hov hk
  subst hov hk
  obtain ⟨hr, hst, u1, u2, u3, u4⟩ := hok
  simp only at hr hst u1 u2 u3 u4 hp
  obtain ⟨k1, -, -⟩ := hkn
  obtain ⟨hta, hbo, hseen⟩ := k1 rfl
  simp only at hta hbo
  subst hta
  have hpm := (hT p hpT).2
  have a0 := hr.2.1
  have a1 : at_ < 65536 := by have := hr.2.2; have := hr.1; omega
  have hpp : ∀ k ∈ T, k ≠ p → k ∉ [m, p] := fun k hk hne => by simp [hne, (hT k hk).2]
  rcases hst with ⟨-, h | h | h | h⟩ | ⟨h, -⟩ | ⟨h, -⟩
  · subst h
    refine (dqPushBottom m p at_ size top bottom task rest _ st w v won hw hp hpm ho hs ).mono ?_
    rintro e w2 ⟨rfl, h2, h3, k2⟩
    refine ⟨rfl, dq_asks hpT hT (s' := ⟨at_, size, 1, task, 2, v, t, sv, swon, none⟩) rfl (by simp [dqWant]) rfl h2 k2 fun _ => ⟨⟨hr, .inl ⟨rfl, .inr (.inl rfl)⟩, u1, hv, u3, u4⟩, p, _, _, _, _, hpT, by simp [dqFn], h3, fun _ => ⟨rfl, fun _ => rfl, hseen.keeps k2 hpp⟩, fun h => (by simp at h), fun h => (by simp at h)⟩⟩
  · subst h
    obtain rfl := hbo (by decide)
    by_cases hA : size ≤ dqAhead bottom v
    · refine (dqPushFull m p at_ size top bottom task rest _ st w v won hw hp hpm ho hs (by omega) u2 hv hr hA).mono ?_
      rintro e w2 ⟨rfl, l', h2, h3, k2⟩
      exact ⟨rfl, dq_ends_seen hpT hT (by simp [dqGive, hA]) hs hp hseen h2 h3 k2⟩
    · refine (dqPushRoom m p at_ size top bottom task rest _ st w v won hw hp hpm ho hs hr u2 u2 hv (by omega)).mono ?_
      rintro e w2 ⟨rfl, h2, h3, k2⟩
      have hg : dqGive ⟨at_, size, 1, task, 2, bottom, t, sv, swon, none⟩ v won = ⟨at_, size, 1, task, 3, bottom, v, sv, swon, none⟩ := by simp [dqGive, hA]
      rw [hg]
      exact ⟨rfl, dq_asks hpT hT rfl (by simp [dqWant]) rfl h2 k2 fun _ => ⟨⟨hr, .inl ⟨rfl, .inr (.inr (.inl rfl))⟩, u1, u2, hv, u4⟩, p, _, _, _, _, hpT, by simp [dqFn], h3, fun _ => ⟨rfl, fun _ => rfl, hseen.keeps k2 hpp⟩, fun h => (by simp at h), fun h => (by simp at h)⟩⟩
  · subst h
    obtain rfl := hbo (by decide)
    refine (dqPushLaid m p at_ size top bottom task rest _ st w v won hw hp hpm ho hs a0 a1).mono ?_
    rintro e w2 ⟨rfl, h2, h3, k2⟩
    exact ⟨rfl, dq_asks hpT hT (s' := ⟨at_, size, 1, task, 4, bottom, t, sv, swon, none⟩) rfl (by simp [dqWant]) rfl h2 k2 fun _ => ⟨⟨hr, .inl ⟨rfl, .inr (.inr (.inr rfl))⟩, u1, u2, u3, u4⟩, p, _, _, _, _, hpT, by simp [dqFn], h3, fun _ => ⟨rfl, fun _ => rfl, hseen.keeps k2 hpp⟩, fun h => (by simp at h), fun h => (by simp at h)⟩⟩
  · subst h
    refine (dqPushFinish m p at_ size top bottom task rest _ st w v won hw hp hpm ho hs (by omega)).mono ?_
    rintro e w2 ⟨rfl, l', h2, h3, k2⟩
    exact ⟨rfl, dq_ends_seen hpT hT (by simp [dqGive]) hs hp hseen h2 h3 k2⟩
  · simp at h
  · simp at h

set_option maxHeartbeats 1600000 in
/-- A steal's step. -/
theorem dqSteal_goes (m p : Nat) (w : World) (T : List Nat) (s : DqS) (st : WSt) (v top bottom task : Int) (won : Bool) (rest : List Value) (hw : Wk w m st) (ho : st.over = false) (hs : st.sub = none) (hu : st.under = 1) (hT : ∀ k ∈ T, k < w.heap.size ∧ k ≠ m) (hv : M.U v)
    (hov : s.over = none) (hk : s.kind = 3) (hok : dqOk s) (hpT : p ∈ T) (hp : Row w p (dqTy s.kind) (stCells m s.at_ s.size top bottom task rest)) (hkn : dqKnows w m p T st.outer s top bottom task rest) :
    Calls Try.prog (dqFn s) #[.pointer (some ⟨p, 0, none⟩), .int .u64 v, .bool won] w fun e w' => e = .returned (.tuple #[]) ∧ GoesO dequeM (dqE m) m st (dequeM.held s) T (dqGive s v won) w w' := by
  obtain ⟨at_, size, kind, stask, step, b, t, sv, swon, over⟩ := s
  simp only at hov hk
  subst hov hk
  obtain ⟨hr, hst, u1, u2, u3, u4⟩ := hok
  simp only at hr hst u1 u2 u3 u4 hp
  obtain ⟨-, -, k1⟩ := hkn
  obtain ⟨hto, hta, hout⟩ := k1 rfl
  simp only at hto hta
  have hpm := (hT p hpT).2
  have a0 := hr.2.1
  have a1 : at_ < 65536 := by have := hr.2.2; have := hr.1; omega
  have hnone : dequeM.held ⟨at_, size, 3, stask, step, b, t, sv, swon, none⟩ = [] := by simp [dequeM, dqHeld]
  rcases hst with ⟨h, -⟩ | ⟨h, -⟩ | ⟨-, h | h | h | h⟩
  · simp at h
  · simp at h
  · subst h
    refine (dqStealTop m p at_ size top bottom task rest _ st w v won hw hp hpm ho hs a0 a1).mono ?_
    rintro e w2 ⟨rfl, h2, h3, k2⟩
    exact ⟨rfl, dq_asks hpT hT (s' := ⟨at_, size, 3, stask, 2, b, v, sv, swon, none⟩) rfl (by simp [dqWant]) rfl h2 k2 fun _ => ⟨⟨hr, .inr (.inr ⟨rfl, .inr (.inl rfl)⟩), u1, u2, hv, u4⟩, p, _, _, _, _, hpT, by simp [dqFn], h3, fun h => (by simp at h), fun h => (by simp at h), fun _ => ⟨fun _ => rfl, fun h => (by simp at h), hout⟩⟩⟩
  · subst h
    obtain rfl := hto (by decide)
    by_cases hA : dqAhead v top < 1
    · refine (dqStealNone m p at_ size top bottom task rest _ st w v won hw hp hpm ho hs (by omega) hv u3 hA).mono ?_
      rintro e w2 ⟨rfl, l', h2, h3, k2⟩
      exact ⟨rfl, dq_ends hpT (by simp [dqGive, hA]) hnone hs hout h2 h3 (k2.mono (by simp))⟩
    · refine (dqStealSome m p at_ size top bottom task rest _ st w v won hw hp hpm ho hs hr u3 hv u3 (by omega)).mono ?_
      rintro e w2 ⟨rfl, h2, h3, k2⟩
      have hg : dqGive ⟨at_, size, 3, stask, 2, b, top, sv, swon, none⟩ v won = ⟨at_, size, 3, stask, 3, v, top, sv, swon, none⟩ := by simp [dqGive, hA]
      rw [hg]
      exact ⟨rfl, dq_asks hpT hT rfl (by simp [dqWant]) rfl h2 k2 fun _ => ⟨⟨hr, .inr (.inr ⟨rfl, .inr (.inr (.inl rfl))⟩), u1, hv, u3, u4⟩, p, _, _, _, _, hpT, by simp [dqFn], h3, fun h => (by simp at h), fun h => (by simp at h), fun _ => ⟨fun _ => rfl, fun h => (by simp at h), hout⟩⟩⟩
  · subst h
    obtain rfl := hto (by decide)
    refine (dqStealTask m p at_ size top bottom task rest _ st w v won hw hp hpm ho hs u3).mono ?_
    rintro e w2 ⟨rfl, h2, h3, k2⟩
    exact ⟨rfl, dq_asks hpT hT (s' := ⟨at_, size, 3, stask, 4, b, top, v, swon, none⟩) rfl (by simp [dqWant]) rfl h2 k2 fun _ => ⟨⟨hr, .inr (.inr ⟨rfl, .inr (.inr (.inr rfl))⟩), u1, u2, u3, hv⟩, p, _, _, _, _, hpT, by simp [dqFn], h3, fun h => (by simp at h), fun h => (by simp at h), fun _ => ⟨fun _ => rfl, fun _ => rfl, hout⟩⟩⟩
  · subst h
    obtain rfl := hto (by decide)
    obtain rfl := hta rfl
    cases won with
    | true =>
      refine (dqStealWon m p at_ size top bottom task rest v _ st w hw hp ho (by omega)).mono ?_
      rintro e w2 ⟨rfl, l', h2, h3, k2⟩
      exact ⟨rfl, dq_ends hpT (by simp [dqGive]) hnone hs hout h2 h3 (k2.mono (by simp))⟩
    | false =>
      refine (dqStealLost m p at_ size top bottom task rest v _ st w hw hp ho (by omega)).mono ?_
      rintro e w2 ⟨rfl, l', h2, h3, k2⟩
      exact ⟨rfl, dq_ends hpT (by simp [dqGive]) hnone hs hout h2 h3 (k2.mono (by simp))⟩

set_option maxHeartbeats 1600000 in
/-- A pop's step. -/
theorem dqPop_goes (m p : Nat) (w : World) (T : List Nat) (s : DqS) (st : WSt) (v top bottom task : Int) (won : Bool) (rest : List Value) (hw : Wk w m st) (ho : st.over = false) (hs : st.sub = none) (hu : st.under = 1) (hT : ∀ k ∈ T, k < w.heap.size ∧ k ≠ m) (hv : M.U v)
    (hov : s.over = none) (hk : s.kind = 2) (hok : dqOk s) (hpT : p ∈ T) (hp : Row w p (dqTy s.kind) (stCells m s.at_ s.size top bottom task rest)) (hkn : dqKnows w m p T st.outer s top bottom task rest) :
    Calls Try.prog (dqFn s) #[.pointer (some ⟨p, 0, none⟩), .int .u64 v, .bool won] w fun e w' => e = .returned (.tuple #[]) ∧ GoesO dequeM (dqE m) m st (dequeM.held s) T (dqGive s v won) w w' := by
  obtain ⟨at_, size, kind, stask, step, b, t, sv, swon, over⟩ := s
  simp only at hov hk
  subst hov hk
  obtain ⟨hr, hst, u1, u2, u3, u4⟩ := hok
  simp only at hr hst u1 u2 u3 u4 hp
  obtain ⟨-, k1, -⟩ := hkn
  obtain ⟨hbo, hto, hta, hre⟩ := k1 rfl
  simp only at hbo hto hta hre
  have hpm := (hT p hpT).2
  have a0 := hr.2.1
  have a1 : at_ < 65536 := by have := hr.2.2; have := hr.1; omega
  have hpp : ∀ k ∈ T, k ≠ p → k ∉ [m, p] := fun k hk hne => by simp [hne, (hT k hk).2]
  have hnone : step ≠ 6 → dequeM.held ⟨at_, size, 2, stask, step, b, t, sv, swon, none⟩ = [] := fun h => by simp [dequeM, dqHeld, h]
  have hquiet : step ≠ 6 → rest = [.int .i64 5, .int .u64 0, .slice none 0 0] ∧ st.outer = .slice none 0 0 := fun h => by
    rcases hre with ⟨h1, -⟩ | ⟨-, h1, h2⟩
    · exact absurd h1 h
    · exact ⟨h1, h2⟩
  rcases hst with ⟨h, -⟩ | ⟨-, h | h | h | h | h | h⟩ | ⟨h, -⟩
  · simp at h
  · subst h
    obtain ⟨hrest, hout⟩ := hquiet (by decide)
    have hd : M.U ((v - 1) % 18446744073709551616) := ⟨Int.emod_nonneg _ (by decide), Int.emod_lt_of_pos _ (by decide)⟩
    refine (dqPopBottom m p at_ size top bottom task rest _ st w v won hw hp hpm ho hs a0 a1).mono ?_
    rintro e w2 ⟨rfl, h2, h3, k2⟩
    exact ⟨rfl, dq_asks hpT hT (s' := ⟨at_, size, 2, stask, 2, (v - 1) % 18446744073709551616, t, sv, swon, none⟩) rfl (by simp [dqWant]) rfl h2 k2 fun _ => ⟨⟨hr, .inr (.inl ⟨rfl, .inr (.inl rfl)⟩), u1, hd, u3, u4⟩, p, _, _, _, _, hpT, by simp [dqFn], h3, fun h => (by simp at h), fun _ => ⟨fun _ => rfl, fun h => (by simp at h), fun h => (by simp at h), .inr ⟨by simp, hrest, hout⟩⟩, fun h => (by simp at h)⟩⟩
  · subst h
    obtain ⟨hrest, hout⟩ := hquiet (by decide)
    obtain rfl := hbo (by decide)
    refine (dqPopLowered m p at_ size top bottom task rest _ st w v won hw hp hpm ho hs).mono ?_
    rintro e w2 ⟨rfl, h2, h3, k2⟩
    exact ⟨rfl, dq_asks hpT hT (s' := ⟨at_, size, 2, stask, 3, bottom, t, sv, swon, none⟩) rfl (by simp [dqWant]) rfl h2 k2 fun _ => ⟨⟨hr, .inr (.inl ⟨rfl, .inr (.inr (.inl rfl))⟩), u1, u2, u3, u4⟩, p, _, _, _, _, hpT, by simp [dqFn], h3, fun h => (by simp at h), fun _ => ⟨fun _ => rfl, fun h => (by simp at h), fun h => (by simp at h), .inr ⟨by simp, hrest, hout⟩⟩, fun h => (by simp at h)⟩⟩
  · subst h
    obtain ⟨hrest, hout⟩ := hquiet (by decide)
    obtain rfl := hbo (by decide)
    have hg : dqGive ⟨at_, size, 2, stask, 3, bottom, t, sv, swon, none⟩ v won = ⟨at_, size, 2, stask, 4, bottom, v, sv, swon, none⟩ := by simp [dqGive]
    rw [hg]
    by_cases hA : dqAhead bottom v < 0
    · refine (dqPopBack m p at_ size top bottom task rest _ st w v won hw hp hpm ho hs a0 a1 u2 hv hA).mono ?_
      rintro e w2 ⟨rfl, h2, h3, k2⟩
      exact ⟨rfl, dq_asks hpT hT rfl (by simp [dqWant, hA]) rfl h2 k2 fun _ => ⟨⟨hr, .inr (.inl ⟨rfl, .inr (.inr (.inr (.inl rfl)))⟩), u1, u2, hv, u4⟩, p, _, _, _, _, hpT, by simp [dqFn, hA], h3, fun h => (by simp at h), fun _ => ⟨fun _ => rfl, fun _ => rfl, fun h => (by simp at h), .inr ⟨by simp, hrest, hout⟩⟩, fun h => (by simp at h)⟩⟩
    · refine (dqPopSlot m p at_ size top bottom task rest _ st w v won hw hp hpm ho hs hr u2 u2 hv (by omega)).mono ?_
      rintro e w2 ⟨rfl, h2, h3, k2⟩
      exact ⟨rfl, dq_asks hpT hT rfl (by simp [dqWant, hA]) rfl h2 k2 fun _ => ⟨⟨hr, .inr (.inl ⟨rfl, .inr (.inr (.inr (.inl rfl)))⟩), u1, u2, hv, u4⟩, p, _, _, _, _, hpT, by simp [dqFn, hA], h3, fun h => (by simp at h), fun _ => ⟨fun _ => rfl, fun _ => rfl, fun h => (by simp at h), .inr ⟨by simp, hrest, hout⟩⟩, fun h => (by simp at h)⟩⟩
  · subst h
    obtain ⟨hrest, hout⟩ := hquiet (by decide)
    obtain rfl := hbo (by decide)
    obtain rfl := hto (by decide)
    by_cases hA : dqAhead bottom top < 0
    · have hF : dqFn ⟨at_, size, 2, stask, 4, bottom, top, sv, swon, none⟩ = 104 := by simp [dqFn, hA]
      rw [hF]
      subst hrest
      refine (dqPopFinish m p at_ size top bottom task 5 0 v won _ st w hw hp ho (by omega)).mono ?_
      rintro e w2 ⟨rfl, l', h2, h3, k2⟩
      exact ⟨rfl, dq_ends hpT (by simp [dqGive, hA]) (hnone (by decide)) hs hout h2 h3 (k2.mono (by simp))⟩
    · have hF : dqFn ⟨at_, size, 2, stask, 4, bottom, top, sv, swon, none⟩ = 102 := by simp [dqFn, hA]
      rw [hF]
      by_cases hB : 0 < dqAhead bottom top
      · refine (dqPopSome m p at_ size top bottom task rest _ st w v won hw hp hpm ho hs (by omega) u2 u3 hB).mono ?_
        rintro e w2 ⟨rfl, l', h2, h3, k2⟩
        exact ⟨rfl, dq_ends hpT (by simp [dqGive, hA, hB]) (hnone (by decide)) hs hout h2 h3 k2⟩
      · refine (dqPopClaim m p at_ size top bottom task rest _ st w v won hw hp hpm ho hs u3 u2 u3 (by omega)).mono ?_
        rintro e w2 ⟨rfl, h2, h3, k2⟩
        have hg : dqGive ⟨at_, size, 2, stask, 4, bottom, top, sv, swon, none⟩ v won = ⟨at_, size, 2, stask, 5, bottom, top, v, swon, none⟩ := by simp [dqGive, hA, hB]
        rw [hg]
        exact ⟨rfl, dq_asks hpT hT rfl (by simp [dqWant]) rfl h2 k2 fun _ => ⟨⟨hr, .inr (.inl ⟨rfl, .inr (.inr (.inr (.inr (.inl rfl))))⟩), u1, u2, u3, hv⟩, p, _, _, _, _, hpT, by simp [dqFn], h3, fun h => (by simp at h), fun _ => ⟨fun _ => rfl, fun _ => rfl, fun _ => rfl, .inr ⟨by simp, hrest, hout⟩⟩, fun h => (by simp at h)⟩⟩
  · subst h
    obtain ⟨hrest, hout⟩ := hquiet (by decide)
    obtain rfl := hbo (by decide)
    obtain rfl := hto (by decide)
    obtain rfl := hta (by decide)
    cases won with
    | false =>
      refine (dqPopLost m p at_ size top bottom task rest _ st w v hw hp hpm ho hs a0 a1).mono ?_
      rintro e w2 ⟨rfl, h2, h3, k2⟩
      exact ⟨rfl, dq_asks hpT hT (s' := ⟨at_, size, 2, stask, 6, bottom, top, task, false, none⟩) rfl (by simp [dqWant]) rfl h2 k2 fun _ => ⟨⟨hr, .inr (.inl ⟨rfl, .inr (.inr (.inr (.inr (.inr rfl))))⟩), u1, u2, u3, u4⟩, p, _, _, _, _, hpT, by simp [dqFn], h3, fun h => (by simp at h), fun _ => ⟨fun _ => rfl, fun _ => rfl, fun _ => rfl, .inr ⟨by simp, hrest, hout⟩⟩, fun h => (by simp at h)⟩⟩
    | true =>
      subst hrest
      have hplt := hp.lt
      refine (dqPopWon m p at_ size top bottom task 5 0 _ st w v hw hp hpm ho hs hout a0 a1).mono ?_
      rintro e w2 ⟨rfl, tk, ov, g, o, bb, h2, h3, h4, h5, ⟨g0, o0, b0⟩, hbo', htx, k2⟩
      have hT2 : ∀ k ∈ p :: [g, o, bb], k < w2.heap.size := by
        intro k hk
        simp at hk
        rcases hk with rfl | rfl | rfl | rfl
        · exact h3.lt
        · exact h5.row.lt
        · exact h5.wk.lt
        · exact h5.box.lt
      have hmlt := hw.lt
      refine ⟨rfl, k2.mono (by intro k hk _; simp at hk; rcases hk with rfl | rfl; simp; simp [hpT]), tk, ov, .inl ⟨_, _, _, _, p :: [g, o, bb], by simp [dequeM, dqGive, dqWant], by simp [dequeM, dqGive], .inr ⟨by simp [dequeM, dqGive, dqHeld], by simpa [dequeM, dqGive, dqHeld, ints] using h4⟩, h2, ?_, hT2, fun k hk => ?_⟩⟩
      · intro _
        have hg : dqGive ⟨at_, size, 2, stask, 5, bottom, top, task, swon, none⟩ v true = ⟨at_, size, 2, stask, 6, bottom, top, task, true, none⟩ := by simp [dqGive]
        rw [hg]
        exact ⟨⟨hr, .inr (.inl ⟨rfl, .inr (.inr (.inr (.inr (.inr rfl))))⟩), u1, u2, u3, u4⟩, p, _, _, _, _, by simp, by simp [dqFn], h3, fun h => (by simp at h), fun _ => ⟨fun _ => rfl, fun _ => rfl, fun _ => rfl, .inl ⟨rfl, rfl, rfl, g, o, bb, h5, by simp, hbo', by omega, by omega, by omega⟩⟩, fun h => (by simp at h)⟩
      · simp at hk
        rcases hk with rfl | rfl | rfl | rfl
        · exact ⟨hpm, .inl hpT⟩
        · exact ⟨by omega, .inr ⟨g0, .inr fun h => (htx _ h).1 rfl⟩⟩
        · exact ⟨by omega, .inr ⟨o0, .inr fun h => (htx _ h).2.1 rfl⟩⟩
        · exact ⟨by omega, .inr ⟨b0, .inr fun h => (htx _ h).2.2 rfl⟩⟩
  · subst h
    obtain rfl := hbo (by decide)
    obtain rfl := hto (by decide)
    obtain rfl := hta (by decide)
    rcases hre with ⟨-, hwn, hrest, hseen⟩ | ⟨hwn, hrest, hout⟩
    · subst hrest hwn
      refine (dqPopFinish m p at_ size top bottom task 0 task v won _ st w hw hp ho (by omega)).mono ?_
      rintro e w2 ⟨rfl, l', h2, h3, k2⟩
      exact ⟨rfl, dq_ends_seen hpT hT (by simp [dqGive]) hs hp hseen h2 h3 k2⟩
    · subst hrest
      have hwf : swon = false := by cases swon with
        | true => exact absurd ⟨rfl, rfl⟩ hwn
        | false => rfl
      subst hwf
      refine (dqPopFinish m p at_ size top bottom task 5 0 v won _ st w hw hp ho (by omega)).mono ?_
      rintro e w2 ⟨rfl, l', h2, h3, k2⟩
      exact ⟨rfl, dq_ends hpT (by simp [dqGive]) (by simp [dequeM, dqHeld]) hs hout h2 h3 (k2.mono (by simp))⟩
  · simp at h

theorem dqStepsAll (m : Nat) : ∀ w T F fi ca s st v won x, Wk w m st → st.over = false → st.sub = none → st.under = 1 → (∀ k ∈ T, k < w.heap.size ∧ k ≠ m) → Sl w 1 st.tasks (dequeM.held s).length (ints .u64 (dequeM.held s)) → dqE m w T (.func (.func F) fi ca) st.outer s → M.U v → dequeM.want s = some x →
      Calls Try.prog F (fi ++ (#[.int .u64 v, .bool won] ++ ca)) w fun e w' => e = .returned (.tuple #[]) ∧ GoesO dequeM (dqE m) m st (dequeM.held s) T (dequeM.give s v won) w w' := by
  intro w T F fi ca s st v won x hw ho hs hu hT _ hE hv hx
  have hov : s.over = none := by
    cases h : s.over with
    | none => rfl
    | some r => simp [dequeM, h] at hx
  obtain ⟨hok, p, top, bottom, task, rest, hpT, hn, hp, hkn⟩ := hE hov
  injection hn with e1 e2 e3
  injection e1 with e1
  subst e1 e2 e3
  have hgv : dequeM.give s v won = dqGive s v won := by simp [dequeM, hov]
  rw [hgv]
  rcases hok.2.1 with h | h | h
  · exact dqPush_goes m p w T s st v top bottom task won rest hw ho hs hu hT hv hov h.1 hok hpT hp hkn
  · exact dqPop_goes m p w T s st v top bottom task won rest hw ho hs hu hT hv hov h.1 hok hpT hp hkn
  · exact dqSteal_goes m p w T s st v top bottom task won rest hw ho hs hu hT hv hov h.1 hok hpT hp hkn
theorem dqRuns (m : Nat) : Runs dequeM (LoneIO dequeM (dqE m) m) m := by
  refine runs_ownO dequeM (dqE m) m (dqE_keeps m) (dqEnded m) ?_ ?_ ?_ (dqStepsAll m)
  · intro s v won h
    cases ho : s.over with
    | none => simp [dequeM, ho] at h
    | some r => simp [dequeM, ho]
  · intro s x h
    cases ho : s.over with
    | none => exact ho
    | some r => simp [dequeM, ho] at h
  · intro w T nx ov s x h hx
    have hov : s.over = none := by
      cases h : s.over with
      | none => rfl
      | some r => simp [dequeM, h] at hx
    obtain ⟨-, p, _, _, _, _, -, hn, -⟩ := h hov
    exact ⟨_, _, _, hn, dqFn_ok s⟩
end Go.Proofs.Ytdejgkjckhkihaa
