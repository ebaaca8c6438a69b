import Derived.Test.YtjfgpplnlepnoaaGreatDqW
/-
  Contracts: a deque's Push, Pop and Steal go as their machine.
-/
namespace Go.Proofs.YtjfgpplnlepnoaaGreat
set_option maxRecDepth 100000
set_option linter.unusedSimpArgs false
set_option linter.unusedVariables false
open Go.ChangeShapes Go.WideShapes Go.ChangeAt Go.RowKit

def dqOk (s : DqS) : Prop := dqRight s.at_ s.size ∧ (s.kind = 1 ∧ (s.step = 1 ∨ s.step = 2 ∨ s.step = 3 ∨ s.step = 4) ∨ s.kind = 2 ∧ (s.step = 1 ∨ s.step = 2 ∨ s.step = 3 ∨ s.step = 4 ∨ s.step = 5 ∨ s.step = 6) ∨ s.kind = 3 ∧ (s.step = 1 ∨ s.step = 2 ∨ s.step = 3 ∨ s.step = 4)) ∧ M.U s.task ∧ M.U s.b ∧ M.U s.t ∧ M.U s.v
def dqFn (s : DqS) : FuncId :=
  if s.kind = 1 then (if s.step = 1 then 271 else if s.step = 2 then 276 else if s.step = 3 then 278 else 281)
  else if s.kind = 2 then (if s.step = 1 then 269 else if s.step = 2 then 273 else if s.step = 3 then 277 else if s.step = 4 then (if dqAhead s.b s.t < 0 then 282 else 280) else if s.step = 5 then 283 else 282)
  else (if s.step = 1 then 127 else if s.step = 2 then 169 else if s.step = 3 then 217 else 231)
theorem dqFn_ok (s : DqS) : ∀ args w, (callFunc (dqFn s) args).run Tryz.prog w = .ok (.enter (dqFn s) args) w := by
  unfold dqFn
  repeat' split
  all_goals exact fun _ _ => by kernel_rfl
def dqTy (k : Int) : TypeId := if k = 1 then 236 else if k = 2 then 234 else 135
/-- Its tasks are let go of, when it has ended. -/
def dqSeen (w : World) (m p : Nat) (T : List Nat) (ov : Value) : Prop := ∃ g o b, DqWatch w m p g o b ov ∧ (g ∈ T ∧ o ∈ T ∧ b ∈ T) ∧ b ≠ o ∧ p ≠ g ∧ p ≠ o ∧ p ≠ b
theorem dqSeen.keeps {w w' : World} {m p : Nat} {T A : List Nat} {ov : Value} (h : dqSeen w m p T ov) (hk : Keeps A w w') (hA : ∀ k ∈ T, k ≠ p → k ∉ A) : dqSeen w' m p T ov := by
  obtain ⟨g, o, b, h1, ⟨h2, h3, h4⟩, h5, h6, h7, h8⟩ := h
  exact ⟨g, o, b, h1.keeps hk (hA g h2 (Ne.symm h6)) (hA o h3 (Ne.symm h7)) (hA b h4 (Ne.symm h8)), ⟨h2, h3, h4⟩, h5, h6, h7, h8⟩
def dqKnows (w : World) (m p : Nat) (T : List Nat) (ov : Value) (s : DqS) (top bottom task : Int) (rest : List Value) : Prop :=
  (s.kind = 1 → task = s.task ∧ (s.step ≠ 1 → bottom = s.b) ∧ dqSeen w m p T ov) ∧
  (s.kind = 2 → (s.step ≠ 1 → bottom = s.b) ∧ (4 ≤ s.step → top = s.t) ∧ (5 ≤ s.step → task = s.v) ∧
    ((s.step = 6 ∧ s.won = true ∧ rest = [.int .i64 0, .int .u64 s.v, .slice none 0 0] ∧ dqSeen w m p T ov) ∨ (¬ (s.step = 6 ∧ s.won = true) ∧ rest = [.int .i64 5, .int .u64 0, .slice none 0 0] ∧ ov = .slice none 0 0))) ∧
  (s.kind = 3 → (s.step ≠ 1 → top = s.t) ∧ (s.step = 4 → task = s.v) ∧ ov = .slice none 0 0)
/-- What a walk of a deque knows, while it has not ended. -/
def dqE (m : Nat) (w : World) (T : List Nat) (nx ov : Value) (s : DqS) : Prop :=
  s.over = none → dqOk s ∧ ∃ p top bottom task rest, p ∈ T ∧ nx = .func (.func (dqFn s)) #[.pointer (some ⟨p, 0, none⟩)] #[] ∧ Row w p (dqTy s.kind) (stCells m s.at_ s.size top bottom task rest) ∧ dqKnows w m p T ov s top bottom task rest
theorem dqE_keeps (m : Nat) : ∀ w w' T A nx ov s, dqE m w T nx ov s → Keeps A w w' → (∀ k ∈ T, k ∉ A) → dqE m w' T nx ov s := by
  intro w w' T A nx ov s h hk hT hg
  obtain ⟨h0, p, top, bottom, task, rest, h1, h2, h3, h4, h5, h6⟩ := h hg
  refine ⟨h0, p, top, bottom, task, rest, h1, h2, h3.keeps hk (hT p h1), fun e => ?_, fun e => ?_, h6⟩
  · obtain ⟨a, b, c⟩ := h4 e
    exact ⟨a, b, c.keeps hk fun k hk' _ => hT k hk'⟩
  · obtain ⟨a, b, c, d⟩ := h5 e
    refine ⟨a, b, c, d.imp_left ?_⟩
    rintro ⟨d1, d2, d3, d4⟩
    exact ⟨d1, d2, d3, d4.keeps hk fun k hk' _ => hT k hk'⟩
theorem dqEnded (m : Nat) : ∀ w T nx ov s, dequeM.want s = none → dqE m w T nx ov s := by
  intro w T nx ov s h hov
  simp [dequeM, hov] at h

/-- It asks again, and holds the same. -/
theorem dq_asks {m p : Nat} {st : WSt} {T : List Nat} {s s' : DqS} {w w2 : World} {x : C.Acc} {F : FuncId} (hp : p ∈ T) (hT : ∀ k ∈ T, k < w.heap.size ∧ k ≠ m) (hov : s'.over = none) (hx : dqWant s' = x) (hh : dequeM.held s' = dequeM.held s)
    (hw : Wk w2 m { st with x := x, nxt := .func (.func F) #[.pointer (some ⟨p, 0, none⟩)] #[], sub := none, after := .nilFunc }) (hk : Keeps [m, p] w w2) (hE : dqE m w2 T (.func (.func F) #[.pointer (some ⟨p, 0, none⟩)] #[]) st.outer s') :
    GoesO dequeM (dqE m) m st (dequeM.held s) T s' w w2 :=
  ⟨hk.mono (by intro k hk _; simp at hk; rcases hk with rfl | rfl; simp; simp [hp]), st.tasks, st.outer, .inl ⟨x, _, _, _, T, by simp [dequeM, hov, hx], hov, .inl ⟨rfl, hh⟩, hw, hE, fun k hk' => Nat.lt_of_lt_of_le (hT k hk').1 hk.size, fun k hk' => ⟨(hT k hk').2, .inl hk'⟩⟩⟩
/-- It has ended, and nobody let go of anything. -/
theorem dq_ends {m p : Nat} {st : WSt} {T : List Nat} {s s' : DqS} {w w2 : World} {c v : Int} {l' : Value} (hp : p ∈ T) (hov : s'.over = some ⟨c, v, []⟩) (hh : dequeM.held s = []) (hs : st.sub = none) (hout : st.outer = .slice none 0 0)
    (hw : Wk w2 m { st with nxt := .nilFunc, after := .nilFunc, over := true, code := c, v := v, l := l' }) (ho : w2.ownsRow w.heap.size 26 1 l' 0 []) (hk : Keeps [m, p] w w2) :
    GoesO dequeM (dqE m) m st (dequeM.held s) T s' w w2 :=
  ⟨hk.mono (by intro k hk _; simp at hk; rcases hk with rfl | rfl; simp; simp [hp]), st.tasks, st.outer, .inr ⟨c, v, [], l', by simp [dequeM, hov], hov, by simp, by rw [← hs]; exact hw, by simpa [ints] using ho, .inl ⟨hout, .inl ⟨rfl, by rw [hh]; simp [dequeM, dqHeld, hov]⟩⟩⟩⟩
/-- It has ended, and its tasks are let go of. -/
theorem dq_ends_seen {m p : Nat} {st : WSt} {T : List Nat} {s s' : DqS} {w w2 : World} {c v : Int} {l' : Value} {e : TypeId} {cs : List Value} (hp : p ∈ T) (hT : ∀ k ∈ T, k < w.heap.size ∧ k ≠ m) (hov : s'.over = some ⟨c, v, []⟩) (hs : st.sub = none) (hrow : Row w p e (.pointer (some ⟨m, 0, none⟩) :: cs)) (hseen : dqSeen w m p T st.outer)
    (hw : Wk w2 m { st with nxt := .nilFunc, after := .nilFunc, over := true, code := c, v := v, l := l' }) (ho : w2.ownsRow w.heap.size 26 1 l' 0 []) (hk : Keeps [m] w w2) :
    GoesO dequeM (dqE m) m st (dequeM.held s) T s' w w2 := by
  obtain ⟨g, o, b, h1, ⟨h2, h3, h4⟩, h5, h6, h7, h8⟩ := hseen
  have hpm := (hT p hp).2
  have hW := (h1.keeps hk (by simpa using (hT g h2).2) (by simpa using (hT o h3).2) (by simpa using (hT b h4).2)).watch ((hrow.keeps hk (by simpa using hpm)).cell (j := 0) rfl) (Nat.lt_of_lt_of_le (hT p hp).1 hk.size) (hT g h2).2 (hT o h3).2 (hT b h4).2 hpm h5 h7
  exact ⟨hk.mono (by simp), st.tasks, st.outer, .inr ⟨c, v, [], l', by simp [dequeM, hov], hov, by simp, by rw [← hs]; exact hw, by simpa [ints] using ho, .inr ⟨by simp [dequeM, dqHeld, hov], g, o, hW, .inl h3, fun x hx => by have := (ho.lt x hx).1; have := (hT o h3).1; omega⟩⟩⟩

set_option maxHeartbeats 1600000 in
/-- A push's step. -/
theorem dqPush_goes (m p : Nat) (w : World) (T : List Nat) (s : DqS) (st : WSt) (v top bottom task : Int) (won : Bool) (rest : List Value) (hw : Wk w m st) (ho : st.over = false) (hs : st.sub = none) (hu : st.under = 1) (hT : ∀ k ∈ T, k < w.heap.size ∧ k ≠ m) (hv : M.U v)
    (hov : s.over = none) (hk : s.kind = 1) (hok : dqOk s) (hpT : p ∈ T) (hp : Row w p (dqTy s.kind) (stCells m s.at_ s.size top bottom task rest)) (hkn : dqKnows w m p T st.outer s top bottom task rest) :
    Calls Tryz.prog (dqFn s) #[.pointer (some ⟨p, 0, none⟩), .int .u64 v, .bool won] w fun e w' => e = .returned (.tuple #[]) ∧ GoesO dequeM (dqE m) m st (dequeM.held s) T (dqGive s v won) w w' := by
  obtain ⟨at_, size, kind, stask, step, b, t, sv, swon, over⟩ := s
  simp only at hov hk
  subst hov hk
  obtain ⟨hr, hst, u1, u2, u3, u4⟩ := hok
  simp only at hr hst u1 u2 u3 u4 hp
  obtain ⟨k1, -, -⟩ := hkn
  obtain ⟨hta, hbo, hseen⟩ := k1 rfl
  simp only at hta hbo
  subst hta
  have hpm := (hT p hpT).2
  have a0 := hr.2.1
  have a1 : at_ < 65536 := by have := hr.2.2; have := hr.1; omega
  have hpp : ∀ k ∈ T, k ≠ p → k ∉ [m, p] := fun k hk hne => by simp [hne, (hT k hk).2]
  rcases hst with ⟨-, h | h | h | h⟩ | ⟨h, -⟩ | ⟨h, -⟩
  · subst h
    refine (dqPushBottom m p at_ size top bottom task rest _ st w v won hw hp hpm ho hs ).mono ?_
    rintro e w2 ⟨rfl, h2, h3, k2⟩
    refine ⟨rfl, dq_asks hpT hT (s' := ⟨at_, size, 1, task, 2, v, t, sv, swon, none⟩) rfl (by simp [dqWant]) rfl h2 k2 fun _ => ⟨⟨hr, .inl ⟨rfl, .inr (.inl rfl)⟩, u1, hv, u3, u4⟩, p, _, _, _, _, hpT, by simp [dqFn], h3, fun _ => ⟨rfl, fun _ => rfl, hseen.keeps k2 hpp⟩, fun h => (by simp at h), fun h => (by simp at h)⟩⟩
  · subst h
    obtain rfl := hbo (by decide)
    by_cases hA : size ≤ dqAhead bottom v
    · refine (dqPushFull m p at_ size top bottom task rest _ st w v won hw hp hpm ho hs (by omega) u2 hv hr hA).mono ?_
      rintro e w2 ⟨rfl, l', h2, h3, k2⟩
      exact ⟨rfl, dq_ends_seen hpT hT (by simp [dqGive, hA]) hs hp hseen h2 h3 k2⟩
    · refine (dqPushRoom m p at_ size top bottom task rest _ st w v won hw hp hpm ho hs hr u2 u2 hv (by omega)).mono ?_
      rintro e w2 ⟨rfl, h2, h3, k2⟩
      have hg : dqGive ⟨at_, size, 1, task, 2, bottom, t, sv, swon, none⟩ v won = ⟨at_, size, 1, task, 3, bottom, v, sv, swon, none⟩ := by simp [dqGive, hA]
      rw [hg]
      exact ⟨rfl, dq_asks hpT hT rfl (by simp [dqWant]) rfl h2 k2 fun _ => ⟨⟨hr, .inl ⟨rfl, .inr (.inr (.inl rfl))⟩, u1, u2, hv, u4⟩, p, _, _, _, _, hpT, by simp [dqFn], h3, fun _ => ⟨rfl, fun _ => rfl, hseen.keeps k2 hpp⟩, fun h => (by simp at h), fun h => (by simp at h)⟩⟩
  · subst h
    obtain rfl := hbo (by decide)
    refine (dqPushLaid m p at_ size top bottom task rest _ st w v won hw hp hpm ho hs a0 a1).mono ?_
    rintro e w2 ⟨rfl, h2, h3, k2⟩
    exact ⟨rfl, dq_asks hpT hT (s' := ⟨at_, size, 1, task, 4, bottom, t, sv, swon, none⟩) rfl (by simp [dqWant]) rfl h2 k2 fun _ => ⟨⟨hr, .inl ⟨rfl, .inr (.inr (.inr rfl))⟩, u1, u2, u3, u4⟩, p, _, _, _, _, hpT, by simp [dqFn], h3, fun _ => ⟨rfl, fun _ => rfl, hseen.keeps k2 hpp⟩, fun h => (by simp at h), fun h => (by simp at h)⟩⟩
  · subst h
    refine (dqPushFinish m p at_ size top bottom task rest _ st w v won hw hp hpm ho hs (by omega)).mono ?_
    rintro e w2 ⟨rfl, l', h2, h3, k2⟩
    exact ⟨rfl, dq_ends_seen hpT hT (by simp [dqGive]) hs hp hseen h2 h3 k2⟩
  · simp at h
  · simp at h

set_option maxHeartbeats 1600000 in
/-- A steal's step. -/
theorem dqSteal_goes (m p : Nat) (w : World) (T : List Nat) (s : DqS) (st : WSt) (v top bottom task : Int) (won : Bool) (rest : List Value) (hw : Wk w m st) (ho : st.over = false) (hs : st.sub = none) (hu : st.under = 1) (hT : ∀ k ∈ T, k < w.heap.size ∧ k ≠ m) (hv : M.U v)
    (hov : s.over = none) (hk : s.kind = 3) (hok : dqOk s) (hpT : p ∈ T) (hp : Row w p (dqTy s.kind) (stCells m s.at_ s.size top bottom task rest)) (hkn : dqKnows w m p T st.outer s top bottom task rest) :
    Calls Tryz.prog (dqFn s) #[.pointer (some ⟨p, 0, none⟩), .int .u64 v, .bool won] w fun e w' => e = .returned (.tuple #[]) ∧ GoesO dequeM (dqE m) m st (dequeM.held s) T (dqGive s v won) w w' := by
  obtain ⟨at_, size, kind, stask, step, b, t, sv, swon, over⟩ := s
  simp only at hov hk
  subst hov hk
  obtain ⟨hr, hst, u1, u2, u3, u4⟩ := hok
  simp only at hr hst u1 u2 u3 u4 hp
  obtain ⟨-, -, k1⟩ := hkn
  obtain ⟨hto, hta, hout⟩ := k1 rfl
  simp only at hto hta
  have hpm := (hT p hpT).2
  have a0 := hr.2.1
  have a1 : at_ < 65536 := by have := hr.2.2; have := hr.1; omega
  have hnone : dequeM.held ⟨at_, size, 3, stask, step, b, t, sv, swon, none⟩ = [] := by simp [dequeM, dqHeld]
  rcases hst with ⟨h, -⟩ | ⟨h, -⟩ | ⟨-, h | h | h | h⟩
  · simp at h
  · simp at h
  · subst h
    refine (dqStealTop m p at_ size top bottom task rest _ st w v won hw hp hpm ho hs a0 a1).mono ?_
    rintro e w2 ⟨rfl, h2, h3, k2⟩
    exact ⟨rfl, dq_asks hpT hT (s' := ⟨at_, size, 3, stask, 2, b, v, sv, swon, none⟩) rfl (by simp [dqWant]) rfl h2 k2 fun _ => ⟨⟨hr, .inr (.inr ⟨rfl, .inr (.inl rfl)⟩), u1, u2, hv, u4⟩, p, _, _, _, _, hpT, by simp [dqFn], h3, fun h => (by simp at h), fun h => (by simp at h), fun _ => ⟨fun _ => rfl, fun h => (by simp at h), hout⟩⟩⟩
  · subst h
    obtain rfl := hto (by decide)
    by_cases hA : dqAhead v top < 1
    · refine (dqStealNone m p at_ size top bottom task rest _ st w v won hw hp hpm ho hs (by omega) hv u3 hA).mono ?_
      rintro e w2 ⟨rfl, l', h2, h3, k2⟩
      exact ⟨rfl, dq_ends hpT (by simp [dqGive, hA]) hnone hs hout h2 h3 (k2.mono (by simp))⟩
    · refine (dqStealSome m p at_ size top bottom task rest _ st w v won hw hp hpm ho hs hr u3 hv u3 (by omega)).mono ?_
      rintro e w2 ⟨rfl, h2, h3, k2⟩
      have hg : dqGive ⟨at_, size, 3, stask, 2, b, top, sv, swon, none⟩ v won = ⟨at_, size, 3, stask, 3, v, top, sv, swon, none⟩ := by simp [dqGive, hA]
      rw [hg]
      exact ⟨rfl, dq_asks hpT hT rfl (by simp [dqWant]) rfl h2 k2 fun _ => ⟨⟨hr, .inr (.inr ⟨rfl, .inr (.inr (.inl rfl))⟩), u1, hv, u3, u4⟩, p, _, _, _, _, hpT, by simp [dqFn], h3, fun h => (by simp at h), fun h => (by simp at h), fun _ => ⟨fun _ => rfl, fun h => (by simp at h), hout⟩⟩⟩
  · subst h
    obtain rfl := hto (by decide)
    refine (dqStealTask m p at_ size top bottom task rest _ st w v won hw hp hpm ho hs u3).mono ?_
    rintro e w2 ⟨rfl, h2, h3, k2⟩
    exact ⟨rfl, dq_asks hpT hT (s' := ⟨at_, size, 3, stask, 4, b, top, v, swon, none⟩) rfl (by simp [dqWant]) rfl h2 k2 fun _ => ⟨⟨hr, .inr (.inr ⟨rfl, .inr (.inr (.inr rfl))⟩), u1, u2, u3, hv⟩, p, _, _, _, _, hpT, by simp [dqFn], h3, fun h => (by simp at h), fun h => (by simp at h), fun _ => ⟨fun _ => rfl, fun _ => rfl, hout⟩⟩⟩
  · subst h
    obtain rfl := hto (by decide)
    obtain rfl := hta rfl
    cases won with
    | true =>
      refine (dqStealWon m p at_ size top bottom task rest v _ st w hw hp ho (by omega)).mono ?_
      rintro e w2 ⟨rfl, l', h2, h3, k2⟩
      exact ⟨rfl, dq_ends hpT (by simp [dqGive]) hnone hs hout h2 h3 (k2.mono (by simp))⟩
    | false =>
      refine (dqStealLost m p at_ size top bottom task rest v _ st w hw hp ho (by omega)).mono ?_
      rintro e w2 ⟨rfl, l', h2, h3, k2⟩
      exact ⟨rfl, dq_ends hpT (by simp [dqGive]) hnone hs hout h2 h3 (k2.mono (by simp))⟩

set_option maxHeartbeats 1600000 in
/-- A pop's step. -/
theorem dqPop_goes (m p : Nat) (w : World) (T : List Nat) (s : DqS) (st : WSt) (v top bottom task : Int) (won : Bool) (rest : List Value) (hw : Wk w m st) (ho : st.over = false) (hs : st.sub = none) (hu : st.under = 1) (hT : ∀ k ∈ T, k < w.heap.size ∧ k ≠ m) (hv : M.U v)
    (hov : s.over = none) (hk : s.kind = 2) (hok : dqOk s) (hpT : p ∈ T) (hp : Row w p (dqTy s.kind) (stCells m s.at_ s.size top bottom task rest)) (hkn : dqKnows w m p T st.outer s top bottom task rest) :
    Calls Tryz.prog (dqFn s) #[.pointer (some ⟨p, 0, none⟩), .int .u64 v, .bool won] w fun e w' => e = .returned (.tuple #[]) ∧ GoesO dequeM (dqE m) m st (dequeM.held s) T (dqGive s v won) w w' := by
  obtain ⟨at_, size, kind, stask, step, b, t, sv, swon, over⟩ := s
  simp only at hov hk
  subst hov hk
  obtain ⟨hr, hst, u1, u2, u3, u4⟩ := hok
  simp only at hr hst u1 u2 u3 u4 hp
  obtain ⟨-, k1, -⟩ := hkn
  obtain ⟨hbo, hto, hta, hre⟩ := k1 rfl
  simp only at hbo hto hta hre
  have hpm := (hT p hpT).2
  have a0 := hr.2.1
  have a1 : at_ < 65536 := by have := hr.2.2; have := hr.1; omega
  have hpp : ∀ k ∈ T, k ≠ p → k ∉ [m, p] := fun k hk hne => by simp [hne, (hT k hk).2]
  have hnone : step ≠ 6 → dequeM.held ⟨at_, size, 2, stask, step, b, t, sv, swon, none⟩ = [] := fun h => by simp [dequeM, dqHeld, h]
  have hquiet : step ≠ 6 → rest = [.int .i64 5, .int .u64 0, .slice none 0 0] ∧ st.outer = .slice none 0 0 := fun h => by
    rcases hre with ⟨h1, -⟩ | ⟨-, h1, h2⟩
    · exact absurd h1 h
    · exact ⟨h1, h2⟩
  rcases hst with ⟨h, -⟩ | ⟨-, h | h | h | h | h | h⟩ | ⟨h, -⟩
  · simp at h
  · subst h
    obtain ⟨hrest, hout⟩ := hquiet (by decide)
    have hd : M.U ((v - 1) % 18446744073709551616) := ⟨Int.emod_nonneg _ (by decide), Int.emod_lt_of_pos _ (by decide)⟩
    refine (dqPopBottom m p at_ size top bottom task rest _ st w v won hw hp hpm ho hs a0 a1).mono ?_
    rintro e w2 ⟨rfl, h2, h3, k2⟩
    exact ⟨rfl, dq_asks hpT hT (s' := ⟨at_, size, 2, stask, 2, (v - 1) % 18446744073709551616, t, sv, swon, none⟩) rfl (by simp [dqWant]) rfl h2 k2 fun _ => ⟨⟨hr, .inr (.inl ⟨rfl, .inr (.inl rfl)⟩), u1, hd, u3, u4⟩, p, _, _, _, _, hpT, by simp [dqFn], h3, fun h => (by simp at h), fun _ => ⟨fun _ => rfl, fun h => (by simp at h), fun h => (by simp at h), .inr ⟨by simp, hrest, hout⟩⟩, fun h => (by simp at h)⟩⟩
  · subst h
    obtain ⟨hrest, hout⟩ := hquiet (by decide)
    obtain rfl := hbo (by decide)
    refine (dqPopLowered m p at_ size top bottom task rest _ st w v won hw hp hpm ho hs).mono ?_
    rintro e w2 ⟨rfl, h2, h3, k2⟩
    exact ⟨rfl, dq_asks hpT hT (s' := ⟨at_, size, 2, stask, 3, bottom, t, sv, swon, none⟩) rfl (by simp [dqWant]) rfl h2 k2 fun _ => ⟨⟨hr, .inr (.inl ⟨rfl, .inr (.inr (.inl rfl))⟩), u1, u2, u3, u4⟩, p, _, _, _, _, hpT, by simp [dqFn], h3, fun h => (by simp at h), fun _ => ⟨fun _ => rfl, fun h => (by simp at h), fun h => (by simp at h), .inr ⟨by simp, hrest, hout⟩⟩, fun h => (by simp at h)⟩⟩
  · subst h
    obtain ⟨hrest, hout⟩ := hquiet (by decide)
    obtain rfl := hbo (by decide)
    have hg : dqGive ⟨at_, size, 2, stask, 3, bottom, t, sv, swon, none⟩ v won = ⟨at_, size, 2, stask, 4, bottom, v, sv, swon, none⟩ := by simp [dqGive]
    rw [hg]
    by_cases hA : dqAhead bottom v < 0
    · refine (dqPopBack m p at_ size top bottom task rest _ st w v won hw hp hpm ho hs a0 a1 u2 hv hA).mono ?_
      rintro e w2 ⟨rfl, h2, h3, k2⟩
      exact ⟨rfl, dq_asks hpT hT rfl (by simp [dqWant, hA]) rfl h2 k2 fun _ => ⟨⟨hr, .inr (.inl ⟨rfl, .inr (.inr (.inr (.inl rfl)))⟩), u1, u2, hv, u4⟩, p, _, _, _, _, hpT, by simp [dqFn, hA], h3, fun h => (by simp at h), fun _ => ⟨fun _ => rfl, fun _ => rfl, fun h => (by simp at h), .inr ⟨by simp, hrest, hout⟩⟩, fun h => (by simp at h)⟩⟩
    · refine (dqPopSlot m p at_ size top bottom task rest _ st w v won hw hp hpm ho hs hr u2 u2 hv (by omega)).mono ?_
      rintro e w2 ⟨rfl, h2, h3, k2⟩
      exact ⟨rfl, dq_asks hpT hT rfl (by simp [dqWant, hA]) rfl h2 k2 fun _ => ⟨⟨hr, .inr (.inl ⟨rfl, .inr (.inr (.inr (.inl rfl)))⟩), u1, u2, hv, u4⟩, p, _, _, _, _, hpT, by simp [dqFn, hA], h3, fun h => (by simp at h), fun _ => ⟨fun _ => rfl, fun _ => rfl, fun h => (by simp at h), .inr ⟨by simp, hrest, hout⟩⟩, fun h => (by simp at h)⟩⟩
  · subst h
    obtain ⟨hrest, hout⟩ := hquiet (by decide)
    obtain rfl := hbo (by decide)
    obtain rfl := hto (by decide)
    by_cases hA : dqAhead bottom top < 0
    · have hF : dqFn ⟨at_, size, 2, stask, 4, bottom, top, sv, swon, none⟩ = 282 := by simp [dqFn, hA]
      rw [hF]
      subst hrest
      refine (dqPopFinish m p at_ size top bottom task 5 0 v won _ st w hw hp ho (by omega)).mono ?_
      rintro e w2 ⟨rfl, l', h2, h3, k2⟩
      exact ⟨rfl, dq_ends hpT (by simp [dqGive, hA]) (hnone (by decide)) hs hout h2 h3 (k2.mono (by simp))⟩
    · have hF : dqFn ⟨at_, size, 2, stask, 4, bottom, top, sv, swon, none⟩ = 280 := by simp [dqFn, hA]
      rw [hF]
      by_cases hB : 0 < dqAhead bottom top
      · refine (dqPopSome m p at_ size top bottom task rest _ st w v won hw hp hpm ho hs (by omega) u2 u3 hB).mono ?_
        rintro e w2 ⟨rfl, l', h2, h3, k2⟩
        exact ⟨rfl, dq_ends hpT (by simp [dqGive, hA, hB]) (hnone (by decide)) hs hout h2 h3 k2⟩
      · refine (dqPopClaim m p at_ size top bottom task rest _ st w v won hw hp hpm ho hs u3 u2 u3 (by omega)).mono ?_
        rintro e w2 ⟨rfl, h2, h3, k2⟩
        have hg : dqGive ⟨at_, size, 2, stask, 4, bottom, top, sv, swon, none⟩ v won = ⟨at_, size, 2, stask, 5, bottom, top, v, swon, none⟩ := by simp [dqGive, hA, hB]
        rw [hg]
        exact ⟨rfl, dq_asks hpT hT rfl (by simp [dqWant]) rfl h2 k2 fun _ => ⟨⟨hr, .inr (.inl ⟨rfl, .inr (.inr (.inr (.inr (.inl rfl))))⟩), u1, u2, u3, hv⟩, p, _, _, _, _, hpT, by simp [dqFn], h3, fun h => (by simp at h), fun _ => ⟨fun _ => rfl, fun _ => rfl, fun _ => rfl, .inr ⟨by simp, hrest, hout⟩⟩, fun h => (by simp at h)⟩⟩
  · subst h
    obtain ⟨hrest, hout⟩ := hquiet (by decide)
    obtain rfl := hbo (by decide)
    obtain rfl := hto (by decide)
    obtain rfl := hta (by decide)
    cases won with
    | false =>
      refine (dqPopLost m p at_ size top bottom task rest _ st w v hw hp hpm ho hs a0 a1).mono ?_
      rintro e w2 ⟨rfl, h2, h3, k2⟩
      exact ⟨rfl, dq_asks hpT hT (s' := ⟨at_, size, 2, stask, 6, bottom, top, task, false, none⟩) rfl (by simp [dqWant]) rfl h2 k2 fun _ => ⟨⟨hr, .inr (.inl ⟨rfl, .inr (.inr (.inr (.inr (.inr rfl))))⟩), u1, u2, u3, u4⟩, p, _, _, _, _, hpT, by simp [dqFn], h3, fun h => (by simp at h), fun _ => ⟨fun _ => rfl, fun _ => rfl, fun _ => rfl, .inr ⟨by simp, hrest, hout⟩⟩, fun h => (by simp at h)⟩⟩
    | true =>
      subst hrest
      have hplt := hp.lt
      refine (dqPopWon m p at_ size top bottom task 5 0 _ st w v hw hp hpm ho hs hout a0 a1).mono ?_
      rintro e w2 ⟨rfl, tk, ov, g, o, bb, h2, h3, h4, h5, ⟨g0, o0, b0⟩, hbo', htx, k2⟩
      have hT2 : ∀ k ∈ p :: [g, o, bb], k < w2.heap.size := by
        intro k hk
        simp at hk
        rcases hk with rfl | rfl | rfl | rfl
        · exact h3.lt
        · exact h5.row.lt
        · exact h5.wk.lt
        · exact h5.box.lt
      have hmlt := hw.lt
      refine ⟨rfl, k2.mono (by intro k hk _; simp at hk; rcases hk with rfl | rfl; simp; simp [hpT]), tk, ov, .inl ⟨_, _, _, _, p :: [g, o, bb], by simp [dequeM, dqGive, dqWant], by simp [dequeM, dqGive], .inr ⟨by simp [dequeM, dqGive, dqHeld], by simpa [dequeM, dqGive, dqHeld, ints] using h4⟩, h2, ?_, hT2, fun k hk => ?_⟩⟩
      · intro _
        have hg : dqGive ⟨at_, size, 2, stask, 5, bottom, top, task, swon, none⟩ v true = ⟨at_, size, 2, stask, 6, bottom, top, task, true, none⟩ := by simp [dqGive]
        rw [hg]
        exact ⟨⟨hr, .inr (.inl ⟨rfl, .inr (.inr (.inr (.inr (.inr rfl))))⟩), u1, u2, u3, u4⟩, p, _, _, _, _, by simp, by simp [dqFn], h3, fun h => (by simp at h), fun _ => ⟨fun _ => rfl, fun _ => rfl, fun _ => rfl, .inl ⟨rfl, rfl, rfl, g, o, bb, h5, by simp, hbo', by omega, by omega, by omega⟩⟩, fun h => (by simp at h)⟩
      · simp at hk
        rcases hk with rfl | rfl | rfl | rfl
        · exact ⟨hpm, .inl hpT⟩
        · exact ⟨by omega, .inr ⟨g0, .inr fun h => (htx _ h).1 rfl⟩⟩
        · exact ⟨by omega, .inr ⟨o0, .inr fun h => (htx _ h).2.1 rfl⟩⟩
        · exact ⟨by omega, .inr ⟨b0, .inr fun h => (htx _ h).2.2 rfl⟩⟩
  · subst h
    obtain rfl := hbo (by decide)
    obtain rfl := hto (by decide)
    obtain rfl := hta (by decide)
    rcases hre with ⟨-, hwn, hrest, hseen⟩ | ⟨hwn, hrest, hout⟩
    · subst hrest hwn
      refine (dqPopFinish m p at_ size top bottom task 0 task v won _ st w hw hp ho (by omega)).mono ?_
      rintro e w2 ⟨rfl, l', h2, h3, k2⟩
      exact ⟨rfl, dq_ends_seen hpT hT (by simp [dqGive]) hs hp hseen h2 h3 k2⟩
    · subst hrest
      have hwf : swon = false := by cases swon with
        | true => exact absurd ⟨rfl, rfl⟩ hwn
        | false => rfl
      subst hwf
      refine (dqPopFinish m p at_ size top bottom task 5 0 v won _ st w hw hp ho (by omega)).mono ?_
      rintro e w2 ⟨rfl, l', h2, h3, k2⟩
      exact ⟨rfl, dq_ends hpT (by simp [dqGive]) (by simp [dequeM, dqHeld]) hs hout h2 h3 (k2.mono (by simp))⟩
  · simp at h

theorem dqStepsAll (m : Nat) : ∀ w T F fi ca s st v won x, Wk w m st → st.over = false → st.sub = none → st.under = 1 → (∀ k ∈ T, k < w.heap.size ∧ k ≠ m) → Sl w 1 st.tasks (dequeM.held s).length (ints .u64 (dequeM.held s)) → dqE m w T (.func (.func F) fi ca) st.outer s → M.U v → dequeM.want s = some x →
      Calls Tryz.prog F (fi ++ (#[.int .u64 v, .bool won] ++ ca)) w fun e w' => e = .returned (.tuple #[]) ∧ GoesO dequeM (dqE m) m st (dequeM.held s) T (dequeM.give s v won) w w' := by
  intro w T F fi ca s st v won x hw ho hs hu hT _ hE hv hx
  have hov : s.over = none := by
    cases h : s.over with
    | none => rfl
    | some r => simp [dequeM, h] at hx
  obtain ⟨hok, p, top, bottom, task, rest, hpT, hn, hp, hkn⟩ := hE hov
  injection hn with e1 e2 e3
  injection e1 with e1
  subst e1 e2 e3
  have hgv : dequeM.give s v won = dqGive s v won := by simp [dequeM, hov]
  rw [hgv]
  rcases hok.2.1 with h | h | h
  · exact dqPush_goes m p w T s st v top bottom task won rest hw ho hs hu hT hv hov h.1 hok hpT hp hkn
  · exact dqPop_goes m p w T s st v top bottom task won rest hw ho hs hu hT hv hov h.1 hok hpT hp hkn
  · exact dqSteal_goes m p w T s st v top bottom task won rest hw ho hs hu hT hv hov h.1 hok hpT hp hkn
theorem dqRuns (m : Nat) : Runs dequeM (LoneIO dequeM (dqE m) m) m := by
  refine runs_ownO dequeM (dqE m) m (dqE_keeps m) (dqEnded m) ?_ ?_ ?_ (dqStepsAll m)
  · intro s v won h
    cases ho : s.over with
    | none => simp [dequeM, ho] at h
    | some r => simp [dequeM, ho]
  · intro s x h
    cases ho : s.over with
    | none => exact ho
    | some r => simp [dequeM, ho] at h
  · intro w T nx ov s x h hx
    have hov : s.over = none := by
      cases h : s.over with
      | none => rfl
      | some r => simp [dequeM, h] at hx
    obtain ⟨-, p, _, _, _, _, -, hn, -⟩ := h hov
    exact ⟨_, _, _, hn, dqFn_ok s⟩
end Go.Proofs.YtjfgpplnlepnoaaGreat

/-
  Contracts: a deque's Right, Push, Pop and Steal.
-/
namespace Go.Proofs.YtjfgpplnlepnoaaGreat
set_option maxRecDepth 100000
set_option linter.unusedSimpArgs false
set_option linter.unusedVariables false
open Go.ChangeShapes Go.WideShapes Go.ChangeAt Go.RowKit

/-- What the test by bits tells of the numbers from 2 to 256. -/
def dqBits (n : Nat) : Bool := decide (n < 2) || ((bits BinOp.and IntKind.i64 (n : Int) ((n : Int) - 1) == 0) == (n == 2 || n == 4 || n == 8 || n == 16 || n == 32 || n == 64 || n == 128 || n == 256))
theorem dqBits_all : (List.range 257).all dqBits = true := by kernel_rfl
theorem dqBits_at (size : Int) (h1 : 2 ≤ size) (h2 : size ≤ 256) : bits BinOp.and IntKind.i64 size (size - 1) = 0 ↔ (size = 2 ∨ size = 4 ∨ size = 8 ∨ size = 16 ∨ size = 32 ∨ size = 64 ∨ size = 128 ∨ size = 256) := by
  obtain ⟨n, rfl⟩ := Int.eq_ofNat_of_zero_le (show 0 ≤ size by omega)
  have h := List.all_eq_true.1 dqBits_all n (List.mem_range.2 (by omega))
  unfold dqBits at h
  rw [Bool.or_eq_true, decide_eq_true_eq] at h
  rcases h with h | h
  · omega
  · rw [beq_iff_eq] at h
    constructor
    · intro h0
      rw [h0] at h
      simp at h
      omega
    · intro h0
      have : (n == 2 || n == 4 || n == 8 || n == 16 || n == 32 || n == 64 || n == 128 || n == 256) = true := by simp; omega
      rw [this] at h
      simpa using h

theorem dqRight_any (at_ size : Int) (w : World) (hs : -9223372036854775808 ≤ size) :
    Calls Tryz.prog 125 #[.agg #[.int .i64 at_, .int .i64 size]] w fun e w' => e = .returned (.bool (decide (dqRight at_ size))) ∧ Keeps [] w w' := by
  obtain ⟨W1, hW1⟩ : ∃ W1, w.alloc (.cells #[.int .i64 at_, .int .i64 size] 75) = W1 := ⟨_, rfl⟩
  have hb : Box W1 w.heap.size #[.int .i64 at_, .int .i64 size] := by rw [← hW1]; exact Box.new _ _ _
  have hk1 : Keeps [] w W1 := by rw [← hW1]; exact (Keeps.refl _ _).alloc _
  have c0 := hb.cells 0
  have c1 := hb.cells 1
  have HK := Lib.hid hk1
  clear hb hk1
  by_cases h1 : size < 2
  · have HD : Hid (decide (dqRight at_ size) = false) := Lib.hid (decide_eq_false fun h => by have := h.1; omega)
    rw [HD.out]
    have d1 : decide ((2 : Int) ≤ size) = false := decide_eq_false (by omega)
    go_enter Tryz.func125, Tryz.ntmps125
    go_wp2
    go_ret
    exact ⟨rfl, HK.out⟩
  have d1 : decide ((2 : Int) ≤ size) = true := decide_eq_true (by omega)
  by_cases h2 : 256 < size
  · have HD : Hid (decide (dqRight at_ size) = false) := Lib.hid (decide_eq_false fun h => by have := h.1; omega)
    rw [HD.out]
    have d2 : decide (size ≤ 256) = false := decide_eq_false (by omega)
    go_enter Tryz.func125, Tryz.ntmps125
    go_wp2
    go_ret
    exact ⟨rfl, HK.out⟩
  have d2 : decide (size ≤ 256) = true := decide_eq_true (by omega)
  have hn1 : 2 ≤ size := by omega
  have hn2 : size ≤ 256 := by omega
  have hbits := dqBits_at size hn1 hn2
  obtain ⟨y, hy⟩ : ∃ y, bits BinOp.and IntKind.i64 size (size - 1) = y := ⟨_, rfl⟩
  rw [hy] at hbits
  by_cases h3 : y = 0
  · have hpw := hbits.1 h3
    have d3 : decide (y = 0) = true := decide_eq_true h3
    by_cases h4 : at_ < 0
    · have HD : Hid (decide (dqRight at_ size) = false) := Lib.hid (decide_eq_false fun h => by have := h.2.1; omega)
      rw [HD.out]
      have d4 : decide (0 ≤ at_) = false := decide_eq_false (by omega)
      clear hbits hpw
      go_enter Tryz.func125, Tryz.ntmps125
      go_wp2
      go_ret
      exact ⟨rfl, HK.out⟩
    have d4 : decide (0 ≤ at_) = true := decide_eq_true (by omega)
    by_cases h5 : at_ < 65536 - size - 1
    · have HD : Hid (decide (dqRight at_ size) = true) := Lib.hid (decide_eq_true ⟨hpw, by omega, h5⟩)
      rw [HD.out]
      have d5 : decide (at_ < 65536 - size - 1) = true := decide_eq_true h5
      clear hbits hpw
      go_enter Tryz.func125, Tryz.ntmps125
      go_wp2
      go_ret
      exact ⟨rfl, HK.out⟩
    · have HD : Hid (decide (dqRight at_ size) = false) := Lib.hid (decide_eq_false fun h => h5 h.2.2)
      rw [HD.out]
      have d5 : decide (at_ < 65536 - size - 1) = false := decide_eq_false h5
      clear hbits hpw
      go_enter Tryz.func125, Tryz.ntmps125
      go_wp2
      go_ret
      exact ⟨rfl, HK.out⟩
  · have HD : Hid (decide (dqRight at_ size) = false) := Lib.hid (decide_eq_false fun h => h3 (hbits.2 h.1))
    rw [HD.out]
    have d3 : decide (y = 0) = false := decide_eq_false h3
    clear hbits
    go_enter Tryz.func125, Tryz.ntmps125
    go_wp2
    go_ret
    exact ⟨rfl, HK.out⟩

/-- A new one that has ended at once. -/
theorem ended_midD {σ : Type} {K : Mach σ} {R : World → List Nat → Value → Value → σ → Prop} {m : Nat} {s0 : σ} {w1 w2 : World} {c v : Int} {l' : Value} (h1 : m < w1.heap.size) (hw : Wk w2 m { WSt.zero with under := 1, over := true, code := c, v := v, l := l' }) (ho : w2.ownsRow w1.heap.size 26 1 l' 0 []) (hk : Keeps [m] w1 w2)
    (hx : K.want s0 = none) (hr : K.res s0 = some ⟨c, v, []⟩) (hh : K.held s0 = []) (hE : ∀ w T nx ov s, K.want s = none → R w T nx ov s) : MidO K R m [m] [] s0 w1 w2 { WSt.zero with under := 1, over := true, code := c, v := v, l := l' } := by
  have hol := fun g hg => ho.lt g hg
  have hf : K.face s0 = ⟨none, some ⟨c, v, []⟩, []⟩ := by simp only [Mach.face, hx, hr, hh]
  refine ⟨.inr rfl, m :: l'.ownBlock.toList, [], ?_, ?_, by simp, by simp, hE _ _ _ _ _ hx, hk.mono (by simp), ?_, by simp⟩
  · rw [hf]
    exact ⟨hw, rfl, rfl, by simp, ⟨rfl, .inl ⟨_, _, rfl, rfl⟩⟩, (fun g hg => by cases hg), by simp, rfl, (fun r hr => by cases hr; exact ⟨rfl, rfl, by simpa [ints] using Sl.of_owns ho, by simp⟩), (fun g hg => ⟨by simp [show l'.ownBlock = some g from hg], by have := (hol g hg).1; omega⟩), (fun _ => rfl), (fun y hy => by cases hy)⟩
  · intro k hk'
    simp at hk'
    rcases hk' with rfl | hk'
    · exact hw.lt
    · exact (hol k hk').2
  · intro k hk'
    simp at hk'
    rcases hk' with rfl | hk'
    · exact .inl (by simp)
    · exact .inr (hol k hk').1
/-- What stands in a new walk while its first function is under way. -/
@[reducible] def wkD1 : WSt := { WSt.zero with under := 1 }

set_option maxHeartbeats 1600000 in
theorem dqPush1_any (m bv : Nat) (at_ size v : Int) (w : World) (hw : Wk w m wkD1) (hb : Box w bv #[.int .u64 v]) (hr : dqRight at_ size) (hv : M.U v) :
    Calls Tryz.prog 267 #[.agg #[.pointer (some ⟨m, 0, none⟩), .int .i64 at_, .int .i64 size, .int .u64 0, .int .u64 0, .int .u64 0], .pointer (some ⟨bv, 0, none⟩)] w fun e w' => e = .returned (.tuple #[]) ∧ GoesO dequeM (dqE m) m wkD1 [] [] (dqNew at_ size 1 v) w w' := by
  have U0 : M.U 0 := ⟨by decide, by decide⟩
  have h0 := hb.cells 0
  have hlt := hb.lt
  have hml := hw.lt
  obtain ⟨W2, hW2⟩ : ∃ W2, (w.alloc (.cells #[.pointer (some ⟨m, 0, none⟩), .int .i64 at_, .int .i64 size, .int .u64 0, .int .u64 0, .int .u64 0] 132)).alloc (.cells #[.pointer (some ⟨m, 0, none⟩), .int .i64 at_, .int .i64 size, .int .u64 0, .int .u64 0, .int .u64 v] 236) = W2 := ⟨_, rfl⟩
  have k2 : Keeps [] w W2 := by rw [← hW2]; exact ((Keeps.refl _ _).alloc _).alloc _
  have hp2 : Row W2 (w.heap.size + 1) 236 (stCells m at_ size 0 0 v []) := by rw [← hW2]; have := Row.new (w.alloc (.cells #[.pointer (some ⟨m, 0, none⟩), .int .i64 at_, .int .i64 size, .int .u64 0, .int .u64 0, .int .u64 0] 132)) #[.pointer (some ⟨m, 0, none⟩), .int .i64 at_, .int .i64 size, .int .u64 0, .int .u64 0, .int .u64 v] 236; simpa [stCells] using this
  have hz2 : W2.heap.size = w.heap.size + 2 := by rw [← hW2]; simp
  have HE := Lib.hid (dqPushBegin m (w.heap.size + 1) at_ size 0 0 v [] _ wkD1 W2 (hw.keeps k2 (by simp)) hp2 (by omega) rfl rfl rfl hr.2.1 (by have := hr.1; have := hr.2.2; omega))
  have HK := Lib.hid k2
  have HR := Lib.hid hr
  have HV := Lib.hid hv
  clear hb hw k2 hp2 hr hv
  go_enter Tryz.func267, Tryz.ntmps267
  go_wp2_with fail
  refine HE.out.mono ?_
  rintro e2 w3 ⟨rfl, t, ov, g, o, b, h2, h3, h4, h5, ⟨g0, o0, b0⟩, hbo, htx, k3⟩
  have HH : Hid (_ ∧ _ ∧ _ ∧ _ ∧ _ ∧ _) := Lib.hid ⟨h2, h3, h4, h5, htx, k3⟩
  clear h2 h3 h4 h5 htx k3
  go_wp2
  first | go_end0 | refine bodyPost_ret (results_none rfl _ _ _) rfl ?_
  obtain ⟨h2, h3, h4, h5, htx, k3⟩ := HH.out
  have hN : dqNew at_ size 1 v = ⟨at_, size, 1, v, 1, 0, 0, 0, false, none⟩ := by simp [dqNew, HR.out]
  rw [hN]
  refine ⟨rfl, (HK.out.mono (by simp)).trans (k3.mono (by simp)), t, ov, .inl ⟨_, _, _, _, [w.heap.size + 1, g, o, b], by simp [dequeM, dqWant], rfl, .inr ⟨by simp [dequeM, dqHeld], by simpa [dequeM, dqHeld, ints] using owns_base h4 (by omega)⟩, h2, fun _ => ⟨⟨HR.out, .inl ⟨rfl, .inl rfl⟩, HV.out, U0, U0, U0⟩, w.heap.size + 1, 0, 0, v, [], by simp, by simp [dqFn], h3, fun _ => ⟨rfl, fun h => absurd rfl h, g, o, b, h5, by simp, hbo, by omega, by omega, by omega⟩, fun h => (by simp at h), fun h => (by simp at h)⟩, fun k hk => ?_, fun k hk => ?_⟩⟩
  · simp at hk
    rcases hk with rfl | rfl | rfl | rfl
    · exact h3.lt
    · exact h5.row.lt
    · exact h5.wk.lt
    · exact h5.box.lt
  · simp at hk
    have htl := fun x hx => h4.lt x hx
    rcases hk with rfl | rfl | rfl | rfl
    · exact ⟨by omega, .inr ⟨by omega, .inr fun h => by have := htl _ h; omega⟩⟩
    · exact ⟨by omega, .inr ⟨by omega, .inr fun h => (htx _ h).1 rfl⟩⟩
    · exact ⟨by omega, .inr ⟨by omega, .inr fun h => (htx _ h).2.1 rfl⟩⟩
    · exact ⟨by omega, .inr ⟨by omega, .inr fun h => (htx _ h).2.2 rfl⟩⟩

set_option maxHeartbeats 1600000 in
theorem dqSteal1_any (m : Nat) (at_ size : Int) (w : World) (hw : Wk w m wkD1) (hr : dqRight at_ size) :
    Calls Tryz.prog 70 #[.agg #[.pointer (some ⟨m, 0, none⟩), .int .i64 at_, .int .i64 size, .int .u64 0, .int .u64 0, .int .u64 0]] w fun e w' => e = .returned (.tuple #[]) ∧ GoesO dequeM (dqE m) m wkD1 [] [] (dqNew at_ size 3 0) w w' := by
  have U0 : M.U 0 := ⟨by decide, by decide⟩
  have hml := hw.lt
  obtain ⟨W2, hW2⟩ : ∃ W2, (w.alloc (.cells #[.pointer (some ⟨m, 0, none⟩), .int .i64 at_, .int .i64 size, .int .u64 0, .int .u64 0, .int .u64 0] 132)).alloc (.cells #[.pointer (some ⟨m, 0, none⟩), .int .i64 at_, .int .i64 size, .int .u64 0, .int .u64 0, .int .u64 0] 135) = W2 := ⟨_, rfl⟩
  have k2 : Keeps [] w W2 := by rw [← hW2]; exact ((Keeps.refl _ _).alloc _).alloc _
  have hp2 : Row W2 (w.heap.size + 1) 135 (stCells m at_ size 0 0 0 []) := by rw [← hW2]; have := Row.new (w.alloc (.cells #[.pointer (some ⟨m, 0, none⟩), .int .i64 at_, .int .i64 size, .int .u64 0, .int .u64 0, .int .u64 0] 132)) #[.pointer (some ⟨m, 0, none⟩), .int .i64 at_, .int .i64 size, .int .u64 0, .int .u64 0, .int .u64 0] 135; simpa [stCells] using this
  have hz2 : W2.heap.size = w.heap.size + 2 := by rw [← hW2]; simp
  have HE := Lib.hid (dqStealBegin m (w.heap.size + 1) at_ size 0 0 0 [] _ wkD1 W2 (hw.keeps k2 (by simp)) hp2 (by omega) rfl rfl)
  have HK := Lib.hid k2
  have HR := Lib.hid hr
  clear hw k2 hp2 hr
  go_enter Tryz.func70, Tryz.ntmps70
  go_wp2_with fail
  refine HE.out.mono ?_
  rintro e2 w3 ⟨rfl, h2, h3, k3⟩
  have HH : Hid (_ ∧ _ ∧ _) := Lib.hid ⟨h2, h3, k3⟩
  clear h2 h3 k3
  go_wp2
  first | go_end0 | refine bodyPost_ret (results_none rfl _ _ _) rfl ?_
  obtain ⟨h2, h3, k3⟩ := HH.out
  have hN : dqNew at_ size 3 0 = ⟨at_, size, 3, 0, 1, 0, 0, 0, false, none⟩ := by simp [dqNew, HR.out]
  rw [hN]
  refine ⟨rfl, (((HK.out.mono (T := [m, w.heap.size + 1]) (by simp)).trans k3).mono (by intro k hk hl; simp at hk; rcases hk with rfl | rfl; simp; omega)), .slice none 0 0, .slice none 0 0, .inl ⟨_, _, _, _, [w.heap.size + 1], by simp [dequeM, dqWant], rfl, .inl ⟨rfl, by simp [dequeM, dqHeld]⟩, h2, fun _ => ⟨⟨HR.out, .inr (.inr ⟨rfl, .inl rfl⟩), U0, U0, U0, U0⟩, w.heap.size + 1, 0, 0, 0, [], by simp, by simp [dqFn], h3, fun h => (by simp at h), fun h => (by simp at h), fun _ => ⟨fun h => absurd rfl h, fun h => (by simp at h), rfl⟩⟩, fun k hk => ?_, fun k hk => ?_⟩⟩
  · simp at hk; subst hk; exact h3.lt
  · simp at hk; subst hk; exact ⟨by omega, .inr ⟨by omega, .inl rfl⟩⟩

set_option maxHeartbeats 1600000 in
theorem dqPop1_any (m : Nat) (at_ size : Int) (w : World) (hw : Wk w m wkD1) (hr : dqRight at_ size) :
    Calls Tryz.prog 265 #[.agg #[.pointer (some ⟨m, 0, none⟩), .int .i64 at_, .int .i64 size, .int .u64 0, .int .u64 0, .int .u64 0]] w fun e w' => e = .returned (.tuple #[]) ∧ GoesO dequeM (dqE m) m wkD1 [] [] (dqNew at_ size 2 0) w w' := by
  have U0 : M.U 0 := ⟨by decide, by decide⟩
  have hml := hw.lt
  obtain ⟨W2, hW2⟩ : ∃ W2, (w.alloc (.cells #[.pointer (some ⟨m, 0, none⟩), .int .i64 at_, .int .i64 size, .int .u64 0, .int .u64 0, .int .u64 0] 132)).alloc (.cells #[.pointer (some ⟨m, 0, none⟩), .int .i64 at_, .int .i64 size, .int .u64 0, .int .u64 0, .int .u64 0, .int .i64 5, .int .u64 0, .slice none 0 0] 234) = W2 := ⟨_, rfl⟩
  have k2 : Keeps [] w W2 := by rw [← hW2]; exact ((Keeps.refl _ _).alloc _).alloc _
  have hp2 : Row W2 (w.heap.size + 1) 234 (stCells m at_ size 0 0 0 [.int .i64 5, .int .u64 0, .slice none 0 0]) := by rw [← hW2]; have := Row.new (w.alloc (.cells #[.pointer (some ⟨m, 0, none⟩), .int .i64 at_, .int .i64 size, .int .u64 0, .int .u64 0, .int .u64 0] 132)) #[.pointer (some ⟨m, 0, none⟩), .int .i64 at_, .int .i64 size, .int .u64 0, .int .u64 0, .int .u64 0, .int .i64 5, .int .u64 0, .slice none 0 0] 234; simpa [stCells] using this
  have hz2 : W2.heap.size = w.heap.size + 2 := by rw [← hW2]; simp
  have HE := Lib.hid (dqPopBegin m (w.heap.size + 1) at_ size 0 0 0 _ _ wkD1 W2 (hw.keeps k2 (by simp)) hp2 (by omega) rfl rfl hr.2.1 (by have := hr.1; have := hr.2.2; omega))
  have HK := Lib.hid k2
  have HR := Lib.hid hr
  clear hw k2 hp2 hr
  go_enter Tryz.func265, Tryz.ntmps265
  go_wp2_with fail
  refine HE.out.mono ?_
  rintro e2 w3 ⟨rfl, h2, h3, k3⟩
  have HH : Hid (_ ∧ _ ∧ _) := Lib.hid ⟨h2, h3, k3⟩
  clear h2 h3 k3
  go_wp2
  first | go_end0 | refine bodyPost_ret (results_none rfl _ _ _) rfl ?_
  obtain ⟨h2, h3, k3⟩ := HH.out
  have hN : dqNew at_ size 2 0 = ⟨at_, size, 2, 0, 1, 0, 0, 0, false, none⟩ := by simp [dqNew, HR.out]
  rw [hN]
  refine ⟨rfl, (((HK.out.mono (T := [m, w.heap.size + 1]) (by simp)).trans k3).mono (by intro k hk hl; simp at hk; rcases hk with rfl | rfl; simp; omega)), .slice none 0 0, .slice none 0 0, .inl ⟨_, _, _, _, [w.heap.size + 1], by simp [dequeM, dqWant], rfl, .inl ⟨rfl, by simp [dequeM, dqHeld]⟩, h2, fun _ => ⟨⟨HR.out, .inr (.inl ⟨rfl, .inl rfl⟩), U0, U0, U0, U0⟩, w.heap.size + 1, 0, 0, 0, _, by simp, by simp [dqFn], h3, fun h => (by simp at h), fun _ => ⟨fun h => absurd rfl h, fun h => (by simp at h), fun h => (by simp at h), .inr ⟨by simp, rfl, rfl⟩⟩, fun h => (by simp at h)⟩, fun k hk => ?_, fun k hk => ?_⟩⟩
  · simp at hk; subst hk; exact h3.lt
  · simp at hk; subst hk; exact ⟨by omega, .inr ⟨by omega, .inl rfl⟩⟩

set_option maxHeartbeats 1600000 in
theorem along1_any (m bd bb : Nat) (at_ size kind v : Int) (F : FuncId) (ca : Array Value) (w : World) (hw : Wk w m wkD1) (hd : Box w bd #[.int .i64 at_, .int .i64 size]) (hb : Box w bb #[.func (.func F) #[] ca]) (hsz : -9223372036854775808 ≤ size)
    (hcf : ∀ args w, (callFunc F args).run Tryz.prog w = .ok (.enter F args) w)
    (hF : dqRight at_ size → ∀ w1, Wk w1 m wkD1 → Keeps [] w w1 → Calls Tryz.prog F (#[.agg #[.pointer (some ⟨m, 0, none⟩), .int .i64 at_, .int .i64 size, .int .u64 0, .int .u64 0, .int .u64 0]] ++ ca) w1 fun e w2 => e = .returned (.tuple #[]) ∧ GoesO dequeM (dqE m) m wkD1 [] [] (dqNew at_ size kind v) w1 w2) :
    Calls Tryz.prog 124 #[.pointer (some ⟨m, 0, none⟩), .pointer (some ⟨bd, 0, none⟩), .pointer (some ⟨bb, 0, none⟩)] w fun e w' => e = .returned (.tuple #[]) ∧ ∃ st2, Wk w' m st2 ∧ st2.under = 1 ∧ MidO dequeM (dqE m) m [m] [] (dqNew at_ size kind v) w w' st2 := by
  have HR := Lib.hid (fun W => dqRight_any at_ size W hsz)
  have HW := Lib.hid hw
  have hml := hw.lt
  have h0 := hd.cells 0
  have h1 := hd.cells 1
  have h2 := hb.cells 0
  have hdl := hd.lt
  have hbl := hb.lt
  by_cases hr : dqRight at_ size
  · have HF := Lib.hid (hF hr)
    rw [decide_eq_true hr] at HR
    have HRR := Lib.hid hr
    clear hw hd hb hF hr
    go_enter Tryz.func124, Tryz.ntmps124
    go_wp2_with fail
    refine (HR.out w).mono ?_
    rintro e1 w1 ⟨rfl, k1⟩
    have a0 := (k1.cell (p := ⟨bd, 0, none⟩) hdl (by simp)).trans h0
    have a1 := (k1.cell (p := ⟨bd, 1, none⟩) hdl (by simp)).trans h1
    have a2 := (k1.cell (p := ⟨bb, 0, none⟩) hbl (by simp)).trans h2
    have HE := Lib.hid (HF.out w1 (HW.out.keeps k1 (by simp)) k1)
    have HK1 := Lib.hid k1
    clear k1
    go_wp2_with fail
    refine HE.out.mono ?_
    rintro e2 w3 ⟨rfl, hg⟩
    have HG := Lib.hid hg
    clear hg
    go_wp2
    first | go_end0 | refine bodyPost_ret (results_none rfl _ _ _) rfl ?_
    have hov : (dqNew at_ size kind v).over = none := by simp [dqNew, HRR.out]
    exact ⟨rfl, GoesO.new (HG.out.from (HK1.out.mono (by simp))) HW.out (dqEnded m) (by simp [dequeM, hov])⟩
  · have HE := Lib.hid (fun W h => wBreak m wkD1 2 W h rfl (.inl (by decide)))
    rw [decide_eq_false hr] at HR
    have HRR := Lib.hid hr
    clear hw hd hb hF hr
    go_enter Tryz.func124, Tryz.ntmps124
    go_wp2_with fail
    refine (HR.out w).mono ?_
    rintro e1 w1 ⟨rfl, k1⟩
    have HW1 := Lib.hid (HW.out.keeps k1 (by simp))
    have HK1 := Lib.hid k1
    clear k1
    go_wp2_with fail
    refine (HE.out w1 HW1.out).mono ?_
    rintro e2 w3 ⟨rfl, l', hw3, ho3, k3⟩
    have HG : Hid (_ ∧ _ ∧ _) := Lib.hid ⟨hw3, ho3, k3⟩
    clear hw3 ho3 k3
    go_wp2
    first | go_end0 | refine bodyPost_ret (results_none rfl _ _ _) rfl ?_
    obtain ⟨hw3, ho3, k3⟩ := HG.out
    have hov : (dqNew at_ size kind v).over = some ⟨2, 0, []⟩ := by simp [dqNew, HRR.out]
    exact ⟨rfl, _, hw3, rfl, ended_midD hml hw3 (owns_base ho3 HK1.out.size) ((HK1.out.mono (by simp)).trans k3) (by simp [dequeM, hov]) hov (by simp [dequeM, dqHeld, hov]) (dqEnded m)⟩

set_option maxHeartbeats 1600000 in
theorem along_any (at_ size kind v : Int) (F : FuncId) (ca : Array Value) (w : World) (hsz : -9223372036854775808 ≤ size) (hcf : ∀ args w, (callFunc F args).run Tryz.prog w = .ok (.enter F args) w)
    (hF : dqRight at_ size → ∀ m w1, Wk w1 m wkD1 → Keeps [] w w1 → Calls Tryz.prog F (#[.agg #[.pointer (some ⟨m, 0, none⟩), .int .i64 at_, .int .i64 size, .int .u64 0, .int .u64 0, .int .u64 0]] ++ ca) w1 fun e w2 => e = .returned (.tuple #[]) ∧ GoesO dequeM (dqE m) m wkD1 [] [] (dqNew at_ size kind v) w1 w2) :
    Calls Tryz.prog 69 #[.agg #[.int .i64 at_, .int .i64 size], .func (.func F) #[] ca] w fun e w' => ∃ (m : Nat) (S : List Nat), e = .returned (.pointer (some ⟨m, 0, none⟩)) ∧ LoneIO dequeM (dqE m) m w' S (dqNew at_ size kind v) ∧ Keeps [] w w' ∧ ∀ k ∈ S, w.heap.size ≤ k := by
  obtain ⟨W1, hW1⟩ : ∃ W1, (w.alloc (.cells #[.int .i64 at_, .int .i64 size] 75)).alloc (.cells #[.func (.func F) #[] ca] 136) = W1 := ⟨_, rfl⟩
  have hk1 : Keeps [] w W1 := by rw [← hW1]; exact ((Keeps.refl _ _).alloc _).alloc _
  have hb : Box W1 w.heap.size #[.int .i64 at_, .int .i64 size] := by rw [← hW1]; exact (Box.new _ _ _).alloc _
  have hb1 : Box W1 (w.heap.size + 1) #[.func (.func F) #[] ca] := by rw [← hW1]; have := Box.new (w.alloc (.cells #[.int .i64 at_, .int .i64 size] 75)) #[.func (.func F) #[] ca] 136; simpa using this
  have HN := Lib.hid (new_goesO dequeM (dqE (W1.heap.size + 1)) (dqNew at_ size kind v) 124 #[.pointer (some ⟨w.heap.size, 0, none⟩), .pointer (some ⟨w.heap.size + 1, 0, none⟩)] W1 (dqE_keeps _) (dqEnded _) (fun _ _ => by kernel_rfl)
    (fun w3 h3 k3 => along1_any _ _ _ at_ size kind v F ca w3 h3 (hb.keeps k3 (by simp)) (hb1.keeps k3 (by simp)) hsz hcf (fun hr w4 h4 k4 => hF hr _ w4 h4 (hk1.trans (k3.trans k4)))))
  have HK := Lib.hid hk1
  clear hk1 hb hb1 hF
  go_enter Tryz.func69, Tryz.ntmps69
  go_wp2_with fail
  refine HN.out.mono ?_
  rintro e w4 ⟨rfl, S, hI, k4, hS⟩
  have HP : Hid (_ ∧ _ ∧ _) := Lib.hid ⟨hI, HK.out.trans k4, fun k hk => Nat.le_trans HK.out.size (hS k hk)⟩
  clear hI k4 hS
  go_wp2
  go_ret
  exact ⟨_, S, rfl, HP.out⟩

set_option maxHeartbeats 1600000 in
theorem dqPush_made (at_ size v : Int) (w : World) (hsz : -9223372036854775808 ≤ size) (hv : M.U v) :
    Calls Tryz.prog 262 #[.agg #[.int .i64 at_, .int .i64 size], .int .u64 v] w fun e w' => ∃ (m : Nat) (S : List Nat), e = .returned (.pointer (some ⟨m, 0, none⟩)) ∧ LoneIO dequeM (dqE m) m w' S (dqNew at_ size 1 v) ∧ Keeps [] w w' ∧ ∀ k ∈ S, w.heap.size ≤ k := by
  obtain ⟨W1, hW1⟩ : ∃ W1, (w.alloc (.cells #[.int .i64 at_, .int .i64 size] 75)).alloc (.cells #[.int .u64 v] 26) = W1 := ⟨_, rfl⟩
  have hk1 : Keeps [] w W1 := by rw [← hW1]; exact ((Keeps.refl _ _).alloc _).alloc _
  have hbd : Box W1 w.heap.size #[.int .i64 at_, .int .i64 size] := by rw [← hW1]; exact (Box.new _ _ _).alloc _
  have c0 := hbd.cells 0
  have c1 := hbd.cells 1
  clear hbd
  have hb : Box W1 (w.heap.size + 1) #[.int .u64 v] := by rw [← hW1]; have := Box.new (w.alloc (.cells #[.int .i64 at_, .int .i64 size] 75)) #[.int .u64 v] 26; simpa using this
  have HE := Lib.hid (along_any at_ size 1 v 267 #[.pointer (some ⟨w.heap.size + 1, 0, none⟩)] W1 hsz (fun _ _ => by kernel_rfl) (fun hr m w3 h3 k3 => dqPush1_any m (w.heap.size + 1) at_ size v w3 h3 (hb.keeps k3 (by simp)) hr hv))
  have HK := Lib.hid hk1
  clear hk1 hb hv
  go_enter Tryz.func262, Tryz.ntmps262
  go_wp2_with fail
  refine HE.out.mono ?_
  rintro e w4 ⟨m, S, rfl, hI, k4, hS⟩
  have HP : Hid (_ ∧ _ ∧ _) := Lib.hid ⟨hI, HK.out.trans k4, fun k hk => Nat.le_trans HK.out.size (hS k hk)⟩
  clear hI k4 hS
  go_wp2
  go_ret
  exact ⟨_, S, rfl, HP.out⟩
set_option maxHeartbeats 1600000 in
theorem dqPop_made (at_ size : Int) (w : World) (hsz : -9223372036854775808 ≤ size) :
    Calls Tryz.prog 261 #[.agg #[.int .i64 at_, .int .i64 size]] w fun e w' => ∃ (m : Nat) (S : List Nat), e = .returned (.pointer (some ⟨m, 0, none⟩)) ∧ LoneIO dequeM (dqE m) m w' S (dqNew at_ size 2 0) ∧ Keeps [] w w' ∧ ∀ k ∈ S, w.heap.size ≤ k := by
  obtain ⟨W1, hW1⟩ : ∃ W1, w.alloc (.cells #[.int .i64 at_, .int .i64 size] 75) = W1 := ⟨_, rfl⟩
  have hk1 : Keeps [] w W1 := by rw [← hW1]; exact (Keeps.refl _ _).alloc _
  have hbd : Box W1 w.heap.size #[.int .i64 at_, .int .i64 size] := by rw [← hW1]; exact Box.new _ _ _
  have c0 := hbd.cells 0
  have c1 := hbd.cells 1
  clear hbd
  have HE := Lib.hid (along_any at_ size 2 0 265 #[] W1 hsz (fun _ _ => by kernel_rfl) (fun hr m w3 h3 k3 => dqPop1_any m at_ size w3 h3 hr))
  have HK := Lib.hid hk1
  clear hk1
  go_enter Tryz.func261, Tryz.ntmps261
  go_wp2_with fail
  refine HE.out.mono ?_
  rintro e w4 ⟨m, S, rfl, hI, k4, hS⟩
  have HP : Hid (_ ∧ _ ∧ _) := Lib.hid ⟨hI, HK.out.trans k4, fun k hk => Nat.le_trans HK.out.size (hS k hk)⟩
  clear hI k4 hS
  go_wp2
  go_ret
  exact ⟨_, S, rfl, HP.out⟩
set_option maxHeartbeats 1600000 in
theorem dqSteal_made (at_ size : Int) (w : World) (hsz : -9223372036854775808 ≤ size) :
    Calls Tryz.prog 32 #[.agg #[.int .i64 at_, .int .i64 size]] w fun e w' => ∃ (m : Nat) (S : List Nat), e = .returned (.pointer (some ⟨m, 0, none⟩)) ∧ LoneIO dequeM (dqE m) m w' S (dqNew at_ size 3 0) ∧ Keeps [] w w' ∧ ∀ k ∈ S, w.heap.size ≤ k := by
  obtain ⟨W1, hW1⟩ : ∃ W1, w.alloc (.cells #[.int .i64 at_, .int .i64 size] 75) = W1 := ⟨_, rfl⟩
  have hk1 : Keeps [] w W1 := by rw [← hW1]; exact (Keeps.refl _ _).alloc _
  have hbd : Box W1 w.heap.size #[.int .i64 at_, .int .i64 size] := by rw [← hW1]; exact Box.new _ _ _
  have c0 := hbd.cells 0
  have c1 := hbd.cells 1
  clear hbd
  have HE := Lib.hid (along_any at_ size 3 0 70 #[] W1 hsz (fun _ _ => by kernel_rfl) (fun hr m w3 h3 k3 => dqSteal1_any m at_ size w3 h3 hr))
  have HK := Lib.hid hk1
  clear hk1
  go_enter Tryz.func32, Tryz.ntmps32
  go_wp2_with fail
  refine HE.out.mono ?_
  rintro e w4 ⟨m, S, rfl, hI, k4, hS⟩
  have HP : Hid (_ ∧ _ ∧ _) := Lib.hid ⟨hI, HK.out.trans k4, fun k hk => Nat.le_trans HK.out.size (hS k hk)⟩
  clear hI k4 hS
  go_wp2
  go_ret
  exact ⟨_, S, rfl, HP.out⟩
end Go.Proofs.YtjfgpplnlepnoaaGreat
