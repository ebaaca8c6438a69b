/-
  Contracts: walk.Plain and walk.Until go as their machines go.
-/
import Derived.Test.YtplmmflpodpbmaaMach
import Derived.Test.YtplmmflpodpbmaaAcc
namespace Go.Proofs.Ytplmmflpodpbmaa
open Go.ChangeShapes Go.WideShapes Go.ChangeAt Go.RowKit

/-- Accesses one by one. -/
structure PlainS where
  xs : List C.Acc
  told : List Int
  held : List Int
def plainM : Mach PlainS where
  want s := s.xs[s.told.length]?
  res s := if s.told.length = s.xs.length then some ⟨0, s.told.getLast?.getD 0, s.told⟩ else none
  held s := s.held
  give s v _ := if s.told.length < s.xs.length then { s with told := s.told ++ [v] } else s
/-- One access, till it wins. -/
structure UntilS where
  x : C.Acc
  got : Option Int
  held : List Int
def untilM : Mach UntilS where
  want s := if s.got.isSome then none else some s.x
  res s := s.got.map fun v => ⟨0, v, []⟩
  held s := s.held
  give s v won := if s.got.isSome then s else if won then { s with got := some v } else s

/-- What a walk of Until knows. -/
def untilE (m : Nat) (w : World) (T : List Nat) (nx : Value) (s : UntilS) : Prop :=
  s.got = none → ∃ p, nx = .func (.func 36) #[.pointer (some ⟨p, 0, none⟩)] #[] ∧ p ∈ T ∧ Row w p 75 [.pointer (some ⟨m, 0, none⟩), .int .i64 s.x.k, .int .i64 s.x.c, .int .u64 s.x.a, .int .u64 s.x.b]

set_option maxHeartbeats 800000 in
theorem look_won (m p : Nat) (st : WSt) (v : Int) (w : World) (cs : List Value) (h : Wk w m st) (hp : Row w p 75 (.pointer (some ⟨m, 0, none⟩) :: cs)) (ho : st.over = false) (hu : 0 < st.under) :
    Calls Try.prog 36 #[.pointer (some ⟨p, 0, none⟩), .int .u64 v, .bool true] w fun e w' => e = .returned (.tuple #[]) ∧ ∃ l',
      Wk w' m { st with nxt := .nilFunc, after := .nilFunc, over := true, code := 0, v := v, l := l' } ∧ w'.ownsRow w.heap.size 33 1 l' 0 [] ∧ Keeps [m] w w' := by
  have HE := Lib.hid (wEnd m st 0 v (.slice none 0 0) 0 [] w h ho (.inl hu) ⟨rfl, .inl ⟨_, _, rfl, rfl⟩⟩ (fun g hg => by cases hg) (by omega))
  have h0 := hp.cell (j := 0) rfl
  clear h hp ho hu
  go_enter Try.func36, Try.ntmps36
  go_wp2_with fail
  refine HE.out.mono ?_
  rintro e w1 ⟨rfl, l', hw, ho, hk⟩
  have HP := Lib.hid (⟨hw, ho, hk⟩ : _ ∧ _ ∧ _)
  clear hw ho hk
  go_wp2
  first | go_end0 | refine bodyPost_ret (results_none rfl _ _ _) rfl ?_
  exact ⟨rfl, _, HP.out⟩
set_option maxHeartbeats 800000 in
theorem look_not (m p : Nat) (st : WSt) (x : C.Acc) (v : Int) (w : World) (h : Wk w m st) (hp : Row w p 75 [.pointer (some ⟨m, 0, none⟩), .int .i64 x.k, .int .i64 x.c, .int .u64 x.a, .int .u64 x.b]) (ho : st.over = false) (hs : st.sub = none) :
    Calls Try.prog 36 #[.pointer (some ⟨p, 0, none⟩), .int .u64 v, .bool false] w fun e w' => e = .returned (.tuple #[]) ∧
      Wk w' m { st with x := x, nxt := .func (.func 36) #[.pointer (some ⟨p, 0, none⟩)] #[], sub := none, after := .nilFunc } ∧ Keeps [m] w w' := by
  have HE := Lib.hid (fun W h => wAsk m st x (.func 36) #[.pointer (some ⟨p, 0, none⟩)] #[] W h hs ho)
  have h0 := hp.cell (j := 0) rfl
  have h1 := hp.cell (j := 1) rfl
  have h2 := hp.cell (j := 2) rfl
  have h3 := hp.cell (j := 3) rfl
  have h4 := hp.cell (j := 4) rfl
  have HW := Lib.hid h
  clear h hp ho hs
  go_enter Try.func36, Try.ntmps36
  go_wp2
  go_still_tail 10, (by kernel_rfl)
  change wpList _ _ _ _ _ w.drew
  go_wp2_with fail
  refine (HE.out w.drew HW.out).mono ?_
  rintro e w1 ⟨rfl, hw, hk⟩
  have HP := Lib.hid (⟨hw, hk⟩ : _ ∧ _)
  clear hw hk
  go_wp2
  first | go_end0 | refine bodyPost_ret (results_none rfl _ _ _) rfl ?_
  exact ⟨rfl, HP.out.1, HP.out.2.undrew⟩

theorem untilE_keeps (m : Nat) : ∀ w w' T A nx s, untilE m w T nx s → Keeps A w w' → (∀ k ∈ T, k ∉ A) → untilE m w' T nx s := by
  intro w w' T A nx s h hk hT hg
  obtain ⟨p, h1, h2, h4⟩ := h hg
  exact ⟨p, h1, h2, h4.keeps hk (hT p h2)⟩

/-- The state of one that goes on, and of one that has ended. -/
theorem Lone.going {w : World} {m : Nat} {S T : List Nat} {st : WSt} {u : Int} {fc : Fc} (h : Lone w m S st u fc) (hm : m ∈ T) {x : C.Acc} {fn : Fn} {fi ca : Array Value} {w' : World} {v : Int}
    (hw : Wk w' m { st with x := x, nxt := .func fn fi ca, sub := none, after := .nilFunc, under := v }) (hr : fc.res = none) (ht : Sl w' 1 st.tasks fc.held.length (ints .u64 fc.held)) (hS : ∀ g ∈ S, g ∈ T) :
    Lone w' m T { st with x := x, nxt := .func fn fi ca, sub := none, after := .nilFunc, under := v } v ⟨some x, none, fc.held⟩ where
  wk := hw
  sub := rfl
  outer := h.outer
  under := rfl
  mem := hm
  tasks := ht
  tasksOwn := fun g hg => ⟨hS g (h.tasksOwn g hg).1, (h.tasksOwn g hg).2⟩
  tasksFew := h.tasksFew
  over := by show st.over = false; rw [h.over, hr]; rfl
  res := fun r hr => by cases hr
  resOwn := fun g hg => ⟨hS g (h.resOwn g hg).1, (h.resOwn g hg).2⟩
  none_ := fun h => by cases h
  some_ := fun y hy => by cases hy; exact ⟨rfl, fn, fi, ca, rfl⟩
theorem Lone.ending {w : World} {m : Nat} {S T : List Nat} {st : WSt} {u : Int} {fc : Fc} (h : Lone w m S st u fc) (hm : m ∈ T) {code v : Int} {l' : Value} {us : List Int} {w' : World} {uu : Int}
    (hw : Wk w' m { st with nxt := .nilFunc, sub := none, after := .nilFunc, over := true, code := code, v := v, l := l', under := uu }) (ht : Sl w' 1 st.tasks fc.held.length (ints .u64 fc.held)) (hS : ∀ g ∈ S, g ∈ T)
    (hl : Sl w' 1 l' us.length (ints .u64 us)) (hn : us.length ≤ 10000000) (hl' : ∀ g, l'.ownBlock = some g → g ∈ T ∧ g ≠ m) :
    Lone w' m T { st with nxt := .nilFunc, sub := none, after := .nilFunc, over := true, code := code, v := v, l := l', under := uu } uu ⟨none, some ⟨code, v, us⟩, fc.held⟩ where
  wk := hw
  sub := rfl
  outer := h.outer
  under := rfl
  mem := hm
  tasks := ht
  tasksOwn := fun g hg => ⟨hS g (h.tasksOwn g hg).1, (h.tasksOwn g hg).2⟩
  tasksFew := h.tasksFew
  over := rfl
  res := fun r hr => by cases hr; exact ⟨rfl, rfl, hl, hn⟩
  resOwn := hl'
  none_ := fun _ => rfl
  some_ := fun y hy => by cases hy

theorem ownBlock_toList (v : Value) (g : Nat) : g ∈ v.ownBlock.toList ↔ v.ownBlock = some g := by simp

theorem untilSteps (m : Nat) : Steps1 untilM (untilE m) m := by
  intro w S T st s v won x hL hlt hltT hd hE hv hw
  obtain ⟨sx, got, held⟩ := s
  cases got with
  | some g => simp [untilM] at hw
  | none =>
    obtain ⟨p, hn, hpT, hrow⟩ := hE rfl
    refine ⟨_, _, _, hn, fun _ _ => by kernel_rfl, fun w1 hw1 hk1 => ?_⟩
    have hpm : p ≠ m := fun h => hd m hL.mem (h ▸ hpT)
    have hrow1 := hrow.keeps hk1 (by simpa using hpm)
    have ho : st.over = false := hL.over
    cases won with
    | true =>
      refine (look_won m p _ v w1 _ hw1 hrow1 ho (show (0 : Int) < 1 by decide)).mono ?_
      rintro e w2 ⟨rfl, l', h2, h3, h4⟩
      have h4' : Keeps (m :: T) w1 w2 := h4.mono (by simp)
      refine ⟨rfl, l'.ownBlock.toList ++ S, T, _, hL.ending (T := l'.ownBlock.toList ++ S) (us := []) (by simp [hL.mem]) h2 (hL.tasks_at hd hk1 h4') (fun g hg => by simp [hg]) (Sl.of_owns h3) (by simp) ?_, ?_, ?_, ?_, ?_, ?_, ?_, fun k hk => .inl hk⟩
      · intro g hg
        refine ⟨by simp [hg], ?_⟩
        have := (h3.lt g hg).1
        have := hw1.lt
        omega
      · intro k hk
        rcases List.mem_append.1 hk with hk | hk
        · exact (h3.lt k ((ownBlock_toList _ _).1 hk)).2
        · exact Nat.lt_of_lt_of_le (hlt k hk) (Nat.le_trans hk1.size h4.size)
      · exact fun k hk => Nat.lt_of_lt_of_le (hltT k hk) (Nat.le_trans hk1.size h4.size)
      · intro k hk hkT
        rcases List.mem_append.1 hk with hk | hk
        · have := (h3.lt k ((ownBlock_toList _ _).1 hk)).1
          have := hltT k hkT
          have := hk1.size
          omega
        · exact hd k hk hkT
      · intro h; cases h
      · exact h4'.mono (fun k hk _ => mem_S hL.mem k hk)
      · intro k hk
        rcases List.mem_append.1 hk with hk | hk
        · exact .inr (h3.lt k ((ownBlock_toList _ _).1 hk)).1
        · exact .inl hk
    | false =>
      refine (look_not m p _ sx v w1 hw1 hrow1 ho rfl).mono ?_
      rintro e w2 ⟨rfl, h2, h4⟩
      have h4' : Keeps (m :: T) w1 w2 := h4.mono (by simp)
      refine ⟨rfl, S, T, _, hL.going (T := S) hL.mem h2 rfl (hL.tasks_at hd hk1 h4') (fun g hg => hg), ?_, ?_, hd, ?_, h4'.mono (fun k hk _ => mem_S hL.mem k hk), fun k hk => .inl hk, fun k hk => .inl hk⟩
      · exact fun k hk => Nat.lt_of_lt_of_le (hlt k hk) (Nat.le_trans hk1.size h4.size)
      · exact fun k hk => Nat.lt_of_lt_of_le (hltT k hk) (Nat.le_trans hk1.size h4.size)
      · intro _
        exact ⟨p, rfl, hpT, hrow1.keeps h4 (by simpa using hpm)⟩
theorem untilNone : ∀ s v won, untilM.want s = none → untilM.give s v won = s := by
  intro s v won h
  obtain ⟨x, got, held⟩ := s
  cases got with
  | none => simp [untilM] at h
  | some g => rfl
theorem untilRuns (m : Nat) : Runs untilM (LoneI untilM (untilE m) m) m := runs_lone untilM (untilE m) m (untilE_keeps m) untilNone (untilSteps m)

set_option maxHeartbeats 800000 in
theorem until_begin (m b0 : Nat) (st : WSt) (x : C.Acc) (w : World) (h : Wk w m st) (hb : Box w b0 #[.int .i64 x.k, .int .i64 x.c, .int .u64 x.a, .int .u64 x.b]) (ho : st.over = false) (hs : st.sub = none) :
    Calls Try.prog 34 #[.pointer (some ⟨m, 0, none⟩), .pointer (some ⟨b0, 0, none⟩)] w fun e w' => e = .returned (.tuple #[]) ∧
      Wk w' m { st with x := x, nxt := .func (.func 36) #[.pointer (some ⟨w.heap.size, 0, none⟩)] #[], sub := none, after := .nilFunc } ∧ Row w' w.heap.size 75 [.pointer (some ⟨m, 0, none⟩), .int .i64 x.k, .int .i64 x.c, .int .u64 x.a, .int .u64 x.b] ∧ Keeps [m] w w' := by
  have HE := Lib.hid (fun W h => wAsk m st x (.func 36) #[.pointer (some ⟨w.heap.size, 0, none⟩)] #[] W h hs ho)
  have h0 := hb.cells 0
  have h1 := hb.cells 1
  have h2 := hb.cells 2
  have h3 := hb.cells 3
  have hlt := h.lt
  have HW := Lib.hid h
  clear h hb ho hs
  obtain ⟨W1, hW1⟩ : ∃ W1, w.alloc (.cells #[.pointer (some ⟨m, 0, none⟩), .int .i64 x.k, .int .i64 x.c, .int .u64 x.a, .int .u64 x.b] 75) = W1 := ⟨_, rfl⟩
  have hr : Row W1 w.heap.size 75 [.pointer (some ⟨m, 0, none⟩), .int .i64 x.k, .int .i64 x.c, .int .u64 x.a, .int .u64 x.b] := by rw [← hW1]; exact Row.new _ _ _
  have hw1 : Wk W1 m st := by rw [← hW1]; exact HW.out.alloc _
  have hk1 : Keeps [] w W1 := by rw [← hW1]; exact (Keeps.refl _ _).alloc _
  have c0 := hr.cell (j := 0) rfl
  have c1 := hr.cell (j := 1) rfl
  have c2 := hr.cell (j := 2) rfl
  have c3 := hr.cell (j := 3) rfl
  have c4 := hr.cell (j := 4) rfl
  have HR := Lib.hid hr
  have HW1 := Lib.hid hw1
  have HK1 := Lib.hid hk1
  clear hr hw1 hk1 
  go_enter Try.func34, Try.ntmps34
  go_wp2
  go_still_tail 10, (by kernel_rfl)
  change wpList _ _ _ _ _ W1.drew
  go_wp2_with fail
  refine (HE.out W1.drew HW1.out).mono ?_
  rintro e w1 ⟨rfl, hw, hk⟩
  have HP := Lib.hid (⟨hw, hk.undrew⟩ : _ ∧ _)
  clear hw hk
  go_wp2
  first | go_end0 | refine bodyPost_ret (results_none rfl _ _ _) rfl ?_
  exact ⟨rfl, HP.out.1, HR.out.keeps HP.out.2 (by simp; omega), HK1.out.nil.trans HP.out.2⟩

set_option maxHeartbeats 800000 in
theorem wUntil (x : C.Acc) (w : World) :
    Calls Try.prog 17 #[.agg #[.int .i64 x.k, .int .i64 x.c, .int .u64 x.a, .int .u64 x.b]] w fun e w' => ∃ m S, e = .returned (.pointer (some ⟨m, 0, none⟩)) ∧
      LoneI untilM (untilE m) m w' S ⟨x, none, []⟩ ∧ Keeps [] w w' ∧ ∀ k ∈ S, w.heap.size ≤ k := by
  obtain ⟨W1, hW1⟩ : ∃ W1, w.alloc (.cells #[.int .i64 x.k, .int .i64 x.c, .int .u64 x.a, .int .u64 x.b] 35) = W1 := ⟨_, rfl⟩
  have hb : Box W1 w.heap.size #[.int .i64 x.k, .int .i64 x.c, .int .u64 x.a, .int .u64 x.b] := by rw [← hW1]; exact Box.new _ _ _
  have hk1 : Keeps [] w W1 := by rw [← hW1]; exact (Keeps.refl _ _).alloc _
  have z1 : w.heap.size < W1.heap.size := by rw [← hW1]; simp
  have D := wNew 34 #[.pointer (some ⟨w.heap.size, 0, none⟩)] [] W1 (fun w2 s2 => s2.over = false ∧ ∃ p, p ≠ W1.heap.size + 1 ∧ w.heap.size ≤ p ∧ s2 = { WSt.zero with under := 1, x := x, nxt := .func (.func 36) #[.pointer (some ⟨p, 0, none⟩)] #[], sub := none, after := .nilFunc } ∧ Row w2 p 75 [.pointer (some ⟨W1.heap.size + 1, 0, none⟩), .int .i64 x.k, .int .i64 x.c, .int .u64 x.a, .int .u64 x.b]) (by simp) (fun _ _ => by kernel_rfl)
    (fun w1 h1 k1 => (until_begin (W1.heap.size + 1) w.heap.size _ x w1 h1 (hb.keeps k1 (by simp)) rfl rfl).mono fun e w2 ⟨he, a, b, c⟩ => ⟨he, _, a, rfl, .inl rfl, c, rfl, w1.heap.size, by have := h1.lt; omega, by have := k1.size; omega, rfl, b⟩)
  have HD := Lib.hid D
  have HK := Lib.hid hk1
  clear D hb hk1
  go_enter Try.func17, Try.ntmps17
  go_wp2_with fail
  refine HD.out.mono ?_
  rintro e w3 ⟨rfl, w2, s2, ⟨-, p, hp, hp2, rfl, hr⟩, k2, k1, hw⟩
  have HP : Hid (Wk w3 (W1.heap.size + 1) { WSt.zero with under := 0, x := x, nxt := .func (.func 36) #[.pointer (some ⟨p, 0, none⟩)] #[], sub := none, after := .nilFunc } ∧ Row w3 p 75 [.pointer (some ⟨W1.heap.size + 1, 0, none⟩), .int .i64 x.k, .int .i64 x.c, .int .u64 x.a, .int .u64 x.b] ∧ Keeps [] W1 w3) :=
    Lib.hid ⟨hw, hr.keeps k2 (by simpa using hp), k1.step k2 (by simp)⟩
  clear hr k2 k1 hw hW1
  go_wp2
  go_ret
  obtain ⟨hw, hr, hk⟩ := HP.out
  refine ⟨W1.heap.size + 1, [W1.heap.size + 1] ++ [p], rfl, ⟨_, _, _, rfl, ⟨hw, rfl, rfl, rfl, by simp, ⟨rfl, .inl ⟨_, _, rfl, rfl⟩⟩, (fun g hg => by cases hg), by simp [Mach.face, untilM], rfl, (fun r hr => by cases hr), (fun g hg => by cases hg), (fun h => by simp [Mach.face, untilM] at h), (fun y hy => by simp [Mach.face, untilM] at hy; subst hy; exact ⟨rfl, _, _, _, rfl⟩)⟩, ?_, ?_, ?_, ?_⟩, HK.out.trans hk, ?_⟩
  · intro k hk; simp at hk; subst hk; exact hw.lt
  · intro k hk; simp at hk; subst hk; exact hr.lt
  · intro k hk; simp at hk; subst hk; simpa using Ne.symm hp
  · intro _; exact ⟨p, rfl, by simp, hr⟩
  · intro k hk; simp at hk; omega
end Go.Proofs.Ytplmmflpodpbmaa
