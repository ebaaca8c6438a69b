/-
  Walks of their own blocks: how a step goes on, or ends.
-/
import Derived.Test.YtihlfcggggloaaaMach
namespace Go.Proofs.Ytihlfcggggloaaa
set_option maxRecDepth 100000
open Go.ChangeShapes Go.WideShapes Go.ChangeAt Go.RowKit

/-- The state of one that goes on, and of one that has ended. -/
theorem Lone.going {w : World} {m : Nat} {S T : List Nat} {st : WSt} {u : Int} {fc : Fc} (h : Lone w m S st u fc) (hm : m ∈ T) {x : C.Acc} {fn : Fn} {fi ca : Array Value} {w' : World} {v : Int}
    (hw : Wk w' m { st with x := x, nxt := .func fn fi ca, sub := none, after := .nilFunc, under := v }) (hr : fc.res = none) (ht : Sl w' 1 st.tasks fc.held.length (ints .u64 fc.held)) (hS : ∀ g ∈ S, g ∈ T) :
    Lone w' m T { st with x := x, nxt := .func fn fi ca, sub := none, after := .nilFunc, under := v } v ⟨some x, none, fc.held⟩ where
  wk := hw
  sub := rfl
  outer := h.outer
  under := rfl
  mem := hm
  tasks := ht
  tasksOwn := fun g hg => ⟨hS g (h.tasksOwn g hg).1, (h.tasksOwn g hg).2⟩
  tasksFew := h.tasksFew
  over := by show st.over = false; rw [h.over, hr]; rfl
  res := fun r hr => by cases hr
  resOwn := fun g hg => ⟨hS g (h.resOwn g hg).1, (h.resOwn g hg).2⟩
  none_ := fun h => by cases h
  some_ := fun y hy => by cases hy; exact ⟨rfl, fn, fi, ca, rfl⟩
theorem Lone.ending {w : World} {m : Nat} {S T : List Nat} {st : WSt} {u : Int} {fc : Fc} (h : Lone w m S st u fc) (hm : m ∈ T) {code v : Int} {l' : Value} {us : List Int} {w' : World} {uu : Int}
    (hw : Wk w' m { st with nxt := .nilFunc, sub := none, after := .nilFunc, over := true, code := code, v := v, l := l', under := uu }) (ht : Sl w' 1 st.tasks fc.held.length (ints .u64 fc.held)) (hS : ∀ g ∈ S, g ∈ T)
    (hl : Sl w' 1 l' us.length (ints .u64 us)) (hn : us.length ≤ 10000000) (hl' : ∀ g, l'.ownBlock = some g → g ∈ T ∧ g ≠ m) :
    Lone w' m T { st with nxt := .nilFunc, sub := none, after := .nilFunc, over := true, code := code, v := v, l := l', under := uu } uu ⟨none, some ⟨code, v, us⟩, fc.held⟩ where
  wk := hw
  sub := rfl
  outer := h.outer
  under := rfl
  mem := hm
  tasks := ht
  tasksOwn := fun g hg => ⟨hS g (h.tasksOwn g hg).1, (h.tasksOwn g hg).2⟩
  tasksFew := h.tasksFew
  over := rfl
  res := fun r hr => by cases hr; exact ⟨rfl, rfl, hl, hn⟩
  resOwn := hl'
  none_ := fun _ => rfl
  some_ := fun y hy => by cases hy

theorem stillOf {P : Program} {f : FuncId} {args : Array Value} {w : World} {v : Value} (h : Calls P f args w fun e w' => e = .returned v ∧ w = w') : Calls P f args w fun e w' => e = .returned v ∧ w' = w :=
  h.mono fun _ _ ⟨a, b⟩ => ⟨a, b.symm⟩
theorem ownBlock_toList (v : Value) (g : Nat) : g ∈ v.ownBlock.toList ↔ v.ownBlock = some g := by simp


/-- Where a step of a walk of its own blocks leads: it asks again, or has ended. -/
def Goes {σ : Type} (K : Mach σ) (R : World → List Nat → Value → σ → Prop) (m : Nat) (st : WSt) (T : List Nat) (s : σ) (w1 w2 : World) : Prop :=
  Keeps (m :: T) w1 w2 ∧
  ((∃ x fn fi ca T2, K.want s = some x ∧ K.res s = none ∧ Wk w2 m { st with x := x, nxt := .func fn fi ca, sub := none, after := .nilFunc } ∧ R w2 T2 (.func fn fi ca) s ∧ (∀ k ∈ T2, k < w2.heap.size) ∧ (∀ k ∈ T2, k ≠ m ∧ (k ∈ T ∨ w1.heap.size ≤ k))) ∨
   (∃ c v us l', K.want s = none ∧ K.res s = some ⟨c, v, us⟩ ∧ us.length ≤ 10000000 ∧ Wk w2 m { st with nxt := .nilFunc, sub := none, after := .nilFunc, over := true, code := c, v := v, l := l' } ∧ w2.ownsRow w1.heap.size 38 1 l' us.length (ints .u64 us)))

theorem Goes.lone {σ : Type} {K : Mach σ} {R : World → List Nat → Value → σ → Prop} {m : Nat} {st : WSt} {T S : List Nat} {s : σ} {w0 w1 w2 : World} {fc : Fc} (h : Goes K R m { st with nxt := .nilFunc, sub := none, after := .nilFunc, under := 1 } T s w1 w2) (hL : Lone w0 m S st 0 fc) (hr0 : fc.res = none) (hk1 : Keeps [m] w0 w1)
    (hlt : ∀ k ∈ S, k < w0.heap.size) (hltT : ∀ k ∈ T, k < w0.heap.size) (hd : ∀ k ∈ S, k ∉ T) (hh : K.held s = fc.held) (hE : ∀ w T nx s, K.want s = none → R w T nx s) :
    ∃ S2 T2 st2, Lone w2 m S2 st2 1 (K.face s) ∧ (∀ k ∈ S2, k < w2.heap.size) ∧ (∀ k ∈ T2, k < w2.heap.size) ∧ (∀ k ∈ S2, k ∉ T2) ∧ R w2 T2 st2.nxt s ∧ Keeps (S ++ T) w1 w2 ∧ (∀ k ∈ S2, k ∈ S ∨ w1.heap.size ≤ k) ∧ ∀ k ∈ T2, k ∈ T ∨ w1.heap.size ≤ k := by
  obtain ⟨hk, h | h⟩ := h
  · obtain ⟨x, fn, fi, ca, T2, hx, hr, hw, hR, hlt2, hT2⟩ := h
    have hf : K.face s = ⟨some x, none, fc.held⟩ := by simp only [Mach.face, hx, hr, hh]
    rw [hf]
    refine ⟨S, T2, _, hL.going (T := S) hL.mem hw hr0 (hL.tasks_at hd hk1 hk) (fun g hg => hg), ?_, hlt2, ?_, hR, hk.mono (fun k hk _ => mem_S hL.mem k hk), fun k hk => .inl hk, fun k hk => (hT2 k hk).2⟩
    · exact fun k hk' => Nat.lt_of_lt_of_le (hlt k hk') (Nat.le_trans hk1.size hk.size)
    · intro k hkS hkT
      rcases (hT2 k hkT).2 with h | h
      · exact hd k hkS h
      · have := hlt k hkS; have := hk1.size; omega
  · obtain ⟨c, v, us, l', hx, hr, hus, hw, ho⟩ := h
    have hf : K.face s = ⟨none, some ⟨c, v, us⟩, fc.held⟩ := by simp only [Mach.face, hx, hr, hh]
    rw [hf]
    refine ⟨l'.ownBlock.toList ++ S, T, _, hL.ending (T := l'.ownBlock.toList ++ S) (us := us) (by simp [hL.mem]) hw (hL.tasks_at hd hk1 hk) (fun g hg => by simp [hg]) (Sl.of_owns ho) hus ?_, ?_, ?_, ?_, hE _ _ _ _ hx, hk.mono (fun k hk _ => mem_S hL.mem k hk), ?_, fun k hk => .inl hk⟩
    · intro g hg
      refine ⟨by simp [hg], ?_⟩
      have := (ho.lt g hg).1
      have := hlt m hL.mem
      have := hk1.size
      omega
    · intro k hk'
      rcases List.mem_append.1 hk' with hk' | hk'
      · exact (ho.lt k ((ownBlock_toList _ _).1 hk')).2
      · exact Nat.lt_of_lt_of_le (hlt k hk') (Nat.le_trans hk1.size hk.size)
    · exact fun k hk' => Nat.lt_of_lt_of_le (hltT k hk') (Nat.le_trans hk1.size hk.size)
    · intro k hk' hkT
      rcases List.mem_append.1 hk' with hk' | hk'
      · have := (ho.lt k ((ownBlock_toList _ _).1 hk')).1
        have := hltT k hkT
        have := hk1.size
        omega
      · exact hd k hk' hkT
    · intro k hk'
      rcases List.mem_append.1 hk' with hk' | hk'
      · exact .inr (ho.lt k ((ownBlock_toList _ _).1 hk')).1
      · exact .inl hk'

/-- A walk of its own blocks that holds always the same goes as the machine, if each of its functions does a step of that. -/
theorem runs_own {σ : Type} (K : Mach σ) (R : World → List Nat → Value → σ → Prop) (m : Nat)
    (hR : ∀ w w' T A nx s, R w T nx s → Keeps A w w' → (∀ k ∈ T, k ∉ A) → R w' T nx s)
    (hE : ∀ w T nx s, K.want s = none → R w T nx s)
    (hN : ∀ s v won, K.want s = none → K.give s v won = s)
    (hH : ∀ s v won, K.held (K.give s v won) = K.held s)
    (hW : ∀ s x, K.want s = some x → K.res s = none)
    (hF : ∀ w T nx s x, R w T nx s → K.want s = some x → ∃ F fi ca, nx = .func (.func F) fi ca ∧ ∀ args w, (callFunc F args).run Try.prog w = .ok (.enter F args) w)
    (hS : ∀ w T F fi ca s st v won x, Wk w m st → st.over = false → st.sub = none → st.under = 1 → (∀ k ∈ T, k < w.heap.size ∧ k ≠ m) → R w T (.func (.func F) fi ca) s → M.U v → K.want s = some x →
      Calls Try.prog F (fi ++ (#[.int .u64 v, .bool won] ++ ca)) w fun e w' => e = .returned (.tuple #[]) ∧ Goes K R m st T (K.give s v won) w w') : Runs K (LoneI K R m) m := by
  refine runs_lone K R m hR hN ?_
  intro w S T st s v won x hL hlt hltT hd hE' hv hw
  obtain ⟨F, fi, ca, hn, hcf⟩ := hF _ _ _ _ _ hE' hw
  refine ⟨F, fi, ca, hn, hcf, fun w1 hw1 hk1 => ?_⟩
  have hr0 := hW _ _ hw
  have ho : st.over = false := by rw [hL.over]; show (K.res s).isSome = false; rw [hr0]; rfl
  refine (hS w1 T F fi ca s _ v won x hw1 ho rfl rfl (fun k hk => ⟨Nat.lt_of_lt_of_le (hltT k hk) hk1.size, fun h => hd m hL.mem (h ▸ hk)⟩) (hn ▸ hR _ _ _ _ _ _ hE' hk1 (fun k hk h => by simp at h; exact hd m hL.mem (h ▸ hk))) hv hw).mono ?_
  rintro e w2 ⟨rfl, hg⟩
  exact ⟨rfl, hg.lone hL hr0 hk1 hlt hltT hd (hH _ _ _) hE⟩

/-- A new walk of its own blocks, whose first function goes to a first state. -/
theorem new_goes {σ : Type} (K : Mach σ) (R : World → List Nat → Value → σ → Prop) (s0 : σ) (F : FuncId) (ca : Array Value) (w : World)
    (hR : ∀ w w' T A nx s, R w T nx s → Keeps A w w' → (∀ k ∈ T, k ∉ A) → R w' T nx s)
    (hE : ∀ w T nx s, K.want s = none → R w T nx s) (hh : K.held s0 = [])
    (hcf : ∀ args w, (callFunc F args).run Try.prog w = .ok (.enter F args) w)
    (hF : ∀ w1, Wk w1 (w.heap.size + 1) { WSt.zero with under := 1 } → Keeps [] w w1 → Calls Try.prog F (#[.pointer (some ⟨w.heap.size + 1, 0, none⟩)] ++ ca) w1 fun e w2 => e = .returned (.tuple #[]) ∧ Goes K R (w.heap.size + 1) { WSt.zero with under := 1 } [] s0 w1 w2) :
    Calls Try.prog 52 #[.func (.func F) #[] ca] w fun e w' => e = .returned (.pointer (some ⟨w.heap.size + 1, 0, none⟩)) ∧ ∃ S, LoneI K R (w.heap.size + 1) w' S s0 ∧ Keeps [] w w' ∧ ∀ k ∈ S, w.heap.size ≤ k := by
  refine (wNew F ca [] w (fun w2 s2 => ∃ S2 T2, Lone w2 (w.heap.size + 1) S2 s2 1 (K.face s0) ∧ (∀ k ∈ S2, k < w2.heap.size) ∧ (∀ k ∈ T2, k < w2.heap.size) ∧ (∀ k ∈ S2, k ∉ T2) ∧ R w2 T2 s2.nxt s0 ∧ (∀ k ∈ S2, w.heap.size ≤ k) ∧ (∀ k ∈ T2, w.heap.size ≤ k)) (by simp) hcf ?_).mono ?_
  · intro w1 h1 k1
    refine (hF w1 h1 k1).mono ?_
    rintro e w2 ⟨rfl, hg⟩
    have hL0 : Lone w1 (w.heap.size + 1) [w.heap.size + 1] { WSt.zero with under := 0 } 0 ⟨none, none, []⟩ ∨ True := .inr trivial
    clear hL0
    obtain ⟨hk, h⟩ := hg
    have hm := h1.lt
    have s1 := k1.size
    have hL : Lone w1 (w.heap.size + 1) [w.heap.size + 1] { WSt.zero with under := 1 } 1 ⟨none, none, []⟩ :=
      ⟨h1, rfl, rfl, rfl, by simp, ⟨rfl, .inl ⟨_, _, rfl, rfl⟩⟩, (fun g hg => by cases hg), by simp, rfl, (fun r hr => by cases hr), (fun g hg => by cases hg), (fun _ => rfl), (fun y hy => by cases hy)⟩
    rcases h with h | h
    · obtain ⟨x, fn, fi, ca, T2, hx, hr, hw, hR2, hlt2, hT2⟩ := h
      have hf : K.face s0 = ⟨some x, none, []⟩ := by simp only [Mach.face, hx, hr, hh]
      refine ⟨rfl, _, hw, rfl, .inl rfl, hk, [w.heap.size + 1], T2, ?_, ?_, hlt2, ?_, hR2, by simp, fun k hk => ?_⟩
      · rw [hf]; exact hL.going (T := [w.heap.size + 1]) (by simp) hw rfl ⟨rfl, .inl ⟨_, _, rfl, rfl⟩⟩ (fun g hg => hg)
      · intro k hk'; simp at hk'; subst hk'; exact hw.lt
      · intro k hk' hkT; simp at hk'; exact (hT2 k hkT).1 hk'
      · rcases (hT2 k hk).2 with h | h
        · cases h
        · omega
    · obtain ⟨c, v, us, l', hx, hr, hus, hw, ho⟩ := h
      have hf : K.face s0 = ⟨none, some ⟨c, v, us⟩, []⟩ := by simp only [Mach.face, hx, hr, hh]
      have hb : ∀ k ∈ l'.ownBlock.toList, w1.heap.size ≤ k ∧ k < w2.heap.size := fun k hk => ho.lt k ((ownBlock_toList _ _).1 hk)
      refine ⟨rfl, _, hw, rfl, .inr rfl, hk, l'.ownBlock.toList ++ [w.heap.size + 1], [], ?_, ?_, by simp, by simp, hE _ _ _ _ hx, ?_, by simp⟩
      · rw [hf]; exact hL.ending (T := l'.ownBlock.toList ++ [w.heap.size + 1]) (by simp) hw ⟨rfl, .inl ⟨_, _, rfl, rfl⟩⟩ (fun g hg => by simp at hg; simp [hg]) (Sl.of_owns ho) hus (fun g hg => ⟨by simp [hg], by have := (ho.lt g hg).1; omega⟩)
      · intro k hk'
        rcases List.mem_append.1 hk' with hk' | hk'
        · exact (hb k hk').2
        · simp at hk'; subst hk'; exact hw.lt
      · intro k hk'
        rcases List.mem_append.1 hk' with hk' | hk'
        · have := (hb k hk').1; omega
        · simp at hk'; omega
  · rintro e w' ⟨rfl, w2, s2, ⟨S2, T2, a1, a2, a3, a4, a5, a6, a7⟩, k5, k4, hw⟩
    have hmT : (w.heap.size + 1) ∉ T2 := a4 _ a1.mem
    exact ⟨rfl, S2 ++ T2, ⟨S2, T2, _, rfl, a1.under_to k5 0 hw, fun k hk => Nat.lt_of_lt_of_le (a2 k hk) k5.size, fun k hk => Nat.lt_of_lt_of_le (a3 k hk) k5.size, a4, hR _ _ _ _ _ _ a5 k5 (fun k hk h => by simp at h; exact hmT (h ▸ hk))⟩,
      k4.step k5 (by simp), fun k hk => by rcases List.mem_append.1 hk with h | h; exact a6 k h; exact a7 k h⟩
end Go.Proofs.Ytihlfcggggloaaa
