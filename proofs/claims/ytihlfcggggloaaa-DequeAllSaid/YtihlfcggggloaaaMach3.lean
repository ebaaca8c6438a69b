/-
  Walks of their own blocks, whose tasks may change: how a step goes on, or ends.
-/
import Derived.Test.YtihlfcggggloaaaMach2
namespace Go.Proofs.Ytihlfcggggloaaa
set_option maxRecDepth 100000
open Go.ChangeShapes Go.WideShapes Go.ChangeAt Go.RowKit

/-- Where a step of a walk of its own blocks leads (hd: what it held): it holds the same, or others; it asks again, or has ended. -/
def GoesH {σ : Type} (K : Mach σ) (R : World → List Nat → Value → σ → Prop) (m : Nat) (st : WSt) (hd : List Int) (T : List Nat) (s : σ) (w1 w2 : World) : Prop :=
  Keeps (m :: T) w1 w2 ∧ ∃ tk, ((tk = st.tasks ∧ K.held s = hd) ∨ ((K.held s).length ≤ 10000000 ∧ w2.ownsRow w1.heap.size 38 1 tk (K.held s).length (ints .u64 (K.held s)))) ∧
  ((∃ x fn fi ca T2, K.want s = some x ∧ K.res s = none ∧ Wk w2 m { st with tasks := tk, x := x, nxt := .func fn fi ca, sub := none, after := .nilFunc } ∧ R w2 T2 (.func fn fi ca) s ∧ (∀ k ∈ T2, k < w2.heap.size) ∧ (∀ k ∈ T2, k ≠ m ∧ (k ∈ T ∨ (w1.heap.size ≤ k ∧ (tk = st.tasks ∨ tk.ownBlock ≠ some k))))) ∨
   (∃ c v us l', K.want s = none ∧ K.res s = some ⟨c, v, us⟩ ∧ us.length ≤ 10000000 ∧ Wk w2 m { st with tasks := tk, nxt := .nilFunc, sub := none, after := .nilFunc, over := true, code := c, v := v, l := l' } ∧ w2.ownsRow w1.heap.size 38 1 l' us.length (ints .u64 us)))

theorem GoesH.from {σ : Type} {K : Mach σ} {R : World → List Nat → Value → σ → Prop} {m : Nat} {st : WSt} {hd : List Int} {T : List Nat} {s : σ} {w w1 w2 : World} (h : GoesH K R m st hd T s w1 w2) (hk : Keeps (m :: T) w w1) : GoesH K R m st hd T s w w2 := by
  have hs := hk.size
  obtain ⟨k, tk, ht, h | h⟩ := h
  · obtain ⟨x, fn, fi, ca, T2, hx, hr, hw, hR, hlt2, hT2⟩ := h
    refine ⟨hk.trans k, tk, ht.imp_right fun h => ⟨h.1, owns_base h.2 hs⟩, .inl ⟨x, fn, fi, ca, T2, hx, hr, hw, hR, hlt2, fun k hk => ⟨(hT2 k hk).1, ?_⟩⟩⟩
    rcases (hT2 k hk).2 with h | h
    · exact .inl h
    · exact .inr ⟨Nat.le_trans hs h.1, h.2⟩
  · obtain ⟨c, v, us, l', hx, hr, hus, hw, ho⟩ := h
    exact ⟨hk.trans k, tk, ht.imp_right fun h => ⟨h.1, owns_base h.2 hs⟩, .inr ⟨c, v, us, l', hx, hr, hus, hw, owns_base ho hs⟩⟩

/-- From a walk whose own blocks S hold its tasks, to the next one. -/
theorem GoesH.lone {σ : Type} {K : Mach σ} {R : World → List Nat → Value → σ → Prop} {m : Nat} {st st0 : WSt} {T S : List Nat} {s : σ} {u0 : Int} {w0 w1 w2 : World} {fc : Fc} (h : GoesH K R m st fc.held T s w1 w2) (hL : Lone w0 m S st0 u0 fc)
    (hst : st.tasks = st0.tasks ∧ st.outer = .slice none 0 0 ∧ st.under = 1 ∧ st.over = false ∧ st.l = st0.l) (hr0 : fc.res = none) (hk1 : Keeps [m] w0 w1)
    (hlt : ∀ k ∈ S, k < w0.heap.size) (hltT : ∀ k ∈ T, k < w0.heap.size) (hd : ∀ k ∈ S, k ∉ T) (hE : ∀ w T nx s, K.want s = none → R w T nx s) :
    ∃ S2 T2 st2, Lone w2 m S2 st2 1 (K.face s) ∧ (∀ k ∈ S2, k < w2.heap.size) ∧ (∀ k ∈ T2, k < w2.heap.size) ∧ (∀ k ∈ S2, k ∉ T2) ∧ R w2 T2 st2.nxt s ∧ Keeps (S ++ T) w1 w2 ∧ (∀ k ∈ S2, k ∈ S ∨ w1.heap.size ≤ k) ∧ ∀ k ∈ T2, k ∈ T ∨ w1.heap.size ≤ k := by
  obtain ⟨hk, tk, ht, h⟩ := h
  obtain ⟨a1, a2, a3, a4, a5⟩ := hst
  have s01 := hk1.size
  have s12 := hk.size
  have hm0 := hlt m hL.mem
  -- its tasks
  have htk : Sl w2 1 tk (K.held s).length (ints .u64 (K.held s)) ∧ (K.held s).length ≤ 10000000 ∧ ∀ g, tk.ownBlock = some g → (g ∈ S ∧ tk = st.tasks ∨ w1.heap.size ≤ g) ∧ g ≠ m ∧ g < w2.heap.size := by
    rcases ht with ⟨e1, e2⟩ | ⟨e1, e2⟩
    · rw [e1, e2, a1]
      refine ⟨hL.tasks_at hd hk1 hk, hL.tasksFew, fun g hg => ?_⟩
      have := hL.tasksOwn g hg
      exact ⟨.inl ⟨this.1, rfl⟩, this.2, Nat.lt_of_lt_of_le (hlt g this.1) (Nat.le_trans s01 s12)⟩
    · refine ⟨Sl.of_owns e2, e1, fun g hg => ?_⟩
      have := e2.lt g hg
      exact ⟨.inr this.1, by omega, this.2⟩
  obtain ⟨t1, t2, t3⟩ := htk
  have hown : ∀ g, tk.ownBlock = some g → g ∈ tk.ownBlock.toList ++ S ∧ g ≠ m := fun g hg => ⟨List.mem_append_left _ ((ownBlock_toList _ _).2 hg), (t3 g hg).2.1⟩
  have hltS : ∀ k ∈ tk.ownBlock.toList ++ S, k < w2.heap.size := fun k hk' => by
    rcases List.mem_append.1 hk' with h | h
    · exact (t3 k ((ownBlock_toList _ _).1 h)).2.2
    · exact Nat.lt_of_lt_of_le (hlt k h) (Nat.le_trans s01 s12)
  have hnewS : ∀ k ∈ tk.ownBlock.toList ++ S, k ∈ S ∨ w1.heap.size ≤ k := fun k hk' => by
    rcases List.mem_append.1 hk' with h | h
    · rcases (t3 k ((ownBlock_toList _ _).1 h)).1 with h | h
      · exact .inl h.1
      · exact .inr h
    · exact .inl h
  rcases h with h | h
  · obtain ⟨x, fn, fi, ca, T2, hx, hr, hw, hR, hlt2, hT2⟩ := h
    have hf : K.face s = ⟨some x, none, K.held s⟩ := by simp only [Mach.face, hx, hr]
    rw [hf]
    refine ⟨tk.ownBlock.toList ++ S, T2, _, ⟨hw, rfl, a2, a3, List.mem_append_right _ hL.mem, t1, hown, t2, a4, fun r hr => (by cases hr), fun g hg => ?_, fun h => (by cases h), fun y hy => by cases hy; exact ⟨rfl, fn, fi, ca, rfl⟩⟩, hltS, hlt2, ?_, hR, hk.mono (fun k hk _ => mem_S hL.mem k hk), hnewS, fun k hk' => ?_⟩
    · have h1 := hL.resOwn g (by rw [← a5]; exact hg)
      exact ⟨List.mem_append_right _ h1.1, h1.2⟩
    · intro k hkS hkT
      obtain ⟨b1, b2⟩ := hT2 k hkT
      rcases List.mem_append.1 hkS with h | h
      · have h3 := t3 k ((ownBlock_toList _ _).1 h)
        rcases b2 with b2 | ⟨b2, b3⟩
        · rcases h3.1 with h3 | h3
          · exact hd k h3.1 b2
          · have := hltT k b2; omega
        · rcases b3 with b3 | b3
          · rcases h3.1 with h4 | h4
            · have := hlt k h4.1; omega
            · have h5 := (ownBlock_toList _ _).1 h
              rw [b3, a1] at h5
              have := hlt k (hL.tasksOwn k h5).1
              omega
          · exact b3 ((ownBlock_toList _ _).1 h)
      · rcases b2 with b2 | ⟨b2, -⟩
        · exact hd k h b2
        · have := hlt k h; omega
    · rcases (hT2 k hk').2 with h | h
      · exact .inl h
      · exact .inr h.1
  · obtain ⟨c, v, us, l', hx, hr, hus, hw, ho⟩ := h
    have hf : K.face s = ⟨none, some ⟨c, v, us⟩, K.held s⟩ := by simp only [Mach.face, hx, hr]
    rw [hf]
    have hol := fun g hg => ho.lt g hg
    refine ⟨l'.ownBlock.toList ++ (tk.ownBlock.toList ++ S), T, _, ⟨hw, rfl, a2, a3, List.mem_append_right _ (List.mem_append_right _ hL.mem), t1, fun g hg => ⟨List.mem_append_right _ (hown g hg).1, (hown g hg).2⟩, t2, rfl, fun r hr => (by cases hr; exact ⟨rfl, rfl, Sl.of_owns ho, hus⟩), fun g hg => ⟨List.mem_append_left _ ((ownBlock_toList _ _).2 hg), by have := hol g hg; omega⟩, fun _ => rfl, fun y hy => (by cases hy)⟩, ?_, fun k hk' => Nat.lt_of_lt_of_le (hltT k hk') (Nat.le_trans s01 s12), ?_, hE _ _ _ _ hx, hk.mono (fun k hk _ => mem_S hL.mem k hk), ?_, fun k hk => .inl hk⟩
    · intro k hk'
      rcases List.mem_append.1 hk' with h | h
      · exact (hol k ((ownBlock_toList _ _).1 h)).2
      · exact hltS k h
    · intro k hk' hkT
      have hT := hltT k hkT
      rcases List.mem_append.1 hk' with h | h
      · have := (hol k ((ownBlock_toList _ _).1 h)).1; omega
      · rcases hnewS k h with h | h
        · exact hd k h hkT
        · omega
    · intro k hk'
      rcases List.mem_append.1 hk' with h | h
      · exact .inr (hol k ((ownBlock_toList _ _).1 h)).1
      · exact hnewS k h

/-- A walk of its own blocks goes as the machine, if each of its functions does a step of that. -/
theorem runs_ownH {σ : Type} (K : Mach σ) (R : World → List Nat → Value → σ → Prop) (m : Nat)
    (hR : ∀ w w' T A nx s, R w T nx s → Keeps A w w' → (∀ k ∈ T, k ∉ A) → R w' T nx s)
    (hE : ∀ w T nx s, K.want s = none → R w T nx s)
    (hN : ∀ s v won, K.want s = none → K.give s v won = s)
    (hW : ∀ s x, K.want s = some x → K.res s = none)
    (hF : ∀ w T nx s x, R w T nx s → K.want s = some x → ∃ F fi ca, nx = .func (.func F) fi ca ∧ ∀ args w, (callFunc F args).run Try.prog w = .ok (.enter F args) w)
    (hS : ∀ w T F fi ca s st v won x, Wk w m st → st.over = false → st.sub = none → st.under = 1 → (∀ k ∈ T, k < w.heap.size ∧ k ≠ m) → Sl w 1 st.tasks (K.held s).length (ints .u64 (K.held s)) → R w T (.func (.func F) fi ca) s → M.U v → K.want s = some x →
      Calls Try.prog F (fi ++ (#[.int .u64 v, .bool won] ++ ca)) w fun e w' => e = .returned (.tuple #[]) ∧ GoesH K R m st (K.held s) T (K.give s v won) w w') : Runs K (LoneI K R m) m := by
  refine runs_lone K R m hR hN ?_
  intro w S T st s v won x hL hlt hltT hd hE' hv hw
  obtain ⟨F, fi, ca, hn, hcf⟩ := hF _ _ _ _ _ hE' hw
  refine ⟨F, fi, ca, hn, hcf, fun w1 hw1 hk1 => ?_⟩
  have hr0 := hW _ _ hw
  have ho : st.over = false := by rw [hL.over]; show (K.res s).isSome = false; rw [hr0]; rfl
  refine (hS w1 T F fi ca s _ v won x hw1 ho rfl rfl (fun k hk => ⟨Nat.lt_of_lt_of_le (hltT k hk) hk1.size, fun h => hd m hL.mem (h ▸ hk)⟩) (hL.tasks.but hk1 (fun g hg => by simpa using (hL.tasksOwn g hg).2)) (hn ▸ hR _ _ _ _ _ _ hE' hk1 (fun k hk h => by simp at h; exact hd m hL.mem (h ▸ hk))) hv hw).mono ?_
  rintro e w2 ⟨rfl, hg⟩
  exact ⟨rfl, GoesH.lone (fc := K.face s) hg hL ⟨rfl, hL.outer, rfl, ho, rfl⟩ hr0 hk1 hlt hltT hd hE⟩

/-- A new walk of its own blocks, whose first function goes to a first state. -/
theorem new_goesH {σ : Type} (K : Mach σ) (R : World → List Nat → Value → σ → Prop) (s0 : σ) (F : FuncId) (ca : Array Value) (w : World)
    (hR : ∀ w w' T A nx s, R w T nx s → Keeps A w w' → (∀ k ∈ T, k ∉ A) → R w' T nx s)
    (hE : ∀ w T nx s, K.want s = none → R w T nx s)
    (hcf : ∀ args w, (callFunc F args).run Try.prog w = .ok (.enter F args) w)
    (hF : ∀ w1, Wk w1 (w.heap.size + 1) { WSt.zero with under := 1 } → Keeps [] w w1 → Calls Try.prog F (#[.pointer (some ⟨w.heap.size + 1, 0, none⟩)] ++ ca) w1 fun e w2 => e = .returned (.tuple #[]) ∧ GoesH K R (w.heap.size + 1) { WSt.zero with under := 1 } [] [] s0 w1 w2) :
    Calls Try.prog 52 #[.func (.func F) #[] ca] w fun e w' => e = .returned (.pointer (some ⟨w.heap.size + 1, 0, none⟩)) ∧ ∃ S, LoneI K R (w.heap.size + 1) w' S s0 ∧ Keeps [] w w' ∧ ∀ k ∈ S, w.heap.size ≤ k := by
  refine (wNew F ca [] w (fun w2 s2 => ∃ S2 T2, Lone w2 (w.heap.size + 1) S2 s2 1 (K.face s0) ∧ (∀ k ∈ S2, k < w2.heap.size) ∧ (∀ k ∈ T2, k < w2.heap.size) ∧ (∀ k ∈ S2, k ∉ T2) ∧ R w2 T2 s2.nxt s0 ∧ (∀ k ∈ S2, w.heap.size ≤ k) ∧ (∀ k ∈ T2, w.heap.size ≤ k)) (by simp) hcf ?_).mono ?_
  · intro w1 h1 k1
    refine (hF w1 h1 k1).mono ?_
    rintro e w2 ⟨rfl, hg⟩
    have hm := h1.lt
    have s1 := k1.size
    have hL : Lone w1 (w.heap.size + 1) [w.heap.size + 1] { WSt.zero with under := 1 } 1 ⟨none, none, []⟩ :=
      ⟨h1, rfl, rfl, rfl, by simp, ⟨rfl, .inl ⟨_, _, rfl, rfl⟩⟩, (fun g hg => by cases hg), by simp, rfl, (fun r hr => by cases hr), (fun g hg => by cases hg), (fun _ => rfl), (fun y hy => by cases hy)⟩
    have hkk := hg.1
    obtain ⟨S2, T2, st2, b1, b2, b3, b4, b5, b6, b7, b8⟩ := GoesH.lone (fc := ⟨none, none, []⟩) hg hL ⟨rfl, rfl, rfl, rfl, rfl⟩ rfl (Keeps.refl _ _) (fun k hk => by simp at hk; subst hk; exact hm) (by simp) (by simp) hE
    have hov : st2.over = false ∨ st2.outer = .slice none 0 0 := .inr b1.outer
    refine ⟨rfl, st2, b1.wk, b1.under, hov, hkk, S2, T2, b1, b2, b3, b4, b5, fun k hk => ?_, fun k hk => ?_⟩
    · rcases b7 k hk with h | h
      · simp at h; omega
      · omega
    · rcases b8 k hk with h | h
      · cases h
      · omega
  · rintro e w' ⟨rfl, w2, s2, ⟨S2, T2, a1, a2, a3, a4, a5, a6, a7⟩, k5, k4, hw⟩
    have hmT : (w.heap.size + 1) ∉ T2 := a4 _ a1.mem
    exact ⟨rfl, S2 ++ T2, ⟨S2, T2, _, rfl, a1.under_to k5 0 hw, fun k hk => Nat.lt_of_lt_of_le (a2 k hk) k5.size, fun k hk => Nat.lt_of_lt_of_le (a3 k hk) k5.size, a4, hR _ _ _ _ _ _ a5 k5 (fun k hk h => by simp at h; exact hmT (h ▸ hk))⟩,
      k4.step k5 (by simp), fun k hk => by rcases List.mem_append.1 hk with h | h; exact a6 k h; exact a7 k h⟩
end Go.Proofs.Ytihlfcggggloaaa
