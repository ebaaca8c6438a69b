import Derived.Test.YtjfgpplnlepnoaaGreatLook
import Derived.Test.YtjfgpplnlepnoaaGreatFresh
/-
  Contracts: what is seen of the document's machines, step by step.
-/
namespace Go.Proofs.YtjfgpplnlepnoaaGreat
set_option maxRecDepth 100000
set_option linter.unusedSimpArgs false
set_option linter.unusedVariables false
open Go.ChangeShapes Go.WideShapes Go.ChangeAt Go.RowKit

/-- At block p is a machine of the document's that goes as K goes, by these functions; it may write the blocks S, and reads those of R. -/
structure RefRuns {σ : Type} (K : Mach σ) (J : World → List Nat → σ → Prop) (R : Nat → Prop) (p : Nat) (fW fO fH fG : FuncId) : Prop where
  lt : ∀ {w S s}, J w S s → ∀ k ∈ S, k < w.heap.size
  frame : ∀ {w w' S T s}, J w S s → Keeps T w w' → (∀ k ∈ S, k ∉ T) → (∀ k ∈ T, ¬ R k) → J w' S s
  stays : ∀ s v won, (K.res s).isSome = true → (K.res (K.give s v won)).isSome = true
  few : ∀ {w S s}, J w S s → (K.held s).length ≤ 1000000
  want : ∀ w S s, J w S s → Calls Tryz.prog fW #[.pointer (some ⟨p, 0, none⟩)] w fun e w' => e = .returned (.tuple #[((K.want s).getD zacc).val, .bool (K.want s).isSome]) ∧ Keeps [] w w'
  over : ∀ w S s, J w S s → Calls Tryz.prog fO #[.pointer (some ⟨p, 0, none⟩)] w fun e w' => ∃ q n c,
    e = .returned (.tuple #[.agg #[.int .i64 ((K.res s).getD Rs.zero).code, .int .u64 ((K.res s).getD Rs.zero).v, .slice q n c], .bool (K.res s).isSome]) ∧ Keeps [] w w' ∧
    ∀ r, K.res s = some r → Sl w' 1 (.slice q n c) r.l.length (ints .u64 r.l) ∧ r.l.length ≤ maxLen ∧ ∀ g, (Value.slice q n c).ownBlock = some g → g ∈ S ∨ w.heap.size ≤ g
  held : ∀ w S s, J w S s → Calls Tryz.prog fH #[.pointer (some ⟨p, 0, none⟩)] w fun e w' => ∃ q c, e = .returned (.slice q (K.held s).length c) ∧ Sl w' 1 (.slice q (K.held s).length c) (K.held s).length (ints .u64 (K.held s)) ∧ Keeps [] w w'
  give : ∀ w S s v won, J w S s → M.U v → Calls Tryz.prog fG #[.pointer (some ⟨p, 0, none⟩), .int .u64 v, .bool won] w fun e w' =>
    e = .returned (.tuple #[]) ∧ ∃ S', J w' S' (K.give s v won) ∧ Keeps (if (K.res s).isSome then [] else S) w w' ∧ ∀ k ∈ S', k ∈ S ∨ w.heap.size ≤ k

/-- What was seen, with the lists as they lie. -/
structure SeenT where
  f : Fc
  l : Value
  h : Value
@[reducible] def SeenT.cells (t : SeenT) : List Value := seenCells t.f t.l t.h
def seenRows (gs : List SeenT) : List Value := gs.flatMap SeenT.cells
theorem seenRows_snoc (gs : List SeenT) (t : SeenT) : seenRows (gs ++ [t]) = seenRows gs ++ t.cells := by simp [seenRows]
theorem seenRows_at (gs : List SeenT) (i : Nat) (t : SeenT) (h : gs[i]? = some t) (j : Nat) (u : Value) (hu : t.cells[j]? = some u) : (seenRows gs)[i * 10 + j]? = some u := by
  have hj : j < 10 := by have := (List.getElem?_eq_some_iff.1 hu).1; simpa using this
  induction gs generalizing i with
  | nil => simp at h
  | cons y ys ih =>
    cases i with
    | zero =>
      obtain rfl : y = t := by simpa using h
      rw [Nat.zero_mul, Nat.zero_add]
      simp only [seenRows, List.flatMap_cons]
      rw [List.getElem?_append_left (by simp; omega)]
      exact hu
    | succ i =>
      have := ih i (by simpa using h)
      rw [← this]
      simp only [seenRows, List.flatMap_cons]
      rw [List.getElem?_append_right (by simp; omega)]
      congr 1
      simp; omega
/-- What holds of each of them while more are seen: B bounds the blocks that are new, S is what the machine may write, v is the row of what was seen. -/
structure SeenGood (w : World) (B : Nat) (S0 S : List Nat) (v : Value) (t : SeenT) : Prop where
  shape : ∃ p n c, t.l = .slice p n c
  shapeH : ∃ p c, t.h = .slice p t.f.held.length c
  res : ∀ r, t.f.res = some r → Sl w 1 t.l r.l.length (ints .u64 r.l) ∧ r.l.length ≤ maxLen ∧ (r.l ≠ [] → ∀ g, t.l.ownBlock = some g → (g ∈ S0 ∨ B ≤ g) ∧ g < w.heap.size ∧ v.ownBlock ≠ some g)
  held : Sl w 1 t.h t.f.held.length (ints .u64 t.f.held)
  few : t.f.held.length ≤ maxLen
  own : t.f.held ≠ [] → ∀ g, t.h.ownBlock = some g → B ≤ g ∧ g < w.heap.size ∧ g ∉ S ∧ v.ownBlock ≠ some g
theorem SeenGood.keeps {w w' : World} {B : Nat} {S0 S S' T : List Nat} {v v' : Value} {t : SeenT} (h : SeenGood w B S0 S v t) (hk : Keeps T w w') (hT : ∀ r, t.f.res = some r → ∀ g, g < w.heap.size → v.ownBlock ≠ some g → g ∉ T ∧ v'.ownBlock ≠ some g)
    (hH : ∀ g, g ∉ S → g < w.heap.size → v.ownBlock ≠ some g → g ∉ T ∧ g ∉ S' ∧ v'.ownBlock ≠ some g) : SeenGood w' B S0 S' v' t where
  shape := h.shape
  shapeH := h.shapeH
  res := fun r hr => ⟨(h.res r hr).1.words hk (fun he g hg => by obtain ⟨h1, h2, h3⟩ := (h.res r hr).2.2 he g hg; exact (hT r hr g h2 h3).1), (h.res r hr).2.1, fun he g hg => by
    obtain ⟨h1, h2, h3⟩ := (h.res r hr).2.2 he g hg
    exact ⟨h1, Nat.lt_of_lt_of_le h2 hk.size, (hT r hr g h2 h3).2⟩⟩
  held := h.held.words hk (fun he g hg => by obtain ⟨h1, h2, h3, h4⟩ := h.own he g hg; exact (hH g h3 h2 h4).1)
  few := h.few
  own := fun he g hg => by
    obtain ⟨h1, h2, h3, h4⟩ := h.own he g hg
    exact ⟨h1, Nat.lt_of_lt_of_le h2 hk.size, (hH g h3 h2 h4).2⟩
/-- The row of all that was seen. -/
theorem seen_done {w : World} {B : Nat} {S0 S : List Nat} {v : Value} {gs : List SeenT} {fs : List Fc} {e : TypeId} (ho : w.ownsRow B e 10 v gs.length (seenRows gs)) (hne : 0 < gs.length) (hf : gs.map (·.f) = fs) (hg : ∀ t ∈ gs, SeenGood w B S0 S v t) (hB : ∀ g, v.ownBlock = some g → B ≤ g) :
    SeenAt w (fun k => k ∈ S0 ∨ B ≤ k) v fs := by
  have hlen : gs.length = fs.length := by rw [← hf, List.length_map]
  obtain ⟨b, off, cap, hv, hb, hc⟩ := (Sl.of_owns ho).some hne
  have hoff : off = 0 := by
    rcases ho.2 with ⟨h1, _⟩ | ⟨g, cap', cur, h1, _⟩
    · rw [h1] at hv; cases hv
    · rw [h1] at hv; cases hv; rfl
  subst hoff
  refine ⟨b, cap, by rw [hv, hlen], .inr (hB b (by rw [hv]; rfl)), hb, fun i f hi => ?_⟩
  rw [← hf, List.getElem?_map] at hi
  cases ht : gs[i]? with
  | none => rw [ht] at hi; cases hi
  | some t =>
    rw [ht] at hi
    obtain rfl : t.f = f := by simpa using hi
    have hgd := hg t (List.mem_of_getElem? ht)
    refine ⟨t.l, t.h, ⟨hgd.shape, fun r hr => ⟨(hgd.res r hr).1, (hgd.res r hr).2.1, fun he g hg' => ((hgd.res r hr).2.2 he g hg').1⟩, hgd.held, hgd.few, fun he g hg' => .inr (hgd.own he g hg').1⟩, fun j u hu => ?_⟩
    have := hc _ _ (seenRows_at gs i t ht j u hu)
    rwa [Nat.zero_add] at this
theorem heldOf {W w' : World} {N : Nat} {L : List Nat} (hN : W.heap.size = N) (h : Keeps L W w') : Keeps L W w' ∧ ∀ b o, b < N → b ∉ L → w'.cell? ⟨b, o, none⟩ = W.cell? ⟨b, o, none⟩ :=
  ⟨h, fun b o hb hn => h.cell (p := ⟨b, o, none⟩) (by rw [hN]; exact hb) hn⟩
theorem first_own {w : World} {B size n : Nat} {e : TypeId} {v : Value} {xs : List Value} (h : w.ownsRow B e size v n xs) : w.ownsRow B e size v n xs := h
/-- Behind the append of what is seen at one step. -/
def SeenMid (W : World) (B : Nat) (e : TypeId) (v : Value) (n : Nat) (rows : List Value) (f : Fc) (l v' : Value) (w' : World) : Prop :=
  ∃ h, (∃ p c, h = .slice p f.held.length c) ∧ Sl w' 1 h f.held.length (ints .u64 f.held) ∧ (f.held ≠ [] → ∀ g, h.ownBlock = some g → W.heap.size ≤ g ∧ g < w'.heap.size ∧ v'.ownBlock ≠ some g) ∧
    w'.ownsRow B e 10 v' (n + 1) (rows ++ seenCells f l h) ∧ Keeps v.ownBlock.toList W w' ∧ (∀ k, v'.ownBlock = some k → v.ownBlock = some k ∨ W.heap.size ≤ k) ∧ v' ≠ .slice none 0 0
theorem SeenMid.mk {W w4 w5 w7 : World} {B : Nat} {e : TypeId} {v v' : Value} {n : Nat} {rows : List Value} {f : Fc} {l : Value} {p : Option Addr} {c : Nat} {o : Obj} (hv : ∀ g, v.ownBlock = some g → g < W.heap.size)
    (h4 : Keeps v.ownBlock.toList W w4) (h45 : Keeps [] w4 w5) (hs : Sl w5 1 (.slice p f.held.length c) f.held.length (ints .u64 f.held)) (hf : ∀ k, (Value.slice p f.held.length c).ownBlock = some k → f.held.length = 0 ∨ w4.heap.size ≤ k)
    (h7 : w7.ownsRow B e 10 v' (n + 1) (rows ++ seenCells f l (.slice p f.held.length c))) (k7 : Keeps v.ownBlock.toList (w5.alloc o) w7) (f7 : ∀ k, v'.ownBlock = some k → v.ownBlock = some k ∨ (w5.alloc o).heap.size ≤ k) (hne : v' ≠ .slice none 0 0) :
    SeenMid W B e v n rows f l v' w7 := by
  have s4 := h4.size
  have s5 := h45.size
  have hsz : (w5.alloc o).heap.size = w5.heap.size + 1 := by simp
  have hblk : f.held ≠ [] → ∀ g, (Value.slice p f.held.length c).ownBlock = some g → W.heap.size ≤ g ∧ g < w5.heap.size := fun he g hg => by
    have hl : f.held.length ≠ 0 := fun h => he (List.eq_nil_of_length_eq_zero h)
    refine ⟨?_, ?_⟩
    · rcases hf g hg with h | h
      · exact absurd h hl
      · omega
    · obtain ⟨b, off, cap, he', hb, -⟩ := hs.some (by omega)
      rw [he'] at hg; simp [Value.ownBlock] at hg; omega
  have hnv : f.held ≠ [] → ∀ g, (Value.slice p f.held.length c).ownBlock = some g → g ∉ v.ownBlock.toList := fun he g hg hm => by
    have := hv g (by simpa using hm)
    have := (hblk he g hg).1
    omega
  refine ⟨_, ⟨_, _, rfl⟩, ?_, fun he g hg => ⟨(hblk he g hg).1, ?_, fun h => ?_⟩, h7, ((h4.trans h45.nil).trans ((Keeps.refl _ _).alloc o)).trans k7, fun k hk => ?_, hne⟩
  · by_cases he : f.held = []
    · rw [he] at hs ⊢
      exact ⟨hs.1, hs.2.elim .inl fun ⟨b, off, cap, hv, _, _⟩ => .inl ⟨_, _, hv, rfl⟩⟩
    · exact (hs.but ((Keeps.refl [] _).alloc o) (by simp)).but k7 (fun g hg => hnv he g hg)
  · have := k7.size
    have := (hblk he g hg).2
    omega
  · rcases f7 g h with h | h
    · exact hnv he g hg (by simpa using h)
    · have := (hblk he g hg).2
      omega
  · rcases f7 k hk with h | h
    · exact .inl h
    · exact .inr (by omega)

/-- What holds at the head of each round. -/
def SeenInv {σ : Type} (K : Mach σ) (J : World → List Nat → σ → Prop) (s : σ) (ts : List (Int × Bool)) (S0 : List Nat) (w : World) (e : TypeId) (k : Nat) (v : Value) (wr : World) : Prop :=
  ∃ S gs, J wr S (K.goes s (ts.take k)) ∧ wr.ownsRow w.heap.size e 10 v gs.length (seenRows gs) ∧ gs.map (·.f) = (K.trace s ts).take k ∧ (∀ t ∈ gs, SeenGood wr w.heap.size S0 S v t) ∧
    ((K.res (K.goes s (ts.take k))).isSome = false → ∀ t ∈ gs, t.f.res = none) ∧ Keeps S0 w wr ∧ (∀ j ∈ S, j ∈ S0 ∨ w.heap.size ≤ j) ∧ (∀ g, v.ownBlock = some g → g ∉ S)

/-- Behind the append of a step: as at a round's head, the machine being where it was. -/
structure SeenNow {σ : Type} (K : Mach σ) (J : World → List Nat → σ → Prop) (s : σ) (ts : List (Int × Bool)) (S0 : List Nat) (w : World) (e : TypeId) (k : Nat) (v : Value) (wr : World) (S : List Nat) (sk : σ) (gs : List SeenT) : Prop where
  j : J wr S sk
  row : wr.ownsRow w.heap.size e 10 v gs.length (seenRows gs)
  seen : gs.map (·.f) = (K.trace s ts).take k
  good : ∀ t ∈ gs, SeenGood wr w.heap.size S0 S v t
  nones : (K.res sk).isSome = false → ∀ t ∈ gs, t.f.res = none
  keeps : Keeps S0 w wr
  new : ∀ j ∈ S, j ∈ S0 ∨ w.heap.size ≤ j
  apart : ∀ g, v.ownBlock = some g → g ∉ S

theorem SeenNow.inv {σ : Type} {K : Mach σ} {J : World → List Nat → σ → Prop} {s : σ} {ts : List (Int × Bool)} {S0 : List Nat} {w : World} {e : TypeId} {k : Nat} {v : Value} {wr : World} {S : List Nat} {sk : σ} {gs : List SeenT}
    (h : SeenNow K J s ts S0 w e k v wr S sk gs) (hs : K.goes s (ts.take k) = sk) : SeenInv K J s ts S0 w e k v wr := by
  subst hs
  exact ⟨S, gs, h.j, h.row, h.seen, h.good, h.nones, h.keeps, h.new, h.apart⟩

/-- The machine is told something. -/
theorem SeenNow.give {σ : Type} {K : Mach σ} {J : World → List Nat → σ → Prop} {s : σ} {ts : List (Int × Bool)} {S0 : List Nat} {w : World} {e : TypeId} {k : Nat} {v : Value} {wr w' : World} {S S' : List Nat} {sk : σ} {gs : List SeenT} {tv : Int} {tw : Bool}
    (h : SeenNow K J s ts S0 w e k v wr S sk gs) (stays : (K.res sk).isSome = true → (K.res (K.give sk tv tw)).isSome = true) (hj : J w' S' (K.give sk tv tw)) (hk : Keeps (if (K.res sk).isSome then [] else S) wr w') (hS : ∀ j ∈ S', j ∈ S ∨ wr.heap.size ≤ j) :
    SeenNow K J s ts S0 w e k v w' S' (K.give sk tv tw) gs := by
  have hin : ∀ g, g ∈ (if (K.res sk).isSome then [] else S) → g ∈ S := fun g hg => by split at hg; cases hg; exact hg
  have hks : Keeps S wr w' := hk.mono fun g hg _ => hin g hg
  have hvS' : ∀ g, v.ownBlock = some g → g ∉ S' := fun g hg hm => by
    rcases hS g hm with h1 | h1
    · exact h.apart g hg h1
    · have := (h.row.lt g hg).2; omega
  refine ⟨hj, owns_keeps h.row hks h.apart, h.seen, fun t ht => (h.good t ht).keeps hk ?_ ?_, fun hn => h.nones ?_, h.keeps.comb hks h.new, fun j hj' => ?_, hvS'⟩
  · intro r hr g hg hv
    cases hs : (K.res sk).isSome with
    | true => exact ⟨by simp, hv⟩
    | false => rw [h.nones hs t ht] at hr; cases hr
  · intro g hg hlt hv
    refine ⟨fun hm => hg (hin g hm), fun hm => ?_, hv⟩
    rcases hS g hm with h1 | h1
    · exact hg h1
    · omega
  · cases hs : (K.res sk).isSome with
    | true => rw [stays hs] at hn; cases hn
    | false => rfl
  · rcases hS j hj' with h1 | h1
    · exact h.new j h1
    · exact .inr (Nat.le_trans h.keeps.size h1)

/-- One more is seen. -/
theorem SeenNow.snoc {σ : Type} {K : Mach σ} {J : World → List Nat → σ → Prop} {s : σ} {ts : List (Int × Bool)} {S0 : List Nat} {w : World} {e : TypeId} {k : Nat} {v v' l : Value} {wr W wc : World} {S : List Nat} {sk : σ} {gs : List SeenT}
    (h : SeenNow K J s ts S0 w e k v wr S sk gs) (hk : k ≤ ts.length) (hs : K.goes s (ts.take k) = sk) (hWk : Keeps [] wr W) (hJ : J wc S sk) (hlt : ∀ g ∈ S, g < W.heap.size) (hl : ∃ p n c, l = .slice p n c)
    (hres : ∀ r, K.res sk = some r → Sl W 1 l r.l.length (ints .u64 r.l) ∧ r.l.length ≤ maxLen ∧ ∀ g, l.ownBlock = some g → g ∈ S ∨ wr.heap.size ≤ g) (hfew : (K.held sk).length ≤ 1000000)
    (hm : SeenMid W w.heap.size e v gs.length (seenRows gs) ⟨K.want sk, K.res sk, K.held sk⟩ l v' wc) : ∃ hh, SeenNow K J s ts S0 w e (k + 1) v' wc S sk (gs ++ [⟨K.face sk, l, hh⟩]) := by
  obtain ⟨hh, hshape, hsl, hown, hrow, hkL, hfr, hne⟩ := hm
  have hv1 : ∀ g, v.ownBlock = some g → w.heap.size ≤ g ∧ g < wr.heap.size := fun g hg => h.row.lt g hg
  have s1 := hWk.size
  have s2 := hkL.size
  have hkL' : Keeps v.ownBlock.toList wr wc := hWk.nil.trans hkL
  have hother : ∀ g, g < W.heap.size → v.ownBlock ≠ some g → g ∉ v.ownBlock.toList ∧ v'.ownBlock ≠ some g := fun g hg hv => by
    refine ⟨fun hm => hv (by simpa using hm), fun hm => ?_⟩
    rcases hfr g hm with h1 | h1
    · exact hv h1
    · omega
  refine ⟨hh, hJ, ?_, ?_, fun t ht => ?_, fun hn t ht => ?_, ?_, h.new, fun g hg hm => ?_⟩
  · rw [seenRows_snoc, List.length_append]; exact hrow
  · rw [List.map_append, h.seen, List.take_add_one, K.trace_at s ts hk, hs]; rfl
  · rcases List.mem_append.1 ht with ht | ht
    · refine (h.good t ht).keeps hkL' (fun r hr g hg hv => hother g (by omega) hv) (fun g hg hlt' hv => ?_)
      have := hother g (by omega) hv
      exact ⟨this.1, hg, this.2⟩
    · simp only [List.mem_cons, List.not_mem_nil, or_false] at ht
      subst ht
      refine ⟨hl, hshape, fun r hr => ?_, hsl, ?_, fun he g hg => ?_⟩
      · obtain ⟨a1, a2, a3⟩ := hres r hr
        have hlb : r.l ≠ [] → ∀ g, l.ownBlock = some g → g < W.heap.size ∧ v.ownBlock ≠ some g := fun he g hg => by
          obtain ⟨b, off, cap, he', hb, -⟩ := a1.some (List.length_pos_iff.2 he)
          rw [he'] at hg
          simp [Value.ownBlock] at hg
          refine ⟨by omega, fun hv => ?_⟩
          rcases a3 g (by rw [he']; simp [Value.ownBlock]; exact hg) with h1 | h1
          · exact h.apart g hv h1
          · have := (hv1 g hv).2; omega
        refine ⟨a1.words hkL (fun he g hg => (hother g (hlb he g hg).1 (hlb he g hg).2).1), a2, fun he g hg => ⟨?_, ?_, (hother g (hlb he g hg).1 (hlb he g hg).2).2⟩⟩
        · rcases a3 g hg with h1 | h1
          · exact h.new g h1
          · exact .inr (Nat.le_trans h.keeps.size h1)
        · have := (hlb he g hg).1; omega
      · show (K.held sk).length ≤ maxLen
        unfold maxLen; omega
      · obtain ⟨b1, b2, b3⟩ := hown he g hg
        have := h.keeps.size
        exact ⟨by omega, b2, fun hm => by have := hlt g hm; omega, b3⟩
  · rcases List.mem_append.1 ht with ht | ht
    · exact h.nones hn t ht
    · simp only [List.mem_cons, List.not_mem_nil, or_false] at ht
      subst ht
      show K.res sk = none
      simpa using hn
  · exact h.keeps.comb hkL' (fun j hj => .inr (hv1 j (by simpa using hj)).1)
  · rcases hfr g hg with h1 | h1
    · exact h.apart g h1 hm
    · have := hlt g hm; omega

theorem elemSeen : Elem Tryz.prog 112 (.agg #[.int .i64 0, .int .i64 0, .int .u64 0, .int .u64 0, .bool false, .int .i64 0, .int .u64 0, .slice none 0 0, .bool false, .slice none 0 0]) 10 112 := ⟨by kernel_rfl, rfl, by decide, by decide⟩
theorem elemU : Elem Tryz.prog 26 (.int .u64 0) 1 8 := ⟨by kernel_rfl, rfl, by decide, by decide⟩

end Go.Proofs.YtjfgpplnlepnoaaGreat
