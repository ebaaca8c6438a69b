/-
  Contracts: what is seen of the document's machines, step by step.
-/
import Derived.Test.YtahjnpopncninaaLike
import Derived.Test.YtahjnpopncninaaFresh2
namespace Go.Proofs.Ytahjnpopncninaa
open Go.ChangeShapes Go.WideShapes Go.ChangeAt Go.RowKit

/-- At block p is a machine of the document's that goes as K goes, by these functions; it may write the blocks S, and reads those of R. -/
structure RefRuns {σ : Type} (K : Mach σ) (J : World → List Nat → σ → Prop) (R : Nat → Prop) (p : Nat) (fW fO fH fG : FuncId) : Prop where
  lt : ∀ {w S s}, J w S s → ∀ k ∈ S, k < w.heap.size
  frame : ∀ {w w' S T s}, J w S s → Keeps T w w' → (∀ k ∈ S, k ∉ T) → (∀ k ∈ T, ¬ R k) → J w' S s
  stays : ∀ s v won, (K.res s).isSome = true → (K.res (K.give s v won)).isSome = true
  few : ∀ {w S s}, J w S s → (K.held s).length ≤ 1000000
  want : ∀ w S s, J w S s → Calls Try.prog fW #[.pointer (some ⟨p, 0, none⟩)] w fun e w' => e = .returned (.tuple #[((K.want s).getD zacc).val, .bool (K.want s).isSome]) ∧ Keeps [] w w'
  over : ∀ w S s, J w S s → Calls Try.prog fO #[.pointer (some ⟨p, 0, none⟩)] w fun e w' => ∃ q n c,
    e = .returned (.tuple #[.agg #[.int .i64 ((K.res s).getD Rs.zero).code, .int .u64 ((K.res s).getD Rs.zero).v, .slice q n c], .bool (K.res s).isSome]) ∧ Keeps [] w w' ∧
    ∀ r, K.res s = some r → Sl w' 1 (.slice q n c) r.l.length (ints .u64 r.l) ∧ r.l.length ≤ maxLen ∧ ∀ g, (Value.slice q n c).ownBlock = some g → g ∈ S ∨ w.heap.size ≤ g
  held : ∀ w S s, J w S s → Calls Try.prog fH #[.pointer (some ⟨p, 0, none⟩)] w fun e w' => ∃ q c, e = .returned (.slice q (K.held s).length c) ∧ Sl w' 1 (.slice q (K.held s).length c) (K.held s).length (ints .u64 (K.held s)) ∧ Keeps [] w w'
  give : ∀ w S s v won, J w S s → M.U v → Calls Try.prog fG #[.pointer (some ⟨p, 0, none⟩), .int .u64 v, .bool won] w fun e w' =>
    e = .returned (.tuple #[]) ∧ ∃ S', J w' S' (K.give s v won) ∧ Keeps (if (K.res s).isSome then [] else S) w w' ∧ ∀ k ∈ S', k ∈ S ∨ w.heap.size ≤ k

/-- What was seen, with the lists as they lie. -/
structure SeenT where
  f : Fc
  l : Value
  h : Value
@[reducible] def SeenT.cells (t : SeenT) : List Value := seenCells t.f t.l t.h
def seenRows (gs : List SeenT) : List Value := gs.flatMap SeenT.cells
theorem seenRows_snoc (gs : List SeenT) (t : SeenT) : seenRows (gs ++ [t]) = seenRows gs ++ t.cells := by simp [seenRows]
theorem seenRows_at (gs : List SeenT) (i : Nat) (t : SeenT) (h : gs[i]? = some t) (j : Nat) (u : Value) (hu : t.cells[j]? = some u) : (seenRows gs)[i * 10 + j]? = some u := by
  have hj : j < 10 := by have := (List.getElem?_eq_some_iff.1 hu).1; simpa using this
  induction gs generalizing i with
  | nil => simp at h
  | cons y ys ih =>
    cases i with
    | zero =>
      obtain rfl : y = t := by simpa using h
      rw [Nat.zero_mul, Nat.zero_add]
      simp only [seenRows, List.flatMap_cons]
      rw [List.getElem?_append_left (by simp; omega)]
      exact hu
    | succ i =>
      have := ih i (by simpa using h)
      rw [← this]
      simp only [seenRows, List.flatMap_cons]
      rw [List.getElem?_append_right (by simp; omega)]
      congr 1
      simp; omega
/-- What holds of each of them while more are seen: B bounds the blocks that are new, S is what the machine may write, v is the row of what was seen. -/
structure SeenGood (w : World) (B : Nat) (S0 S : List Nat) (v : Value) (t : SeenT) : Prop where
  shape : ∃ p n c, t.l = .slice p n c
  shapeH : ∃ p c, t.h = .slice p t.f.held.length c
  res : ∀ r, t.f.res = some r → Sl w 1 t.l r.l.length (ints .u64 r.l) ∧ r.l.length ≤ maxLen ∧ (r.l ≠ [] → ∀ g, t.l.ownBlock = some g → (g ∈ S0 ∨ B ≤ g) ∧ g < w.heap.size ∧ v.ownBlock ≠ some g)
  held : Sl w 1 t.h t.f.held.length (ints .u64 t.f.held)
  few : t.f.held.length ≤ maxLen
  own : t.f.held ≠ [] → ∀ g, t.h.ownBlock = some g → B ≤ g ∧ g < w.heap.size ∧ g ∉ S ∧ v.ownBlock ≠ some g
theorem SeenGood.keeps {w w' : World} {B : Nat} {S0 S S' T : List Nat} {v v' : Value} {t : SeenT} (h : SeenGood w B S0 S v t) (hk : Keeps T w w') (hT : ∀ r, t.f.res = some r → ∀ g, g < w.heap.size → v.ownBlock ≠ some g → g ∉ T ∧ v'.ownBlock ≠ some g)
    (hH : ∀ g, g ∉ S → g < w.heap.size → v.ownBlock ≠ some g → g ∉ T ∧ g ∉ S' ∧ v'.ownBlock ≠ some g) : SeenGood w' B S0 S' v' t where
  shape := h.shape
  shapeH := h.shapeH
  res := fun r hr => ⟨(h.res r hr).1.words hk (fun he g hg => by obtain ⟨h1, h2, h3⟩ := (h.res r hr).2.2 he g hg; exact (hT r hr g h2 h3).1), (h.res r hr).2.1, fun he g hg => by
    obtain ⟨h1, h2, h3⟩ := (h.res r hr).2.2 he g hg
    exact ⟨h1, Nat.lt_of_lt_of_le h2 hk.size, (hT r hr g h2 h3).2⟩⟩
  held := h.held.words hk (fun he g hg => by obtain ⟨h1, h2, h3, h4⟩ := h.own he g hg; exact (hH g h3 h2 h4).1)
  few := h.few
  own := fun he g hg => by
    obtain ⟨h1, h2, h3, h4⟩ := h.own he g hg
    exact ⟨h1, Nat.lt_of_lt_of_le h2 hk.size, (hH g h3 h2 h4).2⟩
/-- The row of all that was seen. -/
theorem seen_done {w : World} {B : Nat} {S0 S : List Nat} {v : Value} {gs : List SeenT} {fs : List Fc} {e : TypeId} (ho : w.ownsRow B e 10 v gs.length (seenRows gs)) (hne : 0 < gs.length) (hf : gs.map (·.f) = fs) (hg : ∀ t ∈ gs, SeenGood w B S0 S v t) (hB : ∀ g, v.ownBlock = some g → B ≤ g) :
    SeenAt w (fun k => k ∈ S0 ∨ B ≤ k) v fs := by
  have hlen : gs.length = fs.length := by rw [← hf, List.length_map]
  obtain ⟨b, off, cap, hv, hb, hc⟩ := (Sl.of_owns ho).some hne
  have hoff : off = 0 := by
    rcases ho.2 with ⟨h1, _⟩ | ⟨g, cap', cur, h1, _⟩
    · rw [h1] at hv; cases hv
    · rw [h1] at hv; cases hv; rfl
  subst hoff
  refine ⟨b, cap, by rw [hv, hlen], .inr (hB b (by rw [hv]; rfl)), hb, fun i f hi => ?_⟩
  rw [← hf, List.getElem?_map] at hi
  cases ht : gs[i]? with
  | none => rw [ht] at hi; cases hi
  | some t =>
    rw [ht] at hi
    obtain rfl : t.f = f := by simpa using hi
    have hgd := hg t (List.mem_of_getElem? ht)
    refine ⟨t.l, t.h, ⟨hgd.shape, fun r hr => ⟨(hgd.res r hr).1, (hgd.res r hr).2.1, fun he g hg' => ((hgd.res r hr).2.2 he g hg').1⟩, hgd.held, hgd.few, fun he g hg' => .inr (hgd.own he g hg').1⟩, fun j u hu => ?_⟩
    have := hc _ _ (seenRows_at gs i t ht j u hu)
    rwa [Nat.zero_add] at this
theorem heldOf {W w' : World} {N : Nat} {L : List Nat} (hN : W.heap.size = N) (h : Keeps L W w') : Keeps L W w' ∧ ∀ b o, b < N → b ∉ L → w'.cell? ⟨b, o, none⟩ = W.cell? ⟨b, o, none⟩ :=
  ⟨h, fun b o hb hn => h.cell (p := ⟨b, o, none⟩) (by rw [hN]; exact hb) hn⟩
theorem first_own {w : World} {B size n : Nat} {e : TypeId} {v : Value} {xs : List Value} (h : w.ownsRow B e size v n xs) : w.ownsRow B e size v n xs := h
theorem sizeOf2 {W a b : World} (h : Keeps [] W a) (_ : Keeps [] a b) : W.heap.size ≤ a.heap.size := h.size

/-- Behind the append of what is seen at one step. -/
def SeenMid (W : World) (B : Nat) (e : TypeId) (v : Value) (n : Nat) (rows : List Value) (f : Fc) (l v' : Value) (w' : World) : Prop :=
  ∃ h, (∃ p c, h = .slice p f.held.length c) ∧ Sl w' 1 h f.held.length (ints .u64 f.held) ∧ (f.held ≠ [] → ∀ g, h.ownBlock = some g → W.heap.size ≤ g ∧ g < w'.heap.size ∧ v'.ownBlock ≠ some g) ∧
    w'.ownsRow B e 10 v' (n + 1) (rows ++ seenCells f l h) ∧ Keeps v.ownBlock.toList W w' ∧ (∀ k, v'.ownBlock = some k → v.ownBlock = some k ∨ W.heap.size ≤ k) ∧ v' ≠ .slice none 0 0
theorem SeenMid.mk {W w4 w5 w7 : World} {B : Nat} {e : TypeId} {v v' : Value} {n : Nat} {rows : List Value} {f : Fc} {l : Value} {p : Option Addr} {c : Nat} {o : Obj} (hv : ∀ g, v.ownBlock = some g → g < W.heap.size)
    (h4 : Keeps v.ownBlock.toList W w4) (h45 : Keeps [] w4 w5) (hs : Sl w5 1 (.slice p f.held.length c) f.held.length (ints .u64 f.held)) (hf : ∀ k, (Value.slice p f.held.length c).ownBlock = some k → f.held.length = 0 ∨ w4.heap.size ≤ k)
    (h7 : w7.ownsRow B e 10 v' (n + 1) (rows ++ seenCells f l (.slice p f.held.length c))) (k7 : Keeps v.ownBlock.toList (w5.alloc o) w7) (f7 : ∀ k, v'.ownBlock = some k → v.ownBlock = some k ∨ (w5.alloc o).heap.size ≤ k) (hne : v' ≠ .slice none 0 0) :
    SeenMid W B e v n rows f l v' w7 := by
  have s4 := h4.size
  have s5 := h45.size
  have hsz : (w5.alloc o).heap.size = w5.heap.size + 1 := by simp
  have hblk : f.held ≠ [] → ∀ g, (Value.slice p f.held.length c).ownBlock = some g → W.heap.size ≤ g ∧ g < w5.heap.size := fun he g hg => by
    have hl : f.held.length ≠ 0 := fun h => he (List.eq_nil_of_length_eq_zero h)
    refine ⟨?_, ?_⟩
    · rcases hf g hg with h | h
      · exact absurd h hl
      · omega
    · obtain ⟨b, off, cap, he', hb, -⟩ := hs.some (by omega)
      rw [he'] at hg; simp [Value.ownBlock] at hg; omega
  have hnv : f.held ≠ [] → ∀ g, (Value.slice p f.held.length c).ownBlock = some g → g ∉ v.ownBlock.toList := fun he g hg hm => by
    have := hv g (by simpa using hm)
    have := (hblk he g hg).1
    omega
  refine ⟨_, ⟨_, _, rfl⟩, ?_, fun he g hg => ⟨(hblk he g hg).1, ?_, fun h => ?_⟩, h7, ((h4.trans h45.nil).trans ((Keeps.refl _ _).alloc o)).trans k7, fun k hk => ?_, hne⟩
  · by_cases he : f.held = []
    · rw [he] at hs ⊢
      exact ⟨hs.1, hs.2.elim .inl fun ⟨b, off, cap, hv, _, _⟩ => .inl ⟨_, _, hv, rfl⟩⟩
    · exact (hs.but ((Keeps.refl [] _).alloc o) (by simp)).but k7 (fun g hg => hnv he g hg)
  · have := k7.size
    have := (hblk he g hg).2
    omega
  · rcases f7 g h with h | h
    · exact hnv he g hg (by simpa using h)
    · have := (hblk he g hg).2
      omega
  · rcases f7 k hk with h | h
    · exact .inl h
    · exact .inr (by omega)

/-- What holds at the head of each round. -/
def SeenInv {σ : Type} (K : Mach σ) (J : World → List Nat → σ → Prop) (s : σ) (ts : List (Int × Bool)) (S0 : List Nat) (w : World) (e : TypeId) (k : Nat) (v : Value) (wr : World) : Prop :=
  ∃ S gs, J wr S (K.goes s (ts.take k)) ∧ wr.ownsRow w.heap.size e 10 v gs.length (seenRows gs) ∧ gs.map (·.f) = (K.trace s ts).take k ∧ (∀ t ∈ gs, SeenGood wr w.heap.size S0 S v t) ∧
    ((K.res (K.goes s (ts.take k))).isSome = false → ∀ t ∈ gs, t.f.res = none) ∧ Keeps S0 w wr ∧ (∀ j ∈ S, j ∈ S0 ∨ w.heap.size ≤ j) ∧ (∀ g, v.ownBlock = some g → g ∉ S)

/-- Behind the append of a step: as at a round's head, the machine being where it was. -/
structure SeenNow {σ : Type} (K : Mach σ) (J : World → List Nat → σ → Prop) (s : σ) (ts : List (Int × Bool)) (S0 : List Nat) (w : World) (e : TypeId) (k : Nat) (v : Value) (wr : World) (S : List Nat) (sk : σ) (gs : List SeenT) : Prop where
  j : J wr S sk
  row : wr.ownsRow w.heap.size e 10 v gs.length (seenRows gs)
  seen : gs.map (·.f) = (K.trace s ts).take k
  good : ∀ t ∈ gs, SeenGood wr w.heap.size S0 S v t
  nones : (K.res sk).isSome = false → ∀ t ∈ gs, t.f.res = none
  keeps : Keeps S0 w wr
  new : ∀ j ∈ S, j ∈ S0 ∨ w.heap.size ≤ j
  apart : ∀ g, v.ownBlock = some g → g ∉ S

theorem SeenNow.inv {σ : Type} {K : Mach σ} {J : World → List Nat → σ → Prop} {s : σ} {ts : List (Int × Bool)} {S0 : List Nat} {w : World} {e : TypeId} {k : Nat} {v : Value} {wr : World} {S : List Nat} {sk : σ} {gs : List SeenT}
    (h : SeenNow K J s ts S0 w e k v wr S sk gs) (hs : K.goes s (ts.take k) = sk) : SeenInv K J s ts S0 w e k v wr := by
  subst hs
  exact ⟨S, gs, h.j, h.row, h.seen, h.good, h.nones, h.keeps, h.new, h.apart⟩

/-- The machine is told something. -/
theorem SeenNow.give {σ : Type} {K : Mach σ} {J : World → List Nat → σ → Prop} {s : σ} {ts : List (Int × Bool)} {S0 : List Nat} {w : World} {e : TypeId} {k : Nat} {v : Value} {wr w' : World} {S S' : List Nat} {sk : σ} {gs : List SeenT} {tv : Int} {tw : Bool}
    (h : SeenNow K J s ts S0 w e k v wr S sk gs) (stays : (K.res sk).isSome = true → (K.res (K.give sk tv tw)).isSome = true) (hj : J w' S' (K.give sk tv tw)) (hk : Keeps (if (K.res sk).isSome then [] else S) wr w') (hS : ∀ j ∈ S', j ∈ S ∨ wr.heap.size ≤ j) :
    SeenNow K J s ts S0 w e k v w' S' (K.give sk tv tw) gs := by
  have hin : ∀ g, g ∈ (if (K.res sk).isSome then [] else S) → g ∈ S := fun g hg => by split at hg; cases hg; exact hg
  have hks : Keeps S wr w' := hk.mono fun g hg _ => hin g hg
  have hvS' : ∀ g, v.ownBlock = some g → g ∉ S' := fun g hg hm => by
    rcases hS g hm with h1 | h1
    · exact h.apart g hg h1
    · have := (h.row.lt g hg).2; omega
  refine ⟨hj, owns_keeps h.row hks h.apart, h.seen, fun t ht => (h.good t ht).keeps hk ?_ ?_, fun hn => h.nones ?_, h.keeps.comb hks h.new, fun j hj' => ?_, hvS'⟩
  · intro r hr g hg hv
    cases hs : (K.res sk).isSome with
    | true => exact ⟨by simp, hv⟩
    | false => rw [h.nones hs t ht] at hr; cases hr
  · intro g hg hlt hv
    refine ⟨fun hm => hg (hin g hm), fun hm => ?_, hv⟩
    rcases hS g hm with h1 | h1
    · exact hg h1
    · omega
  · cases hs : (K.res sk).isSome with
    | true => rw [stays hs] at hn; cases hn
    | false => rfl
  · rcases hS j hj' with h1 | h1
    · exact h.new j h1
    · exact .inr (Nat.le_trans h.keeps.size h1)

/-- One more is seen. -/
theorem SeenNow.snoc {σ : Type} {K : Mach σ} {J : World → List Nat → σ → Prop} {s : σ} {ts : List (Int × Bool)} {S0 : List Nat} {w : World} {e : TypeId} {k : Nat} {v v' l : Value} {wr W wc : World} {S : List Nat} {sk : σ} {gs : List SeenT}
    (h : SeenNow K J s ts S0 w e k v wr S sk gs) (hk : k ≤ ts.length) (hs : K.goes s (ts.take k) = sk) (hWk : Keeps [] wr W) (hJ : J wc S sk) (hlt : ∀ g ∈ S, g < W.heap.size) (hl : ∃ p n c, l = .slice p n c)
    (hres : ∀ r, K.res sk = some r → Sl W 1 l r.l.length (ints .u64 r.l) ∧ r.l.length ≤ maxLen ∧ ∀ g, l.ownBlock = some g → g ∈ S ∨ wr.heap.size ≤ g) (hfew : (K.held sk).length ≤ 1000000)
    (hm : SeenMid W w.heap.size e v gs.length (seenRows gs) ⟨K.want sk, K.res sk, K.held sk⟩ l v' wc) : ∃ hh, SeenNow K J s ts S0 w e (k + 1) v' wc S sk (gs ++ [⟨K.face sk, l, hh⟩]) := by
  obtain ⟨hh, hshape, hsl, hown, hrow, hkL, hfr, hne⟩ := hm
  have hv1 : ∀ g, v.ownBlock = some g → w.heap.size ≤ g ∧ g < wr.heap.size := fun g hg => h.row.lt g hg
  have s1 := hWk.size
  have s2 := hkL.size
  have hkL' : Keeps v.ownBlock.toList wr wc := hWk.nil.trans hkL
  have hother : ∀ g, g < W.heap.size → v.ownBlock ≠ some g → g ∉ v.ownBlock.toList ∧ v'.ownBlock ≠ some g := fun g hg hv => by
    refine ⟨fun hm => hv (by simpa using hm), fun hm => ?_⟩
    rcases hfr g hm with h1 | h1
    · exact hv h1
    · omega
  refine ⟨hh, hJ, ?_, ?_, fun t ht => ?_, fun hn t ht => ?_, ?_, h.new, fun g hg hm => ?_⟩
  · rw [seenRows_snoc, List.length_append]; exact hrow
  · rw [List.map_append, h.seen, List.take_add_one, K.trace_at s ts hk, hs]; rfl
  · rcases List.mem_append.1 ht with ht | ht
    · refine (h.good t ht).keeps hkL' (fun r hr g hg hv => hother g (by omega) hv) (fun g hg hlt' hv => ?_)
      have := hother g (by omega) hv
      exact ⟨this.1, hg, this.2⟩
    · simp only [List.mem_cons, List.not_mem_nil, or_false] at ht
      subst ht
      refine ⟨hl, hshape, fun r hr => ?_, hsl, ?_, fun he g hg => ?_⟩
      · obtain ⟨a1, a2, a3⟩ := hres r hr
        have hlb : r.l ≠ [] → ∀ g, l.ownBlock = some g → g < W.heap.size ∧ v.ownBlock ≠ some g := fun he g hg => by
          obtain ⟨b, off, cap, he', hb, -⟩ := a1.some (List.length_pos_iff.2 he)
          rw [he'] at hg
          simp [Value.ownBlock] at hg
          refine ⟨by omega, fun hv => ?_⟩
          rcases a3 g (by rw [he']; simp [Value.ownBlock]; exact hg) with h1 | h1
          · exact h.apart g hv h1
          · have := (hv1 g hv).2; omega
        refine ⟨a1.words hkL (fun he g hg => (hother g (hlb he g hg).1 (hlb he g hg).2).1), a2, fun he g hg => ⟨?_, ?_, (hother g (hlb he g hg).1 (hlb he g hg).2).2⟩⟩
        · rcases a3 g hg with h1 | h1
          · exact h.new g h1
          · exact .inr (Nat.le_trans h.keeps.size h1)
        · have := (hlb he g hg).1; omega
      · show (K.held sk).length ≤ maxLen
        unfold maxLen; omega
      · obtain ⟨b1, b2, b3⟩ := hown he g hg
        have := h.keeps.size
        exact ⟨by omega, b2, fun hm => by have := hlt g hm; omega, b3⟩
  · rcases List.mem_append.1 ht with ht | ht
    · exact h.nones hn t ht
    · simp only [List.mem_cons, List.not_mem_nil, or_false] at ht
      subst ht
      show K.res sk = none
      simpa using hn
  · exact h.keeps.comb hkL' (fun j hj => .inr (hv1 j (by simpa using hj)).1)
  · rcases hfr g hg with h1 | h1
    · exact h.apart g h1 hm
    · have := hlt g hm; omega

theorem elemSeen : Elem Try.prog 61 (.agg #[.int .i64 0, .int .i64 0, .int .u64 0, .int .u64 0, .bool false, .int .i64 0, .int .u64 0, .slice none 0 0, .bool false, .slice none 0 0]) 10 112 := ⟨by kernel_rfl, rfl, by decide, by decide⟩
theorem elemU : Elem Try.prog 35 (.int .u64 0) 1 8 := ⟨by kernel_rfl, rfl, by decide, by decide⟩

set_option maxHeartbeats 3200000 in
set_option maxRecDepth 100000 in
theorem seen_plain {σ : Type} (K : Mach σ) (J : World → List Nat → σ → Prop) (R : Nat → Prop) (p : Nat) (hR : RefRuns K J R p 27 28 29 30) (vt : Value) (s : σ) (ts : List (Int × Bool)) (S0 : List Nat) (w : World) (hJ : J w S0 s)
    (ht : Sl w 2 vt ts.length (tolds ts)) (htS : ts.length ≠ 0 → ∀ g, vt.ownBlock = some g → g ∉ S0) (hv : ∀ t ∈ ts, M.U t.1) (hn : ts.length ≤ 1000000) (hRo : ∀ k, R k → k < w.heap.size) :
    Calls Try.prog 11 #[.pointer (some ⟨p, 0, none⟩), vt] w fun e w' => ∃ v, e = .returned v ∧ SeenAt w' (fun k => k ∈ S0 ∨ w.heap.size ≤ k) v (K.trace s ts) ∧ Keeps S0 w w' := by
  obtain ⟨pt, ct, rfl⟩ := ht.len
  have HT := Lib.hid ht
  have HTS := Lib.hid htS
  have HV := Lib.hid hv
  have HJ := Lib.hid hJ
  have HRO := Lib.hid hRo
  clear ht htS hv hJ hRo
  go_enter Try.func11, Try.ntmps11
  go_wp2
  go_loopw [5, 6] (fun v i wr => ∃ k : Nat, k ≤ ts.length + 1 ∧ i = .int .i64 k ∧ SeenInv K J s ts S0 w 61 k v wr) (fun _ i _ => ts.length + 1 - (intOf i).toNat)
  case atStart =>
    refine ⟨0, Nat.zero_le _, rfl, S0, [], hR.frame HJ.out ((Keeps.refl [] w).alloc _) (by simp) (by simp), owns_empty w 61 10, rfl, by simp, by simp, (Keeps.refl _ _).alloc _, fun j h => .inl h, fun g hg => ?_⟩
    intro h
    have := hR.lt HJ.out g h
    simp [Value.ownBlock] at hg
    omega
  case round =>
    obtain ⟨k, hk, rfl, S, gs, hJ, ho, hf, hg, hnone, hK, hnew, hvS⟩ := hrel
    have hgl : gs.length = min k (ts.length + 1) := by rw [← K.trace_len s ts, ← List.length_take, ← hf, List.length_map]
    obtain ⟨qv, cv, rfl⟩ := (Sl.of_owns ho).len
    have hvlt := ho.lt
    have HO := Lib.hid ho
    have HF := Lib.hid hf
    have HG := Lib.hid hg
    have HNONE := Lib.hid hnone
    have HK := Lib.hid hK
    have HN := Lib.hid hnew
    have HVS := Lib.hid hvS
    have HJ1 := Lib.hid hJ
    have HVLT := Lib.hid hvlt
    clear hJ ho hf hg hnone hK hnew hvS hvlt
    by_cases hlt : k ≤ ts.length
    · have HGL : Hid (gs.length = k) := Lib.hid (by omega)
      clear hgl
      obtain ⟨sk, hsk⟩ : ∃ sk, K.goes s (ts.take k) = sk := ⟨_, rfl⟩
      have HSK := Lib.hid hsk
      rw [hsk] at HJ1 HNONE
      obtain ⟨x, hx⟩ : ∃ x, (K.want sk).getD zacc = x := ⟨_, rfl⟩
      obtain ⟨bw, hbw⟩ : ∃ bw, (K.want sk).isSome = bw := ⟨_, rfl⟩
      obtain ⟨rr, hrr⟩ : ∃ rr, (K.res sk).getD Rs.zero = rr := ⟨_, rfl⟩
      obtain ⟨br, hbr⟩ : ∃ br, (K.res sk).isSome = br := ⟨_, rfl⟩
      have HWant := hR.want wr S sk HJ1.out
      rw [hx, hbw] at HWant
      have HRes := fun w1 hI => hR.over w1 S sk hI
      rw [hrr, hbr] at HRes
      have HResH := Lib.hid HRes
      have HX := Lib.hid hx
      have HBW := Lib.hid hbw
      have HRR := Lib.hid hrr
      have HBR := Lib.hid hbr
      have hwr : wr.heap.size = wr.heap.size := rfl
      clear hsk hx hbw hrr hbr HRes
      go_wp2_with fail
      refine HWant.mono ?_
      clear HWant
      rintro e w1 ⟨rfl, k1⟩
      have HJ2 := Lib.hid (hR.frame HJ1.out k1 (by simp) (by simp))
      have HK1 := Lib.hid k1
      have hs1 := k1.size
      clear k1
      obtain ⟨W1, hW1⟩ : ∃ W1, w1.alloc (.cells #[.int .i64 x.k, .int .i64 x.c, .int .u64 x.a, .int .u64 x.b] 37) = W1 := ⟨_, rfl⟩
      have hb1 : Box W1 w1.heap.size #[.int .i64 x.k, .int .i64 x.c, .int .u64 x.a, .int .u64 x.b] := by rw [← hW1]; exact Box.new _ _ _
      have hk1 : Keeps [] w1 W1 := by rw [← hW1]; exact (Keeps.refl _ _).alloc _
      have HB1 := Lib.hid hb1
      have HK1' := Lib.hid hk1
      have HJ3 := Lib.hid (hR.frame HJ2.out hk1 (by simp) (by simp))
      clear hb1 hk1 HJ2
      go_wp2_with fail
      clear hW1
      refine (HResH.out _ HJ3.out).mono ?_
      rintro e w2 ⟨ql, nl, cl, rfl, k2, hres⟩
      obtain ⟨W, hW⟩ : ∃ W, w2.alloc (.cells #[.int .i64 rr.code, .int .u64 rr.v, .slice ql nl cl] 49) = W := ⟨_, rfl⟩
      have hb2 : Box W w2.heap.size #[.int .i64 rr.code, .int .u64 rr.v, .slice ql nl cl] := by rw [← hW]; exact Box.new _ _ _
      have hk2 : Keeps [] w2 W := by rw [← hW]; exact (Keeps.refl _ _).alloc _
      have hbA : Box W w1.heap.size #[.int .i64 x.k, .int .i64 x.c, .int .u64 x.a, .int .u64 x.b] := (HB1.out.keeps k2 (by simp)).keeps hk2 (by simp)
      have hkk : Keeps [] wr W := ((HK1.out.trans HK1'.out).trans k2).trans hk2
      have HRESL : Hid (∀ r, K.res sk = some r → Sl W 1 (.slice ql nl cl) r.l.length (ints .u64 r.l) ∧ r.l.length ≤ maxLen ∧ ∀ g, (Value.slice ql nl cl).ownBlock = some g → g ∈ S ∨ wr.heap.size ≤ g) := Lib.hid fun r hr =>
        ⟨(hres r hr).1.but hk2 (by simp), (hres r hr).2.1, fun g hg => ((hres r hr).2.2 g hg).imp id (fun h => Nat.le_trans (Nat.le_trans HK1.out.size HK1'.out.size) h)⟩
      go_upto_region 7 with (fail)
      have a0 := hbA.cells 0
      have a1 := hbA.cells 1
      have a2 := hbA.cells 2
      have a3 := hbA.cells 3
      have r0 := hb2.cells 0
      have r1 := hb2.cells 1
      have r2 := hb2.cells 2
      have la := hbA.lt
      have lr := hb2.lt
      have HJ4 := Lib.hid (hR.frame HJ3.out (k2.trans hk2) (by simp) (by simp))
      have HOW := Lib.hid (owns_keeps HO.out hkk (by simp))
      have HKK := Lib.hid hkk
      have hs2 : w1.heap.size ≤ w2.heap.size := Nat.le_trans HK1'.out.size k2.size
      clear hbA hb2 hk2 k2 hres HB1 HJ3 HK1 HK1' HResH hkk hW
      simp at a0 a1 a2 a3 r0 r1 r2
      have HSC : Hid (∀ h, seenCells ⟨K.want sk, K.res sk, K.held sk⟩ (.slice ql nl cl) h = [.int .i64 x.k, .int .i64 x.c, .int .u64 x.a, .int .u64 x.b, .bool bw, .int .i64 rr.code, .int .u64 rr.v, .slice ql nl cl, .bool br, h]) := Lib.hid fun h => by
        unfold seenCells; simp only [HX.out, HBW.out, HRR.out, HBR.out]
      obtain ⟨L, hL⟩ : ∃ L, (Value.slice qv gs.length cv).ownBlock.toList = L := ⟨_, rfl⟩
      have hLm : ∀ g ∈ L, w.heap.size ≤ g ∧ g < wr.heap.size ∧ g ∉ S := fun g hg => by
        rw [← hL] at hg
        have e : (Value.slice qv gs.length cv).ownBlock = some g := by simpa using hg
        exact ⟨(HVLT.out g e).1, (HVLT.out g e).2, HVS.out g e⟩
      have hwr1 : wr.heap.size ≤ w1.heap.size := hs1
      have na : w1.heap.size ∉ L := fun h => by have := (hLm _ h).2.1; omega
      have nb : w2.heap.size ∉ L := fun h => by have := (hLm _ h).2.1; omega
      have HL := Lib.hid hL
      have HLM := Lib.hid hLm
      clear hL
      have hHeld : ∀ W', Keeps L W W' → Calls Try.prog 29 #[.pointer (some ⟨p, 0, none⟩)] W' fun e w' => ∃ q c, e = .returned (.slice q (K.held sk).length c) ∧ Sl w' 1 (.slice q (K.held sk).length c) (K.held sk).length (ints .u64 (K.held sk)) ∧ Keeps [] W' w' :=
        fun W' hW' => hR.held W' S sk (hR.frame HJ4.out hW' (fun k hk h => (hLm k h).2.2 hk) (fun k hk h => by have := HRO.out k h; have := (hLm k hk).1; omega))
      have HHeld := Lib.hid hHeld
      have HVW : Hid (∀ g, (Value.slice qv gs.length cv).ownBlock = some g → g < W.heap.size) := Lib.hid fun g hg => (HOW.out.lt g hg).2
      have HFEW := Lib.hid (hR.few HJ4.out)
      have HBB : Hid (w.heap.size ≤ W.heap.size) := Lib.hid (Nat.le_trans HK.out.size HKK.out.size)
      obtain ⟨N, hN⟩ : ∃ N, W.heap.size = N := ⟨_, rfl⟩
      rw [hN] at la lr
      have HN3 := Lib.hid hN
      clear hN hHeld hLm
      have hkeep : Keeps L W W := Keeps.refl _ _
      have hownW := HOW.out
      go_cut [5] from 12 to 55 (fun v w' => SeenMid W w.heap.size 61 (.slice qv gs.length cv) gs.length (seenRows gs) ⟨K.want sk, K.res sk, K.held sk⟩ (.slice ql nl cl) v w')
      case first =>
        have hcell : ∀ b o, b < N → b ∉ L → W.cell? ⟨b, o, none⟩ = W.cell? ⟨b, o, none⟩ := fun _ _ _ _ => rfl
        (go_region_held3 (fun w' => Keeps L W w' ∧ ∀ b o, b < N → b ∉ L → w'.cell? ⟨b, o, none⟩ = W.cell? ⟨b, o, none⟩)
            (first
              | exact ⟨by assumption, by assumption⟩
              | exact heldOf HN3.out (Keeps.drew (by assumption))
              | (go_split_ands; exact heldOf HN3.out (Keeps.alloc (by assumption) _))
              | (go_split_ands; exact heldOf HN3.out (Keeps.trans (by assumption) hk2.nil))
              | (go_split_ands; exact heldOf HN3.out (Keeps.trans (by assumption) k7)))
            (first
              | (go_at_call 29; go_split_ands; refine (HHeld.out _ (by assumption)).mono ?_; rintro e w4 ⟨qh, ch, rfl, hsl, hk2⟩; have own4 := owns_keeps (first_own (by first | exact hownW | exact World.ownsRow.alloc hownW _)) hk2 (by simp))
              | (go_split_ands; (refine step_append_empty (by rfl) _ _ 26 (by rfl) 35 _ 1 8 Try.underlying26 elemU _ (by rfl) _ (K.held sk).length (ints .u64 (K.held sk)) (by rfl) (by first | exact hsl | exact hsl.but ((Keeps.refl [] _).alloc _) (by simp)) (ints_one .u64 _) (by have := HFEW.out; omega) ?_); intro v5 w5 hs5 hk2 hf5; have hk45 := hk2; have own5 := owns_keeps (first_own (by first | exact own4 | exact World.ownsRow.alloc own4 _)) hk2 (by simp); obtain ⟨p5, c5, rfl⟩ := hs5.len)
              | (go_split_ands; (refine step_append_fresh (by rfl) _ _ 32 (by rfl) w.heap.size 61 _ 10 112 Try.underlying32 elemSeen _ gs.length (seenRows gs) (by rfl) (World.ownsRow.alloc own5 _) _ (seenCells ⟨K.want sk, K.res sk, K.held sk⟩ (.slice ql nl cl) (.slice p5 (K.held sk).length c5)) (by rfl) rfl (by simp [Value.oneCell']) (fun j u hu => by rw [World.cell?_alloc_at _ _ _ _ rfl, ← Array.getElem?_toList]; rw [HSC.out] at hu; exact hu) (by have := HGL.out; omega) (Nat.le_trans HBB.out (Keeps.size (S := L) (by assumption))) ?_); intro v7 w7 own7 k7 f7 ne7; rw [HL.out] at k7)))
        all_goals
          go_split_ands
          go_wp2_with fail
          go_meet
          exact SeenMid.mk HVW.out (by rw [HL.out]; assumption) hk45 hs5 hf5 own7 (by rw [HL.out]; exact k7) f7 ne7
      case rest =>
        have hnow : SeenNow K J s ts S0 w 61 k (.slice qv gs.length cv) wr S sk gs := ⟨HJ1.out, HO.out, HF.out, HG.out, HNONE.out, HK.out, HN.out, HVS.out⟩
        have hmid := hcut
        clear hcut
        have hkL : Keeps L W wc := by obtain ⟨_, _, _, _, _, h, _⟩ := hmid; rw [← HL.out]; exact h
        have hJc : J wc S sk := hR.frame HJ4.out hkL (fun k hk h => (HLM.out k h).2.2 hk) (fun k hk h => by have := HRO.out k h; have := (HLM.out k hk).1; omega)
        obtain ⟨hh, hn2⟩ := hnow.snoc hlt HSK.out HKK.out hJc (fun g hg => hR.lt HJ4.out g hg) ⟨_, _, _, rfl⟩ HRESL.out HFEW.out hmid
        have hKw : Keeps S0 w wc := hn2.keeps
        have hST := hR.stays sk
        clear hnow hkL hJc hmid hkeep hownW HL HLM HSC HKK HHeld HRESL HFEW HVW HBB HOW HN3 HJ4 HJ1 HO HF HG HNONE HK HN HVS HVLT HX HBW HRR HBR la lr na nb a0 a1 a2 a3 r0 r1 r2 hs1 hs2 hwr1 hwr
        have HN2 := Lib.hid hn2
        have HKW := Lib.hid hKw
        have HST := Lib.hid hST
        clear hn2 hKw hST
        by_cases hl2 : k < ts.length
        · have hsl : Sl wc 2 (.slice pt ts.length ct) ts.length (tolds ts) := HT.out.but0 HKW.out HTS.out
          obtain ⟨bt, ot, ct', he, hbt, hct⟩ := hsl.some (by omega)
          cases he
          obtain ⟨⟨tv, tw⟩, htk⟩ : ∃ t, ts[k]? = some t := ⟨_, List.getElem?_eq_getElem hl2⟩
          have hu : M.U tv := HV.out (tv, tw) (List.mem_of_getElem? htk)
          have t0 := hct (k * 2) _ (tolds_at ts k _ htk).1
          have t1 := hct (k * 2 + 1) _ (tolds_at ts k _ htk).2
          have t1' : wc.cell? ⟨bt, ot + k * 2 + 1, none⟩ = some (.bool tw) := by rw [← t1, Nat.add_assoc]
          have hgo : K.goes s (ts.take (k + 1)) = K.give sk tv tw := by
            rw [K.goes_succ s ts hl2, HSK.out]
            have := (List.getElem?_eq_some_iff.1 htk).2
            rw [this]
          have HGO := Lib.hid hgo
          have HGive := Lib.hid (fun W hI => hR.give W S sk tv tw hI hu)
          have i0 : (0 : Int) ≤ (k : Int) := by omega
          have i1 : (k : Int) < (ts.length : Int) := by omega
          clear hgo hsl hct hu htk t1
          go_wp2_with fail
          go_still_tail 11, (by kernel_rfl)
          change wpList _ _ _ _ _ wc.drew
          go_wp2_with fail
          refine (HGive.out wc.drew (hR.frame HN2.out.j (Keeps.refl [] wc).drew (by simp) (by simp))).mono ?_
          rintro e w7 ⟨rfl, S7, hI7, k7, n7⟩
          have HP := Lib.hid (show SeenInv K J s ts S0 w 61 (k + 1) u5 w7 from (HN2.out.give (HST.out tv tw) hI7 k7.undrew n7).inv HGO.out)
          clear hI7 k7 n7
          go_wp2
          go_roundw
          case rel => exact ⟨k + 1, by omega, by go_num, HP.out⟩
          case measure => simp [intOf]; omega
        · obtain rfl : k = ts.length := by omega
          have hgo : K.goes s (ts.take (ts.length + 1)) = sk := by
            rw [List.take_of_length_le (by omega)]
            have := HSK.out
            rwa [List.take_of_length_le (Nat.le_refl _)] at this
          have HP := Lib.hid (show SeenInv K J s ts S0 w 61 (ts.length + 1) u5 wc from HN2.out.inv hgo)
          clear hgo
          go_wp2
          go_roundw
          case rel => exact ⟨ts.length + 1, by omega, by go_num, HP.out⟩
          case measure => simp [intOf]
    · obtain rfl : k = ts.length + 1 := by omega
      go_wp2
      go_ret
      have hfull : (K.trace s ts).take (ts.length + 1) = K.trace s ts := List.take_of_length_le (by rw [K.trace_len]; exact Nat.le_refl _)
      exact ⟨_, rfl, seen_done HO.out (by omega) (by rw [HF.out, hfull]) HG.out (fun g hg => (HVLT.out g hg).1), HK.out⟩


set_option maxHeartbeats 3200000 in
set_option maxRecDepth 100000 in
theorem seen_until {σ : Type} (K : Mach σ) (J : World → List Nat → σ → Prop) (R : Nat → Prop) (p : Nat) (hR : RefRuns K J R p 34 35 36 37) (vt : Value) (s : σ) (ts : List (Int × Bool)) (S0 : List Nat) (w : World) (hJ : J w S0 s)
    (ht : Sl w 2 vt ts.length (tolds ts)) (htS : ts.length ≠ 0 → ∀ g, vt.ownBlock = some g → g ∉ S0) (hv : ∀ t ∈ ts, M.U t.1) (hn : ts.length ≤ 1000000) (hRo : ∀ k, R k → k < w.heap.size) :
    Calls Try.prog 13 #[.pointer (some ⟨p, 0, none⟩), vt] w fun e w' => ∃ v, e = .returned v ∧ SeenAt w' (fun k => k ∈ S0 ∨ w.heap.size ≤ k) v (K.trace s ts) ∧ Keeps S0 w w' := by
  obtain ⟨pt, ct, rfl⟩ := ht.len
  have HT := Lib.hid ht
  have HTS := Lib.hid htS
  have HV := Lib.hid hv
  have HJ := Lib.hid hJ
  have HRO := Lib.hid hRo
  clear ht htS hv hJ hRo
  go_enter Try.func13, Try.ntmps13
  go_wp2
  go_loopw [5, 6] (fun v i wr => ∃ k : Nat, k ≤ ts.length + 1 ∧ i = .int .i64 k ∧ SeenInv K J s ts S0 w 61 k v wr) (fun _ i _ => ts.length + 1 - (intOf i).toNat)
  case atStart =>
    refine ⟨0, Nat.zero_le _, rfl, S0, [], hR.frame HJ.out ((Keeps.refl [] w).alloc _) (by simp) (by simp), owns_empty w 61 10, rfl, by simp, by simp, (Keeps.refl _ _).alloc _, fun j h => .inl h, fun g hg => ?_⟩
    intro h
    have := hR.lt HJ.out g h
    simp [Value.ownBlock] at hg
    omega
  case round =>
    obtain ⟨k, hk, rfl, S, gs, hJ, ho, hf, hg, hnone, hK, hnew, hvS⟩ := hrel
    have hgl : gs.length = min k (ts.length + 1) := by rw [← K.trace_len s ts, ← List.length_take, ← hf, List.length_map]
    obtain ⟨qv, cv, rfl⟩ := (Sl.of_owns ho).len
    have hvlt := ho.lt
    have HO := Lib.hid ho
    have HF := Lib.hid hf
    have HG := Lib.hid hg
    have HNONE := Lib.hid hnone
    have HK := Lib.hid hK
    have HN := Lib.hid hnew
    have HVS := Lib.hid hvS
    have HJ1 := Lib.hid hJ
    have HVLT := Lib.hid hvlt
    clear hJ ho hf hg hnone hK hnew hvS hvlt
    by_cases hlt : k ≤ ts.length
    · have HGL : Hid (gs.length = k) := Lib.hid (by omega)
      clear hgl
      obtain ⟨sk, hsk⟩ : ∃ sk, K.goes s (ts.take k) = sk := ⟨_, rfl⟩
      have HSK := Lib.hid hsk
      rw [hsk] at HJ1 HNONE
      obtain ⟨x, hx⟩ : ∃ x, (K.want sk).getD zacc = x := ⟨_, rfl⟩
      obtain ⟨bw, hbw⟩ : ∃ bw, (K.want sk).isSome = bw := ⟨_, rfl⟩
      obtain ⟨rr, hrr⟩ : ∃ rr, (K.res sk).getD Rs.zero = rr := ⟨_, rfl⟩
      obtain ⟨br, hbr⟩ : ∃ br, (K.res sk).isSome = br := ⟨_, rfl⟩
      have HWant := hR.want wr S sk HJ1.out
      rw [hx, hbw] at HWant
      have HRes := fun w1 hI => hR.over w1 S sk hI
      rw [hrr, hbr] at HRes
      have HResH := Lib.hid HRes
      have HX := Lib.hid hx
      have HBW := Lib.hid hbw
      have HRR := Lib.hid hrr
      have HBR := Lib.hid hbr
      have hwr : wr.heap.size = wr.heap.size := rfl
      clear hsk hx hbw hrr hbr HRes
      go_wp2_with fail
      refine HWant.mono ?_
      clear HWant
      rintro e w1 ⟨rfl, k1⟩
      have HJ2 := Lib.hid (hR.frame HJ1.out k1 (by simp) (by simp))
      have HK1 := Lib.hid k1
      have hs1 := k1.size
      clear k1
      obtain ⟨W1, hW1⟩ : ∃ W1, w1.alloc (.cells #[.int .i64 x.k, .int .i64 x.c, .int .u64 x.a, .int .u64 x.b] 37) = W1 := ⟨_, rfl⟩
      have hb1 : Box W1 w1.heap.size #[.int .i64 x.k, .int .i64 x.c, .int .u64 x.a, .int .u64 x.b] := by rw [← hW1]; exact Box.new _ _ _
      have hk1 : Keeps [] w1 W1 := by rw [← hW1]; exact (Keeps.refl _ _).alloc _
      have HB1 := Lib.hid hb1
      have HK1' := Lib.hid hk1
      have HJ3 := Lib.hid (hR.frame HJ2.out hk1 (by simp) (by simp))
      clear hb1 hk1 HJ2
      go_wp2_with fail
      clear hW1
      refine (HResH.out _ HJ3.out).mono ?_
      rintro e w2 ⟨ql, nl, cl, rfl, k2, hres⟩
      obtain ⟨W, hW⟩ : ∃ W, w2.alloc (.cells #[.int .i64 rr.code, .int .u64 rr.v, .slice ql nl cl] 49) = W := ⟨_, rfl⟩
      have hb2 : Box W w2.heap.size #[.int .i64 rr.code, .int .u64 rr.v, .slice ql nl cl] := by rw [← hW]; exact Box.new _ _ _
      have hk2 : Keeps [] w2 W := by rw [← hW]; exact (Keeps.refl _ _).alloc _
      have hbA : Box W w1.heap.size #[.int .i64 x.k, .int .i64 x.c, .int .u64 x.a, .int .u64 x.b] := (HB1.out.keeps k2 (by simp)).keeps hk2 (by simp)
      have hkk : Keeps [] wr W := ((HK1.out.trans HK1'.out).trans k2).trans hk2
      have HRESL : Hid (∀ r, K.res sk = some r → Sl W 1 (.slice ql nl cl) r.l.length (ints .u64 r.l) ∧ r.l.length ≤ maxLen ∧ ∀ g, (Value.slice ql nl cl).ownBlock = some g → g ∈ S ∨ wr.heap.size ≤ g) := Lib.hid fun r hr =>
        ⟨(hres r hr).1.but hk2 (by simp), (hres r hr).2.1, fun g hg => ((hres r hr).2.2 g hg).imp id (fun h => Nat.le_trans (Nat.le_trans HK1.out.size HK1'.out.size) h)⟩
      go_upto_region 7 with (fail)
      have a0 := hbA.cells 0
      have a1 := hbA.cells 1
      have a2 := hbA.cells 2
      have a3 := hbA.cells 3
      have r0 := hb2.cells 0
      have r1 := hb2.cells 1
      have r2 := hb2.cells 2
      have la := hbA.lt
      have lr := hb2.lt
      have HJ4 := Lib.hid (hR.frame HJ3.out (k2.trans hk2) (by simp) (by simp))
      have HOW := Lib.hid (owns_keeps HO.out hkk (by simp))
      have HKK := Lib.hid hkk
      have hs2 : w1.heap.size ≤ w2.heap.size := Nat.le_trans HK1'.out.size k2.size
      clear hbA hb2 hk2 k2 hres HB1 HJ3 HK1 HK1' HResH hkk hW
      simp at a0 a1 a2 a3 r0 r1 r2
      have HSC : Hid (∀ h, seenCells ⟨K.want sk, K.res sk, K.held sk⟩ (.slice ql nl cl) h = [.int .i64 x.k, .int .i64 x.c, .int .u64 x.a, .int .u64 x.b, .bool bw, .int .i64 rr.code, .int .u64 rr.v, .slice ql nl cl, .bool br, h]) := Lib.hid fun h => by
        unfold seenCells; simp only [HX.out, HBW.out, HRR.out, HBR.out]
      obtain ⟨L, hL⟩ : ∃ L, (Value.slice qv gs.length cv).ownBlock.toList = L := ⟨_, rfl⟩
      have hLm : ∀ g ∈ L, w.heap.size ≤ g ∧ g < wr.heap.size ∧ g ∉ S := fun g hg => by
        rw [← hL] at hg
        have e : (Value.slice qv gs.length cv).ownBlock = some g := by simpa using hg
        exact ⟨(HVLT.out g e).1, (HVLT.out g e).2, HVS.out g e⟩
      have hwr1 : wr.heap.size ≤ w1.heap.size := hs1
      have na : w1.heap.size ∉ L := fun h => by have := (hLm _ h).2.1; omega
      have nb : w2.heap.size ∉ L := fun h => by have := (hLm _ h).2.1; omega
      have HL := Lib.hid hL
      have HLM := Lib.hid hLm
      clear hL
      have hHeld : ∀ W', Keeps L W W' → Calls Try.prog 36 #[.pointer (some ⟨p, 0, none⟩)] W' fun e w' => ∃ q c, e = .returned (.slice q (K.held sk).length c) ∧ Sl w' 1 (.slice q (K.held sk).length c) (K.held sk).length (ints .u64 (K.held sk)) ∧ Keeps [] W' w' :=
        fun W' hW' => hR.held W' S sk (hR.frame HJ4.out hW' (fun k hk h => (hLm k h).2.2 hk) (fun k hk h => by have := HRO.out k h; have := (hLm k hk).1; omega))
      have HHeld := Lib.hid hHeld
      have HVW : Hid (∀ g, (Value.slice qv gs.length cv).ownBlock = some g → g < W.heap.size) := Lib.hid fun g hg => (HOW.out.lt g hg).2
      have HFEW := Lib.hid (hR.few HJ4.out)
      have HBB : Hid (w.heap.size ≤ W.heap.size) := Lib.hid (Nat.le_trans HK.out.size HKK.out.size)
      obtain ⟨N, hN⟩ : ∃ N, W.heap.size = N := ⟨_, rfl⟩
      rw [hN] at la lr
      have HN3 := Lib.hid hN
      clear hN hHeld hLm
      have hkeep : Keeps L W W := Keeps.refl _ _
      have hownW := HOW.out
      go_cut [5] from 12 to 55 (fun v w' => SeenMid W w.heap.size 61 (.slice qv gs.length cv) gs.length (seenRows gs) ⟨K.want sk, K.res sk, K.held sk⟩ (.slice ql nl cl) v w')
      case first =>
        have hcell : ∀ b o, b < N → b ∉ L → W.cell? ⟨b, o, none⟩ = W.cell? ⟨b, o, none⟩ := fun _ _ _ _ => rfl
        (go_region_held3 (fun w' => Keeps L W w' ∧ ∀ b o, b < N → b ∉ L → w'.cell? ⟨b, o, none⟩ = W.cell? ⟨b, o, none⟩)
            (first
              | exact ⟨by assumption, by assumption⟩
              | exact heldOf HN3.out (Keeps.drew (by assumption))
              | (go_split_ands; exact heldOf HN3.out (Keeps.alloc (by assumption) _))
              | (go_split_ands; exact heldOf HN3.out (Keeps.trans (by assumption) hk2.nil))
              | (go_split_ands; exact heldOf HN3.out (Keeps.trans (by assumption) k7)))
            (first
              | (go_at_call 36; go_split_ands; refine (HHeld.out _ (by assumption)).mono ?_; rintro e w4 ⟨qh, ch, rfl, hsl, hk2⟩; have own4 := owns_keeps (first_own (by first | exact hownW | exact World.ownsRow.alloc hownW _)) hk2 (by simp))
              | (go_split_ands; (refine step_append_empty (by rfl) _ _ 26 (by rfl) 35 _ 1 8 Try.underlying26 elemU _ (by rfl) _ (K.held sk).length (ints .u64 (K.held sk)) (by rfl) (by first | exact hsl | exact hsl.but ((Keeps.refl [] _).alloc _) (by simp)) (ints_one .u64 _) (by have := HFEW.out; omega) ?_); intro v5 w5 hs5 hk2 hf5; have hk45 := hk2; have own5 := owns_keeps (first_own (by first | exact own4 | exact World.ownsRow.alloc own4 _)) hk2 (by simp); obtain ⟨p5, c5, rfl⟩ := hs5.len)
              | (go_split_ands; (refine step_append_fresh (by rfl) _ _ 32 (by rfl) w.heap.size 61 _ 10 112 Try.underlying32 elemSeen _ gs.length (seenRows gs) (by rfl) (World.ownsRow.alloc own5 _) _ (seenCells ⟨K.want sk, K.res sk, K.held sk⟩ (.slice ql nl cl) (.slice p5 (K.held sk).length c5)) (by rfl) rfl (by simp [Value.oneCell']) (fun j u hu => by rw [World.cell?_alloc_at _ _ _ _ rfl, ← Array.getElem?_toList]; rw [HSC.out] at hu; exact hu) (by have := HGL.out; omega) (Nat.le_trans HBB.out (Keeps.size (S := L) (by assumption))) ?_); intro v7 w7 own7 k7 f7 ne7; rw [HL.out] at k7)))
        all_goals
          go_split_ands
          go_wp2_with fail
          go_meet
          exact SeenMid.mk HVW.out (by rw [HL.out]; assumption) hk45 hs5 hf5 own7 (by rw [HL.out]; exact k7) f7 ne7
      case rest =>
        have hnow : SeenNow K J s ts S0 w 61 k (.slice qv gs.length cv) wr S sk gs := ⟨HJ1.out, HO.out, HF.out, HG.out, HNONE.out, HK.out, HN.out, HVS.out⟩
        have hmid := hcut
        clear hcut
        have hkL : Keeps L W wc := by obtain ⟨_, _, _, _, _, h, _⟩ := hmid; rw [← HL.out]; exact h
        have hJc : J wc S sk := hR.frame HJ4.out hkL (fun k hk h => (HLM.out k h).2.2 hk) (fun k hk h => by have := HRO.out k h; have := (HLM.out k hk).1; omega)
        obtain ⟨hh, hn2⟩ := hnow.snoc hlt HSK.out HKK.out hJc (fun g hg => hR.lt HJ4.out g hg) ⟨_, _, _, rfl⟩ HRESL.out HFEW.out hmid
        have hKw : Keeps S0 w wc := hn2.keeps
        have hST := hR.stays sk
        clear hnow hkL hJc hmid hkeep hownW HL HLM HSC HKK HHeld HRESL HFEW HVW HBB HOW HN3 HJ4 HJ1 HO HF HG HNONE HK HN HVS HVLT HX HBW HRR HBR la lr na nb a0 a1 a2 a3 r0 r1 r2 hs1 hs2 hwr1 hwr
        have HN2 := Lib.hid hn2
        have HKW := Lib.hid hKw
        have HST := Lib.hid hST
        clear hn2 hKw hST
        by_cases hl2 : k < ts.length
        · have hsl : Sl wc 2 (.slice pt ts.length ct) ts.length (tolds ts) := HT.out.but0 HKW.out HTS.out
          obtain ⟨bt, ot, ct', he, hbt, hct⟩ := hsl.some (by omega)
          cases he
          obtain ⟨⟨tv, tw⟩, htk⟩ : ∃ t, ts[k]? = some t := ⟨_, List.getElem?_eq_getElem hl2⟩
          have hu : M.U tv := HV.out (tv, tw) (List.mem_of_getElem? htk)
          have t0 := hct (k * 2) _ (tolds_at ts k _ htk).1
          have t1 := hct (k * 2 + 1) _ (tolds_at ts k _ htk).2
          have t1' : wc.cell? ⟨bt, ot + k * 2 + 1, none⟩ = some (.bool tw) := by rw [← t1, Nat.add_assoc]
          have hgo : K.goes s (ts.take (k + 1)) = K.give sk tv tw := by
            rw [K.goes_succ s ts hl2, HSK.out]
            have := (List.getElem?_eq_some_iff.1 htk).2
            rw [this]
          have HGO := Lib.hid hgo
          have HGive := Lib.hid (fun W hI => hR.give W S sk tv tw hI hu)
          have i0 : (0 : Int) ≤ (k : Int) := by omega
          have i1 : (k : Int) < (ts.length : Int) := by omega
          clear hgo hsl hct hu htk t1
          go_wp2_with fail
          go_still_tail 11, (by kernel_rfl)
          change wpList _ _ _ _ _ wc.drew
          go_wp2_with fail
          refine (HGive.out wc.drew (hR.frame HN2.out.j (Keeps.refl [] wc).drew (by simp) (by simp))).mono ?_
          rintro e w7 ⟨rfl, S7, hI7, k7, n7⟩
          have HP := Lib.hid (show SeenInv K J s ts S0 w 61 (k + 1) u5 w7 from (HN2.out.give (HST.out tv tw) hI7 k7.undrew n7).inv HGO.out)
          clear hI7 k7 n7
          go_wp2
          go_roundw
          case rel => exact ⟨k + 1, by omega, by go_num, HP.out⟩
          case measure => simp [intOf]; omega
        · obtain rfl : k = ts.length := by omega
          have hgo : K.goes s (ts.take (ts.length + 1)) = sk := by
            rw [List.take_of_length_le (by omega)]
            have := HSK.out
            rwa [List.take_of_length_le (Nat.le_refl _)] at this
          have HP := Lib.hid (show SeenInv K J s ts S0 w 61 (ts.length + 1) u5 wc from HN2.out.inv hgo)
          clear hgo
          go_wp2
          go_roundw
          case rel => exact ⟨ts.length + 1, by omega, by go_num, HP.out⟩
          case measure => simp [intOf]
    · obtain rfl : k = ts.length + 1 := by omega
      go_wp2
      go_ret
      have hfull : (K.trace s ts).take (ts.length + 1) = K.trace s ts := List.take_of_length_le (by rw [K.trace_len]; exact Nat.le_refl _)
      exact ⟨_, rfl, seen_done HO.out (by omega) (by rw [HF.out, hfull]) HG.out (fun g hg => (HVLT.out g hg).1), HK.out⟩

end Go.Proofs.Ytahjnpopncninaa
