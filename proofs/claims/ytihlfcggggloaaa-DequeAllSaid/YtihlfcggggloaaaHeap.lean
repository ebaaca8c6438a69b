/-
  Slices that are read: where their cells lie.
-/
import Derived.Test.YtihlfcggggloaaaBase
import Derived.Laws.AppendOwn
import Derived.Laws.MakeOwn
import Derived.OwnWalk
namespace Go.Proofs.Ytihlfcggggloaaa
set_option maxRecDepth 100000
open Go Go.RowKit

/-- The slice v has n elements of 'size' cells each, which hold xs. -/
def Sl (w : World) (size : Nat) (v : Value) (n : Nat) (xs : List Value) : Prop :=
  xs.length = n * size ∧ ((∃ p cap, v = .slice p 0 cap ∧ n = 0) ∨
   ∃ b off cap, v = .slice (some ⟨b, off, none⟩) n cap ∧ b < w.heap.size ∧ ∀ j u, xs[j]? = some u → w.cell? ⟨b, off + j, none⟩ = some u)

theorem Sl.drewN {w : World} {size n m : Nat} {v : Value} {xs : List Value} (h : Sl w size v n xs) : Sl (w.drewN m) size v n xs := h

theorem Sl.below {w w' : World} {B size n : Nat} {v : Value} {xs : List Value} (h : Sl w size v n xs) (hb : Below B w w') (hB : w.heap.size ≤ B) : Sl w' size v n xs := by
  refine ⟨h.1, ?_⟩
  rcases h.2 with h | ⟨b, off, cap, hv, hs, hc⟩
  · exact .inl h
  · exact .inr ⟨b, off, cap, hv, Nat.lt_of_lt_of_le hs hb.size, fun j u hu => (hb.cell (p := ⟨b, off + j, none⟩) (Nat.lt_of_lt_of_le hs hB)).trans (hc j u hu)⟩

theorem Sl.len {w : World} {size n : Nat} {v : Value} {xs : List Value} (h : Sl w size v n xs) : ∃ p cap, v = .slice p n cap := by
  rcases h.2 with ⟨p, cap, rfl, rfl⟩ | ⟨b, off, cap, rfl, _⟩
  · exact ⟨p, cap, rfl⟩
  · exact ⟨_, cap, rfl⟩

theorem Sl.some {w : World} {size n : Nat} {v : Value} {xs : List Value} (h : Sl w size v n xs) (hn : 0 < n) :
    ∃ b off cap, v = .slice (some ⟨b, off, none⟩) n cap ∧ b < w.heap.size ∧ ∀ j u, xs[j]? = some u → w.cell? ⟨b, off + j, none⟩ = some u := by
  rcases h.2 with ⟨p, cap, rfl, rfl⟩ | h
  · omega
  · exact h

/-- A row that a call owns is a slice that can be read. -/
theorem Sl.of_owns {w : World} {base size n : Nat} {e : TypeId} {v : Value} {xs : List Value} (h : w.ownsRow base e size v n xs) : Sl w size v n xs := by
  refine ⟨h.1, ?_⟩
  rcases h.2 with ⟨rfl, rfl⟩ | ⟨g, cap, cur, rfl, hb, hg, _⟩
  · exact .inl ⟨_, _, rfl, rfl⟩
  · refine .inr ⟨g, 0, cap, rfl, (h.lt g rfl).2, fun j u hu => ?_⟩
    have := h.cells (g := g) rfl j u hu
    unfold Addr.add at this
    split at this
    · subst_vars; simpa using this
    · exact this

/-- An owned row is kept below a later base. -/
theorem owns_below {w w' : World} {base B size n : Nat} {e : TypeId} {v : Value} {xs : List Value} (h : w.ownsRow base e size v n xs) (hb : Below B w w') (hB : w.heap.size ≤ B) : w'.ownsRow base e size v n xs := by
  refine ⟨h.1, ?_⟩
  rcases h.2 with hn | ⟨g, cap, cur, rfl, hb', hg, rest⟩
  · exact .inl hn
  · refine .inr ⟨g, cap, cur, rfl, hb', ?_, rest⟩
    rw [hb.block g (Nat.lt_of_lt_of_le (Array.getElem?_eq_some_iff.1 hg).1 hB)]
    exact hg

/-- A list of numbers, as cells. -/
def ints (k : IntKind) (zs : List Int) : List Value := zs.map (Value.int k)
theorem ints_length (k : IntKind) (zs : List Int) : (ints k zs).length = zs.length := by simp [ints]
theorem ints_at {k : IntKind} {zs : List Int} {j : Nat} (h : j < zs.length) : (ints k zs)[j]? = some (.int k (zs.getD j 0)) := by
  simp [ints, h]
theorem Sl.ints_len {w : World} {n : Nat} {v : Value} {k : IntKind} {zs : List Int} (h : Sl w 1 v n (ints k zs)) : zs.length = n := by
  have := h.1; rw [ints_length] at this; omega

/-- Cells of 64-bit numbers. -/
def nats (us : List Nat) : List Value := us.map fun u : Nat => Value.int .u64 (u : Int)
theorem nats_len (us : List Nat) : (nats us).length = us.length := by simp [nats]
theorem nats_at {us : List Nat} {k : Nat} (h : k < us.length) : (nats us)[k]? = some (.int .u64 (us[k] : Int)) := by simp [nats, h]
theorem Sl.nats_len {w : World} {n : Nat} {v : Value} {us : List Nat} (h : Sl w 1 v n (nats us)) : us.length = n := by
  have := h.1; rw [Go.Proofs.Ytihlfcggggloaaa.nats_len] at this; omega

theorem take_eq_step {zs ys : List Int} {k : Nat} (h : zs.take k = ys.take k) (hz : k < zs.length) (hy : k < ys.length) (he : zs.getD k 0 = ys.getD k 0) : zs.take (k + 1) = ys.take (k + 1) := by
  rw [List.take_succ_eq_append_getElem hz, List.take_succ_eq_append_getElem hy, h]
  congr 2
  simpa [hz, hy] using he
theorem ne_of_at {zs ys : List Int} {k : Nat} (he : zs.getD k 0 ≠ ys.getD k 0) : zs ≠ ys := fun h => he (by rw [h])

/-- An element type: its zero, its cells, its bytes. -/
def Elem (P : Program) (e : TypeId) (z : Value) (size bytes : Nat) : Prop :=
  (P.info? e).map (fun i => (i.zero, i.size, i.bytes)) = some (some z, size, bytes) ∧ z.cells.size = size ∧ 0 < size ∧ 0 < bytes

theorem Elem.parts {P : Program} {e : TypeId} {z : Value} {size bytes : Nat} (h : Elem P e z size bytes) :
    ∃ i, P.info? e = some i ∧ i.zero = some z ∧ i.size = size ∧ i.bytes = bytes := by
  obtain ⟨h, _⟩ := h
  cases hi : P.info? e with
  | none => rw [hi] at h; cases h
  | some i =>
    rw [hi] at h
    simp only [Option.map_some, Option.some.injEq, Prod.mk.injEq] at h
    exact ⟨i, rfl, h.1, h.2.1, h.2.2⟩

/-- An append of one element, laid in a block of its own just before, to an owned row. -/
theorem append_one {P : Program} {ops : Array Oper} {rest : List Oper} {o : Oper} {a : Act} {Q : Exit → Act → World → Prop} {w : World} (hgd : o.guard = none) (s x : Operand) (t : TypeId)
    (ho : o.op = .call { callee := .builtin .append, args := #[s, x], argTypes := #[t, t] })
    (base : Nat) (e : TypeId) (z : Value) (size bytes : Nat) (ht : P.underlying t = some (.slice e)) (hE : Elem P e z size bytes)
    (v : Value) (n : Nat) (xs : List Value) (hs : a.eval s = v) (hown : w.ownsRow base e size v n xs)
    (cs : Array Value) (hx : a.eval x = .slice (some ⟨w.heap.size, 0, none⟩) 1 1) (hl : cs.size = size) (h1 : ∀ u ∈ cs.toList, u.oneCell' = true)
    (hbytes : (n + 1) * bytes ≤ 140737488355328) (hbase : base ≤ w.heap.size)
    (h : ∀ v' w', w'.ownsRow base e size v' (n + 1) (xs ++ cs.toList) → Below base w w' → wpList P ops Q rest (a.put o.dst v') w') :
    wpList P ops Q (o :: rest) a (w.alloc (.cells cs e)) := by
  obtain ⟨i, hi, hz, hsz, hby⟩ := hE.parts
  have hb0 := hE.2.2.2
  have hlen : n + 1 ≤ 140737488355328 := Nat.le_trans (Nat.le_mul_of_pos_right _ hb0) hbytes
  refine wpList_append_own _ hgd s x t ho base e i z size bytes ht hi hz hsz hby hE.2.1 hE.2.2.1 v n xs hs (hown.alloc _) ⟨w.heap.size, 0, none⟩ 1 1 cs.toList hx (by simp [hl]) ?_ h1 (by unfold maxLen; omega) hbytes (by simp; omega) ?_
  · intro j u hu
    have e2 : (⟨w.heap.size, 0, none⟩ : Addr).add j = ⟨w.heap.size, j, none⟩ := by unfold Addr.add; split <;> simp_all
    rw [e2, World.cell?_alloc_at _ _ _ _ rfl]
    simpa using hu
  · intro v' w' hown' hgrow _
    refine h v' w' hown' ((((Below.refl base w).alloc hbase _).grown hgrow (by simp; omega)) (fun k hk => (hown.lt k hk).1))

theorem belowD {w w' : World} {B n : Nat} (h : Below B w w') : Below B w (w'.drewN n) := by
  induction n with
  | zero => exact h
  | succ n ih => exact ih.drew
theorem belowU {w w' : World} {B n : Nat} (h : Below B (w.drewN n) w') : Below B w w' := ⟨h.os, h.tape, h.output, h.size, h.block⟩

theorem owns_empty (w : World) (e : TypeId) (size : Nat) : (w.alloc (.cells #[] e)).ownsRow w.heap.size e size (.slice (some ⟨w.heap.size, 0, none⟩) 0 0) 0 [] :=
  World.ownsRow_made w #[] 0 (Nat.le_refl _) (Nat.zero_le _) (by simp)

/-- A made slice of length 0, of whatever room. -/
theorem make_empty {P : Program} (w : World) (t e : TypeId) (z : Value) (size bytes : Nat) (ht : P.underlying t = some (.slice e)) (hE : Elem P e z size bytes) (kl kc : IntKind) (c : Nat)
    (hc : c * bytes ≤ 140737488355328) :
    ∃ w', (Instr.makeSlice t (.int kl 0) (.int kc (c : Int))).run P w = .ok (.slice (some ⟨w.heap.size, 0, none⟩) 0 c) w' ∧
      w'.ownsRow w.heap.size e size (.slice (some ⟨w.heap.size, 0, none⟩) 0 c) 0 [] ∧ Below w.heap.size w w' ∧ w.heap.size < w'.heap.size := by
  obtain ⟨i, hi, hz, hsz, hby⟩ := hE.parts
  have hb0 := hE.2.2.2
  have hlen : c ≤ 140737488355328 := Nat.le_trans (Nat.le_mul_of_pos_right _ hb0) hc
  obtain ⟨w', hrun, hown, hg⟩ := run_make_own w w.heap.size t e i z size ht hi hz hsz kl kc c (by rw [hby, Nat.mul_comm]; omega) (by unfold maxLen; omega) (Nat.le_refl _)
  exact ⟨w', hrun, hown, (Below.refl _ _).grown hg (Nat.le_refl _) (fun k hk => by cases hk), (hown.lt w.heap.size rfl).2⟩

/-- A literal's block is a slice that can be read. -/
theorem Sl.lit (w : World) (C : Array Value) (e : TypeId) (size n cap : Nat) (h : C.size = n * size) : Sl (w.alloc (.cells C e)) size (.slice (Option.some ⟨w.heap.size, 0, none⟩) n cap) n C.toList := by
  refine ⟨by simpa using h, .inr ⟨w.heap.size, 0, cap, rfl, by simp, fun j u hu => ?_⟩⟩
  rw [Nat.zero_add, World.cell?_alloc_at _ _ _ _ rfl]
  simpa using hu
end Go.Proofs.Ytihlfcggggloaaa
