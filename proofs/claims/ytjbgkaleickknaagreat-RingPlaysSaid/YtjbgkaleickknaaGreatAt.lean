import Derived.Test.YtjbgkaleickknaaGreatFresh
import Derived.ArgAppend
/-
  A slice of one's own that may begin in the midst of its block: append, the first one gone, the last one gone.
-/
namespace Go.Proofs.YtjbgkaleickknaaGreat
set_option maxRecDepth 100000
set_option linter.unusedSimpArgs false
set_option linter.unusedVariables false
open Go Go.RowKit

/-- At offset off of block g lie xs, and behind them room till cap. -/
structure InAt (w : World) (g off cap : Nat) (e : TypeId) (xs : List Value) : Prop where
  fits : xs.length ≤ cap
  few : cap ≤ maxLen
  ex : ∃ cur : Array Value, w.heap[g]? = some (.cells cur e (0, 0)) ∧ off + cap ≤ cur.size ∧ ∀ i u, xs[i]? = some u → cur[off + i]? = some u
theorem InAt.lt {w : World} {g off cap : Nat} {e : TypeId} {xs : List Value} (h : InAt w g off cap e xs) : g < w.heap.size := by
  obtain ⟨cur, h1, -⟩ := h.ex
  exact (Array.getElem?_eq_some_iff.1 h1).1
theorem InAt.block {w w' : World} {g off cap : Nat} {e : TypeId} {xs : List Value} (h : InAt w g off cap e xs) (hb : w'.heap[g]? = w.heap[g]?) : InAt w' g off cap e xs := by
  obtain ⟨cur, h1, h2⟩ := h.ex
  exact ⟨h.fits, h.few, cur, hb.trans h1, h2⟩
theorem InAt.keeps {w w' : World} {S : List Nat} {g off cap : Nat} {e : TypeId} {xs : List Value} (h : InAt w g off cap e xs) (hk : Keeps S w w') (hg : g ∉ S) : InAt w' g off cap e xs := h.block (hk.block g h.lt hg)
theorem InAt.cell {w : World} {g off cap : Nat} {e : TypeId} {xs : List Value} (h : InAt w g off cap e xs) {i : Nat} {u : Value} (hu : xs[i]? = some u) : w.cell? ⟨g, off + i, none⟩ = some u := by
  obtain ⟨cur, h1, -, h3⟩ := h.ex
  rw [cell_of_row w g (off + i) cur e (0, 0) h1]
  exact h3 i u hu
theorem InAt.sl {w : World} {g off cap : Nat} {e : TypeId} {xs : List Value} (h : InAt w g off cap e xs) : Sl w 1 (.slice (some ⟨g, off, none⟩) xs.length cap) xs.length xs :=
  ⟨by simp, .inr ⟨g, off, cap, rfl, h.lt, fun j u hu => h.cell hu⟩⟩
theorem InAt.tail {w : World} {g off cap : Nat} {e : TypeId} {x : Value} {xs : List Value} (h : InAt w g off cap e (x :: xs)) : InAt w g (if cap = 1 then off else off + 1) (cap - 1) e xs := by
  have hf := h.fits
  simp only [List.length_cons] at hf
  obtain ⟨cur, h1, h2, h3⟩ := h.ex
  refine ⟨by omega, by have := h.few; omega, cur, h1, by split <;> omega, fun i u hu => ?_⟩
  have hi := (List.getElem?_eq_some_iff.1 hu).1
  rw [if_neg (by omega)]
  have := h3 (i + 1) u (by simpa using hu)
  rwa [show off + (i + 1) = off + 1 + i by omega] at this
theorem InAt.init {w : World} {g off cap : Nat} {e : TypeId} {x : Value} {xs : List Value} (h : InAt w g off cap e (xs ++ [x])) : InAt w g off cap e xs := by
  have hf := h.fits
  simp only [List.length_append, List.length_cons, List.length_nil] at hf
  obtain ⟨cur, h1, h2, h3⟩ := h.ex
  refine ⟨by omega, h.few, cur, h1, h2, fun i u hu => ?_⟩
  have hi := (List.getElem?_eq_some_iff.1 hu).1
  exact h3 i u (by rw [List.getElem?_append_left hi]; exact hu)
theorem InAt.drop {w : World} {g off cap : Nat} {e : TypeId} {xs : List Value} (h : InAt w g off cap e xs) {n : Nat} (hn : n ≤ xs.length) : InAt w g (if cap = n then off else off + n) (cap - n) e (xs.drop n) := by
  have hf := h.fits
  obtain ⟨cur, h1, h2, h3⟩ := h.ex
  refine ⟨by simp; omega, by have := h.few; omega, cur, h1, by split <;> omega, fun i u hu => ?_⟩
  have hi := (List.getElem?_eq_some_iff.1 hu).1
  simp only [List.length_drop] at hi
  rw [if_neg (by omega)]
  have := h3 (n + i) u (by simpa using hu)
  rwa [show off + (n + i) = off + n + i by omega] at this
theorem InAt.take {w : World} {g off cap : Nat} {e : TypeId} {xs : List Value} (h : InAt w g off cap e xs) (n : Nat) : InAt w g off cap e (xs.take n) := by
  have hf := h.fits
  obtain ⟨cur, h1, h2, h3⟩ := h.ex
  refine ⟨by simp; omega, h.few, cur, h1, h2, fun i u hu => ?_⟩
  have hi := (List.getElem?_eq_some_iff.1 hu).1
  simp only [List.length_take] at hi
  rw [List.getElem?_take_of_lt (by omega)] at hu
  exact h3 i u hu
theorem InAt.empty (w : World) (e : TypeId) : InAt (w.alloc (.cells #[] e)) w.heap.size 0 0 e [] :=
  ⟨by simp, Nat.zero_le _, #[], heap_alloc_new w _, by simp, fun i u hu => by simp at hu⟩

theorem run_append_at {P : Program} (w : World) (t ty e : TypeId) (z : Value) (bytes : Nat) (ht : P.underlying t = some (.slice e)) (hE : Elem P e z 1 bytes)
    (g off cap : Nat) (xs : List Value) (h : InAt w g off cap e xs) (b : Nat) (x : Value) (hx : w.cell? ⟨b, 0, none⟩ = some x) (h1 : x.oneCell' = true) (hbytes : (xs.length + 1) * bytes ≤ 140737488355328) :
    ∃ g' off' cap' w', (Builtin.append_ #[t, t] ty #[.slice (some ⟨g, off, none⟩) xs.length cap, .slice (some ⟨b, 0, none⟩) 1 1]).run P w = .ok (.slice (some ⟨g', off', none⟩) (xs.length + 1) cap') w' ∧
      InAt w' g' off' cap' e (xs ++ [x]) ∧ Keeps [g] w w' ∧ (g' = g ∨ w.heap.size ≤ g') := by
  obtain ⟨i, hi, hz, hsz, hby⟩ := hE.parts
  have hb0 := hE.2.2.2
  obtain ⟨cur, c1, c2, c3⟩ := h.ex
  have hf := h.fits
  have hm := h.few
  have hn : ∀ j u, [x][j]? = some u → w.cell? ((⟨b, 0, none⟩ : Addr).add j) = some u := by
    intro j u hu
    cases j with
    | zero => rw [add_flat]; simpa using (by simpa using hu : x = u) ▸ hx
    | succ j => simp at hu
  by_cases hroom : xs.length + 1 ≤ cap
  · have hcell : ∀ k, off + k < cur.size → (w.cell? ⟨g, off + k, none⟩).isSome = true := fun k hk => by
      rw [cell_of_row w g (off + k) cur e (0, 0) c1]; simp [hk]
    have hr := run_append_room_cells (P := P) w t ty e i ht hi g off xs.length cap ⟨b, 0, none⟩ 1 1 [x] (by simp [hsz]) hn (by simp [h1]) hroom
      (fun j hj => by simp at hj; subst hj; rw [hsz]; simpa using hcell xs.length (by omega)) (fun j hj => by simp [World.frozen?, c1])
    rw [hsz, Nat.mul_one] at hr
    refine ⟨g, off, cap, _, hr, ⟨by simp; omega, hm, cur.setIfInBounds (off + xs.length) x, ?_, by simpa using c2, fun k u hu => ?_⟩, ?_, .inl rfl⟩
    · have hlt := (Array.getElem?_eq_some_iff.1 c1).1
      have hv := (Array.getElem?_eq_some_iff.1 c1).2
      show (w.setCell ⟨g, off + xs.length, none⟩ x).heap[g]? = _
      simp only [World.setCell]
      rw [Array.getElem?_eq_getElem (by simpa using hlt), Array.getElem_modify]
      simp [hv]
    · by_cases e1 : k = xs.length
      · subst e1
        simp at hu
        subst hu
        rw [Array.getElem?_setIfInBounds_self_of_lt (by omega)]
      · have hk : k < xs.length := by have := (List.getElem?_eq_some_iff.1 hu).1; simp at this; omega
        rw [List.getElem?_append_left hk] at hu
        rw [Array.getElem?_setIfInBounds_ne (by omega)]
        exact c3 k u hu
    · exact (Keeps.refl [g] w).setCell (fun _ => by simp) _
  · have holds : ∀ j u, xs[j]? = some u → w.cell? ((⟨g, off, none⟩ : Addr).add j) = some u := fun j u hu => by rw [add_flat]; exact h.cell hu
    have hr := run_append_grow (P := P) w t ty e i z ht hi hz ⟨g, off, none⟩ xs.length cap xs (by simp [hsz]) holds ⟨b, 0, none⟩ 1 1 [x] (by simp [hsz]) hn (by omega) (by have := Nat.le_mul_of_pos_right (xs.length + 1) hb0; omega) (growslice_fits (by omega) (by rw [hby]; exact hbytes))
    have hge := grownCap_ge w (xs.length + 1) cap e
    have hle := grownCap_le_maxLen w (xs.length + 1) cap e (by
      unfold maxLen at *
      have := Nat.le_mul_of_pos_right (xs.length + 1) hb0
      omega)
    have hz1 : (Builtin.zeroCells z.cells (grownCap w (xs.length + 1) cap e - (xs.length + 1))).size = grownCap w (xs.length + 1) cap e - (xs.length + 1) := by
      rw [size_zeroCells, hE.2.1, Nat.mul_one]
    refine ⟨w.heap.size, 0, _, _, hr, ⟨by simpa using hge, hle, xs.toArray ++ #[x] ++ Builtin.zeroCells z.cells (grownCap w (xs.length + 1) cap e - (xs.length + 1)), ?_, ?_, fun k u hu => ?_⟩, ((Keeps.refl _ _).drew).alloc _, .inr (Nat.le_refl _)⟩
    · exact heap_alloc_new w.drew _
    · simp [hz1]; omega
    · rw [Nat.zero_add, Array.getElem?_append_left (by have := (List.getElem?_eq_some_iff.1 hu).1; simpa using this)]
      simpa using hu

/-- An append of one element, laid in a block of its own just before. -/
theorem append_at {P : Program} {ops : Array Oper} {rest : List Oper} {o : Oper} {a : Act} {Q : Exit → Act → World → Prop} {w : World} (hgd : o.guard = none) (s x : Operand) (t : TypeId)
    (ho : o.op = .call { callee := .builtin .append, args := #[s, x], argTypes := #[t, t] })
    (e : TypeId) (z : Value) (bytes : Nat) (ht : P.underlying t = some (.slice e)) (hE : Elem P e z 1 bytes)
    (g off cap n : Nat) (xs : List Value) (hs : a.eval s = .slice (some ⟨g, off, none⟩) n cap) (hn : xs.length = n) (hin : InAt w g off cap e xs)
    (u : Value) (hx : a.eval x = .slice (some ⟨w.heap.size, 0, none⟩) 1 1) (h1 : u.oneCell' = true)
    (hbytes : (n + 1) * bytes ≤ 140737488355328)
    (h : ∀ g' off' cap' w', InAt w' g' off' cap' e (xs ++ [u]) → Keeps [g] w w' → (g' = g ∨ w.heap.size ≤ g') → wpList P ops Q rest (a.put o.dst (.slice (some ⟨g', off', none⟩) (n + 1) cap')) w') :
    wpList P ops Q (o :: rest) a (w.alloc (.cells #[u] e)) := by
  subst hn
  refine wpList_plain hgd fun K hK => ?_
  obtain ⟨g', off', cap', w', hr, h2, h3, h4⟩ := run_append_at (P := P) (w.alloc (.cells #[u] e)) t o.type e z bytes ht hE g off cap xs (hin.keeps ((Keeps.refl [] w).alloc _) (by simp)) w.heap.size u (by rw [World.cell?_alloc_at _ _ _ _ rfl]; rfl) h1 hbytes
  unfold Oper.wp execOp
  simp only [ho, resolve, invoke, builtin, Sem.run_bind, Sem.run_pure, Result.andThen_ok, List.map_toArray, List.map_cons, List.map_nil, hs, hx, hr]
  exact hK _ _ (h g' off' cap' w' h2 (((Keeps.refl [g] w).alloc _).trans h3) (h4.imp_right fun h => by simp at h; omega))
end Go.Proofs.YtjbgkaleickknaaGreat
