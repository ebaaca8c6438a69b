/-
  An append of a whole slice to one's own slice, which may begin in the midst of its block.
-/
import Derived.Test.YtejekciekcbagaaGreatAt
namespace Go.Proofs.YtejekciekcbagaaGreat
set_option maxRecDepth 100000
set_option linter.unusedSimpArgs false
set_option linter.unusedVariables false
open Go Go.RowKit

theorem run_append_room_at {P : Program} (w : World) (t ty e : TypeId) (i : TypeInfo) (ht : P.underlying t = some (.slice e)) (hi : P.info? e = some i)
    (g off sLen sCap : Nat) (cur : Array Value) (hg : w.heap[g]? = some (.cells cur e (0, 0)))
    (a : Addr) (m c : Nat) (news : List Value) (hl : news.length = m * i.size) (hnews : ∀ j u, news[j]? = some u → w.cell? (a.add j) = some u) (h1 : ∀ u ∈ news, u.oneCell' = true)
    (hroom : sLen + m ≤ sCap) (hfit : off + sLen * i.size + news.length ≤ cur.size) :
    (Builtin.append_ #[t, t] ty #[.slice (some ⟨g, off, none⟩) sLen sCap, .slice (some a) m c]).run P w =
      .ok (.slice (some ⟨g, off, none⟩) (sLen + m) sCap) (w.setRow g (cur.toList.take (off + sLen * i.size) ++ news ++ cur.toList.drop (off + sLen * i.size + news.length)).toArray) := by
  have hf := run_firstCells_some (P := P) w i.size m a m c news hl hnews
  have hst := run_storeCells_at P g (off + sLen * i.size) e news 0 cur w hg (by simpa using hfit) h1
  simp only [Nat.add_zero] at hst
  simp [Builtin.append_, run_underlying ht, sizeOf, typeInfo, hi, Builtin.lenOf, hroom, hf, Addr.add_lit, hst]
theorem run_append_at_row {P : Program} (w : World) (t ty e : TypeId) (z : Value) (bytes : Nat) (ht : P.underlying t = some (.slice e)) (hE : Elem P e z 1 bytes)
    (g off cap : Nat) (xs : List Value) (h : InAt w g off cap e xs) (b c : Nat) (news : List Value) (hrow : Row w b e news) (h1 : ∀ u ∈ news, u.oneCell' = true) (hbytes : (xs.length + news.length) * bytes ≤ 140737488355328) :
    ∃ g' off' cap' w', (Builtin.append_ #[t, t] ty #[.slice (some ⟨g, off, none⟩) xs.length cap, .slice (some ⟨b, 0, none⟩) news.length c]).run P w = .ok (.slice (some ⟨g', off', none⟩) (xs.length + news.length) cap') w' ∧
      InAt w' g' off' cap' e (xs ++ news) ∧ Keeps [g] w w' ∧ (g' = g ∨ w.heap.size ≤ g') := by
  obtain ⟨i, hi, hz, hsz, hby⟩ := hE.parts
  have hb0 := hE.2.2.2
  obtain ⟨cur, c1, c2, c3⟩ := h.ex
  have hf := h.fits
  have hm := h.few
  have hn : ∀ j u, news[j]? = some u → w.cell? ((⟨b, 0, none⟩ : Addr).add j) = some u := fun j u hu => by rw [add_flat, Nat.zero_add]; exact hrow.cell hu
  by_cases hroom : xs.length + news.length ≤ cap
  · have hr := run_append_room_at (P := P) w t ty e i ht hi g off xs.length cap cur c1 ⟨b, 0, none⟩ news.length c news (by simp [hsz]) hn h1 hroom (by rw [hsz]; omega)
    rw [hsz, Nat.mul_one] at hr
    refine ⟨g, off, cap, _, hr, ⟨by simp; omega, hm, _, setRow_heap w g cur _ e _ c1, ?_, fun k u hu => ?_⟩, (Keeps.refl [g] w).setRow (fun _ => by simp) _, .inl rfl⟩
    · simp only [List.size_toArray, List.length_append, List.length_take, List.length_drop, Array.length_toList]; omega
    · have hcl : cur.toList.length = cur.size := Array.length_toList
      have hk := (List.getElem?_eq_some_iff.1 hu).1
      rw [List.length_append] at hk
      rw [List.getElem?_toArray, List.append_assoc]
      by_cases e1 : k < xs.length
      · rw [List.getElem?_append_left e1] at hu
        rw [List.getElem?_append_left (by rw [List.length_take]; omega), List.getElem?_take_of_lt (by omega), Array.getElem?_toList]
        exact c3 k u hu
      · rw [List.getElem?_append_right (by omega)] at hu
        rw [List.getElem?_append_right (by rw [List.length_take]; omega), List.length_take, List.getElem?_append_left (by omega)]
        rw [show off + k - min (off + xs.length) cur.toList.length = k - xs.length by omega]
        exact hu
  · have holds : ∀ j u, xs[j]? = some u → w.cell? ((⟨g, off, none⟩ : Addr).add j) = some u := fun j u hu => by rw [add_flat]; exact h.cell hu
    have hr := run_append_grow (P := P) w t ty e i z ht hi hz ⟨g, off, none⟩ xs.length cap xs (by simp [hsz]) holds ⟨b, 0, none⟩ news.length c news (by simp [hsz]) hn (by omega) (by have := Nat.le_mul_of_pos_right (xs.length + news.length) hb0; omega) (growslice_fits (by omega) (by rw [hby]; exact hbytes))
    have hge := grownCap_ge w (xs.length + news.length) cap e
    have hle := grownCap_le_maxLen w (xs.length + news.length) cap e (by
      unfold maxLen at *
      have := Nat.le_mul_of_pos_right (xs.length + news.length) hb0
      omega)
    have hz1 : (Builtin.zeroCells z.cells (grownCap w (xs.length + news.length) cap e - (xs.length + news.length))).size = grownCap w (xs.length + news.length) cap e - (xs.length + news.length) := by
      rw [size_zeroCells, hE.2.1, Nat.mul_one]
    refine ⟨w.heap.size, 0, _, _, hr, ⟨by simpa using hge, hle, xs.toArray ++ news.toArray ++ Builtin.zeroCells z.cells (grownCap w (xs.length + news.length) cap e - (xs.length + news.length)), ?_, ?_, fun k u hu => ?_⟩, ((Keeps.refl _ _).drew).alloc _, .inr (Nat.le_refl _)⟩
    · exact heap_alloc_new w.drew _
    · simp [hz1]; omega
    · rw [Nat.zero_add, Array.getElem?_append_left (by have := (List.getElem?_eq_some_iff.1 hu).1; simpa using this)]
      simpa using hu

/-- An append of a whole row. -/
theorem append_at_row {P : Program} {ops : Array Oper} {rest : List Oper} {o : Oper} {a : Act} {Q : Exit → Act → World → Prop} {w : World} (hgd : o.guard = none) (s x : Operand) (t : TypeId)
    (ho : o.op = .call { callee := .builtin .append, args := #[s, x], argTypes := #[t, t] })
    (e : TypeId) (z : Value) (bytes : Nat) (ht : P.underlying t = some (.slice e)) (hE : Elem P e z 1 bytes)
    (g off cap n : Nat) (xs : List Value) (hs : a.eval s = .slice (some ⟨g, off, none⟩) n cap) (hn : xs.length = n) (hin : InAt w g off cap e xs)
    (b m c : Nat) (news : List Value) (hx : a.eval x = .slice (some ⟨b, 0, none⟩) m c) (hl : news.length = m) (hrow : Row w b e news) (h1 : ∀ u ∈ news, u.oneCell' = true)
    (hbytes : (n + m) * bytes ≤ 140737488355328)
    (h : ∀ g' off' cap' w', InAt w' g' off' cap' e (xs ++ news) → Keeps [g] w w' → (g' = g ∨ w.heap.size ≤ g') → wpList P ops Q rest (a.put o.dst (.slice (some ⟨g', off', none⟩) (n + m) cap')) w') :
    wpList P ops Q (o :: rest) a w := by
  subst hn
  subst hl
  refine wpList_plain hgd fun K hK => ?_
  obtain ⟨g', off', cap', w', hr, h2, h3, h4⟩ := run_append_at_row (P := P) w t o.type e z bytes ht hE g off cap xs hin b c news hrow h1 hbytes
  unfold Oper.wp execOp
  simp only [ho, resolve, invoke, builtin, Sem.run_bind, Sem.run_pure, Result.andThen_ok, List.map_toArray, List.map_cons, List.map_nil, hs, hx, hr]
  exact hK _ _ (h g' off' cap' w' h2 h3 h4)
end Go.Proofs.YtejekciekcbagaaGreat
