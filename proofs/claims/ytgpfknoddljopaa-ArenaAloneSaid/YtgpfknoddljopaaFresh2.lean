/-
  Appends as one step of a region that draws its order.
-/
import Derived.Test.YtgpfknoddljopaaFresh
import Derived.Deep.RegionHeld3
namespace Go.Proofs.Ytgpfknoddljopaa
set_option maxRecDepth 100000
open Go Go.RowKit

/-- append(empty, x...): a new row, or the empty slice itself. -/
theorem run_append_empty {P : Program} (w : World) (t ty e : TypeId) (z : Value) (size bytes : Nat) (ht : P.underlying t = some (.slice e)) (hE : Elem P e z size bytes)
    (g : Nat) (y : Value) (m : Nat) (news : List Value) (hy : Sl w size y m news) (h1 : ∀ u ∈ news, u.oneCell' = true) (hbytes : m * bytes ≤ 140737488355328) :
    ∃ v' w', (Builtin.append_ #[t, t] ty #[.slice (some ⟨g, 0, none⟩) 0 0, y]).run P w = .ok v' w' ∧ Sl w' size v' m news ∧ Keeps [] w w' ∧ ∀ k, v'.ownBlock = some k → m = 0 ∨ w.heap.size ≤ k := by
  obtain ⟨i, hi, hz, hsz, hby⟩ := hE.parts
  have hb0 := hE.2.2.2
  have hlen : m ≤ 140737488355328 := Nat.le_trans (Nat.le_mul_of_pos_right _ hb0) hbytes
  have nothing : ∀ (p : Option Addr) (c : Nat), m = 0 → y = .slice p 0 c → ∃ v' w', (Builtin.append_ #[t, t] ty #[.slice (some ⟨g, 0, none⟩) 0 0, y]).run P w = .ok v' w' ∧ Sl w' size v' m news ∧ Keeps [] w w' ∧ ∀ k, v'.ownBlock = some k → m = 0 ∨ w.heap.size ≤ k := by
    intro p c hm0 hyy
    subst hm0
    subst hyy
    refine ⟨.slice (some ⟨g, 0, none⟩) 0 0, w, ?_, ⟨hy.1, .inl ⟨_, _, rfl, rfl⟩⟩, Keeps.refl _ _, fun k hk => .inl rfl⟩
    have hz0 : i.size = size := hsz
    cases p with
    | none => simp [Builtin.append_, run_underlying ht, sizeOf, typeInfo, hi, Builtin.lenOf, Builtin.firstCells, storeCells]
    | some a =>
      have hr := run_firstCells_some (P := P) w i.size 0 a 0 c [] (by simp) (by simp)
      simp [Builtin.append_, run_underlying ht, sizeOf, typeInfo, hi, Builtin.lenOf, hr, storeCells]
  rcases hy.2 with ⟨p, c, hyy, hm0⟩ | ⟨b, off, c, hyy, hb, hc⟩
  · exact nothing p c hm0 hyy
  · by_cases hm0 : m = 0
    · exact nothing (some ⟨b, off, none⟩) c hm0 (by rw [hyy, hm0])
    · subst hyy
      subst hsz
      have hr := run_append_grow (P := P) w t ty e i z ht hi hz ⟨g, 0, none⟩ 0 0 [] (by simp) (by simp) ⟨b, off, none⟩ m c news hy.1 (fun j u hu => by rw [add_flat]; exact hc j u hu) (by omega) (by omega) (growslice_fits (by omega) (by rw [hby]; simpa using hbytes))
      simp only [Nat.zero_add, List.nil_append] at hr
      refine ⟨_, _, hr, ⟨hy.1, .inr ⟨w.heap.size, 0, _, rfl, by simp, fun j u hu => ?_⟩⟩, (Keeps.refl _ w).drew.alloc _, fun k hk => .inr (by simp [Value.ownBlock] at hk; omega)⟩
      rw [Nat.zero_add]
      show (w.drew.alloc _).cell? ⟨w.drew.heap.size, j, none⟩ = some u
      rw [World.cell?_alloc_at _ _ _ _ rfl]
      have hj : j < news.length := (List.getElem?_eq_some_iff.1 hu).1
      rw [Array.getElem?_append_left (by simp; omega)]
      simpa using hu

theorem step_append_empty {P : Program} {ops : Array Oper} {o : Oper} {a : Act} {w : World} {K : Act → World → Prop} {Q : Exit → Act → World → Prop} {E : Prop}
    (hg : o.guard = none) (s x : Operand) (t : TypeId) (hop : o.op = Op.call { callee := Callee.builtin Builtin.append, args := #[s, x], argTypes := #[t, t] })
    (e : TypeId) (z : Value) (size bytes : Nat) (ht : P.underlying t = some (.slice e)) (hE : Elem P e z size bytes)
    (g : Nat) (hs : a.eval s = .slice (some ⟨g, 0, none⟩) 0 0) (y : Value) (m : Nat) (news : List Value) (hx : a.eval x = y) (hy : Sl w size y m news) (h1 : ∀ u ∈ news, u.oneCell' = true) (hbytes : m * bytes ≤ 140737488355328)
    (hK : ∀ v' w', Sl w' size v' m news → Keeps [] w w' → (∀ k, v'.ownBlock = some k → m = 0 ∨ w.heap.size ≤ k) → K (a.put o.dst v') w') :
    if Region.wanted o (yielded ops a.tmps) = true then Oper.wp P o a w K Q else E := by
  have hw : Region.wanted o (yielded ops a.tmps) = true := by simp [Region.wanted, hg]
  rw [if_pos hw]
  obtain ⟨v', w', hrun, h2, h3, h4⟩ := run_append_empty (P := P) w t o.type e z size bytes ht hE g y m news hy h1 hbytes
  unfold Oper.wp
  simp [execOp, hop, resolve, invoke, builtin, hs, hx, hrun, Result.andThen]
  exact hK v' w' h2 h3 h4

theorem step_append_fresh {P : Program} {ops : Array Oper} {o : Oper} {a : Act} {w : World} {K : Act → World → Prop} {Q : Exit → Act → World → Prop} {E : Prop}
    (hg : o.guard = none) (s x : Operand) (t : TypeId) (hop : o.op = Op.call { callee := Callee.builtin Builtin.append, args := #[s, x], argTypes := #[t, t] })
    (base : Nat) (e : TypeId) (z : Value) (size bytes : Nat) (ht : P.underlying t = some (.slice e)) (hE : Elem P e z size bytes)
    (v : Value) (n : Nat) (xs : List Value) (hs : a.eval s = v) (hown : w.ownsRow base e size v n xs)
    (g : Nat) (cs : List Value) (hx : a.eval x = .slice (some ⟨g, 0, none⟩) 1 1) (hl : cs.length = size) (h1 : ∀ u ∈ cs, u.oneCell' = true) (hc : ∀ j u, cs[j]? = some u → w.cell? ⟨g, j, none⟩ = some u)
    (hbytes : (n + 1) * bytes ≤ 140737488355328) (hbase : base ≤ w.heap.size)
    (hK : ∀ v' w', w'.ownsRow base e size v' (n + 1) (xs ++ cs) → Keeps v.ownBlock.toList w w' → (∀ k, v'.ownBlock = some k → v.ownBlock = some k ∨ w.heap.size ≤ k) → v' ≠ .slice none 0 0 → K (a.put o.dst v') w') :
    if Region.wanted o (yielded ops a.tmps) = true then Oper.wp P o a w K Q else E := by
  have hw : Region.wanted o (yielded ops a.tmps) = true := by simp [Region.wanted, hg]
  rw [if_pos hw]
  obtain ⟨v', w', hrun, h2, h3, h4, h5⟩ := run_append_fresh (P := P) w base t o.type e z size bytes ht hE v n xs hown ⟨g, 0, none⟩ 1 1 cs (by simp [hl]) (fun j u hu => by rw [add_flat, Nat.zero_add]; exact hc j u hu) h1 hbytes hbase
  unfold Oper.wp
  simp [execOp, hop, resolve, invoke, builtin, hs, hx, hrun, Result.andThen]
  refine hK v' w' h2 ((Keeps.refl _ w).grown h3 fun k hk _ => by simpa using hk) h5 (fun hv => ?_)
  have := h4.1 hv
  omega
end Go.Proofs.Ytgpfknoddljopaa
