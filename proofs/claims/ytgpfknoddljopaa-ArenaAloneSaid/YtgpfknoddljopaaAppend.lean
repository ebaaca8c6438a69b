/-
  append(s, x...), s a row of the call's own, x any slice that can be read: as one operation, also in a region that draws its order; a row cut off.
-/
import Derived.Test.YtgpfknoddljopaaOps
import Derived.Test.YtgpfknoddljopaaFresh2
namespace Go.Proofs.Ytgpfknoddljopaa
set_option maxRecDepth 100000
open Go Go.RowKit

theorem run_append_sl {P : Program} (w : World) (base : Nat) (t ty e : TypeId) (z : Value) (size bytes : Nat) (ht : P.underlying t = some (.slice e)) (hE : Elem P e z size bytes)
    (v : Value) (n : Nat) (xs : List Value) (hown : w.ownsRow base e size v n xs)
    (y : Value) (m : Nat) (news : List Value) (hy : Sl w size y m news) (h1 : ∀ u ∈ news, u.oneCell' = true)
    (hbytes : (n + m) * bytes ≤ 140737488355328) (hbase : base ≤ w.heap.size) :
    ∃ v' w', (Builtin.append_ #[t, t] ty #[v, y]).run P w = .ok v' w' ∧ w'.ownsRow base e size v' (n + m) (xs ++ news) ∧ Keeps v.ownBlock.toList w w' ∧
      (∀ g, v'.ownBlock = some g → v.ownBlock = some g ∨ w.heap.size ≤ g) ∧ (v ≠ .slice none 0 0 → v' ≠ .slice none 0 0) := by
  obtain ⟨i, hi, hz, hsz, hby⟩ := hE.parts
  have viaFresh : ∀ (a : Addr) (c : Nat), y = .slice (some a) m c → news.length = m * size → (∀ j u, news[j]? = some u → w.cell? (a.add j) = some u) → ∃ v' w', (Builtin.append_ #[t, t] ty #[v, y]).run P w = .ok v' w' ∧ w'.ownsRow base e size v' (n + m) (xs ++ news) ∧ Keeps v.ownBlock.toList w w' ∧
      (∀ g, v'.ownBlock = some g → v.ownBlock = some g ∨ w.heap.size ≤ g) ∧ (v ≠ .slice none 0 0 → v' ≠ .slice none 0 0) := by
    intro a c hyy hl hc
    subst hyy
    obtain ⟨v', w', hrun, h2, h3, h4, h5⟩ := run_append_fresh (P := P) w base t ty e z size bytes ht hE v n xs hown a m c news hl hc h1 hbytes hbase
    exact ⟨v', w', hrun, h2, (Keeps.refl _ w).grown h3 fun k hk _ => by simpa using hk, h5, fun hne he => hne (h4.1 he).1⟩
  rcases hy.2 with ⟨p, c, rfl, rfl⟩ | ⟨b, off, c, rfl, hb, hc⟩
  · have hn : news = [] := List.eq_nil_of_length_eq_zero (by simpa using hy.1)
    subst hn
    cases p with
    | none => exact ⟨v, w, run_append_nothing (P := P) w base t ty e i size ht hi v n xs hown c, by simpa using hown, Keeps.refl _ _, fun g hg => .inl hg, id⟩
    | some ad => exact viaFresh ad c rfl (by simp) (by simp)
  · exact viaFresh ⟨b, off, none⟩ c rfl hy.1 (fun j u hu => by rw [add_flat]; exact hc j u hu)

theorem step_append_sl {P : Program} {ops : Array Oper} {o : Oper} {a : Act} {w : World} {K : Act → World → Prop} {Q : Exit → Act → World → Prop} {E : Prop}
    (hg : o.guard = none) (s x : Operand) (t : TypeId) (hop : o.op = Op.call { callee := Callee.builtin Builtin.append, args := #[s, x], argTypes := #[t, t] })
    (base : Nat) (e : TypeId) (z : Value) (size bytes : Nat) (ht : P.underlying t = some (.slice e)) (hE : Elem P e z size bytes)
    (v : Value) (n : Nat) (xs : List Value) (hs : a.eval s = v) (hown : w.ownsRow base e size v n xs)
    (y : Value) (m : Nat) (news : List Value) (hx : a.eval x = y) (hy : Sl w size y m news) (h1 : ∀ u ∈ news, u.oneCell' = true)
    (hbytes : (n + m) * bytes ≤ 140737488355328) (hbase : base ≤ w.heap.size)
    (hK : ∀ v' w', w'.ownsRow base e size v' (n + m) (xs ++ news) → Keeps v.ownBlock.toList w w' → (∀ k, v'.ownBlock = some k → v.ownBlock = some k ∨ w.heap.size ≤ k) → (v ≠ .slice none 0 0 → v' ≠ .slice none 0 0) → K (a.put o.dst v') w') :
    if Region.wanted o (yielded ops a.tmps) = true then Oper.wp P o a w K Q else E := by
  have hw : Region.wanted o (yielded ops a.tmps) = true := by simp [Region.wanted, hg]
  rw [if_pos hw]
  obtain ⟨v', w', hrun, h2, h3, h4, h5⟩ := run_append_sl (P := P) w base t o.type e z size bytes ht hE v n xs hown y m news hy h1 hbytes hbase
  unfold Oper.wp
  simp [execOp, hop, resolve, invoke, builtin, hs, hx, hrun, Result.andThen]
  exact hK v' w' h2 h3 h4 h5

/-- The first elements of a row of one's own. -/
theorem owns_cut {w : World} {base size n m : Nat} {e : TypeId} {p : Option Addr} {c : Nat} {xs : List Value} (h : w.ownsRow base e size (.slice p n c) n xs) (hm : m ≤ n) : w.ownsRow base e size (.slice p m c) m (xs.take (m * size)) := by
  rcases h.2 with ⟨he, h0⟩ | ⟨g, cap, cur, he, hb, hg, hnc, hcm, hcs, ht⟩
  · cases he
    obtain rfl : m = 0 := by omega
    refine ⟨?_, .inl ⟨rfl, rfl⟩⟩
    simp
  · cases he
    have hl := h.1
    have hms : m * size ≤ n * size := Nat.mul_le_mul_right _ hm
    refine ⟨by rw [List.length_take, hl]; omega, .inr ⟨g, c, cur, rfl, hb, hg, by omega, hcm, hcs, ?_⟩⟩
    rw [← ht, List.take_take]
    congr 1
    omega
end Go.Proofs.Ytgpfknoddljopaa
