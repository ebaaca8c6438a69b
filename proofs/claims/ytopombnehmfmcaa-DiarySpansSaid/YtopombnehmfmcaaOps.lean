import Derived.Test.YtopombnehmfmcaaKeep
import Derived.OwnWalk
import Derived.Laws.CopyOwn
import Derived.Test.YtopombnehmfmcaaRows
import Derived.LoopTactic
import Derived.WalkSpells
/-
  Builtins at any slice that can be read: append to an owned row, copy into a row.
-/
namespace Go.Proofs.Ytopombnehmfmcaa
set_option maxRecDepth 100000
set_option linter.unusedSimpArgs false
set_option linter.unusedVariables false
open Go Go.RowKit

theorem add_flat (b o : Nat) (i : Nat) : (⟨b, o, none⟩ : Addr).add i = ⟨b, o + i, none⟩ := by
  unfold Addr.add; split
  · subst_vars; rfl
  · rfl

theorem run_append_nothing {P : Program} (w : World) (base : Nat) (t ty e : TypeId) (i : TypeInfo) (size : Nat) (ht : P.underlying t = some (.slice e)) (hi : P.info? e = some i)
    (v : Value) (n : Nat) (xs : List Value) (hown : w.ownsRow base e size v n xs) (c : Nat) :
    (Builtin.append_ #[t, t] ty #[v, .slice none 0 c]).run P w = .ok v w := by
  rcases hown.2 with ⟨rfl, rfl⟩ | ⟨g, cap, cur, rfl, _, _, hnc, _⟩
  · simp [Builtin.append_, run_underlying ht, sizeOf, typeInfo, hi, Builtin.lenOf, Builtin.firstCells]
  · simp [Builtin.append_, run_underlying ht, sizeOf, typeInfo, hi, Builtin.lenOf, Builtin.firstCells, hnc, storeCells]

/-- append(s, x...), s a row of the call's own, x any slice that can be read. -/
theorem wpList_append_sl {P : Program} {w : World} {ops : Array Oper} {rest : List Oper} {o : Oper} {a : Act} {Q : Exit → Act → World → Prop} (hgd : o.guard = none) (s x : Operand) (t : TypeId)
    (ho : o.op = .call { callee := .builtin .append, args := #[s, x], argTypes := #[t, t] })
    (base : Nat) (e : TypeId) (z : Value) (size bytes : Nat) (ht : P.underlying t = some (.slice e)) (hE : Elem P e z size bytes)
    (v : Value) (n : Nat) (xs : List Value) (hs : a.eval s = v) (hown : w.ownsRow base e size v n xs)
    (y : Value) (m : Nat) (news : List Value) (hx : a.eval x = y) (hy : Sl w size y m news) (h1 : ∀ u ∈ news, u.oneCell' = true)
    (hbytes : (n + m) * bytes ≤ 140737488355328) (hbase : base ≤ w.heap.size)
    (h : ∀ v' w', w'.ownsRow base e size v' (n + m) (xs ++ news) → w.grownBy w' v.ownBlock → (v ≠ .slice none 0 0 → v' ≠ .slice none 0 0) → wpList P ops Q rest (a.put o.dst v') w') :
    wpList P ops Q (o :: rest) a w := by
  obtain ⟨i, hi, hz, hsz, hby⟩ := hE.parts
  have hb0 := hE.2.2.2
  have hlen : n + m ≤ 140737488355328 := Nat.le_trans (Nat.le_mul_of_pos_right _ hb0) hbytes
  rcases hy.2 with ⟨p, c, rfl, rfl⟩ | ⟨b, off, c, rfl, hb, hc⟩
  · have hn : news = [] := List.eq_nil_of_length_eq_zero (by simpa using hy.1)
    subst hn
    cases p with
    | none =>
      refine wpList_plain hgd fun K hK => ?_
      have hrun := run_append_nothing (P := P) w base t o.type e i size ht hi v n xs hown c
      unfold Oper.wp
      simp [execOp, ho, resolve, invoke, builtin, hs, hx, hrun, Result.andThen]
      exact hK _ _ (h v w (by simpa using hown) ⟨rfl, rfl, rfl, Nat.le_refl _, fun _ _ _ => rfl⟩ id)
    | some ad =>
      refine wpList_append_own w hgd s x t ho base e i z size bytes ht hi hz hsz hby hE.2.1 hE.2.2.1 v n xs hs hown ad 0 c [] hx (by simp) (by simp) h1 (by unfold maxLen; omega) hbytes hbase ?_
      intro v' w' ho hg hn
      exact h v' w' ho hg (fun hne he => hne (hn.1 he).1)
  · refine wpList_append_own w hgd s x t ho base e i z size bytes ht hi hz hsz hby hE.2.1 hE.2.2.1 v n xs hs hown ⟨b, off, none⟩ m c news hx hy.1 (fun j u hu => by rw [add_flat]; exact hc j u hu) h1 (by unfold maxLen; omega) hbytes hbase ?_
    intro v' w' ho hg hn
    exact h v' w' ho hg (fun hne he => hne (hn.1 he).1)

end Go.Proofs.Ytopombnehmfmcaa

/-
  Contracts: slices.Clone at any slice that can be read, nil and empty included.
-/
namespace Go.Proofs.Ytopombnehmfmcaa
set_option maxRecDepth 100000
set_option linter.unusedSimpArgs false
set_option linter.unusedVariables false
open Go.ChangeShapes Go.WideShapes Go.ChangeAt Go.RowKit

theorem ints_one (k : IntKind) (zs : List Int) : ∀ u ∈ ints k zs, u.oneCell' = true := by
  intro u hu; simp only [ints, List.mem_map] at hu; obtain ⟨z, _, rfl⟩ := hu; rfl

theorem elemWd : Elem Try.prog 24 (.int .u64 0) 1 8 := ⟨by kernel_rfl, rfl, by decide, by decide⟩
set_option maxHeartbeats 400000 in
theorem cloneWords_sl (v : Value) (n : Nat) (us : List Int) (w : World) (h : Sl w 1 v n (ints .u64 us)) (hn : n ≤ 10000000) :
    Calls Try.prog 28 #[v] w fun e w' => ∃ v', e = .returned v' ∧ w'.ownsRow w.heap.size 24 1 v' n (ints .u64 us) ∧ Keeps [] w w' := by
  have hnil : ∀ (w : World) a l c, (binOp .eql 29 (.slice a l c) (.slice none 0 0)).run Try.prog w = .ok (.bool a.isNone) w := fun w a l c => Lib.run_eql_slice_nil w 29 24 a l c 0 0 Try.underlying29
  obtain ⟨p, c, rfl⟩ := h.len
  cases p with
  | none =>
    have h0 : n = 0 := by rcases h.2 with ⟨_, _, _, h0⟩ | ⟨_, _, _, h1, _⟩; exact h0; cases h1
    subst h0
    have hu : ints .u64 us = [] := List.eq_nil_of_length_eq_zero (by simpa using h.1)
    have HU := Lib.hid hu
    clear hu h
    go_enter Try.func28, Try.ntmps28
    go_wp2
    go_ret
    exact ⟨_, rfl, ⟨by rw [HU.out]; rfl, .inl ⟨rfl, rfl⟩⟩, Keeps.refl _ _⟩
  | some a =>
    have HS := Lib.hid h
    clear h
    go_enter Try.func28, Try.ntmps28
    go_wp2_with (at_builtin; refine wpList_append_sl rfl _ _ 29 rfl w.heap.size 24 _ 1 8 Try.underlying29 elemWd _ _ _ rfl (owns_empty w 24 1) _ n (ints .u64 us) rfl (HS.out.below ((Below.refl _ _).alloc (Nat.le_refl _) _) (Nat.le_refl _)) (ints_one .u64 us) ?c1 ?c2 ?_)
    case c1 => omega
    case c2 => simp
    intro v' w1 hown hgrow hne
    try simp only [Nat.zero_add, List.nil_append] at hown
    have hK : Keeps [] w w1 := ((Keeps.refl [] w).alloc _).grown hgrow (fun k hk hl => by simp [Value.ownBlock] at hk; omega)
    have HO := Lib.hid hown
    clear hown hgrow hne
    go_wp2
    go_ret
    exact ⟨_, rfl, HO.out, hK⟩

end Go.Proofs.Ytopombnehmfmcaa
