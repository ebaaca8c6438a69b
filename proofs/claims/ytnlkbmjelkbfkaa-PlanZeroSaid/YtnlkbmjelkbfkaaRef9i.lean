import Derived.Test.YtnlkbmjelkbfkaaQuF
import Derived.Test.YtnlkbmjelkbfkaaArG
import Derived.Test.YtnlkbmjelkbfkaaZeros
/-
  Contract: the cells of a queue without tasks, as the document says.
-/
namespace Go.Proofs.Ytnlkbmjelkbfkaa
set_option maxRecDepth 100000
set_option linter.unusedSimpArgs false
set_option linter.unusedVariables false
open Go.ChangeShapes Go.WideShapes Go.ChangeAt Go.RowKit

/-- copy(d, x), as an operation of a region. -/
theorem wp_copy_at {P : Program} {w : World} {o : Oper} {a : Act} {K : Act → World → Prop} {Q : Exit → Act → World → Prop} (d x : Operand) (t : TypeId)
    (ho : o.op = .call { callee := .builtin .copy, args := #[d, x], argTypes := #[t, t] })
    (e : TypeId) (ht : P.underlying t = some (.slice e)) (hsz : (P.info? e).map (·.size) = some 1)
    (g doff n cap : Nat) (xs : List Value) (hd : a.eval d = .slice (some ⟨g, doff, none⟩) n cap) (hrow : Row w g e xs) (hxn : doff + n ≤ xs.length)
    (b m c : Nat) (news : List Value) (hx : a.eval x = .slice (some ⟨b, 0, none⟩) m c) (hy : Row w b e news) (hnl : news.length = m) (h1 : ∀ u ∈ news, u.oneCell' = true) (hmn : m ≤ n)
    (h : ∀ w', Row w' g e (xs.take doff ++ (news ++ xs.drop (doff + m))) → Keeps [g] w w' → w.heap.size = w'.heap.size → K (a.put o.dst (goInt m)) w') :
    Oper.wp P o a w K Q := by
  obtain ⟨cur, hg, htk⟩ := hrow
  have hcs : xs.length ≤ cur.size := by
    have := congrArg List.length htk
    have h2 : cur.toList.length = cur.size := Array.length_toList
    rw [List.length_take] at this; omega
  have hrun := run_copy_row (P := P) w t t o.type e g doff n cap ⟨b, 0, none⟩ m c cur e news ht hsz hg (by rw [hnl]; exact (Nat.min_eq_left hmn).symm) (fun j u hu => by rw [add_flat, Nat.zero_add]; exact hy.cell hu) (by omega) h1
  unfold Oper.wp
  simp [execOp, ho, resolve, invoke, builtin, hd, hx, hrun, Result.andThen]
  rw [hnl]
  refine h _ ?_ ((Keeps.refl _ _).setRow (fun _ => by simp) _) (by simp [World.setRow])
  refine Row.setRow ⟨cur, hg, htk⟩ _ _ ?_
  have := take_over_at cur.toList xs news doff htk (by omega)
  rw [hnl] at this
  have hlen : (xs.take doff ++ (news ++ xs.drop (doff + m))).length = xs.length := by
    simp only [List.length_append, List.length_take, List.length_drop]; omega
  rw [hlen]
  simpa using this
set_option maxHeartbeats 3200000 in
theorem refInit9_any (n : Nat) (w : World) (h2 : 2 ≤ n) (hn : n ≤ 4096) :
    Calls Try.prog 33 #[.int .i64 (n : Int)] w fun e w' => ∃ g c, e = .returned (.slice (some ⟨g, 0, none⟩) (3 * n + 3) c) ∧ Row w' g 58 (ints .u64 (quRow n)) ∧ Keeps [] w w' ∧ w.heap.size ≤ g := by
  have HI := Lib.hid (fun W => refInit_any n 2 W hn (by omega) (by omega))
  go_enter Try.func33, Try.ntmps33
  have ho1 := owns_lit w w.heap.size #[.int .u64 1, .int .u64 1] 58 2 (Nat.le_refl _) rfl (by decide)
  obtain ⟨W1, hW1⟩ : ∃ W1, w.alloc (.cells #[.int .u64 1, .int .u64 1] 58) = W1 := ⟨_, rfl⟩
  obtain ⟨B, hB⟩ : ∃ B, w.heap.size = B := ⟨_, rfl⟩
  have k1 : Below B w W1 := by rw [← hW1]; exact (Below.refl B w).alloc (by omega) _
  rw [hW1, hB] at ho1
  have HB1 := Lib.hid k1
  have HO1 := Lib.hid ho1
  have HBB := Lib.hid hB
  rw [hB]
  go_wp2_with fail
  clear hW1 k1 ho1
  refine (HI.out W1).mono ?_
  rintro e w2 ⟨g, rfl, hr, k2, hg⟩
  have ho2 := owns_keeps HO1.out k2 (by simp)
  have HR2 := Lib.hid hr
  have s1 := HB1.out.size
  have s2 := k2.size
  have HB2 := Lib.hid (HB1.out.trans (k2.below (by omega) (by simp)))
  clear k2 hr hg
  have hcat : ∀ a b : List Int, [Value.int .u64 1, Value.int .u64 1] ++ ints .u64 a ++ ints .u64 b = ints .u64 (1 :: 1 :: (a ++ b)) := fun a b => by simp [ints]
  go_wp2_with (at_builtin; first
    | (refine append_row rfl _ _ 50 rfl B 58 (.int .u64 0) 1 8 Try.underlying50 elemWord _ 2 _ rfl ho2 g (n + 1) (n + 1) _ rfl (by rw [ints_length, arRow_len]; omega) HR2.out (ints_oneCell .u64 _) (by omega) (by omega) ?_
       intro v3 w3 ho3 hg3
       have hsz2 : w2.heap.size ≤ w3.heap.size := hg3.size
       have HB3 := Lib.hid (HB2.out.grown hg3 (by omega) (fun k hk => (ho2.lt k hk).1))
       rw [show 2 + (n + 1) = n + 3 by omega] at ho3
       have HO3 := Lib.hid ho3
       obtain ⟨g3, c3, rfl, -, hg3b⟩ := owns_some ho3 (by omega)
       clear hg3 ho3 ho2)
    | (refine append_zeros rfl _ _ 50 3 rfl B 58 (.int .u64 0) 1 8 .i64 .i64 Try.underlying50 Try.underlying3 elemWord _ (n + 3) _ rfl HO3.out (2 * n) (by omega) _ rfl (by omega) (by rw [zeroCells_u64]; exact ints_oneCell .u64 _) (by omega) (by omega) ?_
       intro v4 w4 ho4 hg4
       rw [zeroCells_u64, show n + 3 + 2 * n = 3 * n + 3 by omega, hcat] at ho4
       have HB4 := Lib.hid (HB3.out.grown hg4 (by omega) (fun k hk => (HO3.out.lt k hk).1))
       have HO4 := Lib.hid ho4
       obtain ⟨g4, c4, rfl, hr4, hg4b⟩ := owns_some ho4 (by omega)
       have HR4 := Lib.hid hr4
       clear hg4 ho4 hr4)
    | fail)
  go_ret
  exact ⟨g4, c4, rfl, HR4.out, Keeps.of_below HB4.out (by omega), hg4b⟩
end Go.Proofs.Ytnlkbmjelkbfkaa
