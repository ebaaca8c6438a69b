/-
  Contracts: slices.Clone and slices.Equal at words.
-/
import Derived.Test.YtoomefclbemnlaaGreatRows
import Derived.Test.YtoomefclbemnlaaGreatKeep
import Derived.LoopTactic
import Derived.OwnWalk
import Derived.WalkSpells
import Derived.Test.YtoomefclbemnlaaGreatMem
import Derived.Laws.CopyOwn
namespace Go.Proofs.YtoomefclbemnlaaGreat
set_option maxRecDepth 100000
set_option linter.unusedSimpArgs false
set_option linter.unusedVariables false
open Go.ChangeShapes Go.WideShapes Go.ChangeAt Go.RowKit

theorem add_plain (b o : Nat) (i : Nat) : (⟨b, o, none⟩ : Addr).add i = ⟨b, o + i, none⟩ := by
  unfold Addr.add; split
  · subst_vars; rfl
  · rfl
theorem Keeps.of_grown {w w' : World} {row : Option Nat} (hg : w.grownBy w' row) (hr : ∀ k, row = some k → w.heap.size ≤ k) : Keeps [] w w' :=
  (Keeps.refl [] w).grown hg (fun k hk hl => by have := hr k hk; omega)
theorem empty_row (w : World) (e : TypeId) (size : Nat) : (w.alloc (.cells #[] e)).ownsRow w.heap.size e size (.slice (some ⟨w.heap.size, 0, none⟩) 0 0) 0 [] := owns_empty w e size

/-- Behind an append to a slice that isn't nil. -/
theorem owns_at {w : World} {base size n : Nat} {e : TypeId} {v : Value} {xs : List Value} (h : w.ownsRow base e size v n xs) (hn : v ≠ .slice none 0 0) : ∃ g cap, v = .slice (some ⟨g, 0, none⟩) n cap ∧ base ≤ g := by
  rcases h.2 with ⟨h1, _⟩ | ⟨g, cap, cur, h1, hb, _⟩
  · exact absurd h1 hn
  · exact ⟨g, cap, h1, hb⟩

theorem elemU64 : Elem Tryz.prog 49 (.int .u64 0) 1 8 := ⟨by kernel_rfl, rfl, by decide, by decide⟩
set_option maxHeartbeats 400000 in
theorem cloneWords_any (v : Value) (n : Nat) (us : List Int) (w : World) (h : Sl w 1 v n (ints .u64 us)) (h0 : 0 < n) (hn : n ≤ 1000000) :
    Calls Tryz.prog 30 #[v] w fun e w' => ∃ g cap, e = .returned (.slice (some ⟨g, 0, none⟩) n cap) ∧ w'.ownsRow w.heap.size 49 1 (.slice (some ⟨g, 0, none⟩) n cap) n (ints .u64 us) ∧ Keeps [] w w' ∧ w.heap.size ≤ g := by
  obtain ⟨b, o, c, rfl, hb, hc⟩ := h.some h0
  obtain ⟨i0, hi, hz, hsz, hby⟩ := elemU64.parts
  have hl := h.ints_len
  have HC : Hid (∀ j u, (ints .u64 us)[j]? = some u → (w.alloc (.cells #[] 49)).cell? ((⟨b, o, none⟩ : Addr).add j) = some u) := Lib.hid fun j u hu => by
    rw [add_plain, World.cell?_alloc_past _ _ _ hb]; exact hc j u hu
  have HL := Lib.hid hl
  clear h hc hl
  have hnil : ∀ (w : World) a l c, (binOp .eql 24 (.slice a l c) (.slice none 0 0)).run Tryz.prog w = .ok (.bool a.isNone) w := fun w a l c => Lib.run_eql_slice_nil w 24 49 a l c 0 0 Tryz.underlying24
  go_enter Tryz.func30, Tryz.ntmps30
  go_wp2_with (at_builtin; go_loud (refine wpList_append_own _ rfl _ _ 24 rfl w.heap.size 49 i0 (.int .u64 0) 1 8 Tryz.underlying24 hi hz hsz hby rfl (by decide) _ _ _ rfl (owns_empty w 49 1) ⟨b, o, none⟩ n c (ints .u64 us) rfl ?c1 HC.out (ints_oneCell .u64 us) ?c2 ?c3 ?c4 ?_))
  case c1 => rw [ints_length, HL.out]; omega
  case c2 => unfold maxLen; omega
  case c3 => omega
  case c4 => simp
  intro v' w1 hown hgrow hne
  try simp only [Nat.zero_add, List.nil_append] at hown
  have hnn : v' ≠ .slice none 0 0 := by simpa using hne
  obtain ⟨g, cap, rfl, hg⟩ := owns_at hown hnn
  clear hne hnn
  have hK : Keeps [] w w1 := ((Keeps.refl [] w).alloc _).grown hgrow (fun k hk hl => by simp [Value.ownBlock] at hk; omega)
  have HO := Lib.hid hown
  clear hown hgrow
  go_wp2
  go_ret
  exact ⟨g, cap, rfl, HO.out, hK, hg⟩

end Go.Proofs.YtoomefclbemnlaaGreat

/-
  Contracts: All, Fill, Copy and Same of package cells.
-/
namespace Go.Proofs.YtoomefclbemnlaaGreat
set_option maxRecDepth 100000
set_option linter.unusedSimpArgs false
set_option linter.unusedVariables false
open Go.ChangeShapes Go.WideShapes Go.ChangeAt Go.RowKit

theorem Mem.words {w : World} {m b : Nat} {us : List Int} (h : Mem w m b us) (cap : Nat) : Sl w 1 (.slice (some ⟨b, 0, none⟩) us.length cap) us.length (ints .u64 us) :=
  h.row.sl (by rw [ints_length]; omega)




end Go.Proofs.YtoomefclbemnlaaGreat
