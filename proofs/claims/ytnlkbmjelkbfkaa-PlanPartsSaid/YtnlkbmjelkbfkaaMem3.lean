import Derived.Test.YtnlkbmjelkbfkaaRows
import Derived.Test.YtnlkbmjelkbfkaaKeep
import Derived.LoopTactic
import Derived.OwnWalk
import Derived.WalkSpells
import Derived.Test.YtnlkbmjelkbfkaaMem
import Derived.Laws.CopyOwn
/-
  Contracts: slices.Clone and slices.Equal at words.
-/
namespace Go.Proofs.Ytnlkbmjelkbfkaa
set_option maxRecDepth 100000
set_option linter.unusedSimpArgs false
set_option linter.unusedVariables false
open Go.ChangeShapes Go.WideShapes Go.ChangeAt Go.RowKit

theorem add_plain (b o : Nat) (i : Nat) : (⟨b, o, none⟩ : Addr).add i = ⟨b, o + i, none⟩ := by
  unfold Addr.add; split
  · subst_vars; rfl
  · rfl
/-- Behind an append to a slice that isn't nil. -/
theorem owns_at {w : World} {base size n : Nat} {e : TypeId} {v : Value} {xs : List Value} (h : w.ownsRow base e size v n xs) (hn : v ≠ .slice none 0 0) : ∃ g cap, v = .slice (some ⟨g, 0, none⟩) n cap ∧ base ≤ g := by
  rcases h.2 with ⟨h1, _⟩ | ⟨g, cap, cur, h1, hb, _⟩
  · exact absurd h1 hn
  · exact ⟨g, cap, h1, hb⟩

theorem elemU64 : Elem Try.prog 58 (.int .u64 0) 1 8 := ⟨by kernel_rfl, rfl, by decide, by decide⟩
set_option maxHeartbeats 400000 in
theorem cloneWords_any (v : Value) (n : Nat) (us : List Int) (w : World) (h : Sl w 1 v n (ints .u64 us)) (h0 : 0 < n) (hn : n ≤ 1000000) :
    Calls Try.prog 32 #[v] w fun e w' => ∃ g cap, e = .returned (.slice (some ⟨g, 0, none⟩) n cap) ∧ w'.ownsRow w.heap.size 58 1 (.slice (some ⟨g, 0, none⟩) n cap) n (ints .u64 us) ∧ Keeps [] w w' ∧ w.heap.size ≤ g := by
  obtain ⟨b, o, c, rfl, hb, hc⟩ := h.some h0
  obtain ⟨i0, hi, hz, hsz, hby⟩ := elemU64.parts
  have hl := h.ints_len
  have HC : Hid (∀ j u, (ints .u64 us)[j]? = some u → (w.alloc (.cells #[] 58)).cell? ((⟨b, o, none⟩ : Addr).add j) = some u) := Lib.hid fun j u hu => by
    rw [add_plain, World.cell?_alloc_past _ _ _ hb]; exact hc j u hu
  have HL := Lib.hid hl
  clear h hc hl
  have hnil : ∀ (w : World) a l c, (binOp .eql 50 (.slice a l c) (.slice none 0 0)).run Try.prog w = .ok (.bool a.isNone) w := fun w a l c => Lib.run_eql_slice_nil w 50 58 a l c 0 0 Try.underlying50
  go_enter Try.func32, Try.ntmps32
  go_wp2_with (at_builtin; go_loud (refine wpList_append_own _ rfl _ _ 50 rfl w.heap.size 58 i0 (.int .u64 0) 1 8 Try.underlying50 hi hz hsz hby rfl (by decide) _ _ _ rfl (owns_empty w 58 1) ⟨b, o, none⟩ n c (ints .u64 us) rfl ?c1 HC.out (ints_oneCell .u64 us) ?c2 ?c3 ?c4 ?_))
  case c1 => rw [ints_length, HL.out]; omega
  case c2 => unfold maxLen; omega
  case c3 => omega
  case c4 => simp
  intro v' w1 hown hgrow hne
  try simp only [Nat.zero_add, List.nil_append] at hown
  have hnn : v' ≠ .slice none 0 0 := by simpa using hne
  obtain ⟨g, cap, rfl, hg⟩ := owns_at hown hnn
  clear hne hnn
  have hK : Keeps [] w w1 := ((Keeps.refl [] w).alloc _).grown hgrow (fun k hk hl => by simp [Value.ownBlock] at hk; omega)
  have HO := Lib.hid hown
  clear hown hgrow
  go_wp2
  go_ret
  exact ⟨g, cap, rfl, HO.out, hK, hg⟩

end Go.Proofs.Ytnlkbmjelkbfkaa

/-
  Contracts: All, Fill, Copy and Same of package cells.
-/
namespace Go.Proofs.Ytnlkbmjelkbfkaa
set_option maxRecDepth 100000
set_option linter.unusedSimpArgs false
set_option linter.unusedVariables false
open Go.ChangeShapes Go.WideShapes Go.ChangeAt Go.RowKit

theorem Mem.words {w : World} {m b : Nat} {us : List Int} (h : Mem w m b us) (cap : Nat) : Sl w 1 (.slice (some ⟨b, 0, none⟩) us.length cap) us.length (ints .u64 us) :=
  h.row.sl (by rw [ints_length]; omega)



/-- The first cells are those of l. -/
def C.fill (us zs : List Int) : List Int := if us.length < zs.length then us else zs ++ us.drop zs.length
theorem C.fill_len (us zs : List Int) : (C.fill us zs).length = us.length := by
  unfold C.fill; split
  · rfl
  · rw [List.length_append, List.length_drop]; omega


end Go.Proofs.Ytnlkbmjelkbfkaa
