/-
  Contracts: slices.Clone at any slice that can be read, nil and empty included.
-/
import Derived.Test.YtihlfcggggloaaaRows
import Derived.Test.YtihlfcggggloaaaOps
import Derived.LoopTactic
import Derived.WalkSpells
namespace Go.Proofs.Ytihlfcggggloaaa
set_option maxRecDepth 100000
open Go.ChangeShapes Go.WideShapes Go.ChangeAt Go.RowKit

theorem ints_one (k : IntKind) (zs : List Int) : ∀ u ∈ ints k zs, u.oneCell' = true := by
  intro u hu; simp only [ints, List.mem_map] at hu; obtain ⟨z, _, rfl⟩ := hu; rfl

theorem elemWd : Elem Try.prog 38 (.int .u64 0) 1 8 := ⟨by kernel_rfl, rfl, by decide, by decide⟩
set_option maxHeartbeats 400000 in
theorem cloneWords_sl (v : Value) (n : Nat) (us : List Int) (w : World) (h : Sl w 1 v n (ints .u64 us)) (hn : n ≤ 10000000) :
    Calls Try.prog 65 #[v] w fun e w' => ∃ v', e = .returned v' ∧ w'.ownsRow w.heap.size 38 1 v' n (ints .u64 us) ∧ Keeps [] w w' := by
  have hnil : ∀ (w : World) a l c, (binOp .eql 22 (.slice a l c) (.slice none 0 0)).run Try.prog w = .ok (.bool a.isNone) w := fun w a l c => Lib.run_eql_slice_nil w 22 38 a l c 0 0 Try.underlying22
  obtain ⟨p, c, rfl⟩ := h.len
  cases p with
  | none =>
    have h0 : n = 0 := by rcases h.2 with ⟨_, _, _, h0⟩ | ⟨_, _, _, h1, _⟩; exact h0; cases h1
    subst h0
    have hu : ints .u64 us = [] := List.eq_nil_of_length_eq_zero (by simpa using h.1)
    have HU := Lib.hid hu
    clear hu h
    go_enter Try.func65, Try.ntmps65
    go_wp2
    go_ret
    exact ⟨_, rfl, ⟨by rw [HU.out]; rfl, .inl ⟨rfl, rfl⟩⟩, Keeps.refl _ _⟩
  | some a =>
    have HS := Lib.hid h
    clear h
    go_enter Try.func65, Try.ntmps65
    go_wp2_with (at_builtin; refine wpList_append_sl rfl _ _ 22 rfl w.heap.size 38 _ 1 8 Try.underlying22 elemWd _ _ _ rfl (owns_empty w 38 1) _ n (ints .u64 us) rfl (HS.out.below ((Below.refl _ _).alloc (Nat.le_refl _) _) (Nat.le_refl _)) (ints_one .u64 us) ?c1 ?c2 ?_)
    case c1 => omega
    case c2 => simp
    intro v' w1 hown hgrow hne
    try simp only [Nat.zero_add, List.nil_append] at hown
    have hK : Keeps [] w w1 := ((Keeps.refl [] w).alloc _).grown hgrow (fun k hk hl => by simp [Value.ownBlock] at hk; omega)
    have HO := Lib.hid hown
    clear hown hgrow hne
    go_wp2
    go_ret
    exact ⟨_, rfl, HO.out, hK⟩

end Go.Proofs.Ytihlfcggggloaaa
