/-
  Contracts: slices.Clone at any slice that can be read, nil and empty included.
-/
import Derived.Test.YtplmmflpodpbmaaRows
import Derived.Test.YtplmmflpodpbmaaOps
import Derived.LoopTactic
import Derived.WalkSpells
namespace Go.Proofs.Ytplmmflpodpbmaa
open Go.ChangeShapes Go.WideShapes Go.ChangeAt Go.RowKit

theorem ints_one (k : IntKind) (zs : List Int) : ∀ u ∈ ints k zs, u.oneCell' = true := by
  intro u hu; simp only [ints, List.mem_map] at hu; obtain ⟨z, _, rfl⟩ := hu; rfl

theorem elemWd : Elem Try.prog 33 (.int .u64 0) 1 8 := ⟨by kernel_rfl, rfl, by decide, by decide⟩
set_option maxHeartbeats 400000 in
theorem cloneWords_sl (v : Value) (n : Nat) (us : List Int) (w : World) (h : Sl w 1 v n (ints .u64 us)) (hn : n ≤ 10000000) :
    Calls Try.prog 32 #[v] w fun e w' => ∃ v', e = .returned v' ∧ w'.ownsRow w.heap.size 33 1 v' n (ints .u64 us) ∧ Keeps [] w w' := by
  have hnil : ∀ (w : World) a l c, (binOp .eql 22 (.slice a l c) (.slice none 0 0)).run Try.prog w = .ok (.bool a.isNone) w := fun w a l c => Lib.run_eql_slice_nil w 22 33 a l c 0 0 Try.underlying22
  obtain ⟨p, c, rfl⟩ := h.len
  cases p with
  | none =>
    have h0 : n = 0 := by rcases h.2 with ⟨_, _, _, h0⟩ | ⟨_, _, _, h1, _⟩; exact h0; cases h1
    subst h0
    have hu : ints .u64 us = [] := List.eq_nil_of_length_eq_zero (by simpa using h.1)
    have HU := Lib.hid hu
    clear hu h
    go_enter Try.func32, Try.ntmps32
    go_wp2
    go_ret
    exact ⟨_, rfl, ⟨by rw [HU.out]; rfl, .inl ⟨rfl, rfl⟩⟩, Keeps.refl _ _⟩
  | some a =>
    have HS := Lib.hid h
    clear h
    go_enter Try.func32, Try.ntmps32
    go_wp2_with (at_builtin; refine wpList_append_sl rfl _ _ 22 rfl w.heap.size 33 _ 1 8 Try.underlying22 elemWd _ _ _ rfl (owns_empty w 33 1) _ n (ints .u64 us) rfl (HS.out.below ((Below.refl _ _).alloc (Nat.le_refl _) _) (Nat.le_refl _)) (ints_one .u64 us) ?c1 ?c2 ?_)
    case c1 => omega
    case c2 => simp
    intro v' w1 hown hgrow hne
    try simp only [Nat.zero_add, List.nil_append] at hown
    have hK : Keeps [] w w1 := ((Keeps.refl [] w).alloc _).grown hgrow (fun k hk hl => by simp [Value.ownBlock] at hk; omega)
    have HO := Lib.hid hown
    clear hown hgrow hne
    go_wp2
    go_ret
    exact ⟨_, rfl, HO.out, hK⟩

theorem elemAcc : Elem Try.prog 35 (.agg #[.int .i64 0, .int .i64 0, .int .u64 0, .int .u64 0]) 4 32 := ⟨by kernel_rfl, rfl, by decide, by decide⟩
set_option maxHeartbeats 400000 in
theorem cloneAccs_sl (v : Value) (n : Nat) (xs : List Value) (w : World) (h : Sl w 4 v n xs) (h1 : ∀ u ∈ xs, u.oneCell' = true) (hn : n ≤ 1000000) :
    Calls Try.prog 25 #[v] w fun e w' => ∃ v', e = .returned v' ∧ w'.ownsRow w.heap.size 35 4 v' n xs ∧ Keeps [] w w' := by
  have hnil : ∀ (w : World) a l c, (binOp .eql 32 (.slice a l c) (.slice none 0 0)).run Try.prog w = .ok (.bool a.isNone) w := fun w a l c => Lib.run_eql_slice_nil w 32 35 a l c 0 0 Try.underlying32
  obtain ⟨p, c, rfl⟩ := h.len
  have H1 := Lib.hid h1
  clear h1
  cases p with
  | none =>
    have h0 : n = 0 := by rcases h.2 with ⟨_, _, _, h0⟩ | ⟨_, _, _, h1, _⟩; exact h0; cases h1
    subst h0
    have hu : xs = [] := List.eq_nil_of_length_eq_zero (by simpa using h.1)
    have HU := Lib.hid hu
    clear hu h
    go_enter Try.func25, Try.ntmps25
    go_wp2
    go_ret
    exact ⟨_, rfl, ⟨by rw [HU.out]; rfl, .inl ⟨rfl, rfl⟩⟩, Keeps.refl _ _⟩
  | some a =>
    have HS := Lib.hid h
    clear h
    go_enter Try.func25, Try.ntmps25
    go_wp2_with (at_builtin; refine wpList_append_sl rfl _ _ 32 rfl w.heap.size 35 _ 4 32 Try.underlying32 elemAcc _ _ _ rfl (owns_empty w 35 4) _ n xs rfl (HS.out.below ((Below.refl _ _).alloc (Nat.le_refl _) _) (Nat.le_refl _)) H1.out ?c1 ?c2 ?_)
    case c1 => omega
    case c2 => simp
    intro v' w1 hown hgrow hne
    try simp only [Nat.zero_add, List.nil_append] at hown
    have hK : Keeps [] w w1 := ((Keeps.refl [] w).alloc _).grown hgrow (fun k hk hl => by simp [Value.ownBlock] at hk; omega)
    have HO := Lib.hid hown
    clear hown hgrow hne
    go_wp2
    go_ret
    exact ⟨_, rfl, HO.out, hK⟩
end Go.Proofs.Ytplmmflpodpbmaa
