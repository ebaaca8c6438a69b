/-
  Contracts: walk.Plain itself.
-/
import Derived.Test.YtplmmflpodpbmaaKinds2
namespace Go.Proofs.Ytplmmflpodpbmaa
open Go.ChangeShapes Go.WideShapes Go.ChangeAt Go.RowKit

theorem accs_one (xs : List C.Acc) : ∀ u ∈ accs xs, u.oneCell' = true := by
  intro u hu
  simp only [accs, List.mem_flatMap] at hu
  obtain ⟨x, -, hx⟩ := hu
  simp at hx
  rcases hx with rfl | rfl | rfl | rfl <;> rfl

set_option maxHeartbeats 800000 in
theorem plain_begin (m b0 : Nat) (st : WSt) (left : Value) (xs : List C.Acc) (w : World) (Q : World → Prop) (hb : Box w b0 #[left]) (hl : LeftAt w left xs)
    (hG : ∀ w1, Keeps [] w w1 → Row w1 w.heap.size 65 (plainCells m left 0 0 (.slice none 0 0)) → Calls Try.prog 28 #[.pointer (some ⟨w.heap.size, 0, none⟩)] w1 fun e w' => e = .returned (.tuple #[]) ∧ Q w') :
    Calls Try.prog 27 #[.pointer (some ⟨m, 0, none⟩), .pointer (some ⟨b0, 0, none⟩)] w fun e w' => e = .returned (.tuple #[]) ∧ Q w' := by
  obtain ⟨a, c, rfl, -, -⟩ := hl.shape
  have h0 := hb.cells 0
  have hlt := hb.lt
  have D := hG (w.alloc (.cells #[.pointer (some ⟨m, 0, none⟩), .slice a xs.length c, .int .i64 0, .int .u64 0, .slice none 0 0] 65)) ((Keeps.refl _ _).alloc _) (Row.new _ _ _)
  have HD := Lib.hid D
  clear D hG hb hl
  go_enter Try.func27, Try.ntmps27
  go_wp2_with fail
  refine HD.out.mono ?_
  rintro e w1 ⟨rfl, hq⟩
  have HQ := Lib.hid hq
  clear hq
  go_wp2
  go_end0
  exact ⟨rfl, HQ.out⟩

/-- How a walk of Plain begins. -/
theorem plain_first (m b0 : Nat) (left : Value) (xs : List C.Acc) (w : World) (h : Wk w m { WSt.zero with under := 1 }) (hb : Box w b0 #[left]) (hl : LeftAt w left xs) (hlm : ∀ g, left.ownBlock = some g → g ≠ m) (hlp : ∀ g, left.ownBlock = some g → g < w.heap.size) (hn : xs.length ≤ 1000000) :
    Calls Try.prog 27 #[.pointer (some ⟨m, 0, none⟩), .pointer (some ⟨b0, 0, none⟩)] w fun e w' => e = .returned (.tuple #[]) ∧
      ∃ S2 T2 st2, Lone w' m S2 st2 1 (plainM.face ⟨xs, [], []⟩) ∧ (∀ k ∈ S2, k < w'.heap.size) ∧ (∀ k ∈ T2, k < w'.heap.size) ∧ (∀ k ∈ S2, k ∉ T2) ∧ plainE m w' T2 st2.nxt ⟨xs, [], []⟩ ∧ Keeps [m] w w' ∧ (∀ k ∈ S2, k = m ∨ w.heap.size ≤ k) ∧ ∀ k ∈ T2, left.ownBlock = some k ∨ w.heap.size ≤ k := by
  have hm := h.lt
  have hL0 : Lone w m [m] { WSt.zero with under := 1 } 1 ⟨none, none, []⟩ :=
    ⟨h, rfl, rfl, rfl, by simp, ⟨rfl, .inl ⟨_, _, rfl, rfl⟩⟩, (fun g hg => by cases hg), by simp, rfl, (fun r hr => by cases hr), (fun g hg => by cases hg), (fun _ => rfl), (fun y hy => by cases hy)⟩
  refine plain_begin m b0 { WSt.zero with under := 1 } left xs w _ hb hl fun w1 k1 hr => ?_
  have hw1 := h.keeps k1 (by simp)
  have hl1 := hl.but k1 (by simp)
  have s1 := k1.size
  cases xs with
  | nil =>
    refine (goOn_end m w.heap.size _ left (.slice none 0 0) 0 [] w1 hw1 hr hl1 rfl (show (0 : Int) < 1 by decide) ⟨rfl, .inl ⟨_, _, rfl, rfl⟩⟩ (fun g hg => by cases hg) (by simp)).mono ?_
    rintro e w2 ⟨rfl, l', h3, h4, h5⟩
    have hb : ∀ k ∈ l'.ownBlock.toList, w.heap.size ≤ k ∧ k < w2.heap.size := fun k hk => by
      have := h4.lt k ((ownBlock_toList _ _).1 hk)
      omega
    refine ⟨rfl, l'.ownBlock.toList ++ [m], [], _, hL0.ending (T := l'.ownBlock.toList ++ [m]) (us := []) (by simp) h3 ⟨rfl, .inl ⟨_, _, rfl, rfl⟩⟩ (fun g hg => by simp at hg; simp [hg]) (Sl.of_owns h4) (by simp) (fun g hg => ⟨by simp [hg], by have := (h4.lt g hg).1; omega⟩), ?_, by simp, by simp, ?_, (k1.mono (by simp)).trans h5, ?_, by simp⟩
    · intro k hk
      rcases List.mem_append.1 hk with hk | hk
      · exact (hb k hk).2
      · simp at hk; subst hk; exact Nat.lt_of_lt_of_le hm (Nat.le_trans s1 h5.size)
    · intro h; simp at h
    · intro k hk
      rcases List.mem_append.1 hk with hk | hk
      · exact .inr (hb k hk).1
      · simp at hk; exact .inl hk
  | cons y ys =>
    have hpm : w.heap.size ≠ m := by omega
    refine (goOn_next m w.heap.size _ left (.slice none 0 0) 0 y ys w1 hw1 hr hl1 rfl rfl hpm (fun g hg => by have := hlp g hg; omega)).mono ?_
    rintro e w2 ⟨rfl, left', h3, h4, h5, h6, h7⟩
    have hk2 : Keeps [m] w w2 := ((k1.mono (T := [m, w.heap.size]) (by simp)).trans h7).mono (by intro k hk hl; simp at hk ⊢; omega)
    refine ⟨rfl, [m], w.heap.size :: left.ownBlock.toList, _, hL0.going (T := [m]) (by simp) h3 rfl ⟨rfl, .inl ⟨_, _, rfl, rfl⟩⟩ (fun g hg => hg), ?_, ?_, ?_, ?_, hk2, fun k hk => .inl (by simpa using hk), ?_⟩
    · intro k hk; simp at hk; subst hk; exact Nat.lt_of_lt_of_le hm hk2.size
    · intro k hk
      simp only [List.mem_cons] at hk
      rcases hk with rfl | hk
      · exact h4.lt
      · exact Nat.lt_of_lt_of_le (hlp k ((ownBlock_toList _ _).1 hk)) hk2.size
    · intro k hk hkT
      simp only [List.mem_cons, List.not_mem_nil, or_false] at hk
      subst hk
      simp only [List.mem_cons] at hkT
      rcases hkT with h | h
      · exact hpm h.symm
      · exact hlm _ ((ownBlock_toList _ _).1 h) rfl
    · intro _
      refine ⟨w.heap.size, left', .slice none 0 0, 0, rfl, by simp, h4, ?_, ?_, World.ownsRow_nil _ _ _ _, (fun g hg => by cases hg), hn⟩
      · exact h5 w2 (hl1.but h7 (fun g hg => by
          simp only [List.mem_cons, List.not_mem_nil, or_false, not_or]
          exact ⟨hlm g hg, by have := hlp g hg; omega⟩))
      · intro g hg
        rw [h6] at hg
        exact ⟨by simp [hg], by have := hlp g hg; omega, by simp [Value.ownBlock]⟩
    · intro k hk
      simp only [List.mem_cons] at hk
      rcases hk with rfl | hk
      · exact .inr (Nat.le_refl _)
      · exact .inl ((ownBlock_toList _ _).1 hk)

set_option maxHeartbeats 800000 in
theorem wPlain (v : Value) (xs : List C.Acc) (w : World) (h : Sl w 4 v xs.length (accs xs)) (hn : xs.length ≤ 1000000) :
    Calls Try.prog 10 #[v] w fun e w' => ∃ m S, e = .returned (.pointer (some ⟨m, 0, none⟩)) ∧ LoneI plainM (plainE m) m w' S ⟨xs, [], []⟩ ∧ Keeps [] w w' ∧ ∀ k ∈ S, w.heap.size ≤ k := by
  have HC := Lib.hid (cloneAccs_sl v xs.length (accs xs) w h (accs_one xs) hn)
  clear h
  go_enter Try.func10, Try.ntmps10
  go_wp2_with fail
  refine HC.out.mono ?_
  clear HC
  rintro e w1 ⟨left, rfl, ho, k1⟩
  obtain ⟨q, c, rfl⟩ := (Sl.of_owns ho).len
  have hl : LeftAt w1 (.slice q xs.length c) xs := by
    refine ⟨?_, Sl.of_owns ho⟩
    rcases ho.2 with ⟨he, h0⟩ | ⟨g, cap, cur, he, _, _, h1, h2, _⟩
    · injection he with e1 e2 e3; exact ⟨_, _, rfl, by omega, by unfold maxLen; omega⟩
    · cases he; exact ⟨_, _, rfl, h1, h2⟩
  have hlb := ho.lt
  obtain ⟨W2, hW2⟩ : ∃ W2, w1.alloc (.cells #[.slice q xs.length c] 32) = W2 := ⟨_, rfl⟩
  have k2 : Keeps [] w1 W2 := by rw [← hW2]; exact (Keeps.refl _ _).alloc _
  have b2 : Box W2 w1.heap.size #[.slice q xs.length c] := by rw [← hW2]; exact Box.new _ _ _
  have s2 : W2.heap.size = w1.heap.size + 1 := by rw [← hW2]; simp
  have s1 := k1.size
  have D := wNew 27 #[.pointer (some ⟨w1.heap.size, 0, none⟩)] [] W2
    (fun w' s2 => ∃ S2 T2, Lone w' (W2.heap.size + 1) S2 s2 1 (plainM.face ⟨xs, [], []⟩) ∧ (∀ k ∈ S2, k < w'.heap.size) ∧ (∀ k ∈ T2, k < w'.heap.size) ∧ (∀ k ∈ S2, k ∉ T2) ∧ plainE (W2.heap.size + 1) w' T2 s2.nxt ⟨xs, [], []⟩ ∧ (∀ k ∈ S2, w.heap.size ≤ k) ∧ (∀ k ∈ T2, w.heap.size ≤ k)) (by simp) (fun _ _ => by kernel_rfl)
    (fun w3 h3 k3 => (plain_first (W2.heap.size + 1) w1.heap.size _ xs w3 h3 (b2.keeps k3 (by simp)) ((hl.but k2 (by simp)).but k3 (by simp)) (fun g hg => by have := (hlb g hg).2; omega) (fun g hg => by have := (hlb g hg).2; have := k3.size; omega) hn).mono
      fun e w4 ⟨he, S2, T2, st2, a1, a2, a3, a4, a5, a6, a7, a8⟩ => ⟨he, st2, a1.wk, a1.under, .inr a1.outer, a6, S2, T2, a1, a2, a3, a4, a5,
        fun k hk => by have := k3.size; rcases a7 k hk with h | h <;> omega, fun k hk => by
          have := k3.size
          rcases a8 k hk with h | h
          · exact (hlb k h).1
          · omega⟩)
  have HD := Lib.hid D
  have HK := Lib.hid (k1.trans k2)
  clear D k1 k2 b2 ho hl hlb
  go_wp2_with fail
  refine HD.out.mono ?_
  rintro e w5 ⟨rfl, w4, st4, ⟨S2, T2, a1, a2, a3, a4, a5, a6, a7⟩, k5, k4, hw⟩
  have hmT : (W2.heap.size + 1) ∉ T2 := a4 _ a1.mem
  have HP : Hid (LoneI plainM (plainE (W2.heap.size + 1)) (W2.heap.size + 1) w5 (S2 ++ T2) ⟨xs, [], []⟩ ∧ Keeps [] W2 w5 ∧ ∀ k ∈ S2 ++ T2, w.heap.size ≤ k) := Lib.hid
    ⟨⟨S2, T2, _, rfl, a1.under_to k5 0 hw, fun k hk => Nat.lt_of_lt_of_le (a2 k hk) k5.size, fun k hk => Nat.lt_of_lt_of_le (a3 k hk) k5.size, a4, plainE_keeps _ _ _ _ _ _ _ a5 k5 (fun k hk h => by simp at h; exact hmT (h ▸ hk))⟩,
     k4.step k5 (by simp), fun k hk => by rcases List.mem_append.1 hk with h | h; exact a6 k h; exact a7 k h⟩
  clear a1 a2 a3 a4 a5 a6 a7 k5 k4 hw hW2 s2 HD
  go_wp2
  go_ret
  exact ⟨_, _, rfl, HP.out.1, HK.out.trans HP.out.2.1, HP.out.2.2⟩
end Go.Proofs.Ytplmmflpodpbmaa
