/-
  Contracts: what the functions of a ring's loads of slots do (written by wip/tools/rggen.py).
-/
import Derived.Test.YtekpfhlaohcgeaaGreatRgG
import Derived.Test.YtekpfhlaohcgeaaGreatRgF
import Derived.IntWalk
namespace Go.Proofs.YtekpfhlaohcgeaaGreat
set_option maxRecDepth 100000
set_option linter.unusedSimpArgs false
set_option linter.unusedVariables false
open Go.ChangeShapes Go.WideShapes Go.ChangeAt Go.RowKit

/-- It has taken, and ended. -/
def RgTookEnd (m p : Nat) (w : World) (tk : Value) (c v : Int) (us : List Int) (s : WSt) (w' : World) : Prop :=
  ∃ t l', Wk w' m { s with tasks := t, nxt := .nilFunc, after := .nilFunc, over := true, code := c, v := v, l := l' } ∧ w'.ownsRow w.heap.size 24 1 l' us.length (ints .u64 us) ∧ Keeps ([m, p] ++ tk.ownBlock.toList) w w' ∧ w'.cell? ⟨p, 0, none⟩ = some (.pointer (some ⟨m, 0, none⟩))
set_option maxHeartbeats 1600000 in
theorem rgPushLoadedMore (m p : Nat) (at_ size hd sl fi tl : Int) (task : Int) (lk tr tk : Value) (v : Int) (won : Bool) (took : List Int) (B : Nat) (e : TypeId) (s : WSt) (w : World) (hw : Wk w m s) (hp : Row w p e (rgCells m at_ size hd sl fi tl lk tr tk [.int .u64 task])) (hpm : p ≠ m) (ho : s.over = false) (hs : s.sub = none) (hr : dqRight at_ size)(f0 : 0 ≤ fi ∧ fi < 4294967296)(hto : w.ownsRow B 24 1 tk took.length (ints .u64 took)) (hB : B ≤ w.heap.size) (htp : ∀ g, tk.ownBlock = some g → g ≠ p ∧ g ≠ m)(hm : (took.length : Int) + 1 < size / 2) :
    Calls Tryz.prog 84 #[.pointer (some ⟨p, 0, none⟩), .int .u64 v, .bool won] w fun e' w' => e' = .returned (.tuple #[]) ∧ RgTook m p e B w tk (took ++ [v]) (task :: (took ++ [v])) (fun t => { s with tasks := t, x := ⟨1, dqSlot at_ size (rgAdd fi ((took.length + 1 : Nat) : Int)), 0, 0⟩, nxt := .func (.func 84) #[.pointer (some ⟨p, 0, none⟩)] #[], sub := none, after := .nilFunc }) (fun tk' => (rgCells m at_ size hd sl fi tl lk tr tk' [.int .u64 task])) w' := by
  have HP := Lib.hid hp
  have HS := Lib.hid (rg_cells_push hp)
  have HW := Lib.hid hw
  obtain ⟨h0, h1, h2, h3, h4, h5, h6, h7, h8, h9, h10⟩ := HS.out _ [] (Keeps.refl _ _) (by simp)
  have hr1 : 2 ≤ size ∧ size ≤ 256 := by have := hr.1; omega
  have a0 : 0 ≤ at_ := hr.2.1
  have a1 : at_ < 65536 := by have := hr.2.2; omega
  have HH := Lib.hid (fun W => rgHalf_any at_ size W hr1.1 hr1.2)
  have HTL := Lib.hid (show took.length ≤ 1000 by omega)
  have kL : Keeps [] w (w.alloc (.cells #[.int .u64 task] 24)).drew := ((Keeps.refl [] w).alloc _).drew
  have hlit : (w.alloc (.cells #[.int .u64 task] 24)).drew.ownsRow w.heap.size 24 1 (.slice (some ⟨w.heap.size, 0, none⟩) 1 1) [task].length (ints .u64 [task]) := World.ownsRow.drew (World.ownsRow_lit (size := 1) w #[.int .u64 task] 1 (Nat.le_refl _) (by decide) rfl)
  have HE := Lib.hid (rgTake_any m p at_ size hd sl fi tl v lk tr tk [.int .u64 task] took [task] (.slice (some ⟨w.heap.size, 0, none⟩) 1 1) B w.heap.size e s _ (hw.keeps kL (by simp)) (hp.keeps kL (by simp)) hpm (owns_keeps hto kL (by simp)) htp HTL.out hlit (by simp)
    (fun g hg => by
      simp [Value.ownBlock] at hg
      subst hg
      have h1 := hp.lt
      have h2 := hw.lt
      exact ⟨by omega, by omega, fun h => by have := (hto.lt _ h).2; omega⟩) (Nat.le_trans hB kL.size) kL.size)
  have HKL := Lib.hid kL
  obtain ⟨N, hN⟩ : ∃ N, took.length + 1 = N := ⟨_, rfl⟩
  have HN := Lib.hid hN
  clear kL hlit
  have HE2 := Lib.hid (fun t q2 c2 W (h : Wk W m { s with tasks := t }) h2 => rgPushNext m p at_ size hd sl fi tl task lk tr q2 N c2 e { s with tasks := t } W h h2 hpm ho hs hr f0 (by omega))
  have dL : decide ((N : Int) < size / 2) = true := decide_eq_true (by omega)
  rw [hN]
  have HTo := Lib.hid hto
  clear hto hN hm
  clear hw hp ho hs
  go_enter Tryz.func84, Tryz.ntmps84
  go_wp2_with fail
  go_region_held3 (fun w' => w'.cell? ⟨p, 10, none⟩ = some (.int .u64 task))
    (first
      | exact hp4.cell (j := 10) rfl
      | assumption
      | exact (HS.out _ _ (((Keeps.refl [] w).alloc _).drew) (by simp)).2.2.2.2.2.2.2.2.2.2
      | fail)
    (first
      | (go_at_call 113; refine (HE.out).mono ?_; rintro e4 w4 ⟨rfl, t, tk', hw4, hp4, ht4, hb4, hh4, k4⟩)
      | fail)
  all_goals (
    rw [HN.out] at ht4 hh4
    obtain ⟨q2, c2, rfl⟩ := (Sl.of_owns ht4).len
    have HS4 := Lib.hid (rg_cells_push hp4)
    obtain ⟨a0, a1, a2, a3, a4, a5, a6, a7, a8, a9, a10⟩ := HS4.out _ [] (Keeps.refl _ _) (by simp)
    have HP4 := Lib.hid hp4
    have HW4 := Lib.hid hw4
    have HH4 : Hid (_ ∧ _ ∧ _ ∧ _) := Lib.hid ⟨ht4, hb4, hh4, k4⟩
    clear hw4 hp4 ht4 hb4 hh4 k4
    go_wp2_with fail
    have hkV : Keeps [] w4 w4 := Keeps.refl _ _
    go_region_held3 (fun w' => w'.cell? ⟨p, 0, none⟩ = some (.pointer (some ⟨m, 0, none⟩)) ∧ w'.cell? ⟨p, 1, none⟩ = some (.int .i64 at_) ∧ w'.cell? ⟨p, 2, none⟩ = some (.int .i64 size) ∧ w'.cell? ⟨p, 3, none⟩ = some (.int .u64 hd) ∧ w'.cell? ⟨p, 4, none⟩ = some (.int .u32 sl) ∧ w'.cell? ⟨p, 5, none⟩ = some (.int .u32 fi) ∧ w'.cell? ⟨p, 6, none⟩ = some (.int .u32 tl) ∧ w'.cell? ⟨p, 7, none⟩ = some lk ∧ w'.cell? ⟨p, 8, none⟩ = some tr ∧ w'.cell? ⟨p, 9, none⟩ = some (.slice q2 N c2) ∧ w'.cell? ⟨p, 10, none⟩ = some (.int .u64 task))
      (first
        | exact HS4.out _ _ hk2 (by simp)
        | exact ⟨by assumption, by assumption, by assumption, by assumption, by assumption, by assumption, by assumption, by assumption, by assumption, by assumption, by assumption⟩
        | fail)
      (first
        | (go_at_call 81; refine (HH.out _).mono ?_; rintro e2 w5 ⟨rfl, k⟩; have hk2 : Keeps [] w4 w5 := k.undrew; clear k)
        | fail)
    all_goals (
      have HK2 := Lib.hid hk2
      go_wp2_with fail
      refine (HE2.out t q2 c2 _ (HW4.out.keeps HK2.out (by simp)) (HP4.out.keeps HK2.out (by simp))).mono ?_
      rintro e6 w6 ⟨rfl, hQ⟩
      have HQ := Lib.hid hQ
      clear hQ
      go_wp2
      first | go_end0 | refine bodyPost_ret (results_none rfl _ _ _) rfl ?_
      obtain ⟨hw6, hp6, k6⟩ := HQ.out
      obtain ⟨ht4, hb4, hh4, k4⟩ := HH4.out
      have k46 : Keeps [m, p] w4 w6 := HK2.out.nil.trans k6
      have s4 := k4.size
      have sL := HKL.out.size
      have hb6 : ∀ g, (Value.slice q2 N c2).ownBlock = some g → (tk.ownBlock = some g ∨ w.heap.size ≤ g) ∧ g ≠ p ∧ g ≠ m ∧ t.ownBlock ≠ some g := fun g hg => ⟨(hb4 g hg).1.imp_right (fun h => Nat.le_trans sL h), (hb4 g hg).2⟩
      refine ⟨rfl, t, .slice q2 N c2, hw6, hp6, ?_, hb6, ?_, ?_⟩
      · rw [List.length_append, List.length_singleton, HN.out]
        exact owns_keeps ht4 k46 (fun g hg => by have := hb6 g hg; simp; exact ⟨this.2.2.1, this.2.1⟩)
      · have h1 : (task :: (took ++ [v])).length = 1 + N := by rw [← HN.out]; simp; omega
        rw [h1]
        exact owns_base (owns_keeps hh4 k46 (fun g hg => by have := (hh4.lt g hg).1; have := HP.out.lt; have := HW.out.lt; simp; omega)) sL
      · refine (((HKL.out.nil.trans k4).mono ?_).trans (k46.mono (by simp)))
        intro k hk hl
        simp only [List.mem_append] at hk ⊢
        rcases hk with hk | hk
        · exact hk
        · have h1 := (ownBlock_toList _ _).1 hk
          simp [Value.ownBlock] at h1
          omega
))

set_option maxHeartbeats 1600000 in
theorem rgPushLoadedLast (m p : Nat) (at_ size hd sl fi tl : Int) (task : Int) (lk tr tk : Value) (v : Int) (won : Bool) (took : List Int) (B : Nat) (e : TypeId) (s : WSt) (w : World) (hw : Wk w m s) (hp : Row w p e (rgCells m at_ size hd sl fi tl lk tr tk [.int .u64 task])) (hpm : p ≠ m) (ho : s.over = false) (hs : s.sub = none) (hr : dqRight at_ size)(hto : w.ownsRow B 24 1 tk took.length (ints .u64 took)) (hB : B ≤ w.heap.size) (htp : ∀ g, tk.ownBlock = some g → g ≠ p ∧ g ≠ m)(hm : (took.length : Int) + 1 = size / 2) (hu : 0 < s.under) :
    Calls Tryz.prog 84 #[.pointer (some ⟨p, 0, none⟩), .int .u64 v, .bool won] w fun e' w' => e' = .returned (.tuple #[]) ∧ RgTookEnd m p w tk 4 0 (took ++ [v]) s w' := by
  have HP := Lib.hid hp
  have HS := Lib.hid (rg_cells_push hp)
  have HW := Lib.hid hw
  obtain ⟨h0, h1, h2, h3, h4, h5, h6, h7, h8, h9, h10⟩ := HS.out _ [] (Keeps.refl _ _) (by simp)
  have hr1 : 2 ≤ size ∧ size ≤ 256 := by have := hr.1; omega
  have a0 : 0 ≤ at_ := hr.2.1
  have a1 : at_ < 65536 := by have := hr.2.2; omega
  have HH := Lib.hid (fun W => rgHalf_any at_ size W hr1.1 hr1.2)
  have HTL := Lib.hid (show took.length ≤ 1000 by omega)
  have kL : Keeps [] w (w.alloc (.cells #[.int .u64 task] 24)).drew := ((Keeps.refl [] w).alloc _).drew
  have hlit : (w.alloc (.cells #[.int .u64 task] 24)).drew.ownsRow w.heap.size 24 1 (.slice (some ⟨w.heap.size, 0, none⟩) 1 1) [task].length (ints .u64 [task]) := World.ownsRow.drew (World.ownsRow_lit (size := 1) w #[.int .u64 task] 1 (Nat.le_refl _) (by decide) rfl)
  have HE := Lib.hid (rgTake_any m p at_ size hd sl fi tl v lk tr tk [.int .u64 task] took [task] (.slice (some ⟨w.heap.size, 0, none⟩) 1 1) B w.heap.size e s _ (hw.keeps kL (by simp)) (hp.keeps kL (by simp)) hpm (owns_keeps hto kL (by simp)) htp HTL.out hlit (by simp)
    (fun g hg => by
      simp [Value.ownBlock] at hg
      subst hg
      have h1 := hp.lt
      have h2 := hw.lt
      exact ⟨by omega, by omega, fun h => by have := (hto.lt _ h).2; omega⟩) (Nat.le_trans hB kL.size) kL.size)
  have HKL := Lib.hid kL
  obtain ⟨N, hN⟩ : ∃ N, took.length + 1 = N := ⟨_, rfl⟩
  have HN := Lib.hid hN
  clear kL hlit
  have HE2 := Lib.hid (fun t q2 c2 W (h : Wk W m { s with tasks := t }) hl hlm => wEnd m { s with tasks := t } 4 0 (.slice q2 N c2) N (took ++ [v]) W h ho (.inl hu) hl hlm (by omega))
  have dL : decide ((N : Int) < size / 2) = false := decide_eq_false (by omega)
  have HTo := Lib.hid hto
  clear hto hN hm
  clear hw hp ho hs
  go_enter Tryz.func84, Tryz.ntmps84
  go_wp2_with fail
  go_region_held3 (fun w' => w'.cell? ⟨p, 10, none⟩ = some (.int .u64 task))
    (first
      | exact hp4.cell (j := 10) rfl
      | assumption
      | exact (HS.out _ _ (((Keeps.refl [] w).alloc _).drew) (by simp)).2.2.2.2.2.2.2.2.2.2
      | fail)
    (first
      | (go_at_call 113; refine (HE.out).mono ?_; rintro e4 w4 ⟨rfl, t, tk', hw4, hp4, ht4, hb4, hh4, k4⟩)
      | fail)
  all_goals (
    rw [HN.out] at ht4 hh4
    obtain ⟨q2, c2, rfl⟩ := (Sl.of_owns ht4).len
    have HS4 := Lib.hid (rg_cells_push hp4)
    obtain ⟨a0, a1, a2, a3, a4, a5, a6, a7, a8, a9, a10⟩ := HS4.out _ [] (Keeps.refl _ _) (by simp)
    have HP4 := Lib.hid hp4
    have HW4 := Lib.hid hw4
    have HH4 : Hid (_ ∧ _ ∧ _ ∧ _) := Lib.hid ⟨ht4, hb4, hh4, k4⟩
    clear hw4 hp4 ht4 hb4 hh4 k4
    go_wp2_with fail
    have hkV : Keeps [] w4 w4 := Keeps.refl _ _
    go_region_held3 (fun w' => w'.cell? ⟨p, 0, none⟩ = some (.pointer (some ⟨m, 0, none⟩)) ∧ w'.cell? ⟨p, 1, none⟩ = some (.int .i64 at_) ∧ w'.cell? ⟨p, 2, none⟩ = some (.int .i64 size) ∧ w'.cell? ⟨p, 3, none⟩ = some (.int .u64 hd) ∧ w'.cell? ⟨p, 4, none⟩ = some (.int .u32 sl) ∧ w'.cell? ⟨p, 5, none⟩ = some (.int .u32 fi) ∧ w'.cell? ⟨p, 6, none⟩ = some (.int .u32 tl) ∧ w'.cell? ⟨p, 7, none⟩ = some lk ∧ w'.cell? ⟨p, 8, none⟩ = some tr ∧ w'.cell? ⟨p, 9, none⟩ = some (.slice q2 N c2) ∧ w'.cell? ⟨p, 10, none⟩ = some (.int .u64 task))
      (first
        | exact HS4.out _ _ hk2 (by simp)
        | exact ⟨by assumption, by assumption, by assumption, by assumption, by assumption, by assumption, by assumption, by assumption, by assumption, by assumption, by assumption⟩
        | fail)
      (first
        | (go_at_call 81; refine (HH.out _).mono ?_; rintro e2 w5 ⟨rfl, k⟩; have hk2 : Keeps [] w4 w5 := k.undrew; clear k)
        | fail)
    all_goals (
      have HK2 := Lib.hid hk2
      go_wp2_with fail
      obtain ⟨z0, z1, z2, z3, z4, z5, z6, z7, z8, z9, z10⟩ := HS4.out w5 [] HK2.out (by simp)
      go_wp2
      go_still_tail 11, (by kernel_rfl)
      change wpList _ _ _ _ _ (w5).drew
      go_wp2_with fail
      refine (HE2.out t q2 c2 w5.drew (HW4.out.keeps HK2.out.drew (by simp)) (Sl.of_owns (owns_keeps HH4.out.1 HK2.out.drew (by simp))) (fun g hg => (HH4.out.2.1 g hg).2.2.1)).mono ?_
      rintro e6 w6 ⟨rfl, l', hw6, hl6, k6⟩
      have HQ : Hid (_ ∧ _ ∧ _) := Lib.hid ⟨hw6, hl6, k6⟩
      clear hw6 hl6 k6
      go_wp2
      first | go_end0 | refine bodyPost_ret (results_none rfl _ _ _) rfl ?_
      obtain ⟨hw6, hl6, k6⟩ := HQ.out
      obtain ⟨ht4, hb4, hh4, k4⟩ := HH4.out
      have s4 := k4.size
      have sL := HKL.out.size
      refine ⟨rfl, t, l', hw6, ?_, ?_, (HS4.out _ [m] (HK2.out.nil.trans k6.undrew) (by simpa using hpm)).1⟩
      · rw [List.length_append, List.length_singleton, HN.out]
        exact owns_base hl6 (Nat.le_trans sL (Nat.le_trans s4 HK2.out.size))
      · refine ((((HKL.out.nil.trans k4).mono ?_).trans (HK2.out.nil)).trans (k6.undrew.mono (by simp)))
        intro k hk hl
        simp only [List.mem_append] at hk ⊢
        rcases hk with hk | hk
        · exact hk
        · have h1 := (ownBlock_toList _ _).1 hk
          simp [Value.ownBlock] at h1
          omega
))
end Go.Proofs.YtekpfhlaohcgeaaGreat
