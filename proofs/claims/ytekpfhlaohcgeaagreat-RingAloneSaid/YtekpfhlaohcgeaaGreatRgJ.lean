/-
  Contracts: what the functions of a ring's loads of slots (stealing) do (written by wip/tools/rggen.py).
-/
import Derived.Test.YtekpfhlaohcgeaaGreatRgI
import Derived.Test.YtekpfhlaohcgeaaGreatRgH
import Derived.IntWalk
namespace Go.Proofs.YtekpfhlaohcgeaaGreat
set_option maxRecDepth 100000
set_option linter.unusedSimpArgs false
set_option linter.unusedVariables false
open Go.ChangeShapes Go.WideShapes Go.ChangeAt Go.RowKit

set_option maxHeartbeats 1600000 in
theorem rgStealLoadedMore (m p : Nat) (at_ size hd sl fi tl : Int) (tat u n : Int) (lk tr : Value) (v : Int) (won : Bool) (took : List Int) (B : Nat) (tq : Option Addr) (tc : Nat) (e : TypeId) (s : WSt) (w : World) (hw : Wk w m s) (hp : Row w p e (rgCells m at_ size hd sl fi tl lk tr (.slice tq took.length tc) [.int .i64 tat, .int .i64 size, .int .u32 u, .int .i64 n])) (hpm : p ≠ m) (ho : s.over = false) (hs : s.sub = none) (htr : dqRight tat size)(u0 : 0 ≤ u ∧ u < 4294967296)(hto : w.ownsRow B 24 1 (.slice tq took.length tc) took.length (ints .u64 took)) (hB : B ≤ w.heap.size) (htp : ∀ g, (Value.slice tq took.length tc).ownBlock = some g → g ≠ p ∧ g ≠ m)(hm : (took.length : Int) + 1 < n) (hn : n ≤ 256) :
    Calls Tryz.prog 98 #[.pointer (some ⟨p, 0, none⟩), .int .u64 v, .bool won] w fun e' w' => e' = .returned (.tuple #[]) ∧ RgTook m p e B w (.slice tq took.length tc) (took ++ [v]) (took ++ [v]) (fun t => { s with tasks := t, x := ⟨2, dqSlot tat size (rgAdd u (took.length : Int)), v, 0⟩, nxt := .func (.func 127) #[.pointer (some ⟨p, 0, none⟩)] #[], sub := none, after := .nilFunc }) (fun tk' => (rgCells m at_ size hd sl fi tl lk tr tk' [.int .i64 tat, .int .i64 size, .int .u32 u, .int .i64 n])) w' := by
  have HP := Lib.hid hp
  have HS := Lib.hid (rg_cells_steal hp)
  have HW := Lib.hid hw
  obtain ⟨h0, h1, h2, h3, h4, h5, h6, h7, h8, h9, h10, h11, h12, h13⟩ := HS.out _ [] (Keeps.refl _ _) (by simp)
  have HTL := Lib.hid (show took.length ≤ 1000 by omega)
  have HSl := Lib.hid (fun W => rgSlot_any tat size (rgAdd u (took.length : Int)) W htr (rgAdd_range _ _))
  have hwl : IntKind.u32.wrap (took.length : Int) = (took.length : Int) := by show (took.length : Int) % 4294967296 = _; omega
  have hwu : IntKind.u32.wrap (u + (took.length : Int)) = rgAdd u (took.length : Int) := rfl
  have HE := Lib.hid (fun W (k : Keeps [] w W) => rgTake_any m p at_ size hd sl fi tl v lk tr (.slice tq took.length tc) [.int .i64 tat, .int .i64 size, .int .u32 u, .int .i64 n] took [] (.slice none 0 0) B 0 e s W (hw.keeps k (by simp)) (hp.keeps k (by simp)) hpm (owns_keeps hto k (by simp)) htp HTL.out (World.ownsRow_nil _ _ _ _) (by simp) (fun g hg => by cases hg) (Nat.le_trans hB k.size) (Nat.zero_le _))
  obtain ⟨N, hN⟩ : ∃ N, took.length + 1 = N := ⟨_, rfl⟩
  have HN := Lib.hid hN
  have HE2 := Lib.hid (fun t W (h : Wk W m { s with tasks := t }) c0 => rgStore_any m p (dqSlot tat size (rgAdd u (took.length : Int))) v (.func 127) #[.pointer (some ⟨p, 0, none⟩)] #[] { s with tasks := t } W h c0 ho hs)
  have dL : decide ((N : Int) < n) = true := decide_eq_true (by omega)
  have HTo := Lib.hid hto
  clear hto hN hm
  clear hw hp ho hs
  go_enter Tryz.func98, Tryz.ntmps98
  go_wp2
  go_region_held3 (fun w' => w'.cell? ⟨p, 0, none⟩ = some (.pointer (some ⟨m, 0, none⟩)) ∧ w'.cell? ⟨p, 1, none⟩ = some (.int .i64 at_) ∧ w'.cell? ⟨p, 2, none⟩ = some (.int .i64 size) ∧ w'.cell? ⟨p, 3, none⟩ = some (.int .u64 hd) ∧ w'.cell? ⟨p, 4, none⟩ = some (.int .u32 sl) ∧ w'.cell? ⟨p, 5, none⟩ = some (.int .u32 fi) ∧ w'.cell? ⟨p, 6, none⟩ = some (.int .u32 tl) ∧ w'.cell? ⟨p, 7, none⟩ = some lk ∧ w'.cell? ⟨p, 8, none⟩ = some tr ∧ w'.cell? ⟨p, 9, none⟩ = some (.slice tq took.length tc) ∧ w'.cell? ⟨p, 10, none⟩ = some (.int .i64 tat) ∧ w'.cell? ⟨p, 11, none⟩ = some (.int .i64 size) ∧ w'.cell? ⟨p, 12, none⟩ = some (.int .u32 u) ∧ w'.cell? ⟨p, 13, none⟩ = some (.int .i64 n))
    (first
      | exact HS.out _ _ hk2 (by simp)
      | exact ⟨by assumption, by assumption, by assumption, by assumption, by assumption, by assumption, by assumption, by assumption, by assumption, by assumption, by assumption, by assumption, by assumption, by assumption⟩
      | fail)
    (first
      | (go_at_call 62; refine (HSl.out _).mono ?_; rintro e2 w2 ⟨rfl, k⟩; have hk2 : Keeps [] w w2 := k.undrew; clear k)
      | fail)
  all_goals (
    have HK2 := Lib.hid hk2
    clear hk2
    go_wp2_with fail
    refine (HE.out w2 HK2.out).mono ?_
    rintro e4 w4 ⟨rfl, t, tk', hw4, hp4, ht4, hb4, hh4, k4⟩
    simp only [List.length_nil, Nat.zero_add, List.nil_append] at hh4
    rw [HN.out] at ht4 hh4
    obtain ⟨q2, c2, rfl⟩ := (Sl.of_owns ht4).len
    have HS4 := Lib.hid (rg_cells_steal hp4)
    obtain ⟨a0, a1, a2, a3, a4, a5, a6, a7, a8, a9, a10, a11, a12, a13⟩ := HS4.out _ [] (Keeps.refl _ _) (by simp)
    have HP4 := Lib.hid hp4
    have HW4 := Lib.hid hw4
    have HH4 : Hid (_ ∧ _ ∧ _ ∧ _) := Lib.hid ⟨ht4, hb4, hh4, k4⟩
    clear hw4 hp4 ht4 hb4 hh4 k4
    go_wp2
    go_quiet (fail)
    generalize hV : World.drewN _ _ = W5
    have hk5 : Keeps [] w4 W5 := by rw [← hV]; exact Keeps.of_drewN _ _
    clear hV
    obtain ⟨z0, z1, z2, z3, z4, z5, z6, z7, z8, z9, z10, z11, z12, z13⟩ := HS4.out W5 [] hk5 (by simp)
    have HK5 := Lib.hid hk5
    clear hk5
    go_wp2_with fail
    refine (HE2.out t W5 (HW4.out.keeps HK5.out (by simp)) ((HS4.out _ [] HK5.out (by simp)).1)).mono ?_
    rintro e6 w6 ⟨rfl, hw6, k6⟩
    have HQ : Hid (_ ∧ _) := Lib.hid ⟨hw6, k6⟩
    clear hw6 k6
    go_wp2
    first | go_end0 | refine bodyPost_ret (results_none rfl _ _ _) rfl ?_
    obtain ⟨hw6, k6⟩ := HQ.out
    obtain ⟨ht4, hb4, hh4, k4⟩ := HH4.out
    have k46 : Keeps [m] w4 w6 := HK5.out.nil.trans k6
    have sL := HK2.out.size
    have hb6 : ∀ g, (Value.slice q2 N c2).ownBlock = some g → ((Value.slice tq took.length tc).ownBlock = some g ∨ w.heap.size ≤ g) ∧ g ≠ p ∧ g ≠ m ∧ t.ownBlock ≠ some g := fun g hg => ⟨(hb4 g hg).1.imp_right (fun h => Nat.le_trans sL h), (hb4 g hg).2⟩
    refine ⟨rfl, t, .slice q2 N c2, hw6, HP4.out.keeps k46 (by simpa using hpm), ?_, hb6, ?_, ?_⟩
    · rw [List.length_append, List.length_singleton, HN.out]
      exact owns_keeps ht4 k46 (fun g hg => by have := hb6 g hg; simp; exact this.2.2.1)
    · rw [List.length_append, List.length_singleton, HN.out]
      exact owns_base (owns_keeps hh4 k46 (fun g hg => by have := (hh4.lt g hg).1; have := HW.out.lt; simp; omega)) sL
    · refine (((HK2.out.nil.trans k4).mono ?_).trans (k46.mono (by simp)))
      intro k hk hl
      simpa [Value.ownBlock] using hk
)

set_option maxHeartbeats 1600000 in
theorem rgStealLoadedLast (m p : Nat) (at_ size hd sl fi tl : Int) (tat u n : Int) (lk tr : Value) (v : Int) (won : Bool) (took : List Int) (B : Nat) (tq : Option Addr) (tc : Nat) (e : TypeId) (s : WSt) (w : World) (hw : Wk w m s) (hp : Row w p e (rgCells m at_ size hd sl fi tl lk tr (.slice tq took.length tc) [.int .i64 tat, .int .i64 size, .int .u32 u, .int .i64 n])) (hpm : p ≠ m) (ho : s.over = false) (hs : s.sub = none) (htr : dqRight tat size)(u0 : 0 ≤ u ∧ u < 4294967296)(hto : w.ownsRow B 24 1 (.slice tq took.length tc) took.length (ints .u64 took)) (hB : B ≤ w.heap.size) (htp : ∀ g, (Value.slice tq took.length tc).ownBlock = some g → g ≠ p ∧ g ≠ m)(hm : (took.length : Int) + 1 = n) (hn : n ≤ 256) :
    Calls Tryz.prog 98 #[.pointer (some ⟨p, 0, none⟩), .int .u64 v, .bool won] w fun e' w' => e' = .returned (.tuple #[]) ∧ RgTook m p e B w (.slice tq took.length tc) (took ++ [v]) (took ++ [v]) (fun t => { s with tasks := t, x := ⟨1, at_, 0, 0⟩, nxt := .func (.func 128) #[.pointer (some ⟨p, 0, none⟩)] #[], sub := none, after := .nilFunc }) (fun tk' => (rgCells m at_ size hd sl fi tl lk tr tk' [.int .i64 tat, .int .i64 size, .int .u32 u, .int .i64 n])) w' := by
  have HP := Lib.hid hp
  have HS := Lib.hid (rg_cells_steal hp)
  have HW := Lib.hid hw
  obtain ⟨h0, h1, h2, h3, h4, h5, h6, h7, h8, h9, h10, h11, h12, h13⟩ := HS.out _ [] (Keeps.refl _ _) (by simp)
  have HTL := Lib.hid (show took.length ≤ 1000 by omega)
  have HSl := Lib.hid (fun W => rgSlot_any tat size (rgAdd u (took.length : Int)) W htr (rgAdd_range _ _))
  have hwl : IntKind.u32.wrap (took.length : Int) = (took.length : Int) := by show (took.length : Int) % 4294967296 = _; omega
  have hwu : IntKind.u32.wrap (u + (took.length : Int)) = rgAdd u (took.length : Int) := rfl
  have HE := Lib.hid (fun W (k : Keeps [] w W) => rgTake_any m p at_ size hd sl fi tl v lk tr (.slice tq took.length tc) [.int .i64 tat, .int .i64 size, .int .u32 u, .int .i64 n] took [] (.slice none 0 0) B 0 e s W (hw.keeps k (by simp)) (hp.keeps k (by simp)) hpm (owns_keeps hto k (by simp)) htp HTL.out (World.ownsRow_nil _ _ _ _) (by simp) (fun g hg => by cases hg) (Nat.le_trans hB k.size) (Nat.zero_le _))
  obtain ⟨N, hN⟩ : ∃ N, took.length + 1 = N := ⟨_, rfl⟩
  have HN := Lib.hid hN
  have HE2 := Lib.hid (fun t W (h : Wk W m { s with tasks := t }) c0 => rgLoad_any m p at_ (.func 128) #[.pointer (some ⟨p, 0, none⟩)] #[] { s with tasks := t } W h c0 ho hs)
  have dL : decide ((N : Int) < n) = false := decide_eq_false (by omega)
  have HTo := Lib.hid hto
  clear hto hN hm
  clear hw hp ho hs
  go_enter Tryz.func98, Tryz.ntmps98
  go_wp2
  go_region_held3 (fun w' => w'.cell? ⟨p, 0, none⟩ = some (.pointer (some ⟨m, 0, none⟩)) ∧ w'.cell? ⟨p, 1, none⟩ = some (.int .i64 at_) ∧ w'.cell? ⟨p, 2, none⟩ = some (.int .i64 size) ∧ w'.cell? ⟨p, 3, none⟩ = some (.int .u64 hd) ∧ w'.cell? ⟨p, 4, none⟩ = some (.int .u32 sl) ∧ w'.cell? ⟨p, 5, none⟩ = some (.int .u32 fi) ∧ w'.cell? ⟨p, 6, none⟩ = some (.int .u32 tl) ∧ w'.cell? ⟨p, 7, none⟩ = some lk ∧ w'.cell? ⟨p, 8, none⟩ = some tr ∧ w'.cell? ⟨p, 9, none⟩ = some (.slice tq took.length tc) ∧ w'.cell? ⟨p, 10, none⟩ = some (.int .i64 tat) ∧ w'.cell? ⟨p, 11, none⟩ = some (.int .i64 size) ∧ w'.cell? ⟨p, 12, none⟩ = some (.int .u32 u) ∧ w'.cell? ⟨p, 13, none⟩ = some (.int .i64 n))
    (first
      | exact HS.out _ _ hk2 (by simp)
      | exact ⟨by assumption, by assumption, by assumption, by assumption, by assumption, by assumption, by assumption, by assumption, by assumption, by assumption, by assumption, by assumption, by assumption, by assumption⟩
      | fail)
    (first
      | (go_at_call 62; refine (HSl.out _).mono ?_; rintro e2 w2 ⟨rfl, k⟩; have hk2 : Keeps [] w w2 := k.undrew; clear k)
      | fail)
  all_goals (
    have HK2 := Lib.hid hk2
    clear hk2
    go_wp2_with fail
    refine (HE.out w2 HK2.out).mono ?_
    rintro e4 w4 ⟨rfl, t, tk', hw4, hp4, ht4, hb4, hh4, k4⟩
    simp only [List.length_nil, Nat.zero_add, List.nil_append] at hh4
    rw [HN.out] at ht4 hh4
    obtain ⟨q2, c2, rfl⟩ := (Sl.of_owns ht4).len
    have HS4 := Lib.hid (rg_cells_steal hp4)
    obtain ⟨a0, a1, a2, a3, a4, a5, a6, a7, a8, a9, a10, a11, a12, a13⟩ := HS4.out _ [] (Keeps.refl _ _) (by simp)
    have HP4 := Lib.hid hp4
    have HW4 := Lib.hid hw4
    have HH4 : Hid (_ ∧ _ ∧ _ ∧ _) := Lib.hid ⟨ht4, hb4, hh4, k4⟩
    clear hw4 hp4 ht4 hb4 hh4 k4
    go_wp2
    go_quiet (fail)
    generalize hV : World.drewN _ _ = W5
    have hk5 : Keeps [] w4 W5 := by rw [← hV]; exact Keeps.of_drewN _ _
    clear hV
    obtain ⟨z0, z1, z2, z3, z4, z5, z6, z7, z8, z9, z10, z11, z12, z13⟩ := HS4.out W5 [] hk5 (by simp)
    have HK5 := Lib.hid hk5
    clear hk5
    go_wp2_with fail
    go_still_tail 11, (by kernel_rfl)
    change wpList _ _ _ _ _ (W5).drew
    go_wp2_with fail
    refine (HE2.out t W5.drew (HW4.out.keeps HK5.out.drew (by simp)) ((HS4.out _ [] HK5.out.drew (by simp)).1)).mono ?_
    rintro e6 w6 ⟨rfl, hw6, k6⟩
    have HQ : Hid (_ ∧ _) := Lib.hid ⟨hw6, k6⟩
    clear hw6 k6
    go_wp2
    first | go_end0 | refine bodyPost_ret (results_none rfl _ _ _) rfl ?_
    obtain ⟨hw6, k6⟩ := HQ.out
    obtain ⟨ht4, hb4, hh4, k4⟩ := HH4.out
    have k46 : Keeps [m] w4 w6 := HK5.out.nil.trans k6.undrew
    have sL := HK2.out.size
    have hb6 : ∀ g, (Value.slice q2 N c2).ownBlock = some g → ((Value.slice tq took.length tc).ownBlock = some g ∨ w.heap.size ≤ g) ∧ g ≠ p ∧ g ≠ m ∧ t.ownBlock ≠ some g := fun g hg => ⟨(hb4 g hg).1.imp_right (fun h => Nat.le_trans sL h), (hb4 g hg).2⟩
    refine ⟨rfl, t, .slice q2 N c2, hw6, HP4.out.keeps k46 (by simpa using hpm), ?_, hb6, ?_, ?_⟩
    · rw [List.length_append, List.length_singleton, HN.out]
      exact owns_keeps ht4 k46 (fun g hg => by have := hb6 g hg; simp; exact this.2.2.1)
    · rw [List.length_append, List.length_singleton, HN.out]
      exact owns_base (owns_keeps hh4 k46 (fun g hg => by have := (hh4.lt g hg).1; have := HW.out.lt; simp; omega)) sL
    · refine (((HK2.out.nil.trans k4).mono ?_).trans (k46.mono (by simp)))
      intro k hk hl
      simpa [Value.ownBlock] using hk
)
end Go.Proofs.YtekpfhlaohcgeaaGreat
