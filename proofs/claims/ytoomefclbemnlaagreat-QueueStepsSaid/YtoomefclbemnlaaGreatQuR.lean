/-
  Contracts: a queue's Put and Take.
-/
import Derived.Test.YtoomefclbemnlaaGreatQuQ
import Derived.Deep.CutRange
import Derived.Deep.CutBlock
namespace Go.Proofs.YtoomefclbemnlaaGreat
set_option maxRecDepth 100000
set_option linter.unusedSimpArgs false
set_option linter.unusedVariables false
open Go.ChangeShapes Go.WideShapes Go.ChangeAt Go.RowKit

theorem amiss_any (k : Nat) (w : World) (hk : k ≤ maxLen) :
    Calls Tryz.prog 28 #[.int .i64 (k : Int)] w fun e w' => e = .returned (.int .i64 (if k = 0 then 2 else if 300 < k then 14 else 0)) ∧ w = w' := by
  unfold maxLen at hk
  by_cases h0 : k = 0
  · subst h0
    go_enter Tryz.func28, Tryz.ntmps28
    go_wp2
    go_ret
    exact ⟨rfl, rfl⟩
  · rw [if_neg h0]
    have q0 : ((k : Int) == 0) = false := by simpa using h0
    by_cases h1 : 300 < k
    · rw [if_pos h1]
      have q1 : decide (300 < (k : Int)) = true := decide_eq_true (by omega)
      clear h0 h1
      go_enter Tryz.func28, Tryz.ntmps28
      go_wp2
      go_ret
      exact ⟨rfl, rfl⟩
    · rw [if_neg h1]
      have q1 : decide (300 < (k : Int)) = false := decide_eq_false (by omega)
      clear h0 h1
      go_enter Tryz.func28, Tryz.ntmps28
      go_wp2
      go_ret
      exact ⟨rfl, rfl⟩

set_option maxHeartbeats 1600000 in
/-- How a Take begins. -/
theorem quTake1 (m : Nat) (at_ n : Int) (w : World) (hw : Wk w m { WSt.zero with under := 1 }) (hr : quRight at_ n) :
    Calls Tryz.prog 42 #[.agg #[.pointer (some ⟨m, 0, none⟩), .int .i64 at_, .int .i64 n, .int .i64 0, .int .u64 0, .int .i64 0, .int .u64 0, .nilFunc, .nilFunc]] w fun e w' => e = .returned (.tuple #[]) ∧ ∃ st2, Wk w' m st2 ∧ st2.under = 1 ∧ MidN quNest arenaM quJ (quE m) m [m] [] (quTake at_ n) w w' st2 := by
  have U0 : M.U 0 := ⟨by decide, by decide⟩
  have hmlt := hw.lt
  obtain ⟨W0, hW0⟩ : ∃ W0, (w.alloc (.cells #[.pointer (some ⟨m, 0, none⟩), .int .i64 at_, .int .i64 n, .int .i64 0, .int .u64 0, .int .i64 0, .int .u64 0, .nilFunc, .nilFunc] 75)).alloc (.cells #[.pointer (some ⟨m, 0, none⟩), .int .i64 at_, .int .i64 n, .int .i64 0, .int .u64 0, .int .i64 0, .int .u64 0, .nilFunc, .nilFunc, .int .u64 0, .int .u64 0] 90) = W0 := ⟨_, rfl⟩
  have k0 : Keeps [] w W0 := by rw [← hW0]; exact ((Keeps.refl _ _).alloc _).alloc _
  have r0 : Row W0 (w.heap.size + 1) 90 (quTCells m at_ n 0 0 0 0 .nilFunc .nilFunc 0 0) := by rw [← hW0]; have := Row.new (w.alloc (.cells #[.pointer (some ⟨m, 0, none⟩), .int .i64 at_, .int .i64 n, .int .i64 0, .int .u64 0, .int .i64 0, .int .u64 0, .nilFunc, .nilFunc] 75)) #[.pointer (some ⟨m, 0, none⟩), .int .i64 at_, .int .i64 n, .int .i64 0, .int .u64 0, .int .i64 0, .int .u64 0, .nilFunc, .nilFunc, .int .u64 0, .int .u64 0] 90; simpa [quTCells, quSCells] using this
  obtain ⟨W1, hW1⟩ : ∃ W1, ((W0.setCell ⟨w.heap.size + 1, 3, none⟩ (.int .i64 at_)).setCell ⟨w.heap.size + 1, 7, none⟩ (quM 43 (w.heap.size + 1))).setCell ⟨w.heap.size + 1, 8, none⟩ (quM 44 (w.heap.size + 1)) = W1 := ⟨_, rfl⟩
  have k1 : Keeps [w.heap.size + 1] W0 W1 := by rw [← hW1]; exact (((Keeps.refl _ _).set (by simp) _ _).set (by simp) _ _).set (by simp) _ _
  have r1 : Row W1 (w.heap.size + 1) 90 (quTCells m at_ n at_ 0 0 0 (quM 43 (w.heap.size + 1)) (quM 44 (w.heap.size + 1)) 0 0) := by rw [← hW1]; exact ((r0.set 3 _).set 7 _).set 8 _
  have hz1 : (w.alloc (.cells #[.pointer (some ⟨m, 0, none⟩), .int .i64 at_, .int .i64 n, .int .i64 0, .int .u64 0, .int .i64 0, .int .u64 0, .nilFunc, .nilFunc] 75)).heap.size = w.heap.size + 1 := by simp
  obtain ⟨c0, c1, c2, c3, c4, c5, c6, c7, c8, c9, c10⟩ := quT_cells r0 _ [] (Keeps.refl _ _) (by simp)
  have f3 := r0.frozen 3
  have f7 := r0.frozen 7
  have f8 := r0.frozen 8
  have hw1 : Wk W1 m { WSt.zero with under := 1 } := (hw.keeps k0 (by simp)).keeps k1 (by simp; omega)
  have HB := Lib.hid (quBegin m (w.heap.size + 1) at_ n at_ 0 0 0 _ _ _ 90 _ W1 hw1 r1 (by omega) rfl rfl)
  have HK := Lib.hid (k0.step k1 (by simp))
  have HW := Lib.hid hw
  clear k0 r0 k1 r1 hw hw1
  go_enter Tryz.func42, Tryz.ntmps42
  go_wp2_with fail
  refine HB.out.mono ?_
  rintro e w2 ⟨rfl, hA⟩
  have HA := Lib.hid hA
  clear hA
  go_wp2
  first | go_end0 | refine bodyPost_ret (results_none rfl _ _ _) rfl ?_
  obtain ⟨a1, a2, a3⟩ := HA.out
  have hp2 := a2.lt
  have z := HK.out.size
  have hT : quTake at_ n = ⟨at_, n, false, [], [], 0, 1, none, 0, 0, 0, 0, 0, false, none⟩ := by simp [quTake, hr, quZero]
  rw [hT]
  refine ⟨rfl, GoesN.new (N := quNest) (K := arenaM) (J := quJ) (R := quE m) ⟨((HK.out.nil (S := [m, w.heap.size + 1])).trans a3).mono (by intro k hk hl; simp at hk; rcases hk with rfl | rfl; simp; omega), _, _, .inl ⟨_, _, _, _, [w.heap.size + 1], by simp [quNest], by simp [quNest, quWantTake], rfl, .inl ⟨rfl, by simp [quNest, quHeld]⟩, a1, fun _ => ⟨⟨hr, U0, U0, U0, U0, fun h => (by cases h), fun _ => ⟨.inr ⟨rfl, rfl, .inl rfl⟩⟩⟩, w.heap.size + 1, by simp, by simp [quFn], fun h => (by cases h), fun _ => ⟨_, _, _, _, _, ⟨a2, fun h => absurd rfl h.1, fun h => by simp at h, fun h => by simp at h, fun h => by simp at h, fun h => (by cases h), fun _ => rfl⟩⟩⟩, fun k hk => by simp at hk; subst hk; exact hp2, fun k hk => by simp at hk; subst hk; exact ⟨by omega, .inr ⟨by omega, .inl rfl⟩⟩⟩⟩ HW.out (by simp) (by simp) (quRest m) ?_⟩
  rintro st2 ⟨_, _, _, _, _, _, h, -⟩
  simp [quNest] at h
theorem quSet1 {m p : Nat} {at_ n : Int} {tv : Value} {e : TypeId} {w : World} (h : Row w p e (quPCells m at_ n 0 0 0 0 .nilFunc .nilFunc tv (.slice none 0 0) 0 0)) :
    Row (w.setCell ⟨p, 3, none⟩ (.int .i64 (at_ + 1))) p e (quPCells m at_ n (at_ + 1) 0 0 0 .nilFunc .nilFunc tv (.slice none 0 0) 0 0) ∧ (w.setCell ⟨p, 3, none⟩ (.int .i64 (at_ + 1))).cell? ⟨p, 1, none⟩ = some (.int .i64 at_) ∧ (w.setCell ⟨p, 3, none⟩ (.int .i64 (at_ + 1))).cell? ⟨p, 2, none⟩ = some (.int .i64 n) := by
  have h1 : Row (w.setCell ⟨p, 3, none⟩ (.int .i64 (at_ + 1))) p e (quPCells m at_ n (at_ + 1) 0 0 0 .nilFunc .nilFunc tv (.slice none 0 0) 0 0) := h.set 3 _
  exact ⟨h1, h1.cell (j := 1) rfl, h1.cell (j := 2) rfl⟩
theorem quSet2 {m p : Nat} {at_ n : Int} {tv : Value} {e : TypeId} {w : World} (h : Row w p e (quPCells m at_ n 0 0 0 0 .nilFunc .nilFunc tv (.slice none 0 0) 0 0)) :
    Row ((w.setCell ⟨p, 3, none⟩ (.int .i64 (at_ + 1))).setCell ⟨p, 7, none⟩ (.func (.func 32) #[.pointer (some ⟨p, 0, none⟩)] #[])) p e (quPCells m at_ n (at_ + 1) 0 0 0 (quM 32 p) .nilFunc tv (.slice none 0 0) 0 0) ∧ ((w.setCell ⟨p, 3, none⟩ (.int .i64 (at_ + 1))).setCell ⟨p, 7, none⟩ (.func (.func 32) #[.pointer (some ⟨p, 0, none⟩)] #[])).cell? ⟨p, 1, none⟩ = some (.int .i64 at_) ∧ ((w.setCell ⟨p, 3, none⟩ (.int .i64 (at_ + 1))).setCell ⟨p, 7, none⟩ (.func (.func 32) #[.pointer (some ⟨p, 0, none⟩)] #[])).cell? ⟨p, 2, none⟩ = some (.int .i64 n) := by
  have h1 : Row ((w.setCell ⟨p, 3, none⟩ (.int .i64 (at_ + 1))).setCell ⟨p, 7, none⟩ (.func (.func 32) #[.pointer (some ⟨p, 0, none⟩)] #[])) p e (quPCells m at_ n (at_ + 1) 0 0 0 (quM 32 p) .nilFunc tv (.slice none 0 0) 0 0) := (quSet1 h).1.set 7 _
  exact ⟨h1, h1.cell (j := 1) rfl, h1.cell (j := 2) rfl⟩
theorem quSet3 {m p : Nat} {at_ n : Int} {tv : Value} {e : TypeId} {w : World} (h : Row w p e (quPCells m at_ n 0 0 0 0 .nilFunc .nilFunc tv (.slice none 0 0) 0 0)) :
    Row (((w.setCell ⟨p, 3, none⟩ (.int .i64 (at_ + 1))).setCell ⟨p, 7, none⟩ (.func (.func 32) #[.pointer (some ⟨p, 0, none⟩)] #[])).setCell ⟨p, 8, none⟩ (.func (.func 33) #[.pointer (some ⟨p, 0, none⟩)] #[])) p e (quPCells m at_ n (at_ + 1) 0 0 0 (quM 32 p) (quM 33 p) tv (.slice none 0 0) 0 0) ∧ (((w.setCell ⟨p, 3, none⟩ (.int .i64 (at_ + 1))).setCell ⟨p, 7, none⟩ (.func (.func 32) #[.pointer (some ⟨p, 0, none⟩)] #[])).setCell ⟨p, 8, none⟩ (.func (.func 33) #[.pointer (some ⟨p, 0, none⟩)] #[])).cell? ⟨p, 1, none⟩ = some (.int .i64 at_) ∧ (((w.setCell ⟨p, 3, none⟩ (.int .i64 (at_ + 1))).setCell ⟨p, 7, none⟩ (.func (.func 32) #[.pointer (some ⟨p, 0, none⟩)] #[])).setCell ⟨p, 8, none⟩ (.func (.func 33) #[.pointer (some ⟨p, 0, none⟩)] #[])).cell? ⟨p, 2, none⟩ = some (.int .i64 n) := by
  have h1 : Row (((w.setCell ⟨p, 3, none⟩ (.int .i64 (at_ + 1))).setCell ⟨p, 7, none⟩ (.func (.func 32) #[.pointer (some ⟨p, 0, none⟩)] #[])).setCell ⟨p, 8, none⟩ (.func (.func 33) #[.pointer (some ⟨p, 0, none⟩)] #[])) p e (quPCells m at_ n (at_ + 1) 0 0 0 (quM 32 p) (quM 33 p) tv (.slice none 0 0) 0 0) := (quSet2 h).1.set 8 _
  exact ⟨h1, h1.cell (j := 1) rfl, h1.cell (j := 2) rfl⟩
set_option maxHeartbeats 1600000 in
/-- How a Put begins. -/
theorem quPut1 (m b : Nat) (at_ n : Int) (tp : Option Addr) (tc : Nat) (l : List Int) (w : World) (hw : Wk w m { WSt.zero with under := 1 }) (hr : quRight at_ n) (hb : Box w b #[.slice tp l.length tc]) (hl : Sl w 1 (.slice tp l.length tc) l.length (ints .u64 l)) (few : 1 ≤ l.length ∧ l.length ≤ 300) (hU : ∀ u ∈ l, M.U u) :
    Calls Tryz.prog 29 #[.agg #[.pointer (some ⟨m, 0, none⟩), .int .i64 at_, .int .i64 n, .int .i64 0, .int .u64 0, .int .i64 0, .int .u64 0, .nilFunc, .nilFunc], .pointer (some ⟨b, 0, none⟩)] w fun e w' => e = .returned (.tuple #[]) ∧ ∃ st2, Wk w' m st2 ∧ st2.under = 1 ∧ MidN quNest arenaM quJ (quE m) m [m] [] (quPut at_ n l) w w' st2 := by
  have U0 : M.U 0 := ⟨by decide, by decide⟩
  have hmlt := hw.lt
  have hblt := hb.lt
  obtain ⟨W0, hW0⟩ : ∃ W0, w.alloc (.cells #[.pointer (some ⟨m, 0, none⟩), .int .i64 at_, .int .i64 n, .int .i64 0, .int .u64 0, .int .i64 0, .int .u64 0, .nilFunc, .nilFunc] 75) = W0 := ⟨_, rfl⟩
  have k0 : Keeps [] w W0 := by rw [← hW0]; exact (Keeps.refl _ _).alloc _
  have hx0 : Box W0 w.heap.size #[.pointer (some ⟨m, 0, none⟩), .int .i64 at_, .int .i64 n, .int .i64 0, .int .u64 0, .int .i64 0, .int .u64 0, .nilFunc, .nilFunc] := by rw [← hW0]; exact Box.new _ _ _
  have HX := Lib.hid (fun W (k : Keeps [] W0 W) => show W.cell? ⟨w.heap.size, 0, none⟩ = some (.pointer (some ⟨m, 0, none⟩)) ∧ W.cell? ⟨w.heap.size, 1, none⟩ = some (.int .i64 at_) ∧ W.cell? ⟨w.heap.size, 2, none⟩ = some (.int .i64 n) ∧ W.cell? ⟨w.heap.size, 3, none⟩ = some (.int .i64 0) ∧ W.cell? ⟨w.heap.size, 4, none⟩ = some (.int .u64 0) ∧ W.cell? ⟨w.heap.size, 5, none⟩ = some (.int .i64 0) ∧ W.cell? ⟨w.heap.size, 6, none⟩ = some (.int .u64 0) ∧ W.cell? ⟨w.heap.size, 7, none⟩ = some .nilFunc ∧ W.cell? ⟨w.heap.size, 8, none⟩ = some .nilFunc ∧ W.cell? ⟨b, 0, none⟩ = some (.slice tp l.length tc) from by
    have q := hx0.keeps k (by simp)
    exact ⟨q.cells 0, q.cells 1, q.cells 2, q.cells 3, q.cells 4, q.cells 5, q.cells 6, q.cells 7, q.cells 8, ((hb.keeps k0 (by simp)).keeps k (by simp)).cells 0⟩)
  obtain ⟨c0, c1, c2, c3, c4, c5, c6, c7, c8, d0⟩ := HX.out W0 (Keeps.refl _ _)
  have HC := Lib.hid (fun W (k : Keeps [] W0 W) => cloneWords_sl (.slice tp l.length tc) l.length l W ((hl.keeps k0 (by simp)).keeps k (by simp)) (by omega))
  have HW := Lib.hid hw
  have HK0 := Lib.hid k0
  clear hx0 hb hl hw k0
  go_enter Tryz.func29, Tryz.ntmps29
  go_wp2
  go_region_held3 (fun w' => w'.cell? ⟨w.heap.size, 0, none⟩ = some (.pointer (some ⟨m, 0, none⟩)) ∧ w'.cell? ⟨w.heap.size, 1, none⟩ = some (.int .i64 at_) ∧ w'.cell? ⟨w.heap.size, 2, none⟩ = some (.int .i64 n) ∧ w'.cell? ⟨w.heap.size, 3, none⟩ = some (.int .i64 0) ∧ w'.cell? ⟨w.heap.size, 4, none⟩ = some (.int .u64 0) ∧ w'.cell? ⟨w.heap.size, 5, none⟩ = some (.int .i64 0) ∧ w'.cell? ⟨w.heap.size, 6, none⟩ = some (.int .u64 0) ∧ w'.cell? ⟨w.heap.size, 7, none⟩ = some .nilFunc ∧ w'.cell? ⟨w.heap.size, 8, none⟩ = some .nilFunc ∧ w'.cell? ⟨b, 0, none⟩ = some (.slice tp l.length tc))
    (first
      | exact ⟨by assumption, by assumption, by assumption, by assumption, by assumption, by assumption, by assumption, by assumption, by assumption, by assumption⟩
      | exact HX.out _ hk2
      | exact HX.out _ (hk2.alloc _)
      | fail)
    (first
      | (go_at_call 30; refine (HC.out _ ((Keeps.refl [] _).drew)).mono ?_; rintro e2 w2 ⟨tv, rfl, otv, k2⟩; have hk2 : Keeps [] W0 w2 := k2.undrew; obtain ⟨tvp, tvc, rfl⟩ := (Sl.of_owns otv).len)
      | fail)
  all_goals
    have HO := Lib.hid (show w2.ownsRow W0.heap.size 49 1 (.slice tvp l.length tvc) l.length (ints .u64 l) from otv)
    have HK2 := Lib.hid hk2
    clear otv hk2 k2 c0 c1 c2 c3 c4 c5 c6 c7 c8 d0
    obtain ⟨W3, hW3⟩ : ∃ W3, w2.alloc (.cells #[.pointer (some ⟨m, 0, none⟩), .int .i64 at_, .int .i64 n, .int .i64 0, .int .u64 0, .int .i64 0, .int .u64 0, .nilFunc, .nilFunc, .slice tvp l.length tvc, .slice none 0 0, .int .i64 0, .int .i64 0] 80) = W3 := ⟨_, rfl⟩
    have k3 : Keeps [] w2 W3 := by rw [← hW3]; exact (Keeps.refl _ _).alloc _
    have r3 : Row W3 w2.heap.size 80 (quPCells m at_ n 0 0 0 0 .nilFunc .nilFunc (.slice tvp l.length tvc) (.slice none 0 0) 0 0) := by rw [← hW3]; exact Row.new w2 #[.pointer (some ⟨m, 0, none⟩), .int .i64 at_, .int .i64 n, .int .i64 0, .int .u64 0, .int .i64 0, .int .u64 0, .nilFunc, .nilFunc, .slice tvp l.length tvc, .slice none 0 0, .int .i64 0, .int .i64 0] 80
    obtain ⟨c0, c1, c2, c3, c4, c5, c6, c7, c8, c9, c10, c11, c12⟩ := quP_cells r3 _ [] (Keeps.refl _ _) (by simp)
    have hp3 := r3.lt
    have hpw : m < w2.heap.size := by have := HK0.out.size; have := HK2.out.size; omega
    have HHold := Lib.hid (fun W (k : Keeps [] w2 W) hc hlt => quHold_any m w2.heap.size l.length (.slice tvp l.length tvc) l _ W (HW.out.keeps ((HK0.out.trans HK2.out).trans k) (by simp)) hc hlt (by omega) rfl rfl ((Sl.of_owns HO.out).keeps k (by simp)) (by omega))
    have HR3 := Lib.hid r3
    have HS := Lib.hid (quP_cells r3)
    have HF := Lib.hid (fun W (k : Keeps [] W3 W) j => (r3.keeps k (by simp)).frozen j)
    have a0 : 0 ≤ at_ := hr.2.2.1
    have a1 : at_ < 65536 := by have := hr.2.2.2; have := hr.1; omega
    have e1 : W3.drew.cell? ⟨w2.heap.size, 1, none⟩ = some (.int .i64 at_) := c1
    have e2 : W3.drew.cell? ⟨w2.heap.size, 2, none⟩ = some (.int .i64 n) := c2
    go_upto_region 2 with (fail)
    go_cut [] from 9 to 33 (fun w' => Row w' w2.heap.size 80 (quPCells m at_ n (at_ + 1) 0 0 0 (quM 32 w2.heap.size) (quM 33 w2.heap.size) (.slice tvp l.length tvc) (.slice none 0 0) 0 0) ∧ Keeps [] w2 w')
    case first =>
      have HK23 := Lib.hid k3
      clear k3
      rw [hW3]
      go_region_held3 (fun w' => w'.cell? ⟨w2.heap.size, 1, none⟩ = some (.int .i64 at_) ∧ w'.cell? ⟨w2.heap.size, 2, none⟩ = some (.int .i64 n))
        (first
          | exact ⟨by with_reducible assumption, by with_reducible assumption⟩
          | (with_reducible exact HT1.out.2)
          | (with_reducible exact HT2.out.2)
          | (with_reducible exact HT3.out.2)
          | fail)
        (first
          | (go_at_call 31; refine (quTail_any at_ n _ a0 a1).mono ?_; rintro e3 w3 ⟨rfl, k4⟩; have hk4 : Keeps [] W3 w3 := k4.undrew; obtain ⟨g0, g1, g2, g3, g4, g5, g6, g7, g8, -⟩ := HS.out w3 [] hk4 (by simp); have f3 := HF.out w3 hk4 3; have f7 := HF.out w3 hk4 7; have f8 := HF.out w3 hk4 8; have HR4 := HR3.out.keeps hk4 (by simp); have HT1 := Lib.hid (quSet1 HR4); have HT2 := Lib.hid (quSet2 HR4); have HT3 := Lib.hid (quSet3 HR4); clear HR4)
          | fail)
      all_goals go_wp2
      all_goals go_meet
      all_goals exact ⟨HT3.out.1, HK23.out.step (S := [w2.heap.size]) ((hk4.nil.trans ((((Keeps.refl [w2.heap.size] w3).set (by simp) _ _).set (by simp) _ _).set (by simp) _ _))) (by simp)⟩
    obtain ⟨r5, k5⟩ := hcut
    have HR5 := Lib.hid r5
    have HK5 := Lib.hid k5
    obtain ⟨g0, g1, g2, g3, g4, g5, g6, g7, g8, g9, g10, g11, g12⟩ := quP_cells r5 _ [] (Keeps.refl _ _) (by simp)
    clear r5 k5 c0 c1 c2 c3 c4 c5 c6 c7 c8 c9 c10 c11 c12 e1 e2 k3 r3 HS HF
    go_wp2
    go_still_tail 7, (by kernel_rfl)
    change wpList _ _ _ _ _ (World.drew _)
    go_wp2_with fail
    refine (HHold.out _ HK5.out.drew g0 HR5.out.lt).mono ?_
    rintro e6 w6 ⟨rfl, tt, ov, g, o, bb, hw6, ot6, hwt, hnew, hbo, hdis, k6⟩
    have HHQ : Hid (_ ∧ _ ∧ _ ∧ _ ∧ _) := Lib.hid ⟨ot6, hwt, hnew, hbo, hdis⟩
    have HK6 := Lib.hid k6.undrew
    have HW6 := Lib.hid hw6
    have HR6 := Lib.hid (HR5.out.keeps k6.undrew (by simp; omega))
    have hsl : ∃ q i c, ov = .slice q i c := by obtain ⟨cap, h⟩ := hwt.ov_; exact ⟨_, _, _, h⟩
    have HT6 := Lib.hid (quTakeNode m w2.heap.size at_ n (at_ + 1) 0 0 0 _ _ _ _ 0 0 80 { WSt.zero with under := 1, tasks := tt, outer := ov } w6 hw6 HR6.out (by omega) rfl rfl hsl hr)
    clear hw6 ot6 hwt hnew hbo hdis k6 hsl g0 g1 g2 g3 g4 g5 g6 g7 g8 g9 g10 g11 g12
    go_wp2_with fail
    refine HT6.out.mono ?_
    rintro e7 w7 ⟨rfl, hI⟩
    have HI := Lib.hid hI
    clear hI
    go_wp2
    first | go_end0 | refine bodyPost_ret (results_none rfl _ _ _) rfl ?_
    obtain ⟨b', S2, i1, i2, i3, i4, i5⟩ := HI.out
    obtain ⟨ot6, hwt, hnew, hbo, hdis⟩ := HHQ.out
    have kw2 : Keeps [] w w2 := HK0.out.trans HK2.out
    have zw2 := kw2.size
    have z5 := HK5.out.size
    have hp5 := HR5.out.lt
    have z6 := HK6.out.size
    have z7 := i5.size
    obtain ⟨hn1, hn2, hn3⟩ := hnew
    replace hn1 := Nat.le_trans (Nat.succ_le_of_lt hp5) hn1
    replace hn2 := Nat.le_trans (Nat.succ_le_of_lt hp5) hn2
    replace hn3 := Nat.le_trans (Nat.succ_le_of_lt hp5) hn3
    have hgl := hwt.row.lt
    have hol := hwt.wk.lt
    have hbl := hwt.box.lt
    have htl := fun y hy => ot6.lt y hy
    have otv := HO.out
    have htvl := fun y hy => otv.lt y hy
    have z0 := HK0.out.size
    have kall : Keeps [m] w w7 := (((kw2.trans HK5.out).nil.trans HK6.out).mono (T := [m, w2.heap.size]) (by simp) |>.trans i5).mono (by intro k hk hl; simp at hk; rcases hk with rfl | rfl; simp; omega)
    have k27 : Keeps [m] w2 w7 := ((HK5.out.nil.trans HK6.out).mono (T := [m, w2.heap.size]) (by simp) |>.trans i5).mono (by intro k hk hl; simp at hk; rcases hk with rfl | rfl; simp; omega)
    have ott : w7.ownsRow w.heap.size 49 1 tt l.length (ints .u64 l) := owns_base (owns_keeps ot6 i5 (fun y hy => by have := (htl y hy).1; have : w2.heap.size < _ := Nat.lt_of_lt_of_le hp5 this; simp; omega)) (Nat.le_trans zw2 z5)
    have hst : Sl w7 1 (.slice tvp l.length tvc) l.length (ints .u64 l) := (Sl.of_owns otv).but k27 (fun y hy => by have := (htvl y hy).1; simp; omega)
    have hseen : quWatch w7 m w2.heap.size g o bb ov := hwt.keeps i5 (by simp; omega) (by simp; omega) (by simp; omega)
    obtain ⟨t1, t2⟩ := arTake_ok hr.ar
    have hT : quPut at_ n l = ⟨at_, n, true, l, [], 0, 1, some (arTake (at_ + 2) n), 0, 0, 0, 0, 0, false, none⟩ := by
      have h1 : ¬ (¬ quRight at_ n ∨ l.length = 0) := fun h => h.elim (fun h => h hr) (fun h => by omega)
      simp only [quPut, if_neg h1, if_neg (show ¬ 300 < l.length by omega), quZero]
    rw [hT]
    refine ⟨rfl, GoesN.new (N := quNest) (K := arenaM) (J := quJ) (R := quE m) ⟨kall, tt, ov, .inr (.inl ⟨b', arTake (at_ + 2) n, S2, _, _, _, w2.heap.size :: g :: o :: bb :: (Value.slice tvp l.length tvc).ownBlock.toList, by simp [quNest], rfl, .inr ⟨by simp [quNest, quHeld]; omega, by simpa [quNest, quHeld] using ott⟩, i1, quInner m b', i2, fun y hy => ⟨?_, .inr (fun h => ?_), fun h => ?_⟩, fun _ => ⟨⟨hr, U0, U0, U0, U0, fun _ => ⟨few, hU, by simp, .inl ⟨_, rfl, t1, t2, rfl, by show 0 < l.length; omega, .inl ⟨rfl, rfl, rfl, rfl⟩⟩⟩, fun h => by cases h⟩, w2.heap.size, by simp, by simp [quFn], fun _ => ⟨_, _, _, _, _, _, _, ⟨i4, fun h => by simp at h, fun h => by simp at h, hst, fun y hy => ⟨?_, ?_⟩, fun _ => ⟨World.ownsRow_nil _ _ _ _, rfl⟩, fun h => absurd rfl h, fun y hy => (by cases hy), fun h => by simp at h, fun h => by simp at h, fun h => by simp at h, fun _ => ⟨fun y hy => (by cases hy), [g, o, bb], fun k hk => ⟨by simp at hk; rcases hk with rfl | rfl | rfl <;> simp, by simp [Value.ownBlock]⟩, g, o, bb, hseen, by simp, hbo, by omega, by omega, by omega⟩, g, o, bb, hseen, by simp, hbo, by omega, by omega, by omega⟩⟩, fun h => by cases h⟩, fun k hk => ?_, fun k hk => ?_⟩)⟩ HW.out (by simp) (by simp) (quRest m) ?_⟩
    · have := i3 y hy; omega
    · have := i3 y hy; have := (htl y h).2; omega
    · have hh := i3 y hy
      simp only [List.mem_cons, ownBlock_toList] at h
      rcases h with rfl | rfl | rfl | rfl | h
      · omega
      · omega
      · omega
      · omega
      · have := (htvl y h).2; omega
    · simp only [List.mem_cons, ownBlock_toList]; exact .inr (.inr (.inr (.inr hy)))
    · have := (htvl y hy).2; omega
    · simp only [List.mem_cons, ownBlock_toList] at hk
      rcases hk with rfl | rfl | rfl | rfl | h
      · omega
      · omega
      · omega
      · omega
      · have := (htvl k h).2; omega
    · simp only [List.mem_cons, ownBlock_toList] at hk
      rcases hk with rfl | rfl | rfl | rfl | h
      · exact ⟨by omega, .inr ⟨by omega, .inr (fun h => by have := (htl _ h).1; have : w2.heap.size < _ := Nat.lt_of_lt_of_le hp5 this; omega)⟩⟩
      · exact ⟨by omega, .inr ⟨by omega, .inr (fun h => (hdis _ h).1 rfl)⟩⟩
      · exact ⟨by omega, .inr ⟨by omega, .inr (fun h => (hdis _ h).2.1 rfl)⟩⟩
      · exact ⟨by omega, .inr ⟨by omega, .inr (fun h => (hdis _ h).2.2 rfl)⟩⟩
      · have h1 := htvl k h
        exact ⟨by omega, .inr ⟨by omega, .inr (fun h => by have := (htl _ h).1; have : w2.heap.size < _ := Nat.lt_of_lt_of_le hp5 this; omega)⟩⟩
    · rintro st2 ⟨_, _, _, _, _, h, -⟩
      simp [quNest] at h
end Go.Proofs.YtoomefclbemnlaaGreat
