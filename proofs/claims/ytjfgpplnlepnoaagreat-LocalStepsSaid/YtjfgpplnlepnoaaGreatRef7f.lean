import Derived.Test.YtjfgpplnlepnoaaGreatRef7
/-
  Contracts: what a document's frame of a deque wants (kind 2, steps 1, 2, 3).
-/
namespace Go.Proofs.YtjfgpplnlepnoaaGreat
set_option maxRecDepth 100000
set_option linter.unusedSimpArgs false
set_option linter.unusedVariables false
open Go.ChangeShapes Go.WideShapes Go.ChangeAt Go.RowKit

theorem dqAllocSizef (w : World) (o : Obj) : (w.alloc o).heap.size = w.heap.size + 1 := by simp
set_option maxHeartbeats 6400000 in
theorem refDq_want2a (p : Nat) (s : DqS) (w : World) (S : List Nat) (h : refDqJ p w S s) (hov : s.over = none) (hk : s.kind = 2) (hst : s.step = 1 ∨ s.step = 2 ∨ s.step = 3) :
    Calls Tryz.prog 95 #[.pointer (some ⟨p, 0, none⟩)] w fun e w' => e = .returned (.tuple #[((dequeM.want s).getD zacc).val, .bool (dequeM.want s).isSome]) ∧ Keeps [] w w' := by
  have hlt := h.2.1.lt
  obtain ⟨W0, hW0⟩ : ∃ W0, w.alloc (.cells #[.int .i64 0, .int .i64 0, .int .u64 0, .int .u64 0] 107) = W0 := ⟨_, rfl⟩
  have k0 : Keeps [] w W0 := by rw [← hW0]; exact (Keeps.refl _ _).alloc _
  have r0 : Row W0 w.heap.size 107 [.int .i64 0, .int .i64 0, .int .u64 0, .int .u64 0] := by rw [← hW0]; exact Row.new _ _ _
  have hrow := h.2.1.keeps k0 (by simp)
  obtain ⟨-, -, -, hg, u1, u2, u3, u4⟩ := h
  obtain ⟨at_, size, kind, task, step, b, t, vv, won0, over⟩ := s
  simp only at hov hk hst
  subst hov hk
  have c9 := hrow.cell (j := 9) rfl
  simp only at c9 hg u1 u2 u3 u4
  have q0 := r0.cell (j := 0) rfl
  have q1 := r0.cell (j := 1) rfl
  have q2 := r0.cell (j := 2) rfl
  have q3 := r0.cell (j := 3) rfl
  have e0 := r0.frozen 0
  have e1 := r0.frozen 1
  have e2 := r0.frozen 2
  have e3 := r0.frozen 3
  have hl0 := r0.lt
  have HRow := Lib.hid hrow
  have HK0 := Lib.hid k0
  have HR0 := Lib.hid r0
  clear hrow k0 r0
  obtain ⟨hr, -⟩ := hg trivial
  have hrr := hr
  obtain ⟨hs, a0, a1⟩ := hr
  have ha : at_ < 65536 := by omega
  have hs2 : 2 ≤ size ∧ size ≤ 256 := by omega
  try simp only [Option.isSome_none] at c9
  have HSl := Lib.hid (fun n W hn => refDqSlot_any at_ size n W hrr hn)
  have ub := u2.nn
  have ub1 := u2.lt
  have ut := u3.nn
  have ut1 := u3.lt
  have hb1 : IntKind.u64.wrap (b + 1) = dqUp b := rfl
  have ht1 : IntKind.u64.wrap (t + 1) = dqUp t := rfl
  clear hg hs
  have hrow0 := HRow.out
  have k0 := HK0.out
  have hrow1 := hrow0.alloc (.cells #[.int .i64 1, .int .i64 at_, .int .u64 0, .int .u64 0] 107)
  have hrow2 := hrow1.alloc (.cells #[.int .i64 1, .int .i64 (at_ + 1), .int .u64 0, .int .u64 0] 107)
  have c00 := hrow0.cell (j := 0) rfl
  have c10 := hrow1.cell (j := 0) rfl
  have c20 := hrow2.cell (j := 0) rfl
  have c25 := hrow2.cell (j := 5) rfl
  simp only at c00 c10 c20 c25
  have H1 := Lib.hid hrow1
  have H2 := Lib.hid hrow2
  clear hrow0 hrow1 hrow2 k0
  go_enter Tryz.func95, Tryz.ntmps95
  go_wp2
  obtain ⟨W2, hW2⟩ : ∃ W2, (W0.alloc (.cells #[.int .i64 1, .int .i64 at_, .int .u64 0, .int .u64 0] 107)).alloc (.cells #[.int .i64 1, .int .i64 (at_ + 1), .int .u64 0, .int .u64 0] 107) = W2 := ⟨_, rfl⟩
  rw [hW2] at c20 c25 H2
  rw [hW2]
  have k2 : Keeps [] w W2 := by rw [← hW2]; exact (HK0.out.alloc _).alloc _
  have b1 : Row W2 W0.heap.size 107 [.int .i64 1, .int .i64 at_, .int .u64 0, .int .u64 0] := by rw [← hW2]; exact (Row.new W0 _ _).alloc _
  have b2 : Row W2 (W0.heap.size + 1) 107 [.int .i64 1, .int .i64 (at_ + 1), .int .u64 0, .int .u64 0] := by
    rw [← hW2]
    have := Row.new (W0.alloc (.cells #[.int .i64 1, .int .i64 at_, .int .u64 0, .int .u64 0] 107)) #[.int .i64 1, .int .i64 (at_ + 1), .int .u64 0, .int .u64 0] 107
    rw [dqAllocSizef] at this
    exact this
  have r2 : Row W2 w.heap.size 107 [.int .i64 0, .int .i64 0, .int .u64 0, .int .u64 0] := by rw [← hW2]; exact (HR0.out.alloc _).alloc _
  have HR2 := Lib.hid r2
  clear r2
  have HB2 := Lib.hid (⟨k2, b1, b2⟩ : _ ∧ _ ∧ _)
  clear c00 c10 H1 k2 b1 b2
  have d0 := H2.out.alloc (.cells #[.int .i64 0, .int .i64 0, .int .u64 0, .int .u64 0] 107)
  have d00 := d0.cell (j := 0) rfl
  have d05 := d0.cell (j := 5) rfl
  simp only at d00 d05
  clear d0
  go_region
  obtain ⟨W3, hW3⟩ : ∃ W3, (W2.alloc (.cells #[.int .i64 2, .int .i64 (at_ + 1), .int .u64 (dqUp b), .int .u64 0] 107)).drew = W3 := ⟨_, rfl⟩
  rw [hW3]
  have K23 : Keeps [] W2 W3 := by rw [← hW3]; exact ((Keeps.refl _ _).alloc _).drew
  have hrow3 := H2.out.keeps K23 (by simp)
  have c30 := hrow3.cell (j := 0) rfl
  have c36 := hrow3.cell (j := 6) rfl
  have d0 := hrow3.alloc (.cells #[.int .i64 0, .int .i64 0, .int .u64 0, .int .u64 0] 107)
  have f00 := d0.cell (j := 0) rfl
  have f06 := d0.cell (j := 6) rfl
  simp only at c30 c36 f00 f06
  have H3 := Lib.hid hrow3
  have HK23 := Lib.hid K23
  clear d0 hrow3 K23 c20 c25 d00 d05
  go_wp2
  go_region
  obtain ⟨W4, hW4⟩ : ∃ W4, (W3.alloc (.cells #[.int .i64 3, .int .i64 at_, .int .u64 t, .int .u64 (dqUp t)] 107)).drew = W4 := ⟨_, rfl⟩
  rw [hW4]
  have K34 : Keeps [] W3 W4 := by rw [← hW4]; exact ((Keeps.refl _ _).alloc _).drew
  have hrow4 := H3.out.keeps K34 (by simp)
  have c42 := hrow4.cell (j := 2) rfl
  simp only at c42
  have H4 := Lib.hid hrow4
  have HK34 := Lib.hid K34
  have b3 : Row W3 W2.heap.size 107 [.int .i64 2, .int .i64 (at_ + 1), .int .u64 (dqUp b), .int .u64 0] := by rw [← hW3]; exact (Row.new W2 _ _).keeps (Keeps.refl [] _).drew (by simp)
  have b4 : Row W4 W3.heap.size 107 [.int .i64 3, .int .i64 at_, .int .u64 t, .int .u64 (dqUp t)] := by rw [← hW4]; exact (Row.new W3 _ _).keeps (Keeps.refl [] _).drew (by simp)
  have HB4 := Lib.hid (⟨((HB2.out.2.1.keeps HK23.out (by simp)).keeps K34 (by simp)), ((HB2.out.2.2.keeps HK23.out (by simp)).keeps K34 (by simp)), b3.keeps K34 (by simp), b4⟩ : _ ∧ _ ∧ _ ∧ _)
  have HR4 := Lib.hid ((HR2.out.keeps HK23.out (by simp)).keeps K34 (by simp))
  have HK4 := Lib.hid ((HB2.out.1.trans HK23.out).trans K34)
  clear hrow4 K34 b3 b4 c30 c36 f00 f06 HB2 HK23 HK34 H2 H3 hW2 hW3 hW4
  have c40 := H4.out.cell (j := 0) rfl
  have c41 := H4.out.cell (j := 1) rfl
  have c43 := H4.out.cell (j := 3) rfl
  have c44 := H4.out.cell (j := 4) rfl
  have c45 := H4.out.cell (j := 5) rfl
  have c46 := H4.out.cell (j := 6) rfl
  simp only at c40 c41 c43 c44 c45 c46
  have p10 := HB4.out.1.cell (j := 0) rfl
  have p11 := HB4.out.1.cell (j := 1) rfl
  have p12 := HB4.out.1.cell (j := 2) rfl
  have p13 := HB4.out.1.cell (j := 3) rfl
  have p20 := HB4.out.2.1.cell (j := 0) rfl
  have p21 := HB4.out.2.1.cell (j := 1) rfl
  have p22 := HB4.out.2.1.cell (j := 2) rfl
  have p23 := HB4.out.2.1.cell (j := 3) rfl
  have p30 := HB4.out.2.2.1.cell (j := 0) rfl
  have p31 := HB4.out.2.2.1.cell (j := 1) rfl
  have p32 := HB4.out.2.2.1.cell (j := 2) rfl
  have p33 := HB4.out.2.2.1.cell (j := 3) rfl
  have p40 := HB4.out.2.2.2.cell (j := 0) rfl
  have p41 := HB4.out.2.2.2.cell (j := 1) rfl
  have p42 := HB4.out.2.2.2.cell (j := 2) rfl
  have p43 := HB4.out.2.2.2.cell (j := 3) rfl
  go_wp2
  refine wp_region_mid 28 (by kernel_rfl) (by kernel_rfl) ?_
  simp only [List.take_succ_cons, List.take_zero, List.drop_succ_cons, List.drop_zero]
  repeat still_step
  still_call (stillOf (HSl.out _ _ u2))
  repeat still_step
  refine wpStill_nil ?_
  go_wp2
  show wpStill _ _ _ _ _ _
  repeat still_step
  refine wpStill_nil ?_
  obtain ⟨W5, hW5⟩ : ∃ W5, (W4.alloc (.cells #[.int .i64 1, .int .i64 (at_ + 1), .int .u64 0, .int .u64 0, .int .i64 2, .int .i64 (at_ + 1), .int .u64 b, .int .u64 0, .int .i64 1, .int .i64 at_, .int .u64 0, .int .u64 0, .int .i64 1, .int .i64 (dqSlot at_ size b), .int .u64 0, .int .u64 0, .int .i64 3, .int .i64 at_, .int .u64 t, .int .u64 (dqUp t), .int .i64 2, .int .i64 (at_ + 1), .int .u64 (dqUp b), .int .u64 0] 107)).drew = W5 := ⟨_, rfl⟩
  rw [hW5]
  have K45 : Keeps [] W4 W5 := by rw [← hW5]; exact ((Keeps.refl _ _).alloc _).drew
  have b5 : Row W5 W4.heap.size 107 [.int .i64 1, .int .i64 (at_ + 1), .int .u64 0, .int .u64 0, .int .i64 2, .int .i64 (at_ + 1), .int .u64 b, .int .u64 0, .int .i64 1, .int .i64 at_, .int .u64 0, .int .u64 0, .int .i64 1, .int .i64 (dqSlot at_ size b), .int .u64 0, .int .u64 0, .int .i64 3, .int .i64 at_, .int .u64 t, .int .u64 (dqUp t), .int .i64 2, .int .i64 (at_ + 1), .int .u64 (dqUp b), .int .u64 0] := by rw [← hW5]; exact (Row.new W4 _ _).keeps (Keeps.refl [] _).drew (by simp)
  have H5 := Lib.hid (H4.out.keeps K45 (by simp))
  have HB45 := Lib.hid (HB4.out.2.2.1.keeps K45 (by simp))
  have g4 := H5.out.cell (j := 4) rfl
  simp only at g4
  have HK5 := Lib.hid (HK4.out.trans K45)
  have r5 := (HR4.out.keeps K45 (by simp))
  have HB5 := Lib.hid b5
  have q50 := r5.cell (j := 0) rfl
  have q51 := r5.cell (j := 1) rfl
  have q52 := r5.cell (j := 2) rfl
  have q53 := r5.cell (j := 3) rfl
  have e50 := r5.frozen 0
  have e51 := r5.frozen 1
  have e52 := r5.frozen 2
  have e53 := r5.frozen 3
  have hl5 := r5.lt
  clear r5 b5 K45 hW5 q0 q1 q2 q3 e0 e1 e2 e3 HR4 c40 c41 c42 c43 c44 c45 c46 p10 p11 p12 p13 p20 p21 p22 p23 p30 p31 p32 p33 p40 p41 p42 p43 H4 HB4 HK4
  have g5 := H5.out.cell (j := 5) rfl
  have g6 := H5.out.cell (j := 6) rfl
  simp only at g5 g6
  have HA := Lib.hid (fun W => refDqAhead_any b t W u2 u3)
  rcases hst with rfl | rfl | rfl
  · have l0 := HB5.out.cell (j := 0) rfl
    have l1 := HB5.out.cell (j := 1) rfl
    have l2 := HB5.out.cell (j := 2) rfl
    have l3 := HB5.out.cell (j := 3) rfl
    go_wp2
    go_region
    go_wp2
    refine bodyPost_ret (v := .tuple #[.agg #[.int .i64 1, .int .i64 (at_ + 1), .int .u64 0, .int .u64 0], .bool true]) (by simp [results, Tryz.results95, go_sem, q50, q51, q52, q53]) rfl ⟨rfl, ?_⟩
    first
      | exact HK5.out.step (S := [w.heap.size]) (((((Keeps.refl _ _).set (by simp) _ _).set (by simp) _ _).set (by simp) _ _).set (by simp) _ _) (by simp)
      | exact HK5.out.drew.step (S := [w.heap.size]) (((((Keeps.refl _ _).set (by simp) _ _).set (by simp) _ _).set (by simp) _ _).set (by simp) _ _) (by simp)
  · have l0 := HB5.out.cell (j := 4) rfl
    have l1 := HB5.out.cell (j := 5) rfl
    have l2 := HB5.out.cell (j := 6) rfl
    have l3 := HB5.out.cell (j := 7) rfl
    go_wp2
    go_region
    go_wp2
    refine bodyPost_ret (v := .tuple #[.agg #[.int .i64 2, .int .i64 (at_ + 1), .int .u64 b, .int .u64 0], .bool true]) (by simp [results, Tryz.results95, go_sem, q50, q51, q52, q53]) rfl ⟨rfl, ?_⟩
    first
      | exact HK5.out.step (S := [w.heap.size]) (((((Keeps.refl _ _).set (by simp) _ _).set (by simp) _ _).set (by simp) _ _).set (by simp) _ _) (by simp)
      | exact HK5.out.drew.step (S := [w.heap.size]) (((((Keeps.refl _ _).set (by simp) _ _).set (by simp) _ _).set (by simp) _ _).set (by simp) _ _) (by simp)
  · have l0 := HB5.out.cell (j := 8) rfl
    have l1 := HB5.out.cell (j := 9) rfl
    have l2 := HB5.out.cell (j := 10) rfl
    have l3 := HB5.out.cell (j := 11) rfl
    go_wp2
    go_region
    go_wp2
    refine bodyPost_ret (v := .tuple #[.agg #[.int .i64 1, .int .i64 at_, .int .u64 0, .int .u64 0], .bool true]) (by simp [results, Tryz.results95, go_sem, q50, q51, q52, q53]) rfl ⟨rfl, ?_⟩
    first
      | exact HK5.out.step (S := [w.heap.size]) (((((Keeps.refl _ _).set (by simp) _ _).set (by simp) _ _).set (by simp) _ _).set (by simp) _ _) (by simp)
      | exact HK5.out.drew.step (S := [w.heap.size]) (((((Keeps.refl _ _).set (by simp) _ _).set (by simp) _ _).set (by simp) _ _).set (by simp) _ _) (by simp)
end Go.Proofs.YtjfgpplnlepnoaaGreat

/-
  Contracts: what a document's frame of a deque wants (kind 2, steps 4, 5, 6).
-/
namespace Go.Proofs.YtjfgpplnlepnoaaGreat
set_option maxRecDepth 100000
set_option linter.unusedSimpArgs false
set_option linter.unusedVariables false
open Go.ChangeShapes Go.WideShapes Go.ChangeAt Go.RowKit

theorem dqAllocSizeg (w : World) (o : Obj) : (w.alloc o).heap.size = w.heap.size + 1 := by simp
set_option maxHeartbeats 6400000 in
theorem refDq_want2b (p : Nat) (s : DqS) (w : World) (S : List Nat) (h : refDqJ p w S s) (hov : s.over = none) (hk : s.kind = 2) (hst : s.step = 4 ∨ s.step = 5 ∨ s.step = 6) :
    Calls Tryz.prog 95 #[.pointer (some ⟨p, 0, none⟩)] w fun e w' => e = .returned (.tuple #[((dequeM.want s).getD zacc).val, .bool (dequeM.want s).isSome]) ∧ Keeps [] w w' := by
  have hlt := h.2.1.lt
  obtain ⟨W0, hW0⟩ : ∃ W0, w.alloc (.cells #[.int .i64 0, .int .i64 0, .int .u64 0, .int .u64 0] 107) = W0 := ⟨_, rfl⟩
  have k0 : Keeps [] w W0 := by rw [← hW0]; exact (Keeps.refl _ _).alloc _
  have r0 : Row W0 w.heap.size 107 [.int .i64 0, .int .i64 0, .int .u64 0, .int .u64 0] := by rw [← hW0]; exact Row.new _ _ _
  have hrow := h.2.1.keeps k0 (by simp)
  obtain ⟨-, -, -, hg, u1, u2, u3, u4⟩ := h
  obtain ⟨at_, size, kind, task, step, b, t, vv, won0, over⟩ := s
  simp only at hov hk hst
  subst hov hk
  have c9 := hrow.cell (j := 9) rfl
  simp only at c9 hg u1 u2 u3 u4
  have q0 := r0.cell (j := 0) rfl
  have q1 := r0.cell (j := 1) rfl
  have q2 := r0.cell (j := 2) rfl
  have q3 := r0.cell (j := 3) rfl
  have e0 := r0.frozen 0
  have e1 := r0.frozen 1
  have e2 := r0.frozen 2
  have e3 := r0.frozen 3
  have hl0 := r0.lt
  have HRow := Lib.hid hrow
  have HK0 := Lib.hid k0
  have HR0 := Lib.hid r0
  clear hrow k0 r0
  obtain ⟨hr, -⟩ := hg trivial
  have hrr := hr
  obtain ⟨hs, a0, a1⟩ := hr
  have ha : at_ < 65536 := by omega
  have hs2 : 2 ≤ size ∧ size ≤ 256 := by omega
  try simp only [Option.isSome_none] at c9
  have HSl := Lib.hid (fun n W hn => refDqSlot_any at_ size n W hrr hn)
  have ub := u2.nn
  have ub1 := u2.lt
  have ut := u3.nn
  have ut1 := u3.lt
  have hb1 : IntKind.u64.wrap (b + 1) = dqUp b := rfl
  have ht1 : IntKind.u64.wrap (t + 1) = dqUp t := rfl
  clear hg hs
  have hrow0 := HRow.out
  have k0 := HK0.out
  have hrow1 := hrow0.alloc (.cells #[.int .i64 1, .int .i64 at_, .int .u64 0, .int .u64 0] 107)
  have hrow2 := hrow1.alloc (.cells #[.int .i64 1, .int .i64 (at_ + 1), .int .u64 0, .int .u64 0] 107)
  have c00 := hrow0.cell (j := 0) rfl
  have c10 := hrow1.cell (j := 0) rfl
  have c20 := hrow2.cell (j := 0) rfl
  have c25 := hrow2.cell (j := 5) rfl
  simp only at c00 c10 c20 c25
  have H1 := Lib.hid hrow1
  have H2 := Lib.hid hrow2
  clear hrow0 hrow1 hrow2 k0
  go_enter Tryz.func95, Tryz.ntmps95
  go_wp2
  obtain ⟨W2, hW2⟩ : ∃ W2, (W0.alloc (.cells #[.int .i64 1, .int .i64 at_, .int .u64 0, .int .u64 0] 107)).alloc (.cells #[.int .i64 1, .int .i64 (at_ + 1), .int .u64 0, .int .u64 0] 107) = W2 := ⟨_, rfl⟩
  rw [hW2] at c20 c25 H2
  rw [hW2]
  have k2 : Keeps [] w W2 := by rw [← hW2]; exact (HK0.out.alloc _).alloc _
  have b1 : Row W2 W0.heap.size 107 [.int .i64 1, .int .i64 at_, .int .u64 0, .int .u64 0] := by rw [← hW2]; exact (Row.new W0 _ _).alloc _
  have b2 : Row W2 (W0.heap.size + 1) 107 [.int .i64 1, .int .i64 (at_ + 1), .int .u64 0, .int .u64 0] := by
    rw [← hW2]
    have := Row.new (W0.alloc (.cells #[.int .i64 1, .int .i64 at_, .int .u64 0, .int .u64 0] 107)) #[.int .i64 1, .int .i64 (at_ + 1), .int .u64 0, .int .u64 0] 107
    rw [dqAllocSizeg] at this
    exact this
  have r2 : Row W2 w.heap.size 107 [.int .i64 0, .int .i64 0, .int .u64 0, .int .u64 0] := by rw [← hW2]; exact (HR0.out.alloc _).alloc _
  have HR2 := Lib.hid r2
  clear r2
  have HB2 := Lib.hid (⟨k2, b1, b2⟩ : _ ∧ _ ∧ _)
  clear c00 c10 H1 k2 b1 b2
  have d0 := H2.out.alloc (.cells #[.int .i64 0, .int .i64 0, .int .u64 0, .int .u64 0] 107)
  have d00 := d0.cell (j := 0) rfl
  have d05 := d0.cell (j := 5) rfl
  simp only at d00 d05
  clear d0
  go_region
  obtain ⟨W3, hW3⟩ : ∃ W3, (W2.alloc (.cells #[.int .i64 2, .int .i64 (at_ + 1), .int .u64 (dqUp b), .int .u64 0] 107)).drew = W3 := ⟨_, rfl⟩
  rw [hW3]
  have K23 : Keeps [] W2 W3 := by rw [← hW3]; exact ((Keeps.refl _ _).alloc _).drew
  have hrow3 := H2.out.keeps K23 (by simp)
  have c30 := hrow3.cell (j := 0) rfl
  have c36 := hrow3.cell (j := 6) rfl
  have d0 := hrow3.alloc (.cells #[.int .i64 0, .int .i64 0, .int .u64 0, .int .u64 0] 107)
  have f00 := d0.cell (j := 0) rfl
  have f06 := d0.cell (j := 6) rfl
  simp only at c30 c36 f00 f06
  have H3 := Lib.hid hrow3
  have HK23 := Lib.hid K23
  clear d0 hrow3 K23 c20 c25 d00 d05
  go_wp2
  go_region
  obtain ⟨W4, hW4⟩ : ∃ W4, (W3.alloc (.cells #[.int .i64 3, .int .i64 at_, .int .u64 t, .int .u64 (dqUp t)] 107)).drew = W4 := ⟨_, rfl⟩
  rw [hW4]
  have K34 : Keeps [] W3 W4 := by rw [← hW4]; exact ((Keeps.refl _ _).alloc _).drew
  have hrow4 := H3.out.keeps K34 (by simp)
  have c42 := hrow4.cell (j := 2) rfl
  simp only at c42
  have H4 := Lib.hid hrow4
  have HK34 := Lib.hid K34
  have b3 : Row W3 W2.heap.size 107 [.int .i64 2, .int .i64 (at_ + 1), .int .u64 (dqUp b), .int .u64 0] := by rw [← hW3]; exact (Row.new W2 _ _).keeps (Keeps.refl [] _).drew (by simp)
  have b4 : Row W4 W3.heap.size 107 [.int .i64 3, .int .i64 at_, .int .u64 t, .int .u64 (dqUp t)] := by rw [← hW4]; exact (Row.new W3 _ _).keeps (Keeps.refl [] _).drew (by simp)
  have HB4 := Lib.hid (⟨((HB2.out.2.1.keeps HK23.out (by simp)).keeps K34 (by simp)), ((HB2.out.2.2.keeps HK23.out (by simp)).keeps K34 (by simp)), b3.keeps K34 (by simp), b4⟩ : _ ∧ _ ∧ _ ∧ _)
  have HR4 := Lib.hid ((HR2.out.keeps HK23.out (by simp)).keeps K34 (by simp))
  have HK4 := Lib.hid ((HB2.out.1.trans HK23.out).trans K34)
  clear hrow4 K34 b3 b4 c30 c36 f00 f06 HB2 HK23 HK34 H2 H3 hW2 hW3 hW4
  have c40 := H4.out.cell (j := 0) rfl
  have c41 := H4.out.cell (j := 1) rfl
  have c43 := H4.out.cell (j := 3) rfl
  have c44 := H4.out.cell (j := 4) rfl
  have c45 := H4.out.cell (j := 5) rfl
  have c46 := H4.out.cell (j := 6) rfl
  simp only at c40 c41 c43 c44 c45 c46
  have p10 := HB4.out.1.cell (j := 0) rfl
  have p11 := HB4.out.1.cell (j := 1) rfl
  have p12 := HB4.out.1.cell (j := 2) rfl
  have p13 := HB4.out.1.cell (j := 3) rfl
  have p20 := HB4.out.2.1.cell (j := 0) rfl
  have p21 := HB4.out.2.1.cell (j := 1) rfl
  have p22 := HB4.out.2.1.cell (j := 2) rfl
  have p23 := HB4.out.2.1.cell (j := 3) rfl
  have p30 := HB4.out.2.2.1.cell (j := 0) rfl
  have p31 := HB4.out.2.2.1.cell (j := 1) rfl
  have p32 := HB4.out.2.2.1.cell (j := 2) rfl
  have p33 := HB4.out.2.2.1.cell (j := 3) rfl
  have p40 := HB4.out.2.2.2.cell (j := 0) rfl
  have p41 := HB4.out.2.2.2.cell (j := 1) rfl
  have p42 := HB4.out.2.2.2.cell (j := 2) rfl
  have p43 := HB4.out.2.2.2.cell (j := 3) rfl
  go_wp2
  refine wp_region_mid 28 (by kernel_rfl) (by kernel_rfl) ?_
  simp only [List.take_succ_cons, List.take_zero, List.drop_succ_cons, List.drop_zero]
  repeat still_step
  still_call (stillOf (HSl.out _ _ u2))
  repeat still_step
  refine wpStill_nil ?_
  go_wp2
  show wpStill _ _ _ _ _ _
  repeat still_step
  refine wpStill_nil ?_
  obtain ⟨W5, hW5⟩ : ∃ W5, (W4.alloc (.cells #[.int .i64 1, .int .i64 (at_ + 1), .int .u64 0, .int .u64 0, .int .i64 2, .int .i64 (at_ + 1), .int .u64 b, .int .u64 0, .int .i64 1, .int .i64 at_, .int .u64 0, .int .u64 0, .int .i64 1, .int .i64 (dqSlot at_ size b), .int .u64 0, .int .u64 0, .int .i64 3, .int .i64 at_, .int .u64 t, .int .u64 (dqUp t), .int .i64 2, .int .i64 (at_ + 1), .int .u64 (dqUp b), .int .u64 0] 107)).drew = W5 := ⟨_, rfl⟩
  rw [hW5]
  have K45 : Keeps [] W4 W5 := by rw [← hW5]; exact ((Keeps.refl _ _).alloc _).drew
  have b5 : Row W5 W4.heap.size 107 [.int .i64 1, .int .i64 (at_ + 1), .int .u64 0, .int .u64 0, .int .i64 2, .int .i64 (at_ + 1), .int .u64 b, .int .u64 0, .int .i64 1, .int .i64 at_, .int .u64 0, .int .u64 0, .int .i64 1, .int .i64 (dqSlot at_ size b), .int .u64 0, .int .u64 0, .int .i64 3, .int .i64 at_, .int .u64 t, .int .u64 (dqUp t), .int .i64 2, .int .i64 (at_ + 1), .int .u64 (dqUp b), .int .u64 0] := by rw [← hW5]; exact (Row.new W4 _ _).keeps (Keeps.refl [] _).drew (by simp)
  have H5 := Lib.hid (H4.out.keeps K45 (by simp))
  have HB45 := Lib.hid (HB4.out.2.2.1.keeps K45 (by simp))
  have g4 := H5.out.cell (j := 4) rfl
  simp only at g4
  have HK5 := Lib.hid (HK4.out.trans K45)
  have r5 := (HR4.out.keeps K45 (by simp))
  have HB5 := Lib.hid b5
  have q50 := r5.cell (j := 0) rfl
  have q51 := r5.cell (j := 1) rfl
  have q52 := r5.cell (j := 2) rfl
  have q53 := r5.cell (j := 3) rfl
  have e50 := r5.frozen 0
  have e51 := r5.frozen 1
  have e52 := r5.frozen 2
  have e53 := r5.frozen 3
  have hl5 := r5.lt
  clear r5 b5 K45 hW5 q0 q1 q2 q3 e0 e1 e2 e3 HR4 c40 c41 c42 c43 c44 c45 c46 p10 p11 p12 p13 p20 p21 p22 p23 p30 p31 p32 p33 p40 p41 p42 p43 H4 HB4 HK4
  have g5 := H5.out.cell (j := 5) rfl
  have g6 := H5.out.cell (j := 6) rfl
  simp only at g5 g6
  have HA := Lib.hid (fun W => refDqAhead_any b t W u2 u3)
  rcases hst with rfl | rfl | rfl
  · by_cases hA : dqAhead b t < 0
    · have hW : Hid (dequeM.want ⟨at_, size, 2, task, 4, b, t, vv, won0, none⟩ = some ⟨2, at_ + 1, dqUp b, 0⟩) := Lib.hid (by simp [dequeM, dqWant, hA])
      have d0 : decide (dqAhead b t < 0) = true := decide_eq_true hA
      have u0 := HB45.out.cell (j := 0) rfl
      have u1 := HB45.out.cell (j := 1) rfl
      have u2' := HB45.out.cell (j := 2) rfl
      have u3' := HB45.out.cell (j := 3) rfl
      go_wp2
      go_quiet ((go_at_call 115; exact qs (HA.out _)))
      go_wp2
      refine bodyPost_ret (v := .tuple #[.agg #[.int .i64 2, .int .i64 (at_ + 1), .int .u64 (dqUp b), .int .u64 0], .bool true]) (by simp [results, Tryz.results95, go_sem, q50, q51, q52, q53]) rfl ⟨by rw [hW.out]; rfl, ?_⟩
      exact HK5.out.drewN.step (S := [w.heap.size]) (((((Keeps.refl _ _).set (by simp) _ _).set (by simp) _ _).set (by simp) _ _).set (by simp) _ _) (by simp)
    · have hW : Hid (dequeM.want ⟨at_, size, 2, task, 4, b, t, vv, won0, none⟩ = some ⟨1, dqSlot at_ size b, 0, 0⟩) := Lib.hid (by simp [dequeM, dqWant, hA])
      have d0 : decide (dqAhead b t < 0) = false := decide_eq_false hA
      have l0 := HB5.out.cell (j := 12) rfl
      have l1 := HB5.out.cell (j := 13) rfl
      have l2 := HB5.out.cell (j := 14) rfl
      have l3 := HB5.out.cell (j := 15) rfl
      go_wp2
      go_quiet ((go_at_call 115; exact qs (HA.out _)))
      go_wp2
      refine bodyPost_ret (v := .tuple #[.agg #[.int .i64 1, .int .i64 (dqSlot at_ size b), .int .u64 0, .int .u64 0], .bool true]) (by simp [results, Tryz.results95, go_sem, q50, q51, q52, q53]) rfl ⟨by rw [hW.out]; rfl, ?_⟩
      exact HK5.out.drewN.step (S := [w.heap.size]) (((((Keeps.refl _ _).set (by simp) _ _).set (by simp) _ _).set (by simp) _ _).set (by simp) _ _) (by simp)
  · have l0 := HB5.out.cell (j := 16) rfl
    have l1 := HB5.out.cell (j := 17) rfl
    have l2 := HB5.out.cell (j := 18) rfl
    have l3 := HB5.out.cell (j := 19) rfl
    go_wp2
    go_region
    go_wp2
    refine bodyPost_ret (v := .tuple #[.agg #[.int .i64 3, .int .i64 at_, .int .u64 t, .int .u64 (dqUp t)], .bool true]) (by simp [results, Tryz.results95, go_sem, q50, q51, q52, q53]) rfl ⟨rfl, ?_⟩
    first
      | exact HK5.out.step (S := [w.heap.size]) (((((Keeps.refl _ _).set (by simp) _ _).set (by simp) _ _).set (by simp) _ _).set (by simp) _ _) (by simp)
      | exact HK5.out.drew.step (S := [w.heap.size]) (((((Keeps.refl _ _).set (by simp) _ _).set (by simp) _ _).set (by simp) _ _).set (by simp) _ _) (by simp)
  · have l0 := HB5.out.cell (j := 20) rfl
    have l1 := HB5.out.cell (j := 21) rfl
    have l2 := HB5.out.cell (j := 22) rfl
    have l3 := HB5.out.cell (j := 23) rfl
    go_wp2
    go_region
    go_wp2
    refine bodyPost_ret (v := .tuple #[.agg #[.int .i64 2, .int .i64 (at_ + 1), .int .u64 (dqUp b), .int .u64 0], .bool true]) (by simp [results, Tryz.results95, go_sem, q50, q51, q52, q53]) rfl ⟨rfl, ?_⟩
    first
      | exact HK5.out.step (S := [w.heap.size]) (((((Keeps.refl _ _).set (by simp) _ _).set (by simp) _ _).set (by simp) _ _).set (by simp) _ _) (by simp)
      | exact HK5.out.drew.step (S := [w.heap.size]) (((((Keeps.refl _ _).set (by simp) _ _).set (by simp) _ _).set (by simp) _ _).set (by simp) _ _) (by simp)
end Go.Proofs.YtjfgpplnlepnoaaGreat
