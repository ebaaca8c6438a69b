import Derived.Test.YtjfgpplnlepnoaaGreatRef8
/-
  Contracts: what a document's frame of a ring wants (written by wip/tools/rfgen.py).
-/
namespace Go.Proofs.YtjfgpplnlepnoaaGreat
set_option maxRecDepth 100000
set_option linter.unusedSimpArgs false
set_option linter.unusedVariables false
open Go.ChangeShapes Go.WideShapes Go.ChangeAt Go.RowKit

set_option maxHeartbeats 3200000 in
theorem rfPop1 (q : Nat) (at_ size task target hd t u n k : Int) (took : List Int) (tk l : Value) (dn : Bool) (c v : Int) (w : World) (h : Row w q 155 (rfCells ⟨at_, size, 2, task, target, 1, hd, t, u, n, k, took, none⟩ tk dn c v l))  :
    Calls Tryz.prog 147 #[.pointer (some ⟨q, 0, none⟩)] w fun e w' => e = .returned (.agg #[.int .i64 1, .int .i64 at_, .int .u64 0, .int .u64 0]) ∧ Keeps [] w w' := by
  have hlt := h.lt
  obtain ⟨W0, hW0⟩ : ∃ W0, w.alloc (.cells #[.int .i64 0, .int .i64 0, .int .u64 0, .int .u64 0] 107) = W0 := ⟨_, rfl⟩
  have k0 : Keeps [] w W0 := by rw [← hW0]; exact (Keeps.refl _ _).alloc _
  have r0 : Row W0 w.heap.size 107 [.int .i64 0, .int .i64 0, .int .u64 0, .int .u64 0] := by rw [← hW0]; exact Row.new _ _ _
  have hrow0 := h.keeps k0 (by simp)
  have c0 := hrow0.cell (j := 0) (u := .int .i64 at_) rfl
  have c1 := hrow0.cell (j := 1) (u := .int .i64 size) rfl
  have c2 := hrow0.cell (j := 2) (u := .int .i64 2) rfl
  have c3 := hrow0.cell (j := 3) (u := .int .u64 task) rfl
  have c4 := hrow0.cell (j := 4) (u := .int .i64 target) rfl
  have c5 := hrow0.cell (j := 5) (u := .int .i64 1) rfl
  have c6 := hrow0.cell (j := 6) (u := .int .u64 hd) rfl
  have c7 := hrow0.cell (j := 7) (u := .int .u32 t) rfl
  have c8 := hrow0.cell (j := 8) (u := .int .u32 u) rfl
  have c9 := hrow0.cell (j := 9) (u := .int .i64 n) rfl
  have c10 := hrow0.cell (j := 10) (u := .int .i64 k) rfl
  have HK0 := Lib.hid k0
  have HR0 := Lib.hid r0
  have HRow := Lib.hid hrow0
  have HL := Lib.hid (fun x W => rfLoad_any x W)
  clear h hrow0 k0 r0
  go_enter Tryz.func147, Tryz.ntmps147
  go_wp2_with fail
  refine (HL.out _ _).mono ?_
  rintro e w1 ⟨rfl, k1⟩
  have hr1 := HR0.out.keeps (k1) (by simp)
  have p0 := hr1.cell (j := 0) rfl
  have p1 := hr1.cell (j := 1) rfl
  have p2 := hr1.cell (j := 2) rfl
  have p3 := hr1.cell (j := 3) rfl
  have f0 := hr1.frozen 0
  have f1 := hr1.frozen 1
  have f2 := hr1.frozen 2
  have f3 := hr1.frozen 3
  have hl1 := hr1.lt
  have HK1 := Lib.hid (HK0.out.trans (k1))
  clear k1 hr1
  go_wp2
  refine bodyPost_ret (v := .agg #[.int .i64 1, .int .i64 at_, .int .u64 0, .int .u64 0]) (by simp [results, Tryz.results147, go_sem, p0, p1, p2, p3]) rfl ⟨rfl, ?_⟩
  exact HK1.out.step (S := [w.heap.size]) (((((Keeps.refl _ _).set (by simp) _ _).set (by simp) _ _).set (by simp) _ _).set (by simp) _ _) (by simp)

set_option maxHeartbeats 3200000 in
theorem rfPop2 (q : Nat) (at_ size task target hd t u n k : Int) (took : List Int) (tk l : Value) (dn : Bool) (c v : Int) (w : World) (h : Row w q 155 (rfCells ⟨at_, size, 2, task, target, 2, hd, t, u, n, k, took, none⟩ tk dn c v l)) (a0 : 0 ≤ at_) (a1 : at_ < 65536) :
    Calls Tryz.prog 147 #[.pointer (some ⟨q, 0, none⟩)] w fun e w' => e = .returned (.agg #[.int .i64 1, .int .i64 (at_ + 1), .int .u64 0, .int .u64 0]) ∧ Keeps [] w w' := by
  have hlt := h.lt
  obtain ⟨W0, hW0⟩ : ∃ W0, w.alloc (.cells #[.int .i64 0, .int .i64 0, .int .u64 0, .int .u64 0] 107) = W0 := ⟨_, rfl⟩
  have k0 : Keeps [] w W0 := by rw [← hW0]; exact (Keeps.refl _ _).alloc _
  have r0 : Row W0 w.heap.size 107 [.int .i64 0, .int .i64 0, .int .u64 0, .int .u64 0] := by rw [← hW0]; exact Row.new _ _ _
  have hrow0 := h.keeps k0 (by simp)
  have c0 := hrow0.cell (j := 0) (u := .int .i64 at_) rfl
  have c1 := hrow0.cell (j := 1) (u := .int .i64 size) rfl
  have c2 := hrow0.cell (j := 2) (u := .int .i64 2) rfl
  have c3 := hrow0.cell (j := 3) (u := .int .u64 task) rfl
  have c4 := hrow0.cell (j := 4) (u := .int .i64 target) rfl
  have c5 := hrow0.cell (j := 5) (u := .int .i64 2) rfl
  have c6 := hrow0.cell (j := 6) (u := .int .u64 hd) rfl
  have c7 := hrow0.cell (j := 7) (u := .int .u32 t) rfl
  have c8 := hrow0.cell (j := 8) (u := .int .u32 u) rfl
  have c9 := hrow0.cell (j := 9) (u := .int .i64 n) rfl
  have c10 := hrow0.cell (j := 10) (u := .int .i64 k) rfl
  have HK0 := Lib.hid k0
  have HR0 := Lib.hid r0
  have HRow := Lib.hid hrow0
  have HL := Lib.hid (fun x W => rfLoad_any x W)
  clear h hrow0 k0 r0
  go_enter Tryz.func147, Tryz.ntmps147
  go_wp2_with fail
  refine (HL.out _ _).mono ?_
  rintro e w1 ⟨rfl, k1⟩
  have hr1 := HR0.out.keeps (k1) (by simp)
  have p0 := hr1.cell (j := 0) rfl
  have p1 := hr1.cell (j := 1) rfl
  have p2 := hr1.cell (j := 2) rfl
  have p3 := hr1.cell (j := 3) rfl
  have f0 := hr1.frozen 0
  have f1 := hr1.frozen 1
  have f2 := hr1.frozen 2
  have f3 := hr1.frozen 3
  have hl1 := hr1.lt
  have HK1 := Lib.hid (HK0.out.trans (k1))
  clear k1 hr1
  go_wp2
  refine bodyPost_ret (v := .agg #[.int .i64 1, .int .i64 (at_ + 1), .int .u64 0, .int .u64 0]) (by simp [results, Tryz.results147, go_sem, p0, p1, p2, p3]) rfl ⟨rfl, ?_⟩
  exact HK1.out.step (S := [w.heap.size]) (((((Keeps.refl _ _).set (by simp) _ _).set (by simp) _ _).set (by simp) _ _).set (by simp) _ _) (by simp)

set_option maxHeartbeats 3200000 in
theorem rfPop4 (q : Nat) (at_ size task target hd t u n k : Int) (took : List Int) (tk l : Value) (dn : Bool) (c v : Int) (w : World) (h : Row w q 155 (rfCells ⟨at_, size, 2, task, target, 4, hd, t, u, n, k, took, none⟩ tk dn c v l)) (hr : dqRight at_ size)(hu : M.U hd) :
    Calls Tryz.prog 147 #[.pointer (some ⟨q, 0, none⟩)] w fun e w' => e = .returned (.agg #[.int .i64 1, .int .i64 (dqSlot at_ size (rgLo hd)), .int .u64 0, .int .u64 0]) ∧ Keeps [] w w' := by
  have hlt := h.lt
  obtain ⟨W0, hW0⟩ : ∃ W0, w.alloc (.cells #[.int .i64 0, .int .i64 0, .int .u64 0, .int .u64 0] 107) = W0 := ⟨_, rfl⟩
  have k0 : Keeps [] w W0 := by rw [← hW0]; exact (Keeps.refl _ _).alloc _
  have r0 : Row W0 w.heap.size 107 [.int .i64 0, .int .i64 0, .int .u64 0, .int .u64 0] := by rw [← hW0]; exact Row.new _ _ _
  have hrow0 := h.keeps k0 (by simp)
  have c0 := hrow0.cell (j := 0) (u := .int .i64 at_) rfl
  have c1 := hrow0.cell (j := 1) (u := .int .i64 size) rfl
  have c2 := hrow0.cell (j := 2) (u := .int .i64 2) rfl
  have c3 := hrow0.cell (j := 3) (u := .int .u64 task) rfl
  have c4 := hrow0.cell (j := 4) (u := .int .i64 target) rfl
  have c5 := hrow0.cell (j := 5) (u := .int .i64 4) rfl
  have c6 := hrow0.cell (j := 6) (u := .int .u64 hd) rfl
  have c7 := hrow0.cell (j := 7) (u := .int .u32 t) rfl
  have c8 := hrow0.cell (j := 8) (u := .int .u32 u) rfl
  have c9 := hrow0.cell (j := 9) (u := .int .i64 n) rfl
  have c10 := hrow0.cell (j := 10) (u := .int .i64 k) rfl
  have HK0 := Lib.hid k0
  have HR0 := Lib.hid r0
  have HRow := Lib.hid hrow0
  have HL := Lib.hid (fun x W => rfLoad_any x W)
  have hrowD := hrow0.keeps (Keeps.refl [] W0).drew (by simp)
  have HA := Lib.hid (rfAt_any q _ _ _ _ _ _ W0.drew hrowD hu)
  have HS := Lib.hid (rfS_any q _ _ _ _ _ _ W0.drew hrowD hu)
  have HSl := Lib.hid (rfSlot_any q _ _ _ _ _ _ at_ (rgLo hd) W0.drew hrowD hr (rgLo_range hd))
  have HQ : Hid (∀ W S, Keeps S W0 W → q ∉ S → W.cell? ⟨q, 0, none⟩ = some (.int .i64 at_) ∧ W.cell? ⟨q, 1, none⟩ = some (.int .i64 size) ∧ W.cell? ⟨q, 2, none⟩ = some (.int .i64 2) ∧ W.cell? ⟨q, 3, none⟩ = some (.int .u64 task) ∧ W.cell? ⟨q, 4, none⟩ = some (.int .i64 target) ∧ W.cell? ⟨q, 5, none⟩ = some (.int .i64 4) ∧ W.cell? ⟨q, 6, none⟩ = some (.int .u64 hd) ∧ W.cell? ⟨q, 7, none⟩ = some (.int .u32 t) ∧ W.cell? ⟨q, 8, none⟩ = some (.int .u32 u) ∧ W.cell? ⟨q, 9, none⟩ = some (.int .i64 n) ∧ W.cell? ⟨q, 10, none⟩ = some (.int .i64 k)) := Lib.hid (fun W S hk hq => by
    have hh := hrow0.keeps hk hq
    exact ⟨hh.cell (j := 0) rfl, hh.cell (j := 1) rfl, hh.cell (j := 2) rfl, hh.cell (j := 3) rfl, hh.cell (j := 4) rfl, hh.cell (j := 5) rfl, hh.cell (j := 6) rfl, hh.cell (j := 7) rfl, hh.cell (j := 8) rfl, hh.cell (j := 9) rfl, hh.cell (j := 10) rfl⟩)
  clear h hrow0 k0 r0 hrowD
  go_enter Tryz.func147, Tryz.ntmps147
  go_wp2
  go_region_held3 (fun w' => w'.cell? ⟨q, 0, none⟩ = some (.int .i64 at_) ∧ w'.cell? ⟨q, 1, none⟩ = some (.int .i64 size) ∧ w'.cell? ⟨q, 2, none⟩ = some (.int .i64 2) ∧ w'.cell? ⟨q, 3, none⟩ = some (.int .u64 task) ∧ w'.cell? ⟨q, 4, none⟩ = some (.int .i64 target) ∧ w'.cell? ⟨q, 5, none⟩ = some (.int .i64 4) ∧ w'.cell? ⟨q, 6, none⟩ = some (.int .u64 hd) ∧ w'.cell? ⟨q, 7, none⟩ = some (.int .u32 t) ∧ w'.cell? ⟨q, 8, none⟩ = some (.int .u32 u) ∧ w'.cell? ⟨q, 9, none⟩ = some (.int .i64 n) ∧ w'.cell? ⟨q, 10, none⟩ = some (.int .i64 k))
    (first
      | exact HQ.out _ [w.heap.size] ((((((hk1.mono (by simp)).set (by simp) _ _).set (by simp) _ _).set (by simp) _ _).set (by simp) _ _)) (by simp; omega)
      | exact HQ.out _ _ hk1 (by simp)
      | exact HQ.out _ _ (Keeps.refl [] W0).drew (by simp)
      | exact ⟨by assumption, by assumption, by assumption, by assumption, by assumption, by assumption, by assumption, by assumption, by assumption, by assumption, by assumption⟩
      | fail)
    (first
      | (go_at_call 189; refine (HA.out).mono ?_; rintro e w2 ⟨rfl, rfl⟩)
      | (go_at_call 187; refine (HSl.out).mono ?_; rintro e w2 ⟨rfl, rfl⟩)
      | (go_at_call 185; refine (HL.out _ _).mono ?_; rintro e w1 ⟨rfl, k1⟩; have hk1 : Keeps [] W0 w1 := k1.undrew; have hr1 := HR0.out.keeps hk1 (by simp); have p0 := hr1.cell (j := 0) rfl; have p1 := hr1.cell (j := 1) rfl; have p2 := hr1.cell (j := 2) rfl; have p3 := hr1.cell (j := 3) rfl; have f0 := hr1.frozen 0; have f1 := hr1.frozen 1; have f2 := hr1.frozen 2; have f3 := hr1.frozen 3; have hl1 := hr1.lt)
      | fail)
  all_goals (have HK1 := Lib.hid (HK0.out.trans hk1))
  all_goals (try go_wp2)
  all_goals (refine bodyPost_ret (v := .agg #[.int .i64 1, .int .i64 (dqSlot at_ size (rgLo hd)), .int .u64 0, .int .u64 0]) (by simp [results, Tryz.results147, go_sem, p0, p1, p2, p3]) rfl ⟨rfl, ?_⟩)
  all_goals exact HK1.out.step (S := [w.heap.size]) (((((Keeps.refl _ _).set (by simp) _ _).set (by simp) _ _).set (by simp) _ _).set (by simp) _ _) (by simp)

set_option maxHeartbeats 3200000 in
theorem rfPush1 (q : Nat) (at_ size task target hd t u n k : Int) (took : List Int) (tk l : Value) (dn : Bool) (c v : Int) (w : World) (h : Row w q 155 (rfCells ⟨at_, size, 1, task, target, 1, hd, t, u, n, k, took, none⟩ tk dn c v l)) (hs2 : 2 ≤ size ∧ size ≤ 256) :
    Calls Tryz.prog 146 #[.pointer (some ⟨q, 0, none⟩)] w fun e w' => e = .returned (.agg #[.int .i64 1, .int .i64 at_, .int .u64 0, .int .u64 0]) ∧ Keeps [] w w' := by
  have hlt := h.lt
  obtain ⟨W0, hW0⟩ : ∃ W0, w.alloc (.cells #[.int .i64 0, .int .i64 0, .int .u64 0, .int .u64 0] 107) = W0 := ⟨_, rfl⟩
  have k0 : Keeps [] w W0 := by rw [← hW0]; exact (Keeps.refl _ _).alloc _
  have r0 : Row W0 w.heap.size 107 [.int .i64 0, .int .i64 0, .int .u64 0, .int .u64 0] := by rw [← hW0]; exact Row.new _ _ _
  have hrow0 := h.keeps k0 (by simp)
  have c0 := hrow0.cell (j := 0) (u := .int .i64 at_) rfl
  have c1 := hrow0.cell (j := 1) (u := .int .i64 size) rfl
  have c2 := hrow0.cell (j := 2) (u := .int .i64 1) rfl
  have c3 := hrow0.cell (j := 3) (u := .int .u64 task) rfl
  have c4 := hrow0.cell (j := 4) (u := .int .i64 target) rfl
  have c5 := hrow0.cell (j := 5) (u := .int .i64 1) rfl
  have c6 := hrow0.cell (j := 6) (u := .int .u64 hd) rfl
  have c7 := hrow0.cell (j := 7) (u := .int .u32 t) rfl
  have c8 := hrow0.cell (j := 8) (u := .int .u32 u) rfl
  have c9 := hrow0.cell (j := 9) (u := .int .i64 n) rfl
  have c10 := hrow0.cell (j := 10) (u := .int .i64 k) rfl
  have HK0 := Lib.hid k0
  have HR0 := Lib.hid r0
  have HRow := Lib.hid hrow0
  have HL := Lib.hid (fun x W => rfLoad_any x W)
  have hhalf : wrap64 (size.tdiv 2) % 4294967296 = size / 2 := by rw [Int.tdiv_eq_ediv_of_nonneg (by omega)]; unfold wrap64; omega
  clear h hrow0 k0 r0
  go_enter Tryz.func146, Tryz.ntmps146
  go_wp2_with fail
  refine (HL.out _ _).mono ?_
  rintro e w1 ⟨rfl, k1⟩
  have hr1 := HR0.out.keeps (k1) (by simp)
  have p0 := hr1.cell (j := 0) rfl
  have p1 := hr1.cell (j := 1) rfl
  have p2 := hr1.cell (j := 2) rfl
  have p3 := hr1.cell (j := 3) rfl
  have f0 := hr1.frozen 0
  have f1 := hr1.frozen 1
  have f2 := hr1.frozen 2
  have f3 := hr1.frozen 3
  have hl1 := hr1.lt
  have HK1 := Lib.hid (HK0.out.trans (k1))
  clear k1 hr1
  go_wp2
  refine bodyPost_ret (v := .agg #[.int .i64 1, .int .i64 at_, .int .u64 0, .int .u64 0]) (by simp [results, Tryz.results146, go_sem, p0, p1, p2, p3]) rfl ⟨rfl, ?_⟩
  exact HK1.out.step (S := [w.heap.size]) (((((Keeps.refl _ _).set (by simp) _ _).set (by simp) _ _).set (by simp) _ _).set (by simp) _ _) (by simp)

set_option maxHeartbeats 3200000 in
theorem rfPush2 (q : Nat) (at_ size task target hd t u n k : Int) (took : List Int) (tk l : Value) (dn : Bool) (c v : Int) (w : World) (h : Row w q 155 (rfCells ⟨at_, size, 1, task, target, 2, hd, t, u, n, k, took, none⟩ tk dn c v l)) (a0 : 0 ≤ at_) (a1 : at_ < 65536)(hs2 : 2 ≤ size ∧ size ≤ 256) :
    Calls Tryz.prog 146 #[.pointer (some ⟨q, 0, none⟩)] w fun e w' => e = .returned (.agg #[.int .i64 1, .int .i64 (at_ + 1), .int .u64 0, .int .u64 0]) ∧ Keeps [] w w' := by
  have hlt := h.lt
  obtain ⟨W0, hW0⟩ : ∃ W0, w.alloc (.cells #[.int .i64 0, .int .i64 0, .int .u64 0, .int .u64 0] 107) = W0 := ⟨_, rfl⟩
  have k0 : Keeps [] w W0 := by rw [← hW0]; exact (Keeps.refl _ _).alloc _
  have r0 : Row W0 w.heap.size 107 [.int .i64 0, .int .i64 0, .int .u64 0, .int .u64 0] := by rw [← hW0]; exact Row.new _ _ _
  have hrow0 := h.keeps k0 (by simp)
  have c0 := hrow0.cell (j := 0) (u := .int .i64 at_) rfl
  have c1 := hrow0.cell (j := 1) (u := .int .i64 size) rfl
  have c2 := hrow0.cell (j := 2) (u := .int .i64 1) rfl
  have c3 := hrow0.cell (j := 3) (u := .int .u64 task) rfl
  have c4 := hrow0.cell (j := 4) (u := .int .i64 target) rfl
  have c5 := hrow0.cell (j := 5) (u := .int .i64 2) rfl
  have c6 := hrow0.cell (j := 6) (u := .int .u64 hd) rfl
  have c7 := hrow0.cell (j := 7) (u := .int .u32 t) rfl
  have c8 := hrow0.cell (j := 8) (u := .int .u32 u) rfl
  have c9 := hrow0.cell (j := 9) (u := .int .i64 n) rfl
  have c10 := hrow0.cell (j := 10) (u := .int .i64 k) rfl
  have HK0 := Lib.hid k0
  have HR0 := Lib.hid r0
  have HRow := Lib.hid hrow0
  have HL := Lib.hid (fun x W => rfLoad_any x W)
  have hhalf : wrap64 (size.tdiv 2) % 4294967296 = size / 2 := by rw [Int.tdiv_eq_ediv_of_nonneg (by omega)]; unfold wrap64; omega
  clear h hrow0 k0 r0
  go_enter Tryz.func146, Tryz.ntmps146
  go_wp2_with fail
  refine (HL.out _ _).mono ?_
  rintro e w1 ⟨rfl, k1⟩
  have hr1 := HR0.out.keeps (k1) (by simp)
  have p0 := hr1.cell (j := 0) rfl
  have p1 := hr1.cell (j := 1) rfl
  have p2 := hr1.cell (j := 2) rfl
  have p3 := hr1.cell (j := 3) rfl
  have f0 := hr1.frozen 0
  have f1 := hr1.frozen 1
  have f2 := hr1.frozen 2
  have f3 := hr1.frozen 3
  have hl1 := hr1.lt
  have HK1 := Lib.hid (HK0.out.trans (k1))
  clear k1 hr1
  go_wp2
  refine bodyPost_ret (v := .agg #[.int .i64 1, .int .i64 (at_ + 1), .int .u64 0, .int .u64 0]) (by simp [results, Tryz.results146, go_sem, p0, p1, p2, p3]) rfl ⟨rfl, ?_⟩
  exact HK1.out.step (S := [w.heap.size]) (((((Keeps.refl _ _).set (by simp) _ _).set (by simp) _ _).set (by simp) _ _).set (by simp) _ _) (by simp)

set_option maxHeartbeats 3200000 in
theorem rfPush3 (q : Nat) (at_ size task target hd t u n k : Int) (took : List Int) (tk l : Value) (dn : Bool) (c v : Int) (w : World) (h : Row w q 155 (rfCells ⟨at_, size, 1, task, target, 3, hd, t, u, n, k, took, none⟩ tk dn c v l)) (hr : dqRight at_ size)(ht : W32 t)(hs2 : 2 ≤ size ∧ size ≤ 256) :
    Calls Tryz.prog 146 #[.pointer (some ⟨q, 0, none⟩)] w fun e w' => e = .returned (.agg #[.int .i64 2, .int .i64 (dqSlot at_ size t), .int .u64 task, .int .u64 0]) ∧ Keeps [] w w' := by
  have hlt := h.lt
  obtain ⟨W0, hW0⟩ : ∃ W0, w.alloc (.cells #[.int .i64 0, .int .i64 0, .int .u64 0, .int .u64 0] 107) = W0 := ⟨_, rfl⟩
  have k0 : Keeps [] w W0 := by rw [← hW0]; exact (Keeps.refl _ _).alloc _
  have r0 : Row W0 w.heap.size 107 [.int .i64 0, .int .i64 0, .int .u64 0, .int .u64 0] := by rw [← hW0]; exact Row.new _ _ _
  have hrow0 := h.keeps k0 (by simp)
  have c0 := hrow0.cell (j := 0) (u := .int .i64 at_) rfl
  have c1 := hrow0.cell (j := 1) (u := .int .i64 size) rfl
  have c2 := hrow0.cell (j := 2) (u := .int .i64 1) rfl
  have c3 := hrow0.cell (j := 3) (u := .int .u64 task) rfl
  have c4 := hrow0.cell (j := 4) (u := .int .i64 target) rfl
  have c5 := hrow0.cell (j := 5) (u := .int .i64 3) rfl
  have c6 := hrow0.cell (j := 6) (u := .int .u64 hd) rfl
  have c7 := hrow0.cell (j := 7) (u := .int .u32 t) rfl
  have c8 := hrow0.cell (j := 8) (u := .int .u32 u) rfl
  have c9 := hrow0.cell (j := 9) (u := .int .i64 n) rfl
  have c10 := hrow0.cell (j := 10) (u := .int .i64 k) rfl
  have HK0 := Lib.hid k0
  have HR0 := Lib.hid r0
  have HRow := Lib.hid hrow0
  have HL := Lib.hid (fun x W => rfLoad_any x W)
  have hhalf : wrap64 (size.tdiv 2) % 4294967296 = size / 2 := by rw [Int.tdiv_eq_ediv_of_nonneg (by omega)]; unfold wrap64; omega
  have hrowD := hrow0.keeps (Keeps.refl [] W0).drew (by simp)
  have HSt := Lib.hid (fun x v W => rfStore_any x v W)
  have HSl := Lib.hid (rfSlot_any q _ _ _ _ _ _ at_ t W0.drew hrowD hr ht)
  have HQ : Hid (∀ W S, Keeps S W0 W → q ∉ S → W.cell? ⟨q, 0, none⟩ = some (.int .i64 at_) ∧ W.cell? ⟨q, 1, none⟩ = some (.int .i64 size) ∧ W.cell? ⟨q, 2, none⟩ = some (.int .i64 1) ∧ W.cell? ⟨q, 3, none⟩ = some (.int .u64 task) ∧ W.cell? ⟨q, 4, none⟩ = some (.int .i64 target) ∧ W.cell? ⟨q, 5, none⟩ = some (.int .i64 3) ∧ W.cell? ⟨q, 6, none⟩ = some (.int .u64 hd) ∧ W.cell? ⟨q, 7, none⟩ = some (.int .u32 t) ∧ W.cell? ⟨q, 8, none⟩ = some (.int .u32 u) ∧ W.cell? ⟨q, 9, none⟩ = some (.int .i64 n) ∧ W.cell? ⟨q, 10, none⟩ = some (.int .i64 k)) := Lib.hid (fun W S hk hq => by
    have hh := hrow0.keeps hk hq
    exact ⟨hh.cell (j := 0) rfl, hh.cell (j := 1) rfl, hh.cell (j := 2) rfl, hh.cell (j := 3) rfl, hh.cell (j := 4) rfl, hh.cell (j := 5) rfl, hh.cell (j := 6) rfl, hh.cell (j := 7) rfl, hh.cell (j := 8) rfl, hh.cell (j := 9) rfl, hh.cell (j := 10) rfl⟩)
  clear h hrow0 k0 r0 hrowD
  go_enter Tryz.func146, Tryz.ntmps146
  go_wp2
  go_region_held3 (fun w' => w'.cell? ⟨q, 0, none⟩ = some (.int .i64 at_) ∧ w'.cell? ⟨q, 1, none⟩ = some (.int .i64 size) ∧ w'.cell? ⟨q, 2, none⟩ = some (.int .i64 1) ∧ w'.cell? ⟨q, 3, none⟩ = some (.int .u64 task) ∧ w'.cell? ⟨q, 4, none⟩ = some (.int .i64 target) ∧ w'.cell? ⟨q, 5, none⟩ = some (.int .i64 3) ∧ w'.cell? ⟨q, 6, none⟩ = some (.int .u64 hd) ∧ w'.cell? ⟨q, 7, none⟩ = some (.int .u32 t) ∧ w'.cell? ⟨q, 8, none⟩ = some (.int .u32 u) ∧ w'.cell? ⟨q, 9, none⟩ = some (.int .i64 n) ∧ w'.cell? ⟨q, 10, none⟩ = some (.int .i64 k))
    (first
      | exact HQ.out _ [w.heap.size] ((((((hk1.mono (by simp)).set (by simp) _ _).set (by simp) _ _).set (by simp) _ _).set (by simp) _ _)) (by simp; omega)
      | exact HQ.out _ _ hk1 (by simp)
      | exact HQ.out _ _ (Keeps.refl [] W0).drew (by simp)
      | exact ⟨by assumption, by assumption, by assumption, by assumption, by assumption, by assumption, by assumption, by assumption, by assumption, by assumption, by assumption⟩
      | fail)
    (first
      | (go_at_call 187; refine (HSl.out).mono ?_; rintro e w2 ⟨rfl, rfl⟩)
      | (go_at_call 186; refine (HSt.out _ _ _).mono ?_; rintro e w1 ⟨rfl, k1⟩; have hk1 : Keeps [] W0 w1 := k1.undrew; have hr1 := HR0.out.keeps hk1 (by simp); have p0 := hr1.cell (j := 0) rfl; have p1 := hr1.cell (j := 1) rfl; have p2 := hr1.cell (j := 2) rfl; have p3 := hr1.cell (j := 3) rfl; have f0 := hr1.frozen 0; have f1 := hr1.frozen 1; have f2 := hr1.frozen 2; have f3 := hr1.frozen 3; have hl1 := hr1.lt)
      | fail)
  all_goals (have HK1 := Lib.hid (HK0.out.trans hk1))
  all_goals (try go_wp2)
  all_goals (refine bodyPost_ret (v := .agg #[.int .i64 2, .int .i64 (dqSlot at_ size t), .int .u64 task, .int .u64 0]) (by simp [results, Tryz.results146, go_sem, p0, p1, p2, p3]) rfl ⟨rfl, ?_⟩)
  all_goals exact HK1.out.step (S := [w.heap.size]) (((((Keeps.refl _ _).set (by simp) _ _).set (by simp) _ _).set (by simp) _ _).set (by simp) _ _) (by simp)

set_option maxHeartbeats 3200000 in
theorem rfPush4 (q : Nat) (at_ size task target hd t u n k : Int) (took : List Int) (tk l : Value) (dn : Bool) (c v : Int) (w : World) (h : Row w q 155 (rfCells ⟨at_, size, 1, task, target, 4, hd, t, u, n, k, took, none⟩ tk dn c v l)) (a0 : 0 ≤ at_) (a1 : at_ < 65536)(ht : W32 t)(hs2 : 2 ≤ size ∧ size ≤ 256) :
    Calls Tryz.prog 146 #[.pointer (some ⟨q, 0, none⟩)] w fun e w' => e = .returned (.agg #[.int .i64 2, .int .i64 (at_ + 1), .int .u64 (rgAdd t 1), .int .u64 0]) ∧ Keeps [] w w' := by
  have hlt := h.lt
  obtain ⟨W0, hW0⟩ : ∃ W0, w.alloc (.cells #[.int .i64 0, .int .i64 0, .int .u64 0, .int .u64 0] 107) = W0 := ⟨_, rfl⟩
  have k0 : Keeps [] w W0 := by rw [← hW0]; exact (Keeps.refl _ _).alloc _
  have r0 : Row W0 w.heap.size 107 [.int .i64 0, .int .i64 0, .int .u64 0, .int .u64 0] := by rw [← hW0]; exact Row.new _ _ _
  have hrow0 := h.keeps k0 (by simp)
  have c0 := hrow0.cell (j := 0) (u := .int .i64 at_) rfl
  have c1 := hrow0.cell (j := 1) (u := .int .i64 size) rfl
  have c2 := hrow0.cell (j := 2) (u := .int .i64 1) rfl
  have c3 := hrow0.cell (j := 3) (u := .int .u64 task) rfl
  have c4 := hrow0.cell (j := 4) (u := .int .i64 target) rfl
  have c5 := hrow0.cell (j := 5) (u := .int .i64 4) rfl
  have c6 := hrow0.cell (j := 6) (u := .int .u64 hd) rfl
  have c7 := hrow0.cell (j := 7) (u := .int .u32 t) rfl
  have c8 := hrow0.cell (j := 8) (u := .int .u32 u) rfl
  have c9 := hrow0.cell (j := 9) (u := .int .i64 n) rfl
  have c10 := hrow0.cell (j := 10) (u := .int .i64 k) rfl
  have HK0 := Lib.hid k0
  have HR0 := Lib.hid r0
  have HRow := Lib.hid hrow0
  have HL := Lib.hid (fun x W => rfLoad_any x W)
  have hwi : IntKind.i64.wrap (at_ + 1) = at_ + 1 := IntWalk.i64_in _ (by omega)
  have hwr : IntKind.u64.wrap (IntKind.u32.wrap (t + 1)) = rgAdd t 1 := by obtain ⟨t0, t1⟩ := ht; show ((t + 1) % 4294967296) % 18446744073709551616 = (t + 1) % 4294967296; omega
  have hhalf : wrap64 (size.tdiv 2) % 4294967296 = size / 2 := by rw [Int.tdiv_eq_ediv_of_nonneg (by omega)]; unfold wrap64; omega
  have hrowD := hrow0.keeps (Keeps.refl [] W0).drew (by simp)
  have HSt := Lib.hid (fun x v W => rfStore_any x v W)
  have HQ : Hid (∀ W S, Keeps S W0 W → q ∉ S → W.cell? ⟨q, 0, none⟩ = some (.int .i64 at_) ∧ W.cell? ⟨q, 1, none⟩ = some (.int .i64 size) ∧ W.cell? ⟨q, 2, none⟩ = some (.int .i64 1) ∧ W.cell? ⟨q, 3, none⟩ = some (.int .u64 task) ∧ W.cell? ⟨q, 4, none⟩ = some (.int .i64 target) ∧ W.cell? ⟨q, 5, none⟩ = some (.int .i64 4) ∧ W.cell? ⟨q, 6, none⟩ = some (.int .u64 hd) ∧ W.cell? ⟨q, 7, none⟩ = some (.int .u32 t) ∧ W.cell? ⟨q, 8, none⟩ = some (.int .u32 u) ∧ W.cell? ⟨q, 9, none⟩ = some (.int .i64 n) ∧ W.cell? ⟨q, 10, none⟩ = some (.int .i64 k)) := Lib.hid (fun W S hk hq => by
    have hh := hrow0.keeps hk hq
    exact ⟨hh.cell (j := 0) rfl, hh.cell (j := 1) rfl, hh.cell (j := 2) rfl, hh.cell (j := 3) rfl, hh.cell (j := 4) rfl, hh.cell (j := 5) rfl, hh.cell (j := 6) rfl, hh.cell (j := 7) rfl, hh.cell (j := 8) rfl, hh.cell (j := 9) rfl, hh.cell (j := 10) rfl⟩)
  clear h hrow0 k0 r0 hrowD
  go_enter Tryz.func146, Tryz.ntmps146
  go_wp2
  go_region_held3 (fun w' => w'.cell? ⟨q, 0, none⟩ = some (.int .i64 at_) ∧ w'.cell? ⟨q, 1, none⟩ = some (.int .i64 size) ∧ w'.cell? ⟨q, 2, none⟩ = some (.int .i64 1) ∧ w'.cell? ⟨q, 3, none⟩ = some (.int .u64 task) ∧ w'.cell? ⟨q, 4, none⟩ = some (.int .i64 target) ∧ w'.cell? ⟨q, 5, none⟩ = some (.int .i64 4) ∧ w'.cell? ⟨q, 6, none⟩ = some (.int .u64 hd) ∧ w'.cell? ⟨q, 7, none⟩ = some (.int .u32 t) ∧ w'.cell? ⟨q, 8, none⟩ = some (.int .u32 u) ∧ w'.cell? ⟨q, 9, none⟩ = some (.int .i64 n) ∧ w'.cell? ⟨q, 10, none⟩ = some (.int .i64 k))
    (first
      | exact HQ.out _ [w.heap.size] ((((((hk1.mono (by simp)).set (by simp) _ _).set (by simp) _ _).set (by simp) _ _).set (by simp) _ _)) (by simp; omega)
      | exact HQ.out _ _ hk1 (by simp)
      | exact HQ.out _ _ (Keeps.refl [] W0).drew (by simp)
      | exact ⟨by assumption, by assumption, by assumption, by assumption, by assumption, by assumption, by assumption, by assumption, by assumption, by assumption, by assumption⟩
      | fail)
    (first
      | (go_at_call 186; refine (HSt.out _ _ _).mono ?_; rintro e w1 ⟨rfl, k1⟩; have hk1 : Keeps [] W0 w1 := k1.undrew; have hr1 := HR0.out.keeps hk1 (by simp); have p0 := hr1.cell (j := 0) rfl; have p1 := hr1.cell (j := 1) rfl; have p2 := hr1.cell (j := 2) rfl; have p3 := hr1.cell (j := 3) rfl; have f0 := hr1.frozen 0; have f1 := hr1.frozen 1; have f2 := hr1.frozen 2; have f3 := hr1.frozen 3; have hl1 := hr1.lt)
      | fail)
  all_goals (have HK1 := Lib.hid (HK0.out.trans hk1))
  all_goals (try go_wp2)
  all_goals (refine bodyPost_ret (v := .agg #[.int .i64 2, .int .i64 (at_ + 1), .int .u64 (rgAdd t 1), .int .u64 0]) (by simp [results, Tryz.results146, go_sem, p0, p1, p2, p3]) rfl ⟨rfl, ?_⟩)
  all_goals exact HK1.out.step (S := [w.heap.size]) (((((Keeps.refl _ _).set (by simp) _ _).set (by simp) _ _).set (by simp) _ _).set (by simp) _ _) (by simp)

set_option maxHeartbeats 3200000 in
theorem rfPush5 (q : Nat) (at_ size task target hd t u n k : Int) (took : List Int) (tk l : Value) (dn : Bool) (c v : Int) (w : World) (h : Row w q 155 (rfCells ⟨at_, size, 1, task, target, 5, hd, t, u, n, k, took, none⟩ tk dn c v l)) (hu : M.U hd)(hs2 : 2 ≤ size ∧ size ≤ 256) :
    Calls Tryz.prog 146 #[.pointer (some ⟨q, 0, none⟩)] w fun e w' => e = .returned (.agg #[.int .i64 3, .int .i64 at_, .int .u64 hd, .int .u64 (rgPair (rgAdd (rgLo hd) (size / 2)) (rgAdd (rgLo hd) (size / 2)))]) ∧ Keeps [] w w' := by
  have hlt := h.lt
  obtain ⟨W0, hW0⟩ : ∃ W0, w.alloc (.cells #[.int .i64 0, .int .i64 0, .int .u64 0, .int .u64 0] 107) = W0 := ⟨_, rfl⟩
  have k0 : Keeps [] w W0 := by rw [← hW0]; exact (Keeps.refl _ _).alloc _
  have r0 : Row W0 w.heap.size 107 [.int .i64 0, .int .i64 0, .int .u64 0, .int .u64 0] := by rw [← hW0]; exact Row.new _ _ _
  have hrow0 := h.keeps k0 (by simp)
  have c0 := hrow0.cell (j := 0) (u := .int .i64 at_) rfl
  have c1 := hrow0.cell (j := 1) (u := .int .i64 size) rfl
  have c2 := hrow0.cell (j := 2) (u := .int .i64 1) rfl
  have c3 := hrow0.cell (j := 3) (u := .int .u64 task) rfl
  have c4 := hrow0.cell (j := 4) (u := .int .i64 target) rfl
  have c5 := hrow0.cell (j := 5) (u := .int .i64 5) rfl
  have c6 := hrow0.cell (j := 6) (u := .int .u64 hd) rfl
  have c7 := hrow0.cell (j := 7) (u := .int .u32 t) rfl
  have c8 := hrow0.cell (j := 8) (u := .int .u32 u) rfl
  have c9 := hrow0.cell (j := 9) (u := .int .i64 n) rfl
  have c10 := hrow0.cell (j := 10) (u := .int .i64 k) rfl
  have HK0 := Lib.hid k0
  have HR0 := Lib.hid r0
  have HRow := Lib.hid hrow0
  have HL := Lib.hid (fun x W => rfLoad_any x W)
  have hhalf : wrap64 (size.tdiv 2) % 4294967296 = size / 2 := by rw [Int.tdiv_eq_ediv_of_nonneg (by omega)]; unfold wrap64; omega
  have hwa : IntKind.u32.wrap (rgLo hd + size / 2) = rgAdd (rgLo hd) (size / 2) := rfl
  have HA := Lib.hid (rfAt_any q _ _ _ _ _ _ W0 hrow0 hu)
  have HC := Lib.hid (rfCas_any q _ _ _ _ _ _ (rgAdd (rgLo hd) (size / 2)) (rgAdd (rgLo hd) (size / 2)) W0 hrow0 (rgAdd_range _ _) (rgAdd_range _ _))
  clear h hrow0 k0 r0
  go_enter Tryz.func146, Tryz.ntmps146
  go_wp2_with (first | (go_at_call 189; refine (HA.out).mono ?_; rintro e w2 ⟨rfl, rfl⟩) | fail)
  refine HC.out.mono ?_
  rintro e w1 ⟨rfl, k1⟩
  have hr1 := HR0.out.keeps (k1) (by simp)
  have p0 := hr1.cell (j := 0) rfl
  have p1 := hr1.cell (j := 1) rfl
  have p2 := hr1.cell (j := 2) rfl
  have p3 := hr1.cell (j := 3) rfl
  have f0 := hr1.frozen 0
  have f1 := hr1.frozen 1
  have f2 := hr1.frozen 2
  have f3 := hr1.frozen 3
  have hl1 := hr1.lt
  have HK1 := Lib.hid (HK0.out.trans (k1))
  clear k1 hr1
  go_wp2
  refine bodyPost_ret (v := .agg #[.int .i64 3, .int .i64 at_, .int .u64 hd, .int .u64 (rgPair (rgAdd (rgLo hd) (size / 2)) (rgAdd (rgLo hd) (size / 2)))]) (by simp [results, Tryz.results146, go_sem, p0, p1, p2, p3]) rfl ⟨rfl, ?_⟩
  exact HK1.out.step (S := [w.heap.size]) (((((Keeps.refl _ _).set (by simp) _ _).set (by simp) _ _).set (by simp) _ _).set (by simp) _ _) (by simp)

set_option maxHeartbeats 3200000 in
theorem rfPush6 (q : Nat) (at_ size task target hd t u n k : Int) (took : List Int) (tk l : Value) (dn : Bool) (c v : Int) (w : World) (h : Row w q 155 (rfCells ⟨at_, size, 1, task, target, 6, hd, t, u, n, k, took, none⟩ tk dn c v l)) (hr : dqRight at_ size)(hu : M.U hd)(hs2 : 2 ≤ size ∧ size ≤ 256)(hk : 0 ≤ k ∧ k ≤ 256) :
    Calls Tryz.prog 146 #[.pointer (some ⟨q, 0, none⟩)] w fun e w' => e = .returned (.agg #[.int .i64 1, .int .i64 (dqSlot at_ size (rgAdd (rgLo hd) k)), .int .u64 0, .int .u64 0]) ∧ Keeps [] w w' := by
  have hlt := h.lt
  obtain ⟨W0, hW0⟩ : ∃ W0, w.alloc (.cells #[.int .i64 0, .int .i64 0, .int .u64 0, .int .u64 0] 107) = W0 := ⟨_, rfl⟩
  have k0 : Keeps [] w W0 := by rw [← hW0]; exact (Keeps.refl _ _).alloc _
  have r0 : Row W0 w.heap.size 107 [.int .i64 0, .int .i64 0, .int .u64 0, .int .u64 0] := by rw [← hW0]; exact Row.new _ _ _
  have hrow0 := h.keeps k0 (by simp)
  have c0 := hrow0.cell (j := 0) (u := .int .i64 at_) rfl
  have c1 := hrow0.cell (j := 1) (u := .int .i64 size) rfl
  have c2 := hrow0.cell (j := 2) (u := .int .i64 1) rfl
  have c3 := hrow0.cell (j := 3) (u := .int .u64 task) rfl
  have c4 := hrow0.cell (j := 4) (u := .int .i64 target) rfl
  have c5 := hrow0.cell (j := 5) (u := .int .i64 6) rfl
  have c6 := hrow0.cell (j := 6) (u := .int .u64 hd) rfl
  have c7 := hrow0.cell (j := 7) (u := .int .u32 t) rfl
  have c8 := hrow0.cell (j := 8) (u := .int .u32 u) rfl
  have c9 := hrow0.cell (j := 9) (u := .int .i64 n) rfl
  have c10 := hrow0.cell (j := 10) (u := .int .i64 k) rfl
  have HK0 := Lib.hid k0
  have HR0 := Lib.hid r0
  have HRow := Lib.hid hrow0
  have HL := Lib.hid (fun x W => rfLoad_any x W)
  have hwk : IntKind.u32.wrap k = k := by show k % 4294967296 = k; omega
  have hwa : IntKind.u32.wrap (rgLo hd + k) = rgAdd (rgLo hd) k := rfl
  have hhalf : wrap64 (size.tdiv 2) % 4294967296 = size / 2 := by rw [Int.tdiv_eq_ediv_of_nonneg (by omega)]; unfold wrap64; omega
  have hrowD := hrow0.keeps (Keeps.refl [] W0).drew (by simp)
  have HA := Lib.hid (rfAt_any q _ _ _ _ _ _ W0.drew hrowD hu)
  have HS := Lib.hid (rfS_any q _ _ _ _ _ _ W0.drew hrowD hu)
  have HSl := Lib.hid (rfSlot_any q _ _ _ _ _ _ at_ (rgAdd (rgLo hd) k) W0.drew hrowD hr (rgAdd_range _ _))
  have HQ : Hid (∀ W S, Keeps S W0 W → q ∉ S → W.cell? ⟨q, 0, none⟩ = some (.int .i64 at_) ∧ W.cell? ⟨q, 1, none⟩ = some (.int .i64 size) ∧ W.cell? ⟨q, 2, none⟩ = some (.int .i64 1) ∧ W.cell? ⟨q, 3, none⟩ = some (.int .u64 task) ∧ W.cell? ⟨q, 4, none⟩ = some (.int .i64 target) ∧ W.cell? ⟨q, 5, none⟩ = some (.int .i64 6) ∧ W.cell? ⟨q, 6, none⟩ = some (.int .u64 hd) ∧ W.cell? ⟨q, 7, none⟩ = some (.int .u32 t) ∧ W.cell? ⟨q, 8, none⟩ = some (.int .u32 u) ∧ W.cell? ⟨q, 9, none⟩ = some (.int .i64 n) ∧ W.cell? ⟨q, 10, none⟩ = some (.int .i64 k)) := Lib.hid (fun W S hk hq => by
    have hh := hrow0.keeps hk hq
    exact ⟨hh.cell (j := 0) rfl, hh.cell (j := 1) rfl, hh.cell (j := 2) rfl, hh.cell (j := 3) rfl, hh.cell (j := 4) rfl, hh.cell (j := 5) rfl, hh.cell (j := 6) rfl, hh.cell (j := 7) rfl, hh.cell (j := 8) rfl, hh.cell (j := 9) rfl, hh.cell (j := 10) rfl⟩)
  clear h hrow0 k0 r0 hrowD
  go_enter Tryz.func146, Tryz.ntmps146
  go_wp2
  go_region_held3 (fun w' => w'.cell? ⟨q, 0, none⟩ = some (.int .i64 at_) ∧ w'.cell? ⟨q, 1, none⟩ = some (.int .i64 size) ∧ w'.cell? ⟨q, 2, none⟩ = some (.int .i64 1) ∧ w'.cell? ⟨q, 3, none⟩ = some (.int .u64 task) ∧ w'.cell? ⟨q, 4, none⟩ = some (.int .i64 target) ∧ w'.cell? ⟨q, 5, none⟩ = some (.int .i64 6) ∧ w'.cell? ⟨q, 6, none⟩ = some (.int .u64 hd) ∧ w'.cell? ⟨q, 7, none⟩ = some (.int .u32 t) ∧ w'.cell? ⟨q, 8, none⟩ = some (.int .u32 u) ∧ w'.cell? ⟨q, 9, none⟩ = some (.int .i64 n) ∧ w'.cell? ⟨q, 10, none⟩ = some (.int .i64 k))
    (first
      | exact HQ.out _ [w.heap.size] ((((((hk1.mono (by simp)).set (by simp) _ _).set (by simp) _ _).set (by simp) _ _).set (by simp) _ _)) (by simp; omega)
      | exact HQ.out _ _ hk1 (by simp)
      | exact HQ.out _ _ (Keeps.refl [] W0).drew (by simp)
      | exact ⟨by assumption, by assumption, by assumption, by assumption, by assumption, by assumption, by assumption, by assumption, by assumption, by assumption, by assumption⟩
      | fail)
    (first
      | (go_at_call 189; refine (HA.out).mono ?_; rintro e w2 ⟨rfl, rfl⟩)
      | (go_at_call 187; refine (HSl.out).mono ?_; rintro e w2 ⟨rfl, rfl⟩)
      | (go_at_call 185; refine (HL.out _ _).mono ?_; rintro e w1 ⟨rfl, k1⟩; have hk1 : Keeps [] W0 w1 := k1.undrew; have hr1 := HR0.out.keeps hk1 (by simp); have p0 := hr1.cell (j := 0) rfl; have p1 := hr1.cell (j := 1) rfl; have p2 := hr1.cell (j := 2) rfl; have p3 := hr1.cell (j := 3) rfl; have f0 := hr1.frozen 0; have f1 := hr1.frozen 1; have f2 := hr1.frozen 2; have f3 := hr1.frozen 3; have hl1 := hr1.lt)
      | fail)
  all_goals (have HK1 := Lib.hid (HK0.out.trans hk1))
  all_goals (try go_wp2)
  all_goals (refine bodyPost_ret (v := .agg #[.int .i64 1, .int .i64 (dqSlot at_ size (rgAdd (rgLo hd) k)), .int .u64 0, .int .u64 0]) (by simp [results, Tryz.results146, go_sem, p0, p1, p2, p3]) rfl ⟨rfl, ?_⟩)
  all_goals exact HK1.out.step (S := [w.heap.size]) (((((Keeps.refl _ _).set (by simp) _ _).set (by simp) _ _).set (by simp) _ _).set (by simp) _ _) (by simp)

set_option maxHeartbeats 3200000 in
theorem rfSteal1 (q : Nat) (at_ size task target hd t u n k : Int) (took : List Int) (tk l : Value) (dn : Bool) (c v : Int) (w : World) (h : Row w q 155 (rfCells ⟨at_, size, 3, task, target, 1, hd, t, u, n, k, took, none⟩ tk dn c v l)) (b0 : 0 ≤ target) (b1 : target < 65536) :
    Calls Tryz.prog 148 #[.pointer (some ⟨q, 0, none⟩)] w fun e w' => e = .returned (.agg #[.int .i64 1, .int .i64 (target + 1), .int .u64 0, .int .u64 0]) ∧ Keeps [] w w' := by
  have hlt := h.lt
  obtain ⟨W0, hW0⟩ : ∃ W0, w.alloc (.cells #[.int .i64 0, .int .i64 0, .int .u64 0, .int .u64 0] 107) = W0 := ⟨_, rfl⟩
  have k0 : Keeps [] w W0 := by rw [← hW0]; exact (Keeps.refl _ _).alloc _
  have r0 : Row W0 w.heap.size 107 [.int .i64 0, .int .i64 0, .int .u64 0, .int .u64 0] := by rw [← hW0]; exact Row.new _ _ _
  have hrow0 := h.keeps k0 (by simp)
  have c0 := hrow0.cell (j := 0) (u := .int .i64 at_) rfl
  have c1 := hrow0.cell (j := 1) (u := .int .i64 size) rfl
  have c2 := hrow0.cell (j := 2) (u := .int .i64 3) rfl
  have c3 := hrow0.cell (j := 3) (u := .int .u64 task) rfl
  have c4 := hrow0.cell (j := 4) (u := .int .i64 target) rfl
  have c5 := hrow0.cell (j := 5) (u := .int .i64 1) rfl
  have c6 := hrow0.cell (j := 6) (u := .int .u64 hd) rfl
  have c7 := hrow0.cell (j := 7) (u := .int .u32 t) rfl
  have c8 := hrow0.cell (j := 8) (u := .int .u32 u) rfl
  have c9 := hrow0.cell (j := 9) (u := .int .i64 n) rfl
  have c10 := hrow0.cell (j := 10) (u := .int .i64 k) rfl
  have HK0 := Lib.hid k0
  have HR0 := Lib.hid r0
  have HRow := Lib.hid hrow0
  have HL := Lib.hid (fun x W => rfLoad_any x W)
  clear h hrow0 k0 r0
  go_enter Tryz.func148, Tryz.ntmps148
  go_wp2_with fail
  refine (HL.out _ _).mono ?_
  rintro e w1 ⟨rfl, k1⟩
  have hr1 := HR0.out.keeps (k1) (by simp)
  have p0 := hr1.cell (j := 0) rfl
  have p1 := hr1.cell (j := 1) rfl
  have p2 := hr1.cell (j := 2) rfl
  have p3 := hr1.cell (j := 3) rfl
  have f0 := hr1.frozen 0
  have f1 := hr1.frozen 1
  have f2 := hr1.frozen 2
  have f3 := hr1.frozen 3
  have hl1 := hr1.lt
  have HK1 := Lib.hid (HK0.out.trans (k1))
  clear k1 hr1
  go_wp2
  refine bodyPost_ret (v := .agg #[.int .i64 1, .int .i64 (target + 1), .int .u64 0, .int .u64 0]) (by simp [results, Tryz.results148, go_sem, p0, p1, p2, p3]) rfl ⟨rfl, ?_⟩
  exact HK1.out.step (S := [w.heap.size]) (((((Keeps.refl _ _).set (by simp) _ _).set (by simp) _ _).set (by simp) _ _).set (by simp) _ _) (by simp)

set_option maxHeartbeats 3200000 in
theorem rfSteal2 (q : Nat) (at_ size task target hd t u n k : Int) (took : List Int) (tk l : Value) (dn : Bool) (c v : Int) (w : World) (h : Row w q 155 (rfCells ⟨at_, size, 3, task, target, 2, hd, t, u, n, k, took, none⟩ tk dn c v l))  :
    Calls Tryz.prog 148 #[.pointer (some ⟨q, 0, none⟩)] w fun e w' => e = .returned (.agg #[.int .i64 1, .int .i64 target, .int .u64 0, .int .u64 0]) ∧ Keeps [] w w' := by
  have hlt := h.lt
  obtain ⟨W0, hW0⟩ : ∃ W0, w.alloc (.cells #[.int .i64 0, .int .i64 0, .int .u64 0, .int .u64 0] 107) = W0 := ⟨_, rfl⟩
  have k0 : Keeps [] w W0 := by rw [← hW0]; exact (Keeps.refl _ _).alloc _
  have r0 : Row W0 w.heap.size 107 [.int .i64 0, .int .i64 0, .int .u64 0, .int .u64 0] := by rw [← hW0]; exact Row.new _ _ _
  have hrow0 := h.keeps k0 (by simp)
  have c0 := hrow0.cell (j := 0) (u := .int .i64 at_) rfl
  have c1 := hrow0.cell (j := 1) (u := .int .i64 size) rfl
  have c2 := hrow0.cell (j := 2) (u := .int .i64 3) rfl
  have c3 := hrow0.cell (j := 3) (u := .int .u64 task) rfl
  have c4 := hrow0.cell (j := 4) (u := .int .i64 target) rfl
  have c5 := hrow0.cell (j := 5) (u := .int .i64 2) rfl
  have c6 := hrow0.cell (j := 6) (u := .int .u64 hd) rfl
  have c7 := hrow0.cell (j := 7) (u := .int .u32 t) rfl
  have c8 := hrow0.cell (j := 8) (u := .int .u32 u) rfl
  have c9 := hrow0.cell (j := 9) (u := .int .i64 n) rfl
  have c10 := hrow0.cell (j := 10) (u := .int .i64 k) rfl
  have HK0 := Lib.hid k0
  have HR0 := Lib.hid r0
  have HRow := Lib.hid hrow0
  have HL := Lib.hid (fun x W => rfLoad_any x W)
  clear h hrow0 k0 r0
  go_enter Tryz.func148, Tryz.ntmps148
  go_wp2_with fail
  refine (HL.out _ _).mono ?_
  rintro e w1 ⟨rfl, k1⟩
  have hr1 := HR0.out.keeps (k1) (by simp)
  have p0 := hr1.cell (j := 0) rfl
  have p1 := hr1.cell (j := 1) rfl
  have p2 := hr1.cell (j := 2) rfl
  have p3 := hr1.cell (j := 3) rfl
  have f0 := hr1.frozen 0
  have f1 := hr1.frozen 1
  have f2 := hr1.frozen 2
  have f3 := hr1.frozen 3
  have hl1 := hr1.lt
  have HK1 := Lib.hid (HK0.out.trans (k1))
  clear k1 hr1
  go_wp2
  refine bodyPost_ret (v := .agg #[.int .i64 1, .int .i64 target, .int .u64 0, .int .u64 0]) (by simp [results, Tryz.results148, go_sem, p0, p1, p2, p3]) rfl ⟨rfl, ?_⟩
  exact HK1.out.step (S := [w.heap.size]) (((((Keeps.refl _ _).set (by simp) _ _).set (by simp) _ _).set (by simp) _ _).set (by simp) _ _) (by simp)

set_option maxHeartbeats 3200000 in
theorem rfSteal3 (q : Nat) (at_ size task target hd t u n k : Int) (took : List Int) (tk l : Value) (dn : Bool) (c v : Int) (w : World) (h : Row w q 155 (rfCells ⟨at_, size, 3, task, target, 3, hd, t, u, n, k, took, none⟩ tk dn c v l))  :
    Calls Tryz.prog 148 #[.pointer (some ⟨q, 0, none⟩)] w fun e w' => e = .returned (.agg #[.int .i64 1, .int .i64 at_, .int .u64 0, .int .u64 0]) ∧ Keeps [] w w' := by
  have hlt := h.lt
  obtain ⟨W0, hW0⟩ : ∃ W0, w.alloc (.cells #[.int .i64 0, .int .i64 0, .int .u64 0, .int .u64 0] 107) = W0 := ⟨_, rfl⟩
  have k0 : Keeps [] w W0 := by rw [← hW0]; exact (Keeps.refl _ _).alloc _
  have r0 : Row W0 w.heap.size 107 [.int .i64 0, .int .i64 0, .int .u64 0, .int .u64 0] := by rw [← hW0]; exact Row.new _ _ _
  have hrow0 := h.keeps k0 (by simp)
  have c0 := hrow0.cell (j := 0) (u := .int .i64 at_) rfl
  have c1 := hrow0.cell (j := 1) (u := .int .i64 size) rfl
  have c2 := hrow0.cell (j := 2) (u := .int .i64 3) rfl
  have c3 := hrow0.cell (j := 3) (u := .int .u64 task) rfl
  have c4 := hrow0.cell (j := 4) (u := .int .i64 target) rfl
  have c5 := hrow0.cell (j := 5) (u := .int .i64 3) rfl
  have c6 := hrow0.cell (j := 6) (u := .int .u64 hd) rfl
  have c7 := hrow0.cell (j := 7) (u := .int .u32 t) rfl
  have c8 := hrow0.cell (j := 8) (u := .int .u32 u) rfl
  have c9 := hrow0.cell (j := 9) (u := .int .i64 n) rfl
  have c10 := hrow0.cell (j := 10) (u := .int .i64 k) rfl
  have HK0 := Lib.hid k0
  have HR0 := Lib.hid r0
  have HRow := Lib.hid hrow0
  have HL := Lib.hid (fun x W => rfLoad_any x W)
  clear h hrow0 k0 r0
  go_enter Tryz.func148, Tryz.ntmps148
  go_wp2_with fail
  refine (HL.out _ _).mono ?_
  rintro e w1 ⟨rfl, k1⟩
  have hr1 := HR0.out.keeps (k1) (by simp)
  have p0 := hr1.cell (j := 0) rfl
  have p1 := hr1.cell (j := 1) rfl
  have p2 := hr1.cell (j := 2) rfl
  have p3 := hr1.cell (j := 3) rfl
  have f0 := hr1.frozen 0
  have f1 := hr1.frozen 1
  have f2 := hr1.frozen 2
  have f3 := hr1.frozen 3
  have hl1 := hr1.lt
  have HK1 := Lib.hid (HK0.out.trans (k1))
  clear k1 hr1
  go_wp2
  refine bodyPost_ret (v := .agg #[.int .i64 1, .int .i64 at_, .int .u64 0, .int .u64 0]) (by simp [results, Tryz.results148, go_sem, p0, p1, p2, p3]) rfl ⟨rfl, ?_⟩
  exact HK1.out.step (S := [w.heap.size]) (((((Keeps.refl _ _).set (by simp) _ _).set (by simp) _ _).set (by simp) _ _).set (by simp) _ _) (by simp)

set_option maxHeartbeats 3200000 in
theorem rfSteal7 (q : Nat) (at_ size task target hd t u n k : Int) (took : List Int) (tk l : Value) (dn : Bool) (c v : Int) (w : World) (h : Row w q 155 (rfCells ⟨at_, size, 3, task, target, 7, hd, t, u, n, k, took, none⟩ tk dn c v l))  :
    Calls Tryz.prog 148 #[.pointer (some ⟨q, 0, none⟩)] w fun e w' => e = .returned (.agg #[.int .i64 1, .int .i64 at_, .int .u64 0, .int .u64 0]) ∧ Keeps [] w w' := by
  have hlt := h.lt
  obtain ⟨W0, hW0⟩ : ∃ W0, w.alloc (.cells #[.int .i64 0, .int .i64 0, .int .u64 0, .int .u64 0] 107) = W0 := ⟨_, rfl⟩
  have k0 : Keeps [] w W0 := by rw [← hW0]; exact (Keeps.refl _ _).alloc _
  have r0 : Row W0 w.heap.size 107 [.int .i64 0, .int .i64 0, .int .u64 0, .int .u64 0] := by rw [← hW0]; exact Row.new _ _ _
  have hrow0 := h.keeps k0 (by simp)
  have c0 := hrow0.cell (j := 0) (u := .int .i64 at_) rfl
  have c1 := hrow0.cell (j := 1) (u := .int .i64 size) rfl
  have c2 := hrow0.cell (j := 2) (u := .int .i64 3) rfl
  have c3 := hrow0.cell (j := 3) (u := .int .u64 task) rfl
  have c4 := hrow0.cell (j := 4) (u := .int .i64 target) rfl
  have c5 := hrow0.cell (j := 5) (u := .int .i64 7) rfl
  have c6 := hrow0.cell (j := 6) (u := .int .u64 hd) rfl
  have c7 := hrow0.cell (j := 7) (u := .int .u32 t) rfl
  have c8 := hrow0.cell (j := 8) (u := .int .u32 u) rfl
  have c9 := hrow0.cell (j := 9) (u := .int .i64 n) rfl
  have c10 := hrow0.cell (j := 10) (u := .int .i64 k) rfl
  have HK0 := Lib.hid k0
  have HR0 := Lib.hid r0
  have HRow := Lib.hid hrow0
  have HL := Lib.hid (fun x W => rfLoad_any x W)
  clear h hrow0 k0 r0
  go_enter Tryz.func148, Tryz.ntmps148
  go_wp2_with fail
  refine (HL.out _ _).mono ?_
  rintro e w1 ⟨rfl, k1⟩
  have hr1 := HR0.out.keeps (k1) (by simp)
  have p0 := hr1.cell (j := 0) rfl
  have p1 := hr1.cell (j := 1) rfl
  have p2 := hr1.cell (j := 2) rfl
  have p3 := hr1.cell (j := 3) rfl
  have f0 := hr1.frozen 0
  have f1 := hr1.frozen 1
  have f2 := hr1.frozen 2
  have f3 := hr1.frozen 3
  have hl1 := hr1.lt
  have HK1 := Lib.hid (HK0.out.trans (k1))
  clear k1 hr1
  go_wp2
  refine bodyPost_ret (v := .agg #[.int .i64 1, .int .i64 at_, .int .u64 0, .int .u64 0]) (by simp [results, Tryz.results148, go_sem, p0, p1, p2, p3]) rfl ⟨rfl, ?_⟩
  exact HK1.out.step (S := [w.heap.size]) (((((Keeps.refl _ _).set (by simp) _ _).set (by simp) _ _).set (by simp) _ _).set (by simp) _ _) (by simp)

set_option maxHeartbeats 3200000 in
theorem rfSteal4 (q : Nat) (at_ size task target hd t u n k : Int) (took : List Int) (tk l : Value) (dn : Bool) (c v : Int) (w : World) (h : Row w q 155 (rfCells ⟨at_, size, 3, task, target, 4, hd, t, u, n, k, took, none⟩ tk dn c v l)) (a0 : 0 ≤ at_) (a1 : at_ < 65536) :
    Calls Tryz.prog 148 #[.pointer (some ⟨q, 0, none⟩)] w fun e w' => e = .returned (.agg #[.int .i64 1, .int .i64 (at_ + 1), .int .u64 0, .int .u64 0]) ∧ Keeps [] w w' := by
  have hlt := h.lt
  obtain ⟨W0, hW0⟩ : ∃ W0, w.alloc (.cells #[.int .i64 0, .int .i64 0, .int .u64 0, .int .u64 0] 107) = W0 := ⟨_, rfl⟩
  have k0 : Keeps [] w W0 := by rw [← hW0]; exact (Keeps.refl _ _).alloc _
  have r0 : Row W0 w.heap.size 107 [.int .i64 0, .int .i64 0, .int .u64 0, .int .u64 0] := by rw [← hW0]; exact Row.new _ _ _
  have hrow0 := h.keeps k0 (by simp)
  have c0 := hrow0.cell (j := 0) (u := .int .i64 at_) rfl
  have c1 := hrow0.cell (j := 1) (u := .int .i64 size) rfl
  have c2 := hrow0.cell (j := 2) (u := .int .i64 3) rfl
  have c3 := hrow0.cell (j := 3) (u := .int .u64 task) rfl
  have c4 := hrow0.cell (j := 4) (u := .int .i64 target) rfl
  have c5 := hrow0.cell (j := 5) (u := .int .i64 4) rfl
  have c6 := hrow0.cell (j := 6) (u := .int .u64 hd) rfl
  have c7 := hrow0.cell (j := 7) (u := .int .u32 t) rfl
  have c8 := hrow0.cell (j := 8) (u := .int .u32 u) rfl
  have c9 := hrow0.cell (j := 9) (u := .int .i64 n) rfl
  have c10 := hrow0.cell (j := 10) (u := .int .i64 k) rfl
  have HK0 := Lib.hid k0
  have HR0 := Lib.hid r0
  have HRow := Lib.hid hrow0
  have HL := Lib.hid (fun x W => rfLoad_any x W)
  clear h hrow0 k0 r0
  go_enter Tryz.func148, Tryz.ntmps148
  go_wp2_with fail
  refine (HL.out _ _).mono ?_
  rintro e w1 ⟨rfl, k1⟩
  have hr1 := HR0.out.keeps (k1) (by simp)
  have p0 := hr1.cell (j := 0) rfl
  have p1 := hr1.cell (j := 1) rfl
  have p2 := hr1.cell (j := 2) rfl
  have p3 := hr1.cell (j := 3) rfl
  have f0 := hr1.frozen 0
  have f1 := hr1.frozen 1
  have f2 := hr1.frozen 2
  have f3 := hr1.frozen 3
  have hl1 := hr1.lt
  have HK1 := Lib.hid (HK0.out.trans (k1))
  clear k1 hr1
  go_wp2
  refine bodyPost_ret (v := .agg #[.int .i64 1, .int .i64 (at_ + 1), .int .u64 0, .int .u64 0]) (by simp [results, Tryz.results148, go_sem, p0, p1, p2, p3]) rfl ⟨rfl, ?_⟩
  exact HK1.out.step (S := [w.heap.size]) (((((Keeps.refl _ _).set (by simp) _ _).set (by simp) _ _).set (by simp) _ _).set (by simp) _ _) (by simp)

set_option maxHeartbeats 3200000 in
theorem rfSteal5 (q : Nat) (at_ size task target hd t u n k : Int) (took : List Int) (tk l : Value) (dn : Bool) (c v : Int) (w : World) (h : Row w q 155 (rfCells ⟨at_, size, 3, task, target, 5, hd, t, u, n, k, took, none⟩ tk dn c v l)) (hu : M.U hd)(hn : 0 ≤ n ∧ n ≤ 256) :
    Calls Tryz.prog 148 #[.pointer (some ⟨q, 0, none⟩)] w fun e w' => e = .returned (.agg #[.int .i64 3, .int .i64 at_, .int .u64 hd, .int .u64 (rgPair (rgHi hd) (rgAdd (rgLo hd) n))]) ∧ Keeps [] w w' := by
  have hlt := h.lt
  obtain ⟨W0, hW0⟩ : ∃ W0, w.alloc (.cells #[.int .i64 0, .int .i64 0, .int .u64 0, .int .u64 0] 107) = W0 := ⟨_, rfl⟩
  have k0 : Keeps [] w W0 := by rw [← hW0]; exact (Keeps.refl _ _).alloc _
  have r0 : Row W0 w.heap.size 107 [.int .i64 0, .int .i64 0, .int .u64 0, .int .u64 0] := by rw [← hW0]; exact Row.new _ _ _
  have hrow0 := h.keeps k0 (by simp)
  have c0 := hrow0.cell (j := 0) (u := .int .i64 at_) rfl
  have c1 := hrow0.cell (j := 1) (u := .int .i64 size) rfl
  have c2 := hrow0.cell (j := 2) (u := .int .i64 3) rfl
  have c3 := hrow0.cell (j := 3) (u := .int .u64 task) rfl
  have c4 := hrow0.cell (j := 4) (u := .int .i64 target) rfl
  have c5 := hrow0.cell (j := 5) (u := .int .i64 5) rfl
  have c6 := hrow0.cell (j := 6) (u := .int .u64 hd) rfl
  have c7 := hrow0.cell (j := 7) (u := .int .u32 t) rfl
  have c8 := hrow0.cell (j := 8) (u := .int .u32 u) rfl
  have c9 := hrow0.cell (j := 9) (u := .int .i64 n) rfl
  have c10 := hrow0.cell (j := 10) (u := .int .i64 k) rfl
  have HK0 := Lib.hid k0
  have HR0 := Lib.hid r0
  have HRow := Lib.hid hrow0
  have HL := Lib.hid (fun x W => rfLoad_any x W)
  have hwn : IntKind.u32.wrap n = n := by show n % 4294967296 = n; omega
  have hwa : IntKind.u32.wrap (rgLo hd + n) = rgAdd (rgLo hd) n := rfl
  have hrowD := hrow0.keeps (Keeps.refl [] W0).drew (by simp)
  have HA := Lib.hid (rfAt_any q _ _ _ _ _ _ W0.drew hrowD hu)
  have HS := Lib.hid (rfS_any q _ _ _ _ _ _ W0.drew hrowD hu)
  have HC := Lib.hid (rfCas_any q _ _ _ _ _ _ (rgHi hd) (rgAdd (rgLo hd) n) W0.drew hrowD (rgHi_range hu) (rgAdd_range _ _))
  have HQ : Hid (∀ W S, Keeps S W0 W → q ∉ S → W.cell? ⟨q, 0, none⟩ = some (.int .i64 at_) ∧ W.cell? ⟨q, 1, none⟩ = some (.int .i64 size) ∧ W.cell? ⟨q, 2, none⟩ = some (.int .i64 3) ∧ W.cell? ⟨q, 3, none⟩ = some (.int .u64 task) ∧ W.cell? ⟨q, 4, none⟩ = some (.int .i64 target) ∧ W.cell? ⟨q, 5, none⟩ = some (.int .i64 5) ∧ W.cell? ⟨q, 6, none⟩ = some (.int .u64 hd) ∧ W.cell? ⟨q, 7, none⟩ = some (.int .u32 t) ∧ W.cell? ⟨q, 8, none⟩ = some (.int .u32 u) ∧ W.cell? ⟨q, 9, none⟩ = some (.int .i64 n) ∧ W.cell? ⟨q, 10, none⟩ = some (.int .i64 k)) := Lib.hid (fun W S hk hq => by
    have hh := hrow0.keeps hk hq
    exact ⟨hh.cell (j := 0) rfl, hh.cell (j := 1) rfl, hh.cell (j := 2) rfl, hh.cell (j := 3) rfl, hh.cell (j := 4) rfl, hh.cell (j := 5) rfl, hh.cell (j := 6) rfl, hh.cell (j := 7) rfl, hh.cell (j := 8) rfl, hh.cell (j := 9) rfl, hh.cell (j := 10) rfl⟩)
  clear h hrow0 k0 r0 hrowD
  go_enter Tryz.func148, Tryz.ntmps148
  go_wp2
  go_region_held3 (fun w' => w'.cell? ⟨q, 0, none⟩ = some (.int .i64 at_) ∧ w'.cell? ⟨q, 1, none⟩ = some (.int .i64 size) ∧ w'.cell? ⟨q, 2, none⟩ = some (.int .i64 3) ∧ w'.cell? ⟨q, 3, none⟩ = some (.int .u64 task) ∧ w'.cell? ⟨q, 4, none⟩ = some (.int .i64 target) ∧ w'.cell? ⟨q, 5, none⟩ = some (.int .i64 5) ∧ w'.cell? ⟨q, 6, none⟩ = some (.int .u64 hd) ∧ w'.cell? ⟨q, 7, none⟩ = some (.int .u32 t) ∧ w'.cell? ⟨q, 8, none⟩ = some (.int .u32 u) ∧ w'.cell? ⟨q, 9, none⟩ = some (.int .i64 n) ∧ w'.cell? ⟨q, 10, none⟩ = some (.int .i64 k))
    (first
      | exact HQ.out _ [w.heap.size] ((((((hk1.mono (by simp)).set (by simp) _ _).set (by simp) _ _).set (by simp) _ _).set (by simp) _ _)) (by simp; omega)
      | exact HQ.out _ _ hk1 (by simp)
      | exact HQ.out _ _ (Keeps.refl [] W0).drew (by simp)
      | exact ⟨by assumption, by assumption, by assumption, by assumption, by assumption, by assumption, by assumption, by assumption, by assumption, by assumption, by assumption⟩
      | fail)
    (first
      | (go_at_call 190; refine (HS.out).mono ?_; rintro e w2 ⟨rfl, rfl⟩)
      | (go_at_call 189; refine (HA.out).mono ?_; rintro e w2 ⟨rfl, rfl⟩)
      | (go_at_call 188; refine (HC.out).mono ?_; rintro e w1 ⟨rfl, k1⟩; have hk1 : Keeps [] W0 w1 := k1.undrew; have hr1 := HR0.out.keeps hk1 (by simp); have p0 := hr1.cell (j := 0) rfl; have p1 := hr1.cell (j := 1) rfl; have p2 := hr1.cell (j := 2) rfl; have p3 := hr1.cell (j := 3) rfl; have f0 := hr1.frozen 0; have f1 := hr1.frozen 1; have f2 := hr1.frozen 2; have f3 := hr1.frozen 3; have hl1 := hr1.lt)
      | fail)
  all_goals (have HK1 := Lib.hid (HK0.out.trans hk1))
  all_goals (try go_wp2)
  all_goals (refine bodyPost_ret (v := .agg #[.int .i64 3, .int .i64 at_, .int .u64 hd, .int .u64 (rgPair (rgHi hd) (rgAdd (rgLo hd) n))]) (by simp [results, Tryz.results148, go_sem, p0, p1, p2, p3]) rfl ⟨rfl, ?_⟩)
  all_goals exact HK1.out.step (S := [w.heap.size]) (((((Keeps.refl _ _).set (by simp) _ _).set (by simp) _ _).set (by simp) _ _).set (by simp) _ _) (by simp)

set_option maxHeartbeats 3200000 in
theorem rfSteal6 (q : Nat) (at_ size task target hd t u n k : Int) (took : List Int) (tk l : Value) (dn : Bool) (c v : Int) (w : World) (h : Row w q 155 (rfCells ⟨at_, size, 3, task, target, 6, hd, t, u, n, k, took, none⟩ tk dn c v l)) (hr : dqRight at_ size)(hk : 0 ≤ k ∧ k ≤ 256) :
    Calls Tryz.prog 148 #[.pointer (some ⟨q, 0, none⟩)] w fun e w' => e = .returned (.agg #[.int .i64 1, .int .i64 (dqSlot at_ size (rgAdd t k)), .int .u64 0, .int .u64 0]) ∧ Keeps [] w w' := by
  have hlt := h.lt
  obtain ⟨W0, hW0⟩ : ∃ W0, w.alloc (.cells #[.int .i64 0, .int .i64 0, .int .u64 0, .int .u64 0] 107) = W0 := ⟨_, rfl⟩
  have k0 : Keeps [] w W0 := by rw [← hW0]; exact (Keeps.refl _ _).alloc _
  have r0 : Row W0 w.heap.size 107 [.int .i64 0, .int .i64 0, .int .u64 0, .int .u64 0] := by rw [← hW0]; exact Row.new _ _ _
  have hrow0 := h.keeps k0 (by simp)
  have c0 := hrow0.cell (j := 0) (u := .int .i64 at_) rfl
  have c1 := hrow0.cell (j := 1) (u := .int .i64 size) rfl
  have c2 := hrow0.cell (j := 2) (u := .int .i64 3) rfl
  have c3 := hrow0.cell (j := 3) (u := .int .u64 task) rfl
  have c4 := hrow0.cell (j := 4) (u := .int .i64 target) rfl
  have c5 := hrow0.cell (j := 5) (u := .int .i64 6) rfl
  have c6 := hrow0.cell (j := 6) (u := .int .u64 hd) rfl
  have c7 := hrow0.cell (j := 7) (u := .int .u32 t) rfl
  have c8 := hrow0.cell (j := 8) (u := .int .u32 u) rfl
  have c9 := hrow0.cell (j := 9) (u := .int .i64 n) rfl
  have c10 := hrow0.cell (j := 10) (u := .int .i64 k) rfl
  have HK0 := Lib.hid k0
  have HR0 := Lib.hid r0
  have HRow := Lib.hid hrow0
  have HL := Lib.hid (fun x W => rfLoad_any x W)
  have hwk : IntKind.u32.wrap k = k := by show k % 4294967296 = k; omega
  have hwa : IntKind.u32.wrap (t + k) = rgAdd t k := rfl
  have hrowD := hrow0.keeps (Keeps.refl [] W0).drew (by simp)
  have HSl := Lib.hid (rfSlot_any q _ _ _ _ _ _ at_ (rgAdd t k) W0.drew hrowD hr (rgAdd_range _ _))
  have HQ : Hid (∀ W S, Keeps S W0 W → q ∉ S → W.cell? ⟨q, 0, none⟩ = some (.int .i64 at_) ∧ W.cell? ⟨q, 1, none⟩ = some (.int .i64 size) ∧ W.cell? ⟨q, 2, none⟩ = some (.int .i64 3) ∧ W.cell? ⟨q, 3, none⟩ = some (.int .u64 task) ∧ W.cell? ⟨q, 4, none⟩ = some (.int .i64 target) ∧ W.cell? ⟨q, 5, none⟩ = some (.int .i64 6) ∧ W.cell? ⟨q, 6, none⟩ = some (.int .u64 hd) ∧ W.cell? ⟨q, 7, none⟩ = some (.int .u32 t) ∧ W.cell? ⟨q, 8, none⟩ = some (.int .u32 u) ∧ W.cell? ⟨q, 9, none⟩ = some (.int .i64 n) ∧ W.cell? ⟨q, 10, none⟩ = some (.int .i64 k)) := Lib.hid (fun W S hk hq => by
    have hh := hrow0.keeps hk hq
    exact ⟨hh.cell (j := 0) rfl, hh.cell (j := 1) rfl, hh.cell (j := 2) rfl, hh.cell (j := 3) rfl, hh.cell (j := 4) rfl, hh.cell (j := 5) rfl, hh.cell (j := 6) rfl, hh.cell (j := 7) rfl, hh.cell (j := 8) rfl, hh.cell (j := 9) rfl, hh.cell (j := 10) rfl⟩)
  clear h hrow0 k0 r0 hrowD
  go_enter Tryz.func148, Tryz.ntmps148
  go_wp2
  go_region_held3 (fun w' => w'.cell? ⟨q, 0, none⟩ = some (.int .i64 at_) ∧ w'.cell? ⟨q, 1, none⟩ = some (.int .i64 size) ∧ w'.cell? ⟨q, 2, none⟩ = some (.int .i64 3) ∧ w'.cell? ⟨q, 3, none⟩ = some (.int .u64 task) ∧ w'.cell? ⟨q, 4, none⟩ = some (.int .i64 target) ∧ w'.cell? ⟨q, 5, none⟩ = some (.int .i64 6) ∧ w'.cell? ⟨q, 6, none⟩ = some (.int .u64 hd) ∧ w'.cell? ⟨q, 7, none⟩ = some (.int .u32 t) ∧ w'.cell? ⟨q, 8, none⟩ = some (.int .u32 u) ∧ w'.cell? ⟨q, 9, none⟩ = some (.int .i64 n) ∧ w'.cell? ⟨q, 10, none⟩ = some (.int .i64 k))
    (first
      | exact HQ.out _ [w.heap.size] ((((((hk1.mono (by simp)).set (by simp) _ _).set (by simp) _ _).set (by simp) _ _).set (by simp) _ _)) (by simp; omega)
      | exact HQ.out _ _ hk1 (by simp)
      | exact HQ.out _ _ (Keeps.refl [] W0).drew (by simp)
      | exact ⟨by assumption, by assumption, by assumption, by assumption, by assumption, by assumption, by assumption, by assumption, by assumption, by assumption, by assumption⟩
      | fail)
    (first
      | (go_at_call 187; refine (HSl.out).mono ?_; rintro e w2 ⟨rfl, rfl⟩)
      | (go_at_call 185; refine (HL.out _ _).mono ?_; rintro e w1 ⟨rfl, k1⟩; have hk1 : Keeps [] W0 w1 := k1.undrew; have hr1 := HR0.out.keeps hk1 (by simp); have p0 := hr1.cell (j := 0) rfl; have p1 := hr1.cell (j := 1) rfl; have p2 := hr1.cell (j := 2) rfl; have p3 := hr1.cell (j := 3) rfl; have f0 := hr1.frozen 0; have f1 := hr1.frozen 1; have f2 := hr1.frozen 2; have f3 := hr1.frozen 3; have hl1 := hr1.lt)
      | fail)
  all_goals (have HK1 := Lib.hid (HK0.out.trans hk1))
  all_goals (try go_wp2)
  all_goals (refine bodyPost_ret (v := .agg #[.int .i64 1, .int .i64 (dqSlot at_ size (rgAdd t k)), .int .u64 0, .int .u64 0]) (by simp [results, Tryz.results148, go_sem, p0, p1, p2, p3]) rfl ⟨rfl, ?_⟩)
  all_goals exact HK1.out.step (S := [w.heap.size]) (((((Keeps.refl _ _).set (by simp) _ _).set (by simp) _ _).set (by simp) _ _).set (by simp) _ _) (by simp)

set_option maxHeartbeats 3200000 in
theorem rfSteal8 (q : Nat) (at_ size task target hd t u n k : Int) (took : List Int) (tk l : Value) (dn : Bool) (c v : Int) (w : World) (h : Row w q 155 (rfCells ⟨at_, size, 3, task, target, 8, hd, t, u, n, k, took, none⟩ tk dn c v l)) (hu : M.U hd) :
    Calls Tryz.prog 148 #[.pointer (some ⟨q, 0, none⟩)] w fun e w' => e = .returned (.agg #[.int .i64 3, .int .i64 at_, .int .u64 hd, .int .u64 (rgPair (rgLo hd) (rgLo hd))]) ∧ Keeps [] w w' := by
  have hlt := h.lt
  obtain ⟨W0, hW0⟩ : ∃ W0, w.alloc (.cells #[.int .i64 0, .int .i64 0, .int .u64 0, .int .u64 0] 107) = W0 := ⟨_, rfl⟩
  have k0 : Keeps [] w W0 := by rw [← hW0]; exact (Keeps.refl _ _).alloc _
  have r0 : Row W0 w.heap.size 107 [.int .i64 0, .int .i64 0, .int .u64 0, .int .u64 0] := by rw [← hW0]; exact Row.new _ _ _
  have hrow0 := h.keeps k0 (by simp)
  have c0 := hrow0.cell (j := 0) (u := .int .i64 at_) rfl
  have c1 := hrow0.cell (j := 1) (u := .int .i64 size) rfl
  have c2 := hrow0.cell (j := 2) (u := .int .i64 3) rfl
  have c3 := hrow0.cell (j := 3) (u := .int .u64 task) rfl
  have c4 := hrow0.cell (j := 4) (u := .int .i64 target) rfl
  have c5 := hrow0.cell (j := 5) (u := .int .i64 8) rfl
  have c6 := hrow0.cell (j := 6) (u := .int .u64 hd) rfl
  have c7 := hrow0.cell (j := 7) (u := .int .u32 t) rfl
  have c8 := hrow0.cell (j := 8) (u := .int .u32 u) rfl
  have c9 := hrow0.cell (j := 9) (u := .int .i64 n) rfl
  have c10 := hrow0.cell (j := 10) (u := .int .i64 k) rfl
  have HK0 := Lib.hid k0
  have HR0 := Lib.hid r0
  have HRow := Lib.hid hrow0
  have HL := Lib.hid (fun x W => rfLoad_any x W)
  have HA := Lib.hid (rfAt_any q _ _ _ _ _ _ W0 hrow0 hu)
  have HC := Lib.hid (rfCas_any q _ _ _ _ _ _ (rgLo hd) (rgLo hd) W0 hrow0 (rgLo_range hd) (rgLo_range hd))
  clear h hrow0 k0 r0
  go_enter Tryz.func148, Tryz.ntmps148
  go_wp2_with (first | (go_at_call 189; refine (HA.out).mono ?_; rintro e w2 ⟨rfl, rfl⟩) | fail)
  refine HC.out.mono ?_
  rintro e w1 ⟨rfl, k1⟩
  have hr1 := HR0.out.keeps (k1) (by simp)
  have p0 := hr1.cell (j := 0) rfl
  have p1 := hr1.cell (j := 1) rfl
  have p2 := hr1.cell (j := 2) rfl
  have p3 := hr1.cell (j := 3) rfl
  have f0 := hr1.frozen 0
  have f1 := hr1.frozen 1
  have f2 := hr1.frozen 2
  have f3 := hr1.frozen 3
  have hl1 := hr1.lt
  have HK1 := Lib.hid (HK0.out.trans (k1))
  clear k1 hr1
  go_wp2
  refine bodyPost_ret (v := .agg #[.int .i64 3, .int .i64 at_, .int .u64 hd, .int .u64 (rgPair (rgLo hd) (rgLo hd))]) (by simp [results, Tryz.results148, go_sem, p0, p1, p2, p3]) rfl ⟨rfl, ?_⟩
  exact HK1.out.step (S := [w.heap.size]) (((((Keeps.refl _ _).set (by simp) _ _).set (by simp) _ _).set (by simp) _ _).set (by simp) _ _) (by simp)

set_option maxHeartbeats 3200000 in
theorem rfSteal9 (q : Nat) (at_ size task target hd t u n k : Int) (took : List Int) (tk l : Value) (dn : Bool) (c v : Int) (w : World) (h : Row w q 155 (rfCells ⟨at_, size, 3, task, target, 9, hd, t, u, n, k, took, none⟩ tk dn c v l)) (b0 : 0 ≤ target) (b1 : target < 65536)(hn : 1 ≤ n ∧ n ≤ 256)(hu : W32 u) :
    Calls Tryz.prog 148 #[.pointer (some ⟨q, 0, none⟩)] w fun e w' => e = .returned (.agg #[.int .i64 2, .int .i64 (target + 1), .int .u64 (rgAdd u (n - 1)), .int .u64 0]) ∧ Keeps [] w w' := by
  have hlt := h.lt
  obtain ⟨W0, hW0⟩ : ∃ W0, w.alloc (.cells #[.int .i64 0, .int .i64 0, .int .u64 0, .int .u64 0] 107) = W0 := ⟨_, rfl⟩
  have k0 : Keeps [] w W0 := by rw [← hW0]; exact (Keeps.refl _ _).alloc _
  have r0 : Row W0 w.heap.size 107 [.int .i64 0, .int .i64 0, .int .u64 0, .int .u64 0] := by rw [← hW0]; exact Row.new _ _ _
  have hrow0 := h.keeps k0 (by simp)
  have c0 := hrow0.cell (j := 0) (u := .int .i64 at_) rfl
  have c1 := hrow0.cell (j := 1) (u := .int .i64 size) rfl
  have c2 := hrow0.cell (j := 2) (u := .int .i64 3) rfl
  have c3 := hrow0.cell (j := 3) (u := .int .u64 task) rfl
  have c4 := hrow0.cell (j := 4) (u := .int .i64 target) rfl
  have c5 := hrow0.cell (j := 5) (u := .int .i64 9) rfl
  have c6 := hrow0.cell (j := 6) (u := .int .u64 hd) rfl
  have c7 := hrow0.cell (j := 7) (u := .int .u32 t) rfl
  have c8 := hrow0.cell (j := 8) (u := .int .u32 u) rfl
  have c9 := hrow0.cell (j := 9) (u := .int .i64 n) rfl
  have c10 := hrow0.cell (j := 10) (u := .int .i64 k) rfl
  have HK0 := Lib.hid k0
  have HR0 := Lib.hid r0
  have HRow := Lib.hid hrow0
  have HL := Lib.hid (fun x W => rfLoad_any x W)
  have hwi : IntKind.i64.wrap (target + 1) = target + 1 := IntWalk.i64_in _ (by omega)
  have hwn : IntKind.u32.wrap n = n := by show n % 4294967296 = n; omega
  have hwa : IntKind.u64.wrap (IntKind.u32.wrap (IntKind.u32.wrap (u + n) - 1)) = rgAdd u (n - 1) := by obtain ⟨u0, u1⟩ := hu; show (((u + n) % 4294967296 - 1) % 4294967296) % 18446744073709551616 = (u + (n - 1)) % 4294967296; omega
  have hrowD := hrow0.keeps (Keeps.refl [] W0).drew (by simp)
  have HSt := Lib.hid (fun x v W => rfStore_any x v W)
  have HQ : Hid (∀ W S, Keeps S W0 W → q ∉ S → W.cell? ⟨q, 0, none⟩ = some (.int .i64 at_) ∧ W.cell? ⟨q, 1, none⟩ = some (.int .i64 size) ∧ W.cell? ⟨q, 2, none⟩ = some (.int .i64 3) ∧ W.cell? ⟨q, 3, none⟩ = some (.int .u64 task) ∧ W.cell? ⟨q, 4, none⟩ = some (.int .i64 target) ∧ W.cell? ⟨q, 5, none⟩ = some (.int .i64 9) ∧ W.cell? ⟨q, 6, none⟩ = some (.int .u64 hd) ∧ W.cell? ⟨q, 7, none⟩ = some (.int .u32 t) ∧ W.cell? ⟨q, 8, none⟩ = some (.int .u32 u) ∧ W.cell? ⟨q, 9, none⟩ = some (.int .i64 n) ∧ W.cell? ⟨q, 10, none⟩ = some (.int .i64 k)) := Lib.hid (fun W S hk hq => by
    have hh := hrow0.keeps hk hq
    exact ⟨hh.cell (j := 0) rfl, hh.cell (j := 1) rfl, hh.cell (j := 2) rfl, hh.cell (j := 3) rfl, hh.cell (j := 4) rfl, hh.cell (j := 5) rfl, hh.cell (j := 6) rfl, hh.cell (j := 7) rfl, hh.cell (j := 8) rfl, hh.cell (j := 9) rfl, hh.cell (j := 10) rfl⟩)
  clear h hrow0 k0 r0 hrowD
  go_enter Tryz.func148, Tryz.ntmps148
  go_wp2
  go_region_held3 (fun w' => w'.cell? ⟨q, 0, none⟩ = some (.int .i64 at_) ∧ w'.cell? ⟨q, 1, none⟩ = some (.int .i64 size) ∧ w'.cell? ⟨q, 2, none⟩ = some (.int .i64 3) ∧ w'.cell? ⟨q, 3, none⟩ = some (.int .u64 task) ∧ w'.cell? ⟨q, 4, none⟩ = some (.int .i64 target) ∧ w'.cell? ⟨q, 5, none⟩ = some (.int .i64 9) ∧ w'.cell? ⟨q, 6, none⟩ = some (.int .u64 hd) ∧ w'.cell? ⟨q, 7, none⟩ = some (.int .u32 t) ∧ w'.cell? ⟨q, 8, none⟩ = some (.int .u32 u) ∧ w'.cell? ⟨q, 9, none⟩ = some (.int .i64 n) ∧ w'.cell? ⟨q, 10, none⟩ = some (.int .i64 k))
    (first
      | exact HQ.out _ [w.heap.size] ((((((hk1.mono (by simp)).set (by simp) _ _).set (by simp) _ _).set (by simp) _ _).set (by simp) _ _)) (by simp; omega)
      | exact HQ.out _ _ hk1 (by simp)
      | exact HQ.out _ _ (Keeps.refl [] W0).drew (by simp)
      | exact ⟨by assumption, by assumption, by assumption, by assumption, by assumption, by assumption, by assumption, by assumption, by assumption, by assumption, by assumption⟩
      | fail)
    (first
      | (go_at_call 186; refine (HSt.out _ _ _).mono ?_; rintro e w1 ⟨rfl, k1⟩; have hk1 : Keeps [] W0 w1 := k1.undrew; have hr1 := HR0.out.keeps hk1 (by simp); have p0 := hr1.cell (j := 0) rfl; have p1 := hr1.cell (j := 1) rfl; have p2 := hr1.cell (j := 2) rfl; have p3 := hr1.cell (j := 3) rfl; have f0 := hr1.frozen 0; have f1 := hr1.frozen 1; have f2 := hr1.frozen 2; have f3 := hr1.frozen 3; have hl1 := hr1.lt)
      | fail)
  all_goals (have HK1 := Lib.hid (HK0.out.trans hk1))
  all_goals (try go_wp2)
  all_goals (refine bodyPost_ret (v := .agg #[.int .i64 2, .int .i64 (target + 1), .int .u64 (rgAdd u (n - 1)), .int .u64 0]) (by simp [results, Tryz.results148, go_sem, p0, p1, p2, p3]) rfl ⟨rfl, ?_⟩)
  all_goals exact HK1.out.step (S := [w.heap.size]) (((((Keeps.refl _ _).set (by simp) _ _).set (by simp) _ _).set (by simp) _ _).set (by simp) _ _) (by simp)
end Go.Proofs.YtjfgpplnlepnoaaGreat

/-
  Contracts: what a document's frame of a ring wants: the others.
-/
namespace Go.Proofs.YtjfgpplnlepnoaaGreat
set_option maxRecDepth 100000
set_option linter.unusedSimpArgs false
set_option linter.unusedVariables false
open Go.ChangeShapes Go.WideShapes Go.ChangeAt Go.RowKit

set_option maxHeartbeats 6400000 in
theorem rfSteal60 (q g nt ct kN : Nat) (at_ size task target hd t u n : Int) (took : List Int) (l : Value) (dn : Bool) (c v : Int) (w : World) (h : Row w q 155 (rfCells ⟨at_, size, 3, task, target, 60, hd, t, u, n, (kN : Int), took, none⟩ (.slice (some ⟨g, 0, none⟩) nt ct) dn c v l)) (hr : dqRight target size) (hgl : g < w.heap.size) (hx : w.cell? ⟨g, kN, none⟩ = some (.int .u64 (took.getD kN 0))) (hkn : kN < nt) (hk2 : kN ≤ 256) :
    Calls Tryz.prog 148 #[.pointer (some ⟨q, 0, none⟩)] w fun e w' => e = .returned (.agg #[.int .i64 2, .int .i64 (dqSlot target size (rgAdd u (kN : Int))), .int .u64 (took.getD kN 0), .int .u64 0]) ∧ Keeps [] w w' := by
  have hlt := h.lt
  obtain ⟨W0, hW0⟩ : ∃ W0, w.alloc (.cells #[.int .i64 0, .int .i64 0, .int .u64 0, .int .u64 0] 107) = W0 := ⟨_, rfl⟩
  have k0 : Keeps [] w W0 := by rw [← hW0]; exact (Keeps.refl _ _).alloc _
  have r0 : Row W0 w.heap.size 107 [.int .i64 0, .int .i64 0, .int .u64 0, .int .u64 0] := by rw [← hW0]; exact Row.new _ _ _
  have hrow0 := h.keeps k0 (by simp)
  have c0 := hrow0.cell (j := 0) (u := .int .i64 at_) rfl
  have c1 := hrow0.cell (j := 1) (u := .int .i64 size) rfl
  have c2 := hrow0.cell (j := 2) (u := .int .i64 3) rfl
  have c3 := hrow0.cell (j := 3) (u := .int .u64 task) rfl
  have c4 := hrow0.cell (j := 4) (u := .int .i64 target) rfl
  have c5 := hrow0.cell (j := 5) (u := .int .i64 60) rfl
  have c6 := hrow0.cell (j := 6) (u := .int .u64 hd) rfl
  have c7 := hrow0.cell (j := 7) (u := .int .u32 t) rfl
  have c8 := hrow0.cell (j := 8) (u := .int .u32 u) rfl
  have c9 := hrow0.cell (j := 9) (u := .int .i64 n) rfl
  have c10 := hrow0.cell (j := 10) (u := .int .i64 (kN : Int)) rfl
  have c11 := hrow0.cell (j := 11) (u := .slice (some ⟨g, 0, none⟩) nt ct) rfl
  have cx := (k0.cell (p := ⟨g, kN, none⟩) hgl (by simp)).trans hx
  have hgl0 := Nat.lt_of_lt_of_le hgl k0.size
  have HK0 := Lib.hid k0
  have HR0 := Lib.hid r0
  have HSt := Lib.hid (fun x v W => rfStore_any x v W)
  have hrowD := hrow0.keeps (Keeps.refl [] W0).drew (by simp)
  have HSl := Lib.hid (rfSlot_any q _ _ _ _ _ _ target (rgAdd u (kN : Int)) W0.drew hrowD hr (rgAdd_range _ _))
  have hwk : IntKind.u32.wrap (kN : Int) = (kN : Int) := by show (kN : Int) % 4294967296 = kN; omega
  have hwa : IntKind.u32.wrap (u + (kN : Int)) = rgAdd u (kN : Int) := rfl
  have i1 : (kN : Int) < (nt : Int) := by omega
  have HQ : Hid (∀ W S, Keeps S W0 W → q ∉ S → g ∉ S → W.cell? ⟨q, 0, none⟩ = some (.int .i64 at_) ∧ W.cell? ⟨q, 1, none⟩ = some (.int .i64 size) ∧ W.cell? ⟨q, 2, none⟩ = some (.int .i64 3) ∧ W.cell? ⟨q, 3, none⟩ = some (.int .u64 task) ∧ W.cell? ⟨q, 4, none⟩ = some (.int .i64 target) ∧ W.cell? ⟨q, 5, none⟩ = some (.int .i64 60) ∧ W.cell? ⟨q, 6, none⟩ = some (.int .u64 hd) ∧ W.cell? ⟨q, 7, none⟩ = some (.int .u32 t) ∧ W.cell? ⟨q, 8, none⟩ = some (.int .u32 u) ∧ W.cell? ⟨q, 9, none⟩ = some (.int .i64 n) ∧ W.cell? ⟨q, 10, none⟩ = some (.int .i64 (kN : Int)) ∧ W.cell? ⟨q, 11, none⟩ = some (.slice (some ⟨g, 0, none⟩) nt ct) ∧ W.cell? ⟨g, kN, none⟩ = some (.int .u64 (took.getD kN 0))) := Lib.hid (fun W S hk hq hg => by
    have hh := hrow0.keeps hk hq
    exact ⟨hh.cell (j := 0) rfl, hh.cell (j := 1) rfl, hh.cell (j := 2) rfl, hh.cell (j := 3) rfl, hh.cell (j := 4) rfl, hh.cell (j := 5) rfl, hh.cell (j := 6) rfl, hh.cell (j := 7) rfl, hh.cell (j := 8) rfl, hh.cell (j := 9) rfl, hh.cell (j := 10) rfl, hh.cell (j := 11) rfl, (hk.cell (p := ⟨g, kN, none⟩) hgl0 hg).trans cx⟩)
  clear h hrow0 k0 r0 hrowD hx
  go_enter Tryz.func148, Tryz.ntmps148
  go_wp2
  go_region_held3 (fun w' => w'.cell? ⟨q, 0, none⟩ = some (.int .i64 at_) ∧ w'.cell? ⟨q, 1, none⟩ = some (.int .i64 size) ∧ w'.cell? ⟨q, 2, none⟩ = some (.int .i64 3) ∧ w'.cell? ⟨q, 3, none⟩ = some (.int .u64 task) ∧ w'.cell? ⟨q, 4, none⟩ = some (.int .i64 target) ∧ w'.cell? ⟨q, 5, none⟩ = some (.int .i64 60) ∧ w'.cell? ⟨q, 6, none⟩ = some (.int .u64 hd) ∧ w'.cell? ⟨q, 7, none⟩ = some (.int .u32 t) ∧ w'.cell? ⟨q, 8, none⟩ = some (.int .u32 u) ∧ w'.cell? ⟨q, 9, none⟩ = some (.int .i64 n) ∧ w'.cell? ⟨q, 10, none⟩ = some (.int .i64 (kN : Int)) ∧ w'.cell? ⟨q, 11, none⟩ = some (.slice (some ⟨g, 0, none⟩) nt ct) ∧ w'.cell? ⟨g, kN, none⟩ = some (.int .u64 (took.getD kN 0)))
    (first
      | exact HQ.out _ [w.heap.size] ((((((hk1.mono (by simp)).set (by simp) _ _).set (by simp) _ _).set (by simp) _ _).set (by simp) _ _)) (by simp; omega) (by simp; omega)
      | exact HQ.out _ _ hk1 (by simp) (by simp)
      | exact HQ.out _ _ (Keeps.refl [] W0).drew (by simp) (by simp)
      | exact ⟨by assumption, by assumption, by assumption, by assumption, by assumption, by assumption, by assumption, by assumption, by assumption, by assumption, by assumption, by assumption, by assumption⟩
      | fail)
    (first
      | (go_at_call 187; refine (HSl.out).mono ?_; rintro e w2 ⟨rfl, rfl⟩)
      | (go_at_call 186; refine (HSt.out _ _ _).mono ?_; rintro e w1 ⟨rfl, k1⟩; have hk1 : Keeps [] W0 w1 := k1.undrew; have hr1 := HR0.out.keeps hk1 (by simp); have p0 := hr1.cell (j := 0) rfl; have p1 := hr1.cell (j := 1) rfl; have p2 := hr1.cell (j := 2) rfl; have p3 := hr1.cell (j := 3) rfl; have f0 := hr1.frozen 0; have f1 := hr1.frozen 1; have f2 := hr1.frozen 2; have f3 := hr1.frozen 3; have hl1 := hr1.lt)
      | fail)
  all_goals (have HK1 := Lib.hid (HK0.out.trans hk1))
  all_goals (try go_wp2)
  all_goals (refine bodyPost_ret (v := .agg #[.int .i64 2, .int .i64 (dqSlot target size (rgAdd u (kN : Int))), .int .u64 (took.getD kN 0), .int .u64 0]) (by simp [results, Tryz.results148, go_sem, p0, p1, p2, p3]) rfl ⟨rfl, ?_⟩)
  all_goals exact HK1.out.step (S := [w.heap.size]) (((((Keeps.refl _ _).set (by simp) _ _).set (by simp) _ _).set (by simp) _ _).set (by simp) _ _) (by simp)

set_option maxHeartbeats 6400000 in
theorem rfPop3All (q : Nat) (at_ size task target hd t u n k : Int) (took : List Int) (tk l : Value) (dn : Bool) (c v : Int) (w : World) (h : Row w q 155 (rfCells ⟨at_, size, 2, task, target, 3, hd, t, u, n, k, took, none⟩ tk dn c v l)) (hu : M.U hd) (hB : rgHi hd = rgLo hd) :
    Calls Tryz.prog 147 #[.pointer (some ⟨q, 0, none⟩)] w fun e w' => e = .returned (.agg #[.int .i64 3, .int .i64 at_, .int .u64 hd, .int .u64 (rgPair (rgAdd (rgLo hd) 1) (rgAdd (rgLo hd) 1))]) ∧ Keeps [] w w' := by
  have hlt := h.lt
  obtain ⟨W0, hW0⟩ : ∃ W0, w.alloc (.cells #[.int .i64 0, .int .i64 0, .int .u64 0, .int .u64 0] 107) = W0 := ⟨_, rfl⟩
  have k0 : Keeps [] w W0 := by rw [← hW0]; exact (Keeps.refl _ _).alloc _
  have r0 : Row W0 w.heap.size 107 [.int .i64 0, .int .i64 0, .int .u64 0, .int .u64 0] := by rw [← hW0]; exact Row.new _ _ _
  have hrow0 := h.keeps k0 (by simp)
  have c0 := hrow0.cell (j := 0) (u := .int .i64 at_) rfl
  have c1 := hrow0.cell (j := 1) (u := .int .i64 size) rfl
  have c2 := hrow0.cell (j := 2) (u := .int .i64 2) rfl
  have c3 := hrow0.cell (j := 3) (u := .int .u64 task) rfl
  have c4 := hrow0.cell (j := 4) (u := .int .i64 target) rfl
  have c5 := hrow0.cell (j := 5) (u := .int .i64 3) rfl
  have c6 := hrow0.cell (j := 6) (u := .int .u64 hd) rfl
  have c7 := hrow0.cell (j := 7) (u := .int .u32 t) rfl
  have c8 := hrow0.cell (j := 8) (u := .int .u32 u) rfl
  have c9 := hrow0.cell (j := 9) (u := .int .i64 n) rfl
  have c10 := hrow0.cell (j := 10) (u := .int .i64 k) rfl
  have HK0 := Lib.hid k0
  have HR0 := Lib.hid r0
  have HA := Lib.hid (fun W (k : Keeps [] W0 W) => rfAt_any q _ _ _ _ _ _ W (hrow0.keeps k (by simp)) hu)
  have HS := Lib.hid (fun W (k : Keeps [] W0 W) => rfS_any q _ _ _ _ _ _ W (hrow0.keeps k (by simp)) hu)
  have HC := Lib.hid (fun W (k : Keeps [] W0 W) => rfCas_any q _ _ _ _ _ _ (rgAdd (rgLo hd) 1) (rgAdd (rgLo hd) 1) W (hrow0.keeps k (by simp)) (rgAdd_range _ _) (rgAdd_range _ _))
  have hwa : IntKind.u32.wrap (rgLo hd + 1) = rgAdd (rgLo hd) 1 := rfl
  rw [hB] at HS
  clear hB
  clear h hrow0 k0 r0
  have kk : Keeps [] W0 W0 := Keeps.refl _ _
  go_enter Tryz.func147, Tryz.ntmps147
  go_wp2_with (first | (go_at_call 189; refine (HA.out _ kk).mono ?_; rintro e w2 ⟨rfl, rfl⟩) | (go_at_call 190; refine (HS.out _ kk).mono ?_; rintro e w2 ⟨rfl, rfl⟩) | fail)
  refine (HC.out W0 kk).mono ?_
  rintro e w1 ⟨rfl, k1⟩
  have hr1 := HR0.out.keeps (k1) (by simp)
  have p0 := hr1.cell (j := 0) rfl
  have p1 := hr1.cell (j := 1) rfl
  have p2 := hr1.cell (j := 2) rfl
  have p3 := hr1.cell (j := 3) rfl
  have f0 := hr1.frozen 0
  have f1 := hr1.frozen 1
  have f2 := hr1.frozen 2
  have f3 := hr1.frozen 3
  have hl1 := hr1.lt
  have HK1 := Lib.hid (HK0.out.trans (k1))
  clear k1 hr1
  go_wp2
  refine bodyPost_ret (v := .agg #[.int .i64 3, .int .i64 at_, .int .u64 hd, .int .u64 (rgPair (rgAdd (rgLo hd) 1) (rgAdd (rgLo hd) 1))]) (by simp [results, Tryz.results147, go_sem, p0, p1, p2, p3]) rfl ⟨rfl, ?_⟩
  exact HK1.out.step (S := [w.heap.size]) (((((Keeps.refl _ _).set (by simp) _ _).set (by simp) _ _).set (by simp) _ _).set (by simp) _ _) (by simp)

set_option maxHeartbeats 6400000 in
theorem rfPop3 (q : Nat) (at_ size task target hd t u n k : Int) (took : List Int) (tk l : Value) (dn : Bool) (c v : Int) (w : World) (h : Row w q 155 (rfCells ⟨at_, size, 2, task, target, 3, hd, t, u, n, k, took, none⟩ tk dn c v l)) (hu : M.U hd) (hB : rgHi hd ≠ rgLo hd) :
    Calls Tryz.prog 147 #[.pointer (some ⟨q, 0, none⟩)] w fun e w' => e = .returned (.agg #[.int .i64 3, .int .i64 at_, .int .u64 hd, .int .u64 (rgPair (rgHi hd) (rgAdd (rgLo hd) 1))]) ∧ Keeps [] w w' := by
  have hlt := h.lt
  obtain ⟨W0, hW0⟩ : ∃ W0, w.alloc (.cells #[.int .i64 0, .int .i64 0, .int .u64 0, .int .u64 0] 107) = W0 := ⟨_, rfl⟩
  have k0 : Keeps [] w W0 := by rw [← hW0]; exact (Keeps.refl _ _).alloc _
  have r0 : Row W0 w.heap.size 107 [.int .i64 0, .int .i64 0, .int .u64 0, .int .u64 0] := by rw [← hW0]; exact Row.new _ _ _
  have hrow0 := h.keeps k0 (by simp)
  have c0 := hrow0.cell (j := 0) (u := .int .i64 at_) rfl
  have c1 := hrow0.cell (j := 1) (u := .int .i64 size) rfl
  have c2 := hrow0.cell (j := 2) (u := .int .i64 2) rfl
  have c3 := hrow0.cell (j := 3) (u := .int .u64 task) rfl
  have c4 := hrow0.cell (j := 4) (u := .int .i64 target) rfl
  have c5 := hrow0.cell (j := 5) (u := .int .i64 3) rfl
  have c6 := hrow0.cell (j := 6) (u := .int .u64 hd) rfl
  have c7 := hrow0.cell (j := 7) (u := .int .u32 t) rfl
  have c8 := hrow0.cell (j := 8) (u := .int .u32 u) rfl
  have c9 := hrow0.cell (j := 9) (u := .int .i64 n) rfl
  have c10 := hrow0.cell (j := 10) (u := .int .i64 k) rfl
  have HK0 := Lib.hid k0
  have HR0 := Lib.hid r0
  have HA := Lib.hid (fun W (k : Keeps [] W0 W) => rfAt_any q _ _ _ _ _ _ W (hrow0.keeps k (by simp)) hu)
  have HS := Lib.hid (fun W (k : Keeps [] W0 W) => rfS_any q _ _ _ _ _ _ W (hrow0.keeps k (by simp)) hu)
  have HC := Lib.hid (fun W (k : Keeps [] W0 W) => rfCas_any q _ _ _ _ _ _ (rgHi hd) (rgAdd (rgLo hd) 1) W (hrow0.keeps k (by simp)) (rgHi_range hu) (rgAdd_range _ _))
  have hwa : IntKind.u32.wrap (rgLo hd + 1) = rgAdd (rgLo hd) 1 := rfl
  have dB : (rgHi hd == rgLo hd) = false := beq_eq_false_iff_ne.2 hB
  clear hB
  clear h hrow0 k0 r0
  have kk : Keeps [] W0 W0 := Keeps.refl _ _
  go_enter Tryz.func147, Tryz.ntmps147
  go_wp2_with (first | (go_at_call 189; refine (HA.out _ kk).mono ?_; rintro e w2 ⟨rfl, rfl⟩) | (go_at_call 190; refine (HS.out _ kk).mono ?_; rintro e w2 ⟨rfl, rfl⟩) | fail)
  refine (HC.out W0 kk).mono ?_
  rintro e w1 ⟨rfl, k1⟩
  have hr1 := HR0.out.keeps (k1) (by simp)
  have p0 := hr1.cell (j := 0) rfl
  have p1 := hr1.cell (j := 1) rfl
  have p2 := hr1.cell (j := 2) rfl
  have p3 := hr1.cell (j := 3) rfl
  have f0 := hr1.frozen 0
  have f1 := hr1.frozen 1
  have f2 := hr1.frozen 2
  have f3 := hr1.frozen 3
  have hl1 := hr1.lt
  have HK1 := Lib.hid (HK0.out.trans (k1))
  clear k1 hr1
  go_wp2
  refine bodyPost_ret (v := .agg #[.int .i64 3, .int .i64 at_, .int .u64 hd, .int .u64 (rgPair (rgHi hd) (rgAdd (rgLo hd) 1))]) (by simp [results, Tryz.results147, go_sem, p0, p1, p2, p3]) rfl ⟨rfl, ?_⟩
  exact HK1.out.step (S := [w.heap.size]) (((((Keeps.refl _ _).set (by simp) _ _).set (by simp) _ _).set (by simp) _ _).set (by simp) _ _) (by simp)
end Go.Proofs.YtjfgpplnlepnoaaGreat
