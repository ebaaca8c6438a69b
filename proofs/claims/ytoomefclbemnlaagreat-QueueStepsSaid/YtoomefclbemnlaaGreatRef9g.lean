/-
  The document's frame of a queue's Put and Take: its cells; what its small functions do.
-/
import Derived.Test.YtoomefclbemnlaaGreatQuP
import Derived.Test.YtoomefclbemnlaaGreatWord
import Derived.Test.YtoomefclbemnlaaGreatSeen
import Derived.IntWalk
import Derived.Test.YtoomefclbemnlaaGreatRef6
namespace Go.Proofs.YtoomefclbemnlaaGreat
set_option maxRecDepth 100000
set_option linter.unusedSimpArgs false
set_option linter.unusedVariables false
open Go.ChangeShapes Go.WideShapes Go.ChangeAt Go.RowKit

/-- Stores into one row, one behind the other, and draws. -/
inductive Did (p : Nat) (w : World) : World → List (Nat × Value) → Prop
  | refl : Did p w w []
  | set {w' : World} {l : List (Nat × Value)} {i : Nat} {v : Value} : Did p w w' l → Did p w (w'.setCell ⟨p, i, none⟩ v) (l ++ [(i, v)])
  | drew {w' : World} {l : List (Nat × Value)} : Did p w w' l → Did p w w'.drew l
  | drewN {w' : World} {l : List (Nat × Value)} {m : Nat} : Did p w w' l → Did p w (w'.drewN m) l
  | alloc {w' : World} {l : List (Nat × Value)} {o : Obj} : Did p w w' l → Did p w (w'.alloc o) l
def putsL (xs : List Value) (l : List (Nat × Value)) : List Value := l.foldl (fun xs iv => xs.set iv.1 iv.2) xs
theorem Did.fin {p : Nat} {w w' : World} {l : List (Nat × Value)} {e : TypeId} {xs ys : List Value} (h : Did p w w' l) (hr : Row w p e xs) (he : putsL xs l = ys) : Row w' p e ys ∧ Keeps [p] w w' := by
  subst he
  induction h with
  | refl => exact ⟨hr, Keeps.refl _ _⟩
  | set _ ih =>
    refine ⟨?_, ih.2.set (by simp) _ _⟩
    unfold putsL
    rw [List.foldl_append]
    exact ih.1.set _ _
  | drew _ ih => exact ⟨ih.1.keeps (Keeps.refl [] _).drew (by simp), ih.2.drew⟩
  | drewN _ ih => exact ⟨ih.1.keeps (Keeps.of_drewN _ _) (by simp), ih.2.drewN⟩
  | alloc _ ih => exact ⟨ih.1.keeps ((Keeps.refl [] _).alloc _) (by simp), ih.2.alloc _⟩

theorem Did.keeps {p : Nat} {w w' : World} {l : List (Nat × Value)} (h : Did p w w' l) : Keeps [p] w w' := by
  induction h with
  | refl => exact Keeps.refl _ _
  | set _ ih => exact ih.set (by simp) _ _
  | drew _ ih => exact ih.drew
  | drewN _ ih => exact ih.drewN
  | alloc _ ih => exact ih.alloc _
theorem Did.row {p : Nat} {w w' : World} {l : List (Nat × Value)} {e : TypeId} {xs ys : List Value} (h : Did p w w' l) (hr : Row w p e xs) (he : putsL xs l = ys) : Row w' p e ys := (h.fin hr he).1
theorem Did.size {p : Nat} {w w' : World} {l : List (Nat × Value)} (h : Did p w w' l) : w.heap.size ≤ w'.heap.size := h.keeps.size
theorem Did.keepCell {p b j : Nat} {w w' : World} {l : List (Nat × Value)} {u : Value} (h : Did p w w' l) (hlt : b < w.heap.size) (hn : b ≠ p) (hv : w.cell? ⟨b, j, none⟩ = some u) : w'.cell? ⟨b, j, none⟩ = some u :=
  (h.keeps.cell (p := ⟨b, j, none⟩) hlt (by simpa using hn)).trans hv
theorem Did.at {p : Nat} {w w' : World} {l : List (Nat × Value)} {e : TypeId} {xs : List Value} {j : Nat} {u : Value} (h : Did p w w' l) (hr : Row w p e xs) (hu : (putsL xs l)[j]? = some u) : w'.cell? ⟨p, j, none⟩ = some u :=
  (h.fin hr rfl).1.cell hu

def quCells (s : QuS) (lv nv sv : Value) : List Value :=
  [.int .i64 s.at_, .int .i64 s.n, .bool s.puts, lv, nv, .int .i64 s.k, .int .i64 s.step, sv, .int .u64 s.h, .int .u64 s.t, .int .u64 s.x, .int .u64 s.v, .int .i64 s.code, .bool s.inn, .bool s.over.isSome,
    .int .i64 (s.over.getD Rs.zero).code, .int .u64 (s.over.getD Rs.zero).v, .slice none 0 0]
theorem refNodeOf_any (u : Int) (w : World) (hu : M.U u) :
    Calls Tryz.prog 128 #[.int .u64 u] w fun e w' => e = .returned (.int .i64 (quNode u)) ∧ w = w' := by
  have h0 := hu.nn
  have HL := Lib.hid (fun W => refLo_any u W h0)
  unfold quNode
  obtain ⟨q, hq⟩ : ∃ q, u % 4294967296 = q := ⟨_, rfl⟩
  have q0 : 0 ≤ q := by omega
  have q1 : q < 4294967296 := by omega
  rw [hq] at HL ⊢
  clear hq hu h0
  go_enter Tryz.func128, Tryz.ntmps128
  go_wp2_with fail
  refine (HL.out w).mono ?_
  rintro e w' ⟨rfl, rfl⟩
  go_wp2
  go_ret
  exact ⟨rfl, rfl⟩
theorem refWrong_any (p : Nat) (n u : Int) (w : World) (hu : M.U u) (c1 : w.cell? ⟨p, 1, none⟩ = some (.int .i64 n)) :
    Calls Tryz.prog 153 #[.pointer (some ⟨p, 0, none⟩), .int .u64 u] w fun e w' => e = .returned (.bool (decide (quWrong n u))) ∧ ∃ m, w.drewN m = w' := by
  have HN := Lib.hid (fun W => refNodeOf_any u W hu)
  obtain ⟨q, hq⟩ : ∃ q, quNode u = q := ⟨_, rfl⟩
  rw [hq] at HN
  by_cases h1 : q < 1
  · have d1 : decide (q < 1) = true := decide_eq_true h1
    have hd : Hid (decide (quWrong n u) = true) := Lib.hid (decide_eq_true (by unfold quWrong; omega))
    rw [hd.out]
    clear hq hu
    go_enter Tryz.func153, Tryz.ntmps153
    go_wp2
    go_quiet ((go_at_call 128; exact qs (HN.out _)))
    go_wp2
    go_ret
    exact ⟨rfl, by first | exact ⟨_, rfl⟩ | exact ⟨0, rfl⟩ | exact ⟨1, rfl⟩⟩
  · have d1 : decide (q < 1) = false := decide_eq_false h1
    by_cases h2 : n < q
    · have d2 : decide (n < q) = true := decide_eq_true h2
      have hd : Hid (decide (quWrong n u) = true) := Lib.hid (decide_eq_true (by unfold quWrong; omega))
      rw [hd.out]
      clear hq hu
      go_enter Tryz.func153, Tryz.ntmps153
      go_wp2
      go_quiet ((go_at_call 128; exact qs (HN.out _)))
      go_wp2
      go_ret
      exact ⟨rfl, by first | exact ⟨_, rfl⟩ | exact ⟨0, rfl⟩ | exact ⟨1, rfl⟩⟩
    · have d2 : decide (n < q) = false := decide_eq_false h2
      have hd : Hid (decide (quWrong n u) = false) := Lib.hid (decide_eq_false (by unfold quWrong; omega))
      rw [hd.out]
      clear hq hu
      go_enter Tryz.func153, Tryz.ntmps153
      go_wp2
      go_quiet ((go_at_call 128; exact qs (HN.out _)))
      go_wp2
      go_ret
      exact ⟨rfl, by first | exact ⟨_, rfl⟩ | exact ⟨0, rfl⟩ | exact ⟨1, rfl⟩⟩
end Go.Proofs.YtoomefclbemnlaaGreat

/-
  Give of the document's frame of a queue, where it isn't in the arena: case by case. (Written by wip/tools/r9gen.py.)
-/
namespace Go.Proofs.YtoomefclbemnlaaGreat
set_option maxRecDepth 100000
set_option linter.unusedSimpArgs false
set_option linter.unusedVariables false
open Go.ChangeShapes Go.WideShapes Go.ChangeAt Go.RowKit

section
variable {p : Nat} {w : World} {lv nv : Value}
set_option maxHeartbeats 1600000 in
theorem rq_p20 (s : QuS) (v : Int) (won : Bool) (h : Row w p 85 (quCells s lv nv (.pointer none))) (hn : ∃ q c, nv = .slice q s.nodes.length c) (ho : s.over = none) (hp : s.puts = true) (hs : s.step = 20) (hU : M.U v) (hHU : M.U s.h) (hTU : M.U s.t) (hXU : M.U s.x) (hkk : s.k ≤ 300)  :
    Calls Tryz.prog 41 #[.pointer (some ⟨p, 0, none⟩), .int .u64 v, .bool won] w fun e w' => e = .returned (.tuple #[]) ∧ Row w' p 85 (quCells ({ s with step := 21 }) lv nv (.pointer none)) ∧ Keeps [p] w w' := by
  obtain ⟨nq, nc, rfl⟩ := hn
  obtain ⟨at_, n, puts, l, nodes, k, step, sub, hh, t, x, vv, code, inn, over⟩ := s
  simp only at *
  subst ho hp hs
  have HR := Lib.hid h
  have c0 := h.cell (j := 0) rfl
  have f0 := h.frozen 0
  have c1 := h.cell (j := 1) rfl
  have f1 := h.frozen 1
  have c2 := h.cell (j := 2) rfl
  have f2 := h.frozen 2
  have c3 := h.cell (j := 3) rfl
  have f3 := h.frozen 3
  have c4 := h.cell (j := 4) rfl
  have f4 := h.frozen 4
  have c5 := h.cell (j := 5) rfl
  have f5 := h.frozen 5
  have c6 := h.cell (j := 6) rfl
  have f6 := h.frozen 6
  have c7 := h.cell (j := 7) rfl
  have f7 := h.frozen 7
  have c8 := h.cell (j := 8) rfl
  have f8 := h.frozen 8
  have c9 := h.cell (j := 9) rfl
  have f9 := h.frozen 9
  have c10 := h.cell (j := 10) rfl
  have f10 := h.frozen 10
  have c11 := h.cell (j := 11) rfl
  have f11 := h.frozen 11
  have c12 := h.cell (j := 12) rfl
  have f12 := h.frozen 12
  have c13 := h.cell (j := 13) rfl
  have f13 := h.frozen 13
  have c14 := h.cell (j := 14) rfl
  have f14 := h.frozen 14
  have c15 := h.cell (j := 15) rfl
  have f15 := h.frozen 15
  have c16 := h.cell (j := 16) rfl
  have f16 := h.frozen 16
  have c17 := h.cell (j := 17) rfl
  have f17 := h.frozen 17
  simp only [Option.isSome_none, Option.getD_none] at c14 c15 c16
  clear h

  clear hU hHU hTU hXU
  go_enter Tryz.func41, Tryz.ntmps41
  repeat
    fail_if_success (with_reducible refine ⟨rfl, ?_⟩)
    first
      | (with_reducible show bodyPost _ _ _ _ _ _; first | go_end0 | refine bodyPost_ret (results_none rfl _ _ _) rfl ?_)
      | go_quiet (first
        | fail)
      | go_wp2_with (first
        | go_in)
  refine ⟨rfl, ?_⟩
  apply Did.fin (hr := HR.out)
  · repeat (first | with_reducible apply Did.set | with_reducible apply Did.drew | with_reducible apply Did.drewN | with_reducible exact Did.refl)
  · kernel_rfl
set_option maxHeartbeats 1600000 in
theorem rq_p21 (s : QuS) (v : Int) (won : Bool) (h : Row w p 85 (quCells s lv nv (.pointer none))) (hn : ∃ q c, nv = .slice q s.nodes.length c) (ho : s.over = none) (hp : s.puts = true) (hs : s.step = 21) (hU : M.U v) (hHU : M.U s.h) (hTU : M.U s.t) (hXU : M.U s.x) (hkk : s.k ≤ 300)  :
    Calls Tryz.prog 41 #[.pointer (some ⟨p, 0, none⟩), .int .u64 v, .bool won] w fun e w' => e = .returned (.tuple #[]) ∧ Row w' p 85 (quCells ({ s with x := v, step := 22 }) lv nv (.pointer none)) ∧ Keeps [p] w w' := by
  obtain ⟨nq, nc, rfl⟩ := hn
  obtain ⟨at_, n, puts, l, nodes, k, step, sub, hh, t, x, vv, code, inn, over⟩ := s
  simp only at *
  subst ho hp hs
  have HR := Lib.hid h
  have c0 := h.cell (j := 0) rfl
  have f0 := h.frozen 0
  have c1 := h.cell (j := 1) rfl
  have f1 := h.frozen 1
  have c2 := h.cell (j := 2) rfl
  have f2 := h.frozen 2
  have c3 := h.cell (j := 3) rfl
  have f3 := h.frozen 3
  have c4 := h.cell (j := 4) rfl
  have f4 := h.frozen 4
  have c5 := h.cell (j := 5) rfl
  have f5 := h.frozen 5
  have c6 := h.cell (j := 6) rfl
  have f6 := h.frozen 6
  have c7 := h.cell (j := 7) rfl
  have f7 := h.frozen 7
  have c8 := h.cell (j := 8) rfl
  have f8 := h.frozen 8
  have c9 := h.cell (j := 9) rfl
  have f9 := h.frozen 9
  have c10 := h.cell (j := 10) rfl
  have f10 := h.frozen 10
  have c11 := h.cell (j := 11) rfl
  have f11 := h.frozen 11
  have c12 := h.cell (j := 12) rfl
  have f12 := h.frozen 12
  have c13 := h.cell (j := 13) rfl
  have f13 := h.frozen 13
  have c14 := h.cell (j := 14) rfl
  have f14 := h.frozen 14
  have c15 := h.cell (j := 15) rfl
  have f15 := h.frozen 15
  have c16 := h.cell (j := 16) rfl
  have f16 := h.frozen 16
  have c17 := h.cell (j := 17) rfl
  have f17 := h.frozen 17
  simp only [Option.isSome_none, Option.getD_none] at c14 c15 c16
  clear h

  clear hU hHU hTU hXU
  go_enter Tryz.func41, Tryz.ntmps41
  repeat
    fail_if_success (with_reducible refine ⟨rfl, ?_⟩)
    first
      | (with_reducible show bodyPost _ _ _ _ _ _; first | go_end0 | refine bodyPost_ret (results_none rfl _ _ _) rfl ?_)
      | go_quiet (first
        | fail)
      | go_wp2_with (first
        | go_in)
  refine ⟨rfl, ?_⟩
  apply Did.fin (hr := HR.out)
  · repeat (first | with_reducible apply Did.set | with_reducible apply Did.drew | with_reducible apply Did.drewN | with_reducible exact Did.refl)
  · kernel_rfl
set_option maxHeartbeats 1600000 in
theorem rq_p22e (s : QuS) (v : Int) (won : Bool) (h : Row w p 85 (quCells s lv nv (.pointer none))) (hn : ∃ q c, nv = .slice q s.nodes.length c) (ho : s.over = none) (hp : s.puts = true) (hs : s.step = 22) (hU : M.U v) (hHU : M.U s.h) (hTU : M.U s.t) (hXU : M.U s.x) (hkk : s.k ≤ 300) (hk : s.k + 1 = s.nodes.length) :
    Calls Tryz.prog 41 #[.pointer (some ⟨p, 0, none⟩), .int .u64 v, .bool won] w fun e w' => e = .returned (.tuple #[]) ∧ Row w' p 85 (quCells ({ s with k := s.k + 1, step := 3 }) lv nv (.pointer none)) ∧ Keeps [p] w w' := by
  obtain ⟨nq, nc, rfl⟩ := hn
  obtain ⟨at_, n, puts, l, nodes, k, step, sub, hh, t, x, vv, code, inn, over⟩ := s
  simp only at *
  subst ho hp hs
  have HR := Lib.hid h
  have c0 := h.cell (j := 0) rfl
  have f0 := h.frozen 0
  have c1 := h.cell (j := 1) rfl
  have f1 := h.frozen 1
  have c2 := h.cell (j := 2) rfl
  have f2 := h.frozen 2
  have c3 := h.cell (j := 3) rfl
  have f3 := h.frozen 3
  have c4 := h.cell (j := 4) rfl
  have f4 := h.frozen 4
  have c5 := h.cell (j := 5) rfl
  have f5 := h.frozen 5
  have c6 := h.cell (j := 6) rfl
  have f6 := h.frozen 6
  have c7 := h.cell (j := 7) rfl
  have f7 := h.frozen 7
  have c8 := h.cell (j := 8) rfl
  have f8 := h.frozen 8
  have c9 := h.cell (j := 9) rfl
  have f9 := h.frozen 9
  have c10 := h.cell (j := 10) rfl
  have f10 := h.frozen 10
  have c11 := h.cell (j := 11) rfl
  have f11 := h.frozen 11
  have c12 := h.cell (j := 12) rfl
  have f12 := h.frozen 12
  have c13 := h.cell (j := 13) rfl
  have f13 := h.frozen 13
  have c14 := h.cell (j := 14) rfl
  have f14 := h.frozen 14
  have c15 := h.cell (j := 15) rfl
  have f15 := h.frozen 15
  have c16 := h.cell (j := 16) rfl
  have f16 := h.frozen 16
  have c17 := h.cell (j := 17) rfl
  have f17 := h.frozen 17
  simp only [Option.isSome_none, Option.getD_none] at c14 c15 c16
  clear h
  have dk : (((k : Int) + 1) == (nodes.length : Int)) = true := by simp; omega
  clear hU hHU hTU hXU
  go_enter Tryz.func41, Tryz.ntmps41
  repeat
    fail_if_success (with_reducible refine ⟨rfl, ?_⟩)
    first
      | (with_reducible show bodyPost _ _ _ _ _ _; first | go_end0 | refine bodyPost_ret (results_none rfl _ _ _) rfl ?_)
      | go_quiet (first
        | fail)
      | go_wp2_with (first
        | go_in)
  refine ⟨rfl, ?_⟩
  apply Did.fin (hr := HR.out)
  · repeat (first | with_reducible apply Did.set | with_reducible apply Did.drew | with_reducible apply Did.drewN | with_reducible exact Did.refl)
  · kernel_rfl
set_option maxHeartbeats 1600000 in
theorem rq_p22m (s : QuS) (v : Int) (won : Bool) (h : Row w p 85 (quCells s lv nv (.pointer none))) (hn : ∃ q c, nv = .slice q s.nodes.length c) (ho : s.over = none) (hp : s.puts = true) (hs : s.step = 22) (hU : M.U v) (hHU : M.U s.h) (hTU : M.U s.t) (hXU : M.U s.x) (hkk : s.k ≤ 300) (hk : s.k + 1 ≠ s.nodes.length) :
    Calls Tryz.prog 41 #[.pointer (some ⟨p, 0, none⟩), .int .u64 v, .bool won] w fun e w' => e = .returned (.tuple #[]) ∧ Row w' p 85 (quCells ({ s with k := s.k + 1, step := 20 }) lv nv (.pointer none)) ∧ Keeps [p] w w' := by
  obtain ⟨nq, nc, rfl⟩ := hn
  obtain ⟨at_, n, puts, l, nodes, k, step, sub, hh, t, x, vv, code, inn, over⟩ := s
  simp only at *
  subst ho hp hs
  have HR := Lib.hid h
  have c0 := h.cell (j := 0) rfl
  have f0 := h.frozen 0
  have c1 := h.cell (j := 1) rfl
  have f1 := h.frozen 1
  have c2 := h.cell (j := 2) rfl
  have f2 := h.frozen 2
  have c3 := h.cell (j := 3) rfl
  have f3 := h.frozen 3
  have c4 := h.cell (j := 4) rfl
  have f4 := h.frozen 4
  have c5 := h.cell (j := 5) rfl
  have f5 := h.frozen 5
  have c6 := h.cell (j := 6) rfl
  have f6 := h.frozen 6
  have c7 := h.cell (j := 7) rfl
  have f7 := h.frozen 7
  have c8 := h.cell (j := 8) rfl
  have f8 := h.frozen 8
  have c9 := h.cell (j := 9) rfl
  have f9 := h.frozen 9
  have c10 := h.cell (j := 10) rfl
  have f10 := h.frozen 10
  have c11 := h.cell (j := 11) rfl
  have f11 := h.frozen 11
  have c12 := h.cell (j := 12) rfl
  have f12 := h.frozen 12
  have c13 := h.cell (j := 13) rfl
  have f13 := h.frozen 13
  have c14 := h.cell (j := 14) rfl
  have f14 := h.frozen 14
  have c15 := h.cell (j := 15) rfl
  have f15 := h.frozen 15
  have c16 := h.cell (j := 16) rfl
  have f16 := h.frozen 16
  have c17 := h.cell (j := 17) rfl
  have f17 := h.frozen 17
  simp only [Option.isSome_none, Option.getD_none] at c14 c15 c16
  clear h
  have dk : (((k : Int) + 1) == (nodes.length : Int)) = false := by simp; omega
  clear hU hHU hTU hXU
  go_enter Tryz.func41, Tryz.ntmps41
  repeat
    fail_if_success (with_reducible refine ⟨rfl, ?_⟩)
    first
      | (with_reducible show bodyPost _ _ _ _ _ _; first | go_end0 | refine bodyPost_ret (results_none rfl _ _ _) rfl ?_)
      | go_quiet (first
        | fail)
      | go_wp2_with (first
        | go_in)
  refine ⟨rfl, ?_⟩
  apply Did.fin (hr := HR.out)
  · repeat (first | with_reducible apply Did.set | with_reducible apply Did.drew | with_reducible apply Did.drewN | with_reducible exact Did.refl)
  · kernel_rfl
set_option maxHeartbeats 1600000 in
theorem rq_p3w (s : QuS) (v : Int) (won : Bool) (h : Row w p 85 (quCells s lv nv (.pointer none))) (hn : ∃ q c, nv = .slice q s.nodes.length c) (ho : s.over = none) (hp : s.puts = true) (hs : s.step = 3) (hU : M.U v) (hHU : M.U s.h) (hTU : M.U s.t) (hXU : M.U s.x) (hkk : s.k ≤ 300) (hw : quWrong s.n v) :
    Calls Tryz.prog 41 #[.pointer (some ⟨p, 0, none⟩), .int .u64 v, .bool won] w fun e w' => e = .returned (.tuple #[]) ∧ Row w' p 85 (quCells (quEnd { s with t := v, step := 4 } 9 0) lv nv (.pointer none)) ∧ Keeps [p] w w' := by
  obtain ⟨nq, nc, rfl⟩ := hn
  obtain ⟨at_, n, puts, l, nodes, k, step, sub, hh, t, x, vv, code, inn, over⟩ := s
  simp only at *
  subst ho hp hs
  have HR := Lib.hid h
  have c0 := h.cell (j := 0) rfl
  have f0 := h.frozen 0
  have c1 := h.cell (j := 1) rfl
  have f1 := h.frozen 1
  have c2 := h.cell (j := 2) rfl
  have f2 := h.frozen 2
  have c3 := h.cell (j := 3) rfl
  have f3 := h.frozen 3
  have c4 := h.cell (j := 4) rfl
  have f4 := h.frozen 4
  have c5 := h.cell (j := 5) rfl
  have f5 := h.frozen 5
  have c6 := h.cell (j := 6) rfl
  have f6 := h.frozen 6
  have c7 := h.cell (j := 7) rfl
  have f7 := h.frozen 7
  have c8 := h.cell (j := 8) rfl
  have f8 := h.frozen 8
  have c9 := h.cell (j := 9) rfl
  have f9 := h.frozen 9
  have c10 := h.cell (j := 10) rfl
  have f10 := h.frozen 10
  have c11 := h.cell (j := 11) rfl
  have f11 := h.frozen 11
  have c12 := h.cell (j := 12) rfl
  have f12 := h.frozen 12
  have c13 := h.cell (j := 13) rfl
  have f13 := h.frozen 13
  have c14 := h.cell (j := 14) rfl
  have f14 := h.frozen 14
  have c15 := h.cell (j := 15) rfl
  have f15 := h.frozen 15
  have c16 := h.cell (j := 16) rfl
  have f16 := h.frozen 16
  have c17 := h.cell (j := 17) rfl
  have f17 := h.frozen 17
  simp only [Option.isSome_none, Option.getD_none] at c14 c15 c16
  clear h
  have HW := Lib.hid (fun W c => refWrong_any p n v W hU c)
  rw [decide_eq_true hw] at HW
  clear hw
  clear hU hHU hTU hXU
  go_enter Tryz.func41, Tryz.ntmps41
  repeat
    fail_if_success (with_reducible refine ⟨rfl, ?_⟩)
    first
      | (with_reducible show bodyPost _ _ _ _ _ _; first | go_end0 | refine bodyPost_ret (results_none rfl _ _ _) rfl ?_)
      | go_quiet (first
        | fail)
      | go_wp2_with (first
        | (go_at_call 153; refine (HW.out _ (by apply Did.at (hr := HR.out); (· repeat (first | with_reducible apply Did.set | with_reducible apply Did.drew | with_reducible apply Did.drewN | with_reducible exact Did.refl)); (· kernel_rfl))).mono ?_; rintro e w' ⟨rfl, md, rfl⟩)
        | go_in)
  refine ⟨rfl, ?_⟩
  apply Did.fin (hr := HR.out)
  · repeat (first | with_reducible apply Did.set | with_reducible apply Did.drew | with_reducible apply Did.drewN | with_reducible exact Did.refl)
  · kernel_rfl
set_option maxHeartbeats 1600000 in
theorem rq_p3o (s : QuS) (v : Int) (won : Bool) (h : Row w p 85 (quCells s lv nv (.pointer none))) (hn : ∃ q c, nv = .slice q s.nodes.length c) (ho : s.over = none) (hp : s.puts = true) (hs : s.step = 3) (hU : M.U v) (hHU : M.U s.h) (hTU : M.U s.t) (hXU : M.U s.x) (hkk : s.k ≤ 300) (hw : ¬ quWrong s.n v) :
    Calls Tryz.prog 41 #[.pointer (some ⟨p, 0, none⟩), .int .u64 v, .bool won] w fun e w' => e = .returned (.tuple #[]) ∧ Row w' p 85 (quCells ({ s with t := v, step := 4 }) lv nv (.pointer none)) ∧ Keeps [p] w w' := by
  obtain ⟨nq, nc, rfl⟩ := hn
  obtain ⟨at_, n, puts, l, nodes, k, step, sub, hh, t, x, vv, code, inn, over⟩ := s
  simp only at *
  subst ho hp hs
  have HR := Lib.hid h
  have c0 := h.cell (j := 0) rfl
  have f0 := h.frozen 0
  have c1 := h.cell (j := 1) rfl
  have f1 := h.frozen 1
  have c2 := h.cell (j := 2) rfl
  have f2 := h.frozen 2
  have c3 := h.cell (j := 3) rfl
  have f3 := h.frozen 3
  have c4 := h.cell (j := 4) rfl
  have f4 := h.frozen 4
  have c5 := h.cell (j := 5) rfl
  have f5 := h.frozen 5
  have c6 := h.cell (j := 6) rfl
  have f6 := h.frozen 6
  have c7 := h.cell (j := 7) rfl
  have f7 := h.frozen 7
  have c8 := h.cell (j := 8) rfl
  have f8 := h.frozen 8
  have c9 := h.cell (j := 9) rfl
  have f9 := h.frozen 9
  have c10 := h.cell (j := 10) rfl
  have f10 := h.frozen 10
  have c11 := h.cell (j := 11) rfl
  have f11 := h.frozen 11
  have c12 := h.cell (j := 12) rfl
  have f12 := h.frozen 12
  have c13 := h.cell (j := 13) rfl
  have f13 := h.frozen 13
  have c14 := h.cell (j := 14) rfl
  have f14 := h.frozen 14
  have c15 := h.cell (j := 15) rfl
  have f15 := h.frozen 15
  have c16 := h.cell (j := 16) rfl
  have f16 := h.frozen 16
  have c17 := h.cell (j := 17) rfl
  have f17 := h.frozen 17
  simp only [Option.isSome_none, Option.getD_none] at c14 c15 c16
  clear h
  have HW := Lib.hid (fun W c => refWrong_any p n v W hU c)
  rw [decide_eq_false hw] at HW
  clear hw
  clear hU hHU hTU hXU
  go_enter Tryz.func41, Tryz.ntmps41
  repeat
    fail_if_success (with_reducible refine ⟨rfl, ?_⟩)
    first
      | (with_reducible show bodyPost _ _ _ _ _ _; first | go_end0 | refine bodyPost_ret (results_none rfl _ _ _) rfl ?_)
      | go_quiet (first
        | fail)
      | go_wp2_with (first
        | (go_at_call 153; refine (HW.out _ (by apply Did.at (hr := HR.out); (· repeat (first | with_reducible apply Did.set | with_reducible apply Did.drew | with_reducible apply Did.drewN | with_reducible exact Did.refl)); (· kernel_rfl))).mono ?_; rintro e w' ⟨rfl, md, rfl⟩)
        | go_in)
  refine ⟨rfl, ?_⟩
  apply Did.fin (hr := HR.out)
  · repeat (first | with_reducible apply Did.set | with_reducible apply Did.drew | with_reducible apply Did.drewN | with_reducible exact Did.refl)
  · kernel_rfl
set_option maxHeartbeats 1600000 in
theorem rq_p4 (s : QuS) (v : Int) (won : Bool) (h : Row w p 85 (quCells s lv nv (.pointer none))) (hn : ∃ q c, nv = .slice q s.nodes.length c) (ho : s.over = none) (hp : s.puts = true) (hs : s.step = 4) (hU : M.U v) (hHU : M.U s.h) (hTU : M.U s.t) (hXU : M.U s.x) (hkk : s.k ≤ 300)  :
    Calls Tryz.prog 41 #[.pointer (some ⟨p, 0, none⟩), .int .u64 v, .bool won] w fun e w' => e = .returned (.tuple #[]) ∧ Row w' p 85 (quCells ({ s with x := v, step := 5 }) lv nv (.pointer none)) ∧ Keeps [p] w w' := by
  obtain ⟨nq, nc, rfl⟩ := hn
  obtain ⟨at_, n, puts, l, nodes, k, step, sub, hh, t, x, vv, code, inn, over⟩ := s
  simp only at *
  subst ho hp hs
  have HR := Lib.hid h
  have c0 := h.cell (j := 0) rfl
  have f0 := h.frozen 0
  have c1 := h.cell (j := 1) rfl
  have f1 := h.frozen 1
  have c2 := h.cell (j := 2) rfl
  have f2 := h.frozen 2
  have c3 := h.cell (j := 3) rfl
  have f3 := h.frozen 3
  have c4 := h.cell (j := 4) rfl
  have f4 := h.frozen 4
  have c5 := h.cell (j := 5) rfl
  have f5 := h.frozen 5
  have c6 := h.cell (j := 6) rfl
  have f6 := h.frozen 6
  have c7 := h.cell (j := 7) rfl
  have f7 := h.frozen 7
  have c8 := h.cell (j := 8) rfl
  have f8 := h.frozen 8
  have c9 := h.cell (j := 9) rfl
  have f9 := h.frozen 9
  have c10 := h.cell (j := 10) rfl
  have f10 := h.frozen 10
  have c11 := h.cell (j := 11) rfl
  have f11 := h.frozen 11
  have c12 := h.cell (j := 12) rfl
  have f12 := h.frozen 12
  have c13 := h.cell (j := 13) rfl
  have f13 := h.frozen 13
  have c14 := h.cell (j := 14) rfl
  have f14 := h.frozen 14
  have c15 := h.cell (j := 15) rfl
  have f15 := h.frozen 15
  have c16 := h.cell (j := 16) rfl
  have f16 := h.frozen 16
  have c17 := h.cell (j := 17) rfl
  have f17 := h.frozen 17
  simp only [Option.isSome_none, Option.getD_none] at c14 c15 c16
  clear h

  clear hU hHU hTU hXU
  go_enter Tryz.func41, Tryz.ntmps41
  repeat
    fail_if_success (with_reducible refine ⟨rfl, ?_⟩)
    first
      | (with_reducible show bodyPost _ _ _ _ _ _; first | go_end0 | refine bodyPost_ret (results_none rfl _ _ _) rfl ?_)
      | go_quiet (first
        | fail)
      | go_wp2_with (first
        | go_in)
  refine ⟨rfl, ?_⟩
  apply Did.fin (hr := HR.out)
  · repeat (first | with_reducible apply Did.set | with_reducible apply Did.drew | with_reducible apply Did.drewN | with_reducible exact Did.refl)
  · kernel_rfl
set_option maxHeartbeats 1600000 in
theorem rq_p5w (s : QuS) (v : Int) (won : Bool) (h : Row w p 85 (quCells s lv nv (.pointer none))) (hn : ∃ q c, nv = .slice q s.nodes.length c) (ho : s.over = none) (hp : s.puts = true) (hs : s.step = 5) (hU : M.U v) (hHU : M.U s.h) (hTU : M.U s.t) (hXU : M.U s.x) (hkk : s.k ≤ 300) (hv : v ≠ s.t) (hw : quWrong s.n v) :
    Calls Tryz.prog 41 #[.pointer (some ⟨p, 0, none⟩), .int .u64 v, .bool won] w fun e w' => e = .returned (.tuple #[]) ∧ Row w' p 85 (quCells (quEnd { s with t := v, step := 4 } 9 0) lv nv (.pointer none)) ∧ Keeps [p] w w' := by
  obtain ⟨nq, nc, rfl⟩ := hn
  obtain ⟨at_, n, puts, l, nodes, k, step, sub, hh, t, x, vv, code, inn, over⟩ := s
  simp only at *
  subst ho hp hs
  have HR := Lib.hid h
  have c0 := h.cell (j := 0) rfl
  have f0 := h.frozen 0
  have c1 := h.cell (j := 1) rfl
  have f1 := h.frozen 1
  have c2 := h.cell (j := 2) rfl
  have f2 := h.frozen 2
  have c3 := h.cell (j := 3) rfl
  have f3 := h.frozen 3
  have c4 := h.cell (j := 4) rfl
  have f4 := h.frozen 4
  have c5 := h.cell (j := 5) rfl
  have f5 := h.frozen 5
  have c6 := h.cell (j := 6) rfl
  have f6 := h.frozen 6
  have c7 := h.cell (j := 7) rfl
  have f7 := h.frozen 7
  have c8 := h.cell (j := 8) rfl
  have f8 := h.frozen 8
  have c9 := h.cell (j := 9) rfl
  have f9 := h.frozen 9
  have c10 := h.cell (j := 10) rfl
  have f10 := h.frozen 10
  have c11 := h.cell (j := 11) rfl
  have f11 := h.frozen 11
  have c12 := h.cell (j := 12) rfl
  have f12 := h.frozen 12
  have c13 := h.cell (j := 13) rfl
  have f13 := h.frozen 13
  have c14 := h.cell (j := 14) rfl
  have f14 := h.frozen 14
  have c15 := h.cell (j := 15) rfl
  have f15 := h.frozen 15
  have c16 := h.cell (j := 16) rfl
  have f16 := h.frozen 16
  have c17 := h.cell (j := 17) rfl
  have f17 := h.frozen 17
  simp only [Option.isSome_none, Option.getD_none] at c14 c15 c16
  clear h
  have dv : (v != t) = true := by simpa using hv
  have HW := Lib.hid (fun W c => refWrong_any p n v W hU c)
  rw [decide_eq_true hw] at HW
  clear hw
  clear hU hHU hTU hXU
  go_enter Tryz.func41, Tryz.ntmps41
  repeat
    fail_if_success (with_reducible refine ⟨rfl, ?_⟩)
    first
      | (with_reducible show bodyPost _ _ _ _ _ _; first | go_end0 | refine bodyPost_ret (results_none rfl _ _ _) rfl ?_)
      | go_quiet (first
        | fail)
      | go_wp2_with (first
        | (go_at_call 153; refine (HW.out _ (by apply Did.at (hr := HR.out); (· repeat (first | with_reducible apply Did.set | with_reducible apply Did.drew | with_reducible apply Did.drewN | with_reducible exact Did.refl)); (· kernel_rfl))).mono ?_; rintro e w' ⟨rfl, md, rfl⟩)
        | go_in)
  refine ⟨rfl, ?_⟩
  apply Did.fin (hr := HR.out)
  · repeat (first | with_reducible apply Did.set | with_reducible apply Did.drew | with_reducible apply Did.drewN | with_reducible exact Did.refl)
  · kernel_rfl
set_option maxHeartbeats 1600000 in
theorem rq_p5o (s : QuS) (v : Int) (won : Bool) (h : Row w p 85 (quCells s lv nv (.pointer none))) (hn : ∃ q c, nv = .slice q s.nodes.length c) (ho : s.over = none) (hp : s.puts = true) (hs : s.step = 5) (hU : M.U v) (hHU : M.U s.h) (hTU : M.U s.t) (hXU : M.U s.x) (hkk : s.k ≤ 300) (hv : v ≠ s.t) (hw : ¬ quWrong s.n v) :
    Calls Tryz.prog 41 #[.pointer (some ⟨p, 0, none⟩), .int .u64 v, .bool won] w fun e w' => e = .returned (.tuple #[]) ∧ Row w' p 85 (quCells ({ s with t := v, step := 4 }) lv nv (.pointer none)) ∧ Keeps [p] w w' := by
  obtain ⟨nq, nc, rfl⟩ := hn
  obtain ⟨at_, n, puts, l, nodes, k, step, sub, hh, t, x, vv, code, inn, over⟩ := s
  simp only at *
  subst ho hp hs
  have HR := Lib.hid h
  have c0 := h.cell (j := 0) rfl
  have f0 := h.frozen 0
  have c1 := h.cell (j := 1) rfl
  have f1 := h.frozen 1
  have c2 := h.cell (j := 2) rfl
  have f2 := h.frozen 2
  have c3 := h.cell (j := 3) rfl
  have f3 := h.frozen 3
  have c4 := h.cell (j := 4) rfl
  have f4 := h.frozen 4
  have c5 := h.cell (j := 5) rfl
  have f5 := h.frozen 5
  have c6 := h.cell (j := 6) rfl
  have f6 := h.frozen 6
  have c7 := h.cell (j := 7) rfl
  have f7 := h.frozen 7
  have c8 := h.cell (j := 8) rfl
  have f8 := h.frozen 8
  have c9 := h.cell (j := 9) rfl
  have f9 := h.frozen 9
  have c10 := h.cell (j := 10) rfl
  have f10 := h.frozen 10
  have c11 := h.cell (j := 11) rfl
  have f11 := h.frozen 11
  have c12 := h.cell (j := 12) rfl
  have f12 := h.frozen 12
  have c13 := h.cell (j := 13) rfl
  have f13 := h.frozen 13
  have c14 := h.cell (j := 14) rfl
  have f14 := h.frozen 14
  have c15 := h.cell (j := 15) rfl
  have f15 := h.frozen 15
  have c16 := h.cell (j := 16) rfl
  have f16 := h.frozen 16
  have c17 := h.cell (j := 17) rfl
  have f17 := h.frozen 17
  simp only [Option.isSome_none, Option.getD_none] at c14 c15 c16
  clear h
  have dv : (v != t) = true := by simpa using hv
  have HW := Lib.hid (fun W c => refWrong_any p n v W hU c)
  rw [decide_eq_false hw] at HW
  clear hw
  clear hU hHU hTU hXU
  go_enter Tryz.func41, Tryz.ntmps41
  repeat
    fail_if_success (with_reducible refine ⟨rfl, ?_⟩)
    first
      | (with_reducible show bodyPost _ _ _ _ _ _; first | go_end0 | refine bodyPost_ret (results_none rfl _ _ _) rfl ?_)
      | go_quiet (first
        | fail)
      | go_wp2_with (first
        | (go_at_call 153; refine (HW.out _ (by apply Did.at (hr := HR.out); (· repeat (first | with_reducible apply Did.set | with_reducible apply Did.drew | with_reducible apply Did.drewN | with_reducible exact Did.refl)); (· kernel_rfl))).mono ?_; rintro e w' ⟨rfl, md, rfl⟩)
        | go_in)
  refine ⟨rfl, ?_⟩
  apply Did.fin (hr := HR.out)
  · repeat (first | with_reducible apply Did.set | with_reducible apply Did.drew | with_reducible apply Did.drewN | with_reducible exact Did.refl)
  · kernel_rfl
set_option maxHeartbeats 1600000 in
theorem rq_p5x (s : QuS) (v : Int) (won : Bool) (h : Row w p 85 (quCells s lv nv (.pointer none))) (hn : ∃ q c, nv = .slice q s.nodes.length c) (ho : s.over = none) (hp : s.puts = true) (hs : s.step = 5) (hU : M.U v) (hHU : M.U s.h) (hTU : M.U s.t) (hXU : M.U s.x) (hkk : s.k ≤ 300) (hv : v = s.t) (hx : s.n < quNode s.x) :
    Calls Tryz.prog 41 #[.pointer (some ⟨p, 0, none⟩), .int .u64 v, .bool won] w fun e w' => e = .returned (.tuple #[]) ∧ Row w' p 85 (quCells (quEnd { s with step := 6 } 9 0) lv nv (.pointer none)) ∧ Keeps [p] w w' := by
  obtain ⟨nq, nc, rfl⟩ := hn
  obtain ⟨at_, n, puts, l, nodes, k, step, sub, hh, t, x, vv, code, inn, over⟩ := s
  simp only at *
  subst ho hp hs
  have HR := Lib.hid h
  have c0 := h.cell (j := 0) rfl
  have f0 := h.frozen 0
  have c1 := h.cell (j := 1) rfl
  have f1 := h.frozen 1
  have c2 := h.cell (j := 2) rfl
  have f2 := h.frozen 2
  have c3 := h.cell (j := 3) rfl
  have f3 := h.frozen 3
  have c4 := h.cell (j := 4) rfl
  have f4 := h.frozen 4
  have c5 := h.cell (j := 5) rfl
  have f5 := h.frozen 5
  have c6 := h.cell (j := 6) rfl
  have f6 := h.frozen 6
  have c7 := h.cell (j := 7) rfl
  have f7 := h.frozen 7
  have c8 := h.cell (j := 8) rfl
  have f8 := h.frozen 8
  have c9 := h.cell (j := 9) rfl
  have f9 := h.frozen 9
  have c10 := h.cell (j := 10) rfl
  have f10 := h.frozen 10
  have c11 := h.cell (j := 11) rfl
  have f11 := h.frozen 11
  have c12 := h.cell (j := 12) rfl
  have f12 := h.frozen 12
  have c13 := h.cell (j := 13) rfl
  have f13 := h.frozen 13
  have c14 := h.cell (j := 14) rfl
  have f14 := h.frozen 14
  have c15 := h.cell (j := 15) rfl
  have f15 := h.frozen 15
  have c16 := h.cell (j := 16) rfl
  have f16 := h.frozen 16
  have c17 := h.cell (j := 17) rfl
  have f17 := h.frozen 17
  simp only [Option.isSome_none, Option.getD_none] at c14 c15 c16
  clear h
  subst hv
  have dv : (v != v) = false := by simp
  have HNNX := Lib.hid (fun W => refNodeOf_any x W hXU)
  obtain ⟨qx, hqx⟩ : ∃ q, quNode x = q := ⟨_, rfl⟩
  rw [hqx] at HNNX hx
  clear hqx
  have dx : decide (n < qx) = true := decide_eq_true hx
  clear hU hHU hTU hXU
  go_enter Tryz.func41, Tryz.ntmps41
  repeat
    fail_if_success (with_reducible refine ⟨rfl, ?_⟩)
    first
      | (with_reducible show bodyPost _ _ _ _ _ _; first | go_end0 | refine bodyPost_ret (results_none rfl _ _ _) rfl ?_)
      | go_quiet (first
        | (go_at_call 128; exact qs (HNNX.out _))
        | fail)
      | go_wp2_with (first
        | (go_at_call 128; refine (HNNX.out _).mono ?_; rintro e w' ⟨rfl, rfl⟩)
        | go_in)
  refine ⟨rfl, ?_⟩
  apply Did.fin (hr := HR.out)
  · repeat (first | with_reducible apply Did.set | with_reducible apply Did.drew | with_reducible apply Did.drewN | with_reducible exact Did.refl)
  · kernel_rfl
set_option maxHeartbeats 1600000 in
theorem rq_p5n (s : QuS) (v : Int) (won : Bool) (h : Row w p 85 (quCells s lv nv (.pointer none))) (hn : ∃ q c, nv = .slice q s.nodes.length c) (ho : s.over = none) (hp : s.puts = true) (hs : s.step = 5) (hU : M.U v) (hHU : M.U s.h) (hTU : M.U s.t) (hXU : M.U s.x) (hkk : s.k ≤ 300) (hv : v = s.t) (hx : ¬ s.n < quNode s.x) :
    Calls Tryz.prog 41 #[.pointer (some ⟨p, 0, none⟩), .int .u64 v, .bool won] w fun e w' => e = .returned (.tuple #[]) ∧ Row w' p 85 (quCells ({ s with step := 6 }) lv nv (.pointer none)) ∧ Keeps [p] w w' := by
  obtain ⟨nq, nc, rfl⟩ := hn
  obtain ⟨at_, n, puts, l, nodes, k, step, sub, hh, t, x, vv, code, inn, over⟩ := s
  simp only at *
  subst ho hp hs
  have HR := Lib.hid h
  have c0 := h.cell (j := 0) rfl
  have f0 := h.frozen 0
  have c1 := h.cell (j := 1) rfl
  have f1 := h.frozen 1
  have c2 := h.cell (j := 2) rfl
  have f2 := h.frozen 2
  have c3 := h.cell (j := 3) rfl
  have f3 := h.frozen 3
  have c4 := h.cell (j := 4) rfl
  have f4 := h.frozen 4
  have c5 := h.cell (j := 5) rfl
  have f5 := h.frozen 5
  have c6 := h.cell (j := 6) rfl
  have f6 := h.frozen 6
  have c7 := h.cell (j := 7) rfl
  have f7 := h.frozen 7
  have c8 := h.cell (j := 8) rfl
  have f8 := h.frozen 8
  have c9 := h.cell (j := 9) rfl
  have f9 := h.frozen 9
  have c10 := h.cell (j := 10) rfl
  have f10 := h.frozen 10
  have c11 := h.cell (j := 11) rfl
  have f11 := h.frozen 11
  have c12 := h.cell (j := 12) rfl
  have f12 := h.frozen 12
  have c13 := h.cell (j := 13) rfl
  have f13 := h.frozen 13
  have c14 := h.cell (j := 14) rfl
  have f14 := h.frozen 14
  have c15 := h.cell (j := 15) rfl
  have f15 := h.frozen 15
  have c16 := h.cell (j := 16) rfl
  have f16 := h.frozen 16
  have c17 := h.cell (j := 17) rfl
  have f17 := h.frozen 17
  simp only [Option.isSome_none, Option.getD_none] at c14 c15 c16
  clear h
  subst hv
  have dv : (v != v) = false := by simp
  have HNNX := Lib.hid (fun W => refNodeOf_any x W hXU)
  obtain ⟨qx, hqx⟩ : ∃ q, quNode x = q := ⟨_, rfl⟩
  rw [hqx] at HNNX hx
  clear hqx
  have dx : decide (n < qx) = false := decide_eq_false hx
  clear hU hHU hTU hXU
  go_enter Tryz.func41, Tryz.ntmps41
  repeat
    fail_if_success (with_reducible refine ⟨rfl, ?_⟩)
    first
      | (with_reducible show bodyPost _ _ _ _ _ _; first | go_end0 | refine bodyPost_ret (results_none rfl _ _ _) rfl ?_)
      | go_quiet (first
        | (go_at_call 128; exact qs (HNNX.out _))
        | fail)
      | go_wp2_with (first
        | (go_at_call 128; refine (HNNX.out _).mono ?_; rintro e w' ⟨rfl, rfl⟩)
        | go_in)
  refine ⟨rfl, ?_⟩
  apply Did.fin (hr := HR.out)
  · repeat (first | with_reducible apply Did.set | with_reducible apply Did.drew | with_reducible apply Did.drewN | with_reducible exact Did.refl)
  · kernel_rfl
set_option maxHeartbeats 1600000 in
theorem rq_p6w (s : QuS) (v : Int) (won : Bool) (h : Row w p 85 (quCells s lv nv (.pointer none))) (hn : ∃ q c, nv = .slice q s.nodes.length c) (ho : s.over = none) (hp : s.puts = true) (hs : s.step = 6) (hU : M.U v) (hHU : M.U s.h) (hTU : M.U s.t) (hXU : M.U s.x) (hkk : s.k ≤ 300) (hx : quNode s.x = 0) (hw : won = true) :
    Calls Tryz.prog 41 #[.pointer (some ⟨p, 0, none⟩), .int .u64 v, .bool won] w fun e w' => e = .returned (.tuple #[]) ∧ Row w' p 85 (quCells ({ s with inn := true, step := 7 }) lv nv (.pointer none)) ∧ Keeps [p] w w' := by
  obtain ⟨nq, nc, rfl⟩ := hn
  obtain ⟨at_, n, puts, l, nodes, k, step, sub, hh, t, x, vv, code, inn, over⟩ := s
  simp only at *
  subst ho hp hs
  have HR := Lib.hid h
  have c0 := h.cell (j := 0) rfl
  have f0 := h.frozen 0
  have c1 := h.cell (j := 1) rfl
  have f1 := h.frozen 1
  have c2 := h.cell (j := 2) rfl
  have f2 := h.frozen 2
  have c3 := h.cell (j := 3) rfl
  have f3 := h.frozen 3
  have c4 := h.cell (j := 4) rfl
  have f4 := h.frozen 4
  have c5 := h.cell (j := 5) rfl
  have f5 := h.frozen 5
  have c6 := h.cell (j := 6) rfl
  have f6 := h.frozen 6
  have c7 := h.cell (j := 7) rfl
  have f7 := h.frozen 7
  have c8 := h.cell (j := 8) rfl
  have f8 := h.frozen 8
  have c9 := h.cell (j := 9) rfl
  have f9 := h.frozen 9
  have c10 := h.cell (j := 10) rfl
  have f10 := h.frozen 10
  have c11 := h.cell (j := 11) rfl
  have f11 := h.frozen 11
  have c12 := h.cell (j := 12) rfl
  have f12 := h.frozen 12
  have c13 := h.cell (j := 13) rfl
  have f13 := h.frozen 13
  have c14 := h.cell (j := 14) rfl
  have f14 := h.frozen 14
  have c15 := h.cell (j := 15) rfl
  have f15 := h.frozen 15
  have c16 := h.cell (j := 16) rfl
  have f16 := h.frozen 16
  have c17 := h.cell (j := 17) rfl
  have f17 := h.frozen 17
  simp only [Option.isSome_none, Option.getD_none] at c14 c15 c16
  clear h
  have HNNX := Lib.hid (fun W => refNodeOf_any x W hXU)
  obtain ⟨qx, hqx⟩ : ∃ q, quNode x = q := ⟨_, rfl⟩
  rw [hqx] at HNNX hx
  clear hqx
  subst hw
  have dx : (qx == 0) = true := by simp [hx]
  clear hU hHU hTU hXU
  go_enter Tryz.func41, Tryz.ntmps41
  repeat
    fail_if_success (with_reducible refine ⟨rfl, ?_⟩)
    first
      | (with_reducible show bodyPost _ _ _ _ _ _; first | go_end0 | refine bodyPost_ret (results_none rfl _ _ _) rfl ?_)
      | go_quiet (first
        | (go_at_call 128; exact qs (HNNX.out _))
        | fail)
      | go_wp2_with (first
        | (go_at_call 128; refine (HNNX.out _).mono ?_; rintro e w' ⟨rfl, rfl⟩)
        | go_in)
  refine ⟨rfl, ?_⟩
  apply Did.fin (hr := HR.out)
  · repeat (first | with_reducible apply Did.set | with_reducible apply Did.drew | with_reducible apply Did.drewN | with_reducible exact Did.refl)
  · kernel_rfl
set_option maxHeartbeats 1600000 in
theorem rq_p6l (s : QuS) (v : Int) (won : Bool) (h : Row w p 85 (quCells s lv nv (.pointer none))) (hn : ∃ q c, nv = .slice q s.nodes.length c) (ho : s.over = none) (hp : s.puts = true) (hs : s.step = 6) (hU : M.U v) (hHU : M.U s.h) (hTU : M.U s.t) (hXU : M.U s.x) (hkk : s.k ≤ 300) (hx : quNode s.x = 0) (hw : won = false) :
    Calls Tryz.prog 41 #[.pointer (some ⟨p, 0, none⟩), .int .u64 v, .bool won] w fun e w' => e = .returned (.tuple #[]) ∧ Row w' p 85 (quCells ({ s with step := 3 }) lv nv (.pointer none)) ∧ Keeps [p] w w' := by
  obtain ⟨nq, nc, rfl⟩ := hn
  obtain ⟨at_, n, puts, l, nodes, k, step, sub, hh, t, x, vv, code, inn, over⟩ := s
  simp only at *
  subst ho hp hs
  have HR := Lib.hid h
  have c0 := h.cell (j := 0) rfl
  have f0 := h.frozen 0
  have c1 := h.cell (j := 1) rfl
  have f1 := h.frozen 1
  have c2 := h.cell (j := 2) rfl
  have f2 := h.frozen 2
  have c3 := h.cell (j := 3) rfl
  have f3 := h.frozen 3
  have c4 := h.cell (j := 4) rfl
  have f4 := h.frozen 4
  have c5 := h.cell (j := 5) rfl
  have f5 := h.frozen 5
  have c6 := h.cell (j := 6) rfl
  have f6 := h.frozen 6
  have c7 := h.cell (j := 7) rfl
  have f7 := h.frozen 7
  have c8 := h.cell (j := 8) rfl
  have f8 := h.frozen 8
  have c9 := h.cell (j := 9) rfl
  have f9 := h.frozen 9
  have c10 := h.cell (j := 10) rfl
  have f10 := h.frozen 10
  have c11 := h.cell (j := 11) rfl
  have f11 := h.frozen 11
  have c12 := h.cell (j := 12) rfl
  have f12 := h.frozen 12
  have c13 := h.cell (j := 13) rfl
  have f13 := h.frozen 13
  have c14 := h.cell (j := 14) rfl
  have f14 := h.frozen 14
  have c15 := h.cell (j := 15) rfl
  have f15 := h.frozen 15
  have c16 := h.cell (j := 16) rfl
  have f16 := h.frozen 16
  have c17 := h.cell (j := 17) rfl
  have f17 := h.frozen 17
  simp only [Option.isSome_none, Option.getD_none] at c14 c15 c16
  clear h
  have HNNX := Lib.hid (fun W => refNodeOf_any x W hXU)
  obtain ⟨qx, hqx⟩ : ∃ q, quNode x = q := ⟨_, rfl⟩
  rw [hqx] at HNNX hx
  clear hqx
  subst hw
  have dx : (qx == 0) = true := by simp [hx]
  clear hU hHU hTU hXU
  go_enter Tryz.func41, Tryz.ntmps41
  repeat
    fail_if_success (with_reducible refine ⟨rfl, ?_⟩)
    first
      | (with_reducible show bodyPost _ _ _ _ _ _; first | go_end0 | refine bodyPost_ret (results_none rfl _ _ _) rfl ?_)
      | go_quiet (first
        | (go_at_call 128; exact qs (HNNX.out _))
        | fail)
      | go_wp2_with (first
        | (go_at_call 128; refine (HNNX.out _).mono ?_; rintro e w' ⟨rfl, rfl⟩)
        | go_in)
  refine ⟨rfl, ?_⟩
  apply Did.fin (hr := HR.out)
  · repeat (first | with_reducible apply Did.set | with_reducible apply Did.drew | with_reducible apply Did.drewN | with_reducible exact Did.refl)
  · kernel_rfl
set_option maxHeartbeats 1600000 in
theorem rq_p6x (s : QuS) (v : Int) (won : Bool) (h : Row w p 85 (quCells s lv nv (.pointer none))) (hn : ∃ q c, nv = .slice q s.nodes.length c) (ho : s.over = none) (hp : s.puts = true) (hs : s.step = 6) (hU : M.U v) (hHU : M.U s.h) (hTU : M.U s.t) (hXU : M.U s.x) (hkk : s.k ≤ 300) (hx : quNode s.x ≠ 0) :
    Calls Tryz.prog 41 #[.pointer (some ⟨p, 0, none⟩), .int .u64 v, .bool won] w fun e w' => e = .returned (.tuple #[]) ∧ Row w' p 85 (quCells ({ s with step := 3 }) lv nv (.pointer none)) ∧ Keeps [p] w w' := by
  obtain ⟨nq, nc, rfl⟩ := hn
  obtain ⟨at_, n, puts, l, nodes, k, step, sub, hh, t, x, vv, code, inn, over⟩ := s
  simp only at *
  subst ho hp hs
  have HR := Lib.hid h
  have c0 := h.cell (j := 0) rfl
  have f0 := h.frozen 0
  have c1 := h.cell (j := 1) rfl
  have f1 := h.frozen 1
  have c2 := h.cell (j := 2) rfl
  have f2 := h.frozen 2
  have c3 := h.cell (j := 3) rfl
  have f3 := h.frozen 3
  have c4 := h.cell (j := 4) rfl
  have f4 := h.frozen 4
  have c5 := h.cell (j := 5) rfl
  have f5 := h.frozen 5
  have c6 := h.cell (j := 6) rfl
  have f6 := h.frozen 6
  have c7 := h.cell (j := 7) rfl
  have f7 := h.frozen 7
  have c8 := h.cell (j := 8) rfl
  have f8 := h.frozen 8
  have c9 := h.cell (j := 9) rfl
  have f9 := h.frozen 9
  have c10 := h.cell (j := 10) rfl
  have f10 := h.frozen 10
  have c11 := h.cell (j := 11) rfl
  have f11 := h.frozen 11
  have c12 := h.cell (j := 12) rfl
  have f12 := h.frozen 12
  have c13 := h.cell (j := 13) rfl
  have f13 := h.frozen 13
  have c14 := h.cell (j := 14) rfl
  have f14 := h.frozen 14
  have c15 := h.cell (j := 15) rfl
  have f15 := h.frozen 15
  have c16 := h.cell (j := 16) rfl
  have f16 := h.frozen 16
  have c17 := h.cell (j := 17) rfl
  have f17 := h.frozen 17
  simp only [Option.isSome_none, Option.getD_none] at c14 c15 c16
  clear h
  have HNNX := Lib.hid (fun W => refNodeOf_any x W hXU)
  obtain ⟨qx, hqx⟩ : ∃ q, quNode x = q := ⟨_, rfl⟩
  rw [hqx] at HNNX hx
  clear hqx
  have dx : (qx == 0) = false := by simp [hx]
  clear hU hHU hTU hXU
  go_enter Tryz.func41, Tryz.ntmps41
  repeat
    fail_if_success (with_reducible refine ⟨rfl, ?_⟩)
    first
      | (with_reducible show bodyPost _ _ _ _ _ _; first | go_end0 | refine bodyPost_ret (results_none rfl _ _ _) rfl ?_)
      | go_quiet (first
        | (go_at_call 128; exact qs (HNNX.out _))
        | fail)
      | go_wp2_with (first
        | (go_at_call 128; refine (HNNX.out _).mono ?_; rintro e w' ⟨rfl, rfl⟩)
        | go_in)
  refine ⟨rfl, ?_⟩
  apply Did.fin (hr := HR.out)
  · repeat (first | with_reducible apply Did.set | with_reducible apply Did.drew | with_reducible apply Did.drewN | with_reducible exact Did.refl)
  · kernel_rfl
set_option maxHeartbeats 1600000 in
theorem rq_p7 (s : QuS) (v : Int) (won : Bool) (h : Row w p 85 (quCells s lv nv (.pointer none))) (hn : ∃ q c, nv = .slice q s.nodes.length c) (ho : s.over = none) (hp : s.puts = true) (hs : s.step = 7) (hU : M.U v) (hHU : M.U s.h) (hTU : M.U s.t) (hXU : M.U s.x) (hkk : s.k ≤ 300)  :
    Calls Tryz.prog 41 #[.pointer (some ⟨p, 0, none⟩), .int .u64 v, .bool won] w fun e w' => e = .returned (.tuple #[]) ∧ Row w' p 85 (quCells (quEnd s 0 0) lv nv (.pointer none)) ∧ Keeps [p] w w' := by
  obtain ⟨nq, nc, rfl⟩ := hn
  obtain ⟨at_, n, puts, l, nodes, k, step, sub, hh, t, x, vv, code, inn, over⟩ := s
  simp only at *
  subst ho hp hs
  have HR := Lib.hid h
  have c0 := h.cell (j := 0) rfl
  have f0 := h.frozen 0
  have c1 := h.cell (j := 1) rfl
  have f1 := h.frozen 1
  have c2 := h.cell (j := 2) rfl
  have f2 := h.frozen 2
  have c3 := h.cell (j := 3) rfl
  have f3 := h.frozen 3
  have c4 := h.cell (j := 4) rfl
  have f4 := h.frozen 4
  have c5 := h.cell (j := 5) rfl
  have f5 := h.frozen 5
  have c6 := h.cell (j := 6) rfl
  have f6 := h.frozen 6
  have c7 := h.cell (j := 7) rfl
  have f7 := h.frozen 7
  have c8 := h.cell (j := 8) rfl
  have f8 := h.frozen 8
  have c9 := h.cell (j := 9) rfl
  have f9 := h.frozen 9
  have c10 := h.cell (j := 10) rfl
  have f10 := h.frozen 10
  have c11 := h.cell (j := 11) rfl
  have f11 := h.frozen 11
  have c12 := h.cell (j := 12) rfl
  have f12 := h.frozen 12
  have c13 := h.cell (j := 13) rfl
  have f13 := h.frozen 13
  have c14 := h.cell (j := 14) rfl
  have f14 := h.frozen 14
  have c15 := h.cell (j := 15) rfl
  have f15 := h.frozen 15
  have c16 := h.cell (j := 16) rfl
  have f16 := h.frozen 16
  have c17 := h.cell (j := 17) rfl
  have f17 := h.frozen 17
  simp only [Option.isSome_none, Option.getD_none] at c14 c15 c16
  clear h

  clear hU hHU hTU hXU
  go_enter Tryz.func41, Tryz.ntmps41
  repeat
    fail_if_success (with_reducible refine ⟨rfl, ?_⟩)
    first
      | (with_reducible show bodyPost _ _ _ _ _ _; first | go_end0 | refine bodyPost_ret (results_none rfl _ _ _) rfl ?_)
      | go_quiet (first
        | fail)
      | go_wp2_with (first
        | go_in)
  refine ⟨rfl, ?_⟩
  apply Did.fin (hr := HR.out)
  · repeat (first | with_reducible apply Did.set | with_reducible apply Did.drew | with_reducible apply Did.drewN | with_reducible exact Did.refl)
  · kernel_rfl
set_option maxHeartbeats 1600000 in
theorem rq_t1w (s : QuS) (v : Int) (won : Bool) (h : Row w p 85 (quCells s lv nv (.pointer none))) (hn : ∃ q c, nv = .slice q s.nodes.length c) (ho : s.over = none) (hp : s.puts = false) (hs : s.step = 1) (hU : M.U v) (hHU : M.U s.h) (hTU : M.U s.t) (hXU : M.U s.x) (hkk : s.k ≤ 300) (hw : quWrong s.n v) :
    Calls Tryz.prog 41 #[.pointer (some ⟨p, 0, none⟩), .int .u64 v, .bool won] w fun e w' => e = .returned (.tuple #[]) ∧ Row w' p 85 (quCells (quEnd { s with h := v, step := 2 } 9 0) lv nv (.pointer none)) ∧ Keeps [p] w w' := by
  obtain ⟨nq, nc, rfl⟩ := hn
  obtain ⟨at_, n, puts, l, nodes, k, step, sub, hh, t, x, vv, code, inn, over⟩ := s
  simp only at *
  subst ho hp hs
  have HR := Lib.hid h
  have c0 := h.cell (j := 0) rfl
  have f0 := h.frozen 0
  have c1 := h.cell (j := 1) rfl
  have f1 := h.frozen 1
  have c2 := h.cell (j := 2) rfl
  have f2 := h.frozen 2
  have c3 := h.cell (j := 3) rfl
  have f3 := h.frozen 3
  have c4 := h.cell (j := 4) rfl
  have f4 := h.frozen 4
  have c5 := h.cell (j := 5) rfl
  have f5 := h.frozen 5
  have c6 := h.cell (j := 6) rfl
  have f6 := h.frozen 6
  have c7 := h.cell (j := 7) rfl
  have f7 := h.frozen 7
  have c8 := h.cell (j := 8) rfl
  have f8 := h.frozen 8
  have c9 := h.cell (j := 9) rfl
  have f9 := h.frozen 9
  have c10 := h.cell (j := 10) rfl
  have f10 := h.frozen 10
  have c11 := h.cell (j := 11) rfl
  have f11 := h.frozen 11
  have c12 := h.cell (j := 12) rfl
  have f12 := h.frozen 12
  have c13 := h.cell (j := 13) rfl
  have f13 := h.frozen 13
  have c14 := h.cell (j := 14) rfl
  have f14 := h.frozen 14
  have c15 := h.cell (j := 15) rfl
  have f15 := h.frozen 15
  have c16 := h.cell (j := 16) rfl
  have f16 := h.frozen 16
  have c17 := h.cell (j := 17) rfl
  have f17 := h.frozen 17
  simp only [Option.isSome_none, Option.getD_none] at c14 c15 c16
  clear h
  have HW := Lib.hid (fun W c => refWrong_any p n v W hU c)
  rw [decide_eq_true hw] at HW
  clear hw
  clear hU hHU hTU hXU
  go_enter Tryz.func41, Tryz.ntmps41
  repeat
    fail_if_success (with_reducible refine ⟨rfl, ?_⟩)
    first
      | (with_reducible show bodyPost _ _ _ _ _ _; first | go_end0 | refine bodyPost_ret (results_none rfl _ _ _) rfl ?_)
      | go_quiet (first
        | fail)
      | go_wp2_with (first
        | (go_at_call 153; refine (HW.out _ (by apply Did.at (hr := HR.out); (· repeat (first | with_reducible apply Did.set | with_reducible apply Did.drew | with_reducible apply Did.drewN | with_reducible exact Did.refl)); (· kernel_rfl))).mono ?_; rintro e w' ⟨rfl, md, rfl⟩)
        | go_in)
  refine ⟨rfl, ?_⟩
  apply Did.fin (hr := HR.out)
  · repeat (first | with_reducible apply Did.set | with_reducible apply Did.drew | with_reducible apply Did.drewN | with_reducible exact Did.refl)
  · kernel_rfl
set_option maxHeartbeats 1600000 in
theorem rq_t1o (s : QuS) (v : Int) (won : Bool) (h : Row w p 85 (quCells s lv nv (.pointer none))) (hn : ∃ q c, nv = .slice q s.nodes.length c) (ho : s.over = none) (hp : s.puts = false) (hs : s.step = 1) (hU : M.U v) (hHU : M.U s.h) (hTU : M.U s.t) (hXU : M.U s.x) (hkk : s.k ≤ 300) (hw : ¬ quWrong s.n v) :
    Calls Tryz.prog 41 #[.pointer (some ⟨p, 0, none⟩), .int .u64 v, .bool won] w fun e w' => e = .returned (.tuple #[]) ∧ Row w' p 85 (quCells ({ s with h := v, step := 2 }) lv nv (.pointer none)) ∧ Keeps [p] w w' := by
  obtain ⟨nq, nc, rfl⟩ := hn
  obtain ⟨at_, n, puts, l, nodes, k, step, sub, hh, t, x, vv, code, inn, over⟩ := s
  simp only at *
  subst ho hp hs
  have HR := Lib.hid h
  have c0 := h.cell (j := 0) rfl
  have f0 := h.frozen 0
  have c1 := h.cell (j := 1) rfl
  have f1 := h.frozen 1
  have c2 := h.cell (j := 2) rfl
  have f2 := h.frozen 2
  have c3 := h.cell (j := 3) rfl
  have f3 := h.frozen 3
  have c4 := h.cell (j := 4) rfl
  have f4 := h.frozen 4
  have c5 := h.cell (j := 5) rfl
  have f5 := h.frozen 5
  have c6 := h.cell (j := 6) rfl
  have f6 := h.frozen 6
  have c7 := h.cell (j := 7) rfl
  have f7 := h.frozen 7
  have c8 := h.cell (j := 8) rfl
  have f8 := h.frozen 8
  have c9 := h.cell (j := 9) rfl
  have f9 := h.frozen 9
  have c10 := h.cell (j := 10) rfl
  have f10 := h.frozen 10
  have c11 := h.cell (j := 11) rfl
  have f11 := h.frozen 11
  have c12 := h.cell (j := 12) rfl
  have f12 := h.frozen 12
  have c13 := h.cell (j := 13) rfl
  have f13 := h.frozen 13
  have c14 := h.cell (j := 14) rfl
  have f14 := h.frozen 14
  have c15 := h.cell (j := 15) rfl
  have f15 := h.frozen 15
  have c16 := h.cell (j := 16) rfl
  have f16 := h.frozen 16
  have c17 := h.cell (j := 17) rfl
  have f17 := h.frozen 17
  simp only [Option.isSome_none, Option.getD_none] at c14 c15 c16
  clear h
  have HW := Lib.hid (fun W c => refWrong_any p n v W hU c)
  rw [decide_eq_false hw] at HW
  clear hw
  clear hU hHU hTU hXU
  go_enter Tryz.func41, Tryz.ntmps41
  repeat
    fail_if_success (with_reducible refine ⟨rfl, ?_⟩)
    first
      | (with_reducible show bodyPost _ _ _ _ _ _; first | go_end0 | refine bodyPost_ret (results_none rfl _ _ _) rfl ?_)
      | go_quiet (first
        | fail)
      | go_wp2_with (first
        | (go_at_call 153; refine (HW.out _ (by apply Did.at (hr := HR.out); (· repeat (first | with_reducible apply Did.set | with_reducible apply Did.drew | with_reducible apply Did.drewN | with_reducible exact Did.refl)); (· kernel_rfl))).mono ?_; rintro e w' ⟨rfl, md, rfl⟩)
        | go_in)
  refine ⟨rfl, ?_⟩
  apply Did.fin (hr := HR.out)
  · repeat (first | with_reducible apply Did.set | with_reducible apply Did.drew | with_reducible apply Did.drewN | with_reducible exact Did.refl)
  · kernel_rfl
set_option maxHeartbeats 1600000 in
theorem rq_t2 (s : QuS) (v : Int) (won : Bool) (h : Row w p 85 (quCells s lv nv (.pointer none))) (hn : ∃ q c, nv = .slice q s.nodes.length c) (ho : s.over = none) (hp : s.puts = false) (hs : s.step = 2) (hU : M.U v) (hHU : M.U s.h) (hTU : M.U s.t) (hXU : M.U s.x) (hkk : s.k ≤ 300)  :
    Calls Tryz.prog 41 #[.pointer (some ⟨p, 0, none⟩), .int .u64 v, .bool won] w fun e w' => e = .returned (.tuple #[]) ∧ Row w' p 85 (quCells ({ s with t := v, step := 3 }) lv nv (.pointer none)) ∧ Keeps [p] w w' := by
  obtain ⟨nq, nc, rfl⟩ := hn
  obtain ⟨at_, n, puts, l, nodes, k, step, sub, hh, t, x, vv, code, inn, over⟩ := s
  simp only at *
  subst ho hp hs
  have HR := Lib.hid h
  have c0 := h.cell (j := 0) rfl
  have f0 := h.frozen 0
  have c1 := h.cell (j := 1) rfl
  have f1 := h.frozen 1
  have c2 := h.cell (j := 2) rfl
  have f2 := h.frozen 2
  have c3 := h.cell (j := 3) rfl
  have f3 := h.frozen 3
  have c4 := h.cell (j := 4) rfl
  have f4 := h.frozen 4
  have c5 := h.cell (j := 5) rfl
  have f5 := h.frozen 5
  have c6 := h.cell (j := 6) rfl
  have f6 := h.frozen 6
  have c7 := h.cell (j := 7) rfl
  have f7 := h.frozen 7
  have c8 := h.cell (j := 8) rfl
  have f8 := h.frozen 8
  have c9 := h.cell (j := 9) rfl
  have f9 := h.frozen 9
  have c10 := h.cell (j := 10) rfl
  have f10 := h.frozen 10
  have c11 := h.cell (j := 11) rfl
  have f11 := h.frozen 11
  have c12 := h.cell (j := 12) rfl
  have f12 := h.frozen 12
  have c13 := h.cell (j := 13) rfl
  have f13 := h.frozen 13
  have c14 := h.cell (j := 14) rfl
  have f14 := h.frozen 14
  have c15 := h.cell (j := 15) rfl
  have f15 := h.frozen 15
  have c16 := h.cell (j := 16) rfl
  have f16 := h.frozen 16
  have c17 := h.cell (j := 17) rfl
  have f17 := h.frozen 17
  simp only [Option.isSome_none, Option.getD_none] at c14 c15 c16
  clear h

  clear hU hHU hTU hXU
  go_enter Tryz.func41, Tryz.ntmps41
  repeat
    fail_if_success (with_reducible refine ⟨rfl, ?_⟩)
    first
      | (with_reducible show bodyPost _ _ _ _ _ _; first | go_end0 | refine bodyPost_ret (results_none rfl _ _ _) rfl ?_)
      | go_quiet (first
        | fail)
      | go_wp2_with (first
        | go_in)
  refine ⟨rfl, ?_⟩
  apply Did.fin (hr := HR.out)
  · repeat (first | with_reducible apply Did.set | with_reducible apply Did.drew | with_reducible apply Did.drewN | with_reducible exact Did.refl)
  · kernel_rfl
set_option maxHeartbeats 1600000 in
theorem rq_t3 (s : QuS) (v : Int) (won : Bool) (h : Row w p 85 (quCells s lv nv (.pointer none))) (hn : ∃ q c, nv = .slice q s.nodes.length c) (ho : s.over = none) (hp : s.puts = false) (hs : s.step = 3) (hU : M.U v) (hHU : M.U s.h) (hTU : M.U s.t) (hXU : M.U s.x) (hkk : s.k ≤ 300)  :
    Calls Tryz.prog 41 #[.pointer (some ⟨p, 0, none⟩), .int .u64 v, .bool won] w fun e w' => e = .returned (.tuple #[]) ∧ Row w' p 85 (quCells ({ s with x := v, step := 4 }) lv nv (.pointer none)) ∧ Keeps [p] w w' := by
  obtain ⟨nq, nc, rfl⟩ := hn
  obtain ⟨at_, n, puts, l, nodes, k, step, sub, hh, t, x, vv, code, inn, over⟩ := s
  simp only at *
  subst ho hp hs
  have HR := Lib.hid h
  have c0 := h.cell (j := 0) rfl
  have f0 := h.frozen 0
  have c1 := h.cell (j := 1) rfl
  have f1 := h.frozen 1
  have c2 := h.cell (j := 2) rfl
  have f2 := h.frozen 2
  have c3 := h.cell (j := 3) rfl
  have f3 := h.frozen 3
  have c4 := h.cell (j := 4) rfl
  have f4 := h.frozen 4
  have c5 := h.cell (j := 5) rfl
  have f5 := h.frozen 5
  have c6 := h.cell (j := 6) rfl
  have f6 := h.frozen 6
  have c7 := h.cell (j := 7) rfl
  have f7 := h.frozen 7
  have c8 := h.cell (j := 8) rfl
  have f8 := h.frozen 8
  have c9 := h.cell (j := 9) rfl
  have f9 := h.frozen 9
  have c10 := h.cell (j := 10) rfl
  have f10 := h.frozen 10
  have c11 := h.cell (j := 11) rfl
  have f11 := h.frozen 11
  have c12 := h.cell (j := 12) rfl
  have f12 := h.frozen 12
  have c13 := h.cell (j := 13) rfl
  have f13 := h.frozen 13
  have c14 := h.cell (j := 14) rfl
  have f14 := h.frozen 14
  have c15 := h.cell (j := 15) rfl
  have f15 := h.frozen 15
  have c16 := h.cell (j := 16) rfl
  have f16 := h.frozen 16
  have c17 := h.cell (j := 17) rfl
  have f17 := h.frozen 17
  simp only [Option.isSome_none, Option.getD_none] at c14 c15 c16
  clear h

  clear hU hHU hTU hXU
  go_enter Tryz.func41, Tryz.ntmps41
  repeat
    fail_if_success (with_reducible refine ⟨rfl, ?_⟩)
    first
      | (with_reducible show bodyPost _ _ _ _ _ _; first | go_end0 | refine bodyPost_ret (results_none rfl _ _ _) rfl ?_)
      | go_quiet (first
        | fail)
      | go_wp2_with (first
        | go_in)
  refine ⟨rfl, ?_⟩
  apply Did.fin (hr := HR.out)
  · repeat (first | with_reducible apply Did.set | with_reducible apply Did.drew | with_reducible apply Did.drewN | with_reducible exact Did.refl)
  · kernel_rfl
set_option maxHeartbeats 1600000 in
theorem rq_t4w (s : QuS) (v : Int) (won : Bool) (h : Row w p 85 (quCells s lv nv (.pointer none))) (hn : ∃ q c, nv = .slice q s.nodes.length c) (ho : s.over = none) (hp : s.puts = false) (hs : s.step = 4) (hU : M.U v) (hHU : M.U s.h) (hTU : M.U s.t) (hXU : M.U s.x) (hkk : s.k ≤ 300) (hv : v ≠ s.h) (hw : quWrong s.n v) :
    Calls Tryz.prog 41 #[.pointer (some ⟨p, 0, none⟩), .int .u64 v, .bool won] w fun e w' => e = .returned (.tuple #[]) ∧ Row w' p 85 (quCells (quEnd { s with h := v, step := 2 } 9 0) lv nv (.pointer none)) ∧ Keeps [p] w w' := by
  obtain ⟨nq, nc, rfl⟩ := hn
  obtain ⟨at_, n, puts, l, nodes, k, step, sub, hh, t, x, vv, code, inn, over⟩ := s
  simp only at *
  subst ho hp hs
  have HR := Lib.hid h
  have c0 := h.cell (j := 0) rfl
  have f0 := h.frozen 0
  have c1 := h.cell (j := 1) rfl
  have f1 := h.frozen 1
  have c2 := h.cell (j := 2) rfl
  have f2 := h.frozen 2
  have c3 := h.cell (j := 3) rfl
  have f3 := h.frozen 3
  have c4 := h.cell (j := 4) rfl
  have f4 := h.frozen 4
  have c5 := h.cell (j := 5) rfl
  have f5 := h.frozen 5
  have c6 := h.cell (j := 6) rfl
  have f6 := h.frozen 6
  have c7 := h.cell (j := 7) rfl
  have f7 := h.frozen 7
  have c8 := h.cell (j := 8) rfl
  have f8 := h.frozen 8
  have c9 := h.cell (j := 9) rfl
  have f9 := h.frozen 9
  have c10 := h.cell (j := 10) rfl
  have f10 := h.frozen 10
  have c11 := h.cell (j := 11) rfl
  have f11 := h.frozen 11
  have c12 := h.cell (j := 12) rfl
  have f12 := h.frozen 12
  have c13 := h.cell (j := 13) rfl
  have f13 := h.frozen 13
  have c14 := h.cell (j := 14) rfl
  have f14 := h.frozen 14
  have c15 := h.cell (j := 15) rfl
  have f15 := h.frozen 15
  have c16 := h.cell (j := 16) rfl
  have f16 := h.frozen 16
  have c17 := h.cell (j := 17) rfl
  have f17 := h.frozen 17
  simp only [Option.isSome_none, Option.getD_none] at c14 c15 c16
  clear h
  have dv : (v != hh) = true := by simpa using hv
  have HW := Lib.hid (fun W c => refWrong_any p n v W hU c)
  rw [decide_eq_true hw] at HW
  clear hw
  clear hU hHU hTU hXU
  go_enter Tryz.func41, Tryz.ntmps41
  repeat
    fail_if_success (with_reducible refine ⟨rfl, ?_⟩)
    first
      | (with_reducible show bodyPost _ _ _ _ _ _; first | go_end0 | refine bodyPost_ret (results_none rfl _ _ _) rfl ?_)
      | go_quiet (first
        | fail)
      | go_wp2_with (first
        | (go_at_call 153; refine (HW.out _ (by apply Did.at (hr := HR.out); (· repeat (first | with_reducible apply Did.set | with_reducible apply Did.drew | with_reducible apply Did.drewN | with_reducible exact Did.refl)); (· kernel_rfl))).mono ?_; rintro e w' ⟨rfl, md, rfl⟩)
        | go_in)
  refine ⟨rfl, ?_⟩
  apply Did.fin (hr := HR.out)
  · repeat (first | with_reducible apply Did.set | with_reducible apply Did.drew | with_reducible apply Did.drewN | with_reducible exact Did.refl)
  · kernel_rfl
set_option maxHeartbeats 1600000 in
theorem rq_t4o (s : QuS) (v : Int) (won : Bool) (h : Row w p 85 (quCells s lv nv (.pointer none))) (hn : ∃ q c, nv = .slice q s.nodes.length c) (ho : s.over = none) (hp : s.puts = false) (hs : s.step = 4) (hU : M.U v) (hHU : M.U s.h) (hTU : M.U s.t) (hXU : M.U s.x) (hkk : s.k ≤ 300) (hv : v ≠ s.h) (hw : ¬ quWrong s.n v) :
    Calls Tryz.prog 41 #[.pointer (some ⟨p, 0, none⟩), .int .u64 v, .bool won] w fun e w' => e = .returned (.tuple #[]) ∧ Row w' p 85 (quCells ({ s with h := v, step := 2 }) lv nv (.pointer none)) ∧ Keeps [p] w w' := by
  obtain ⟨nq, nc, rfl⟩ := hn
  obtain ⟨at_, n, puts, l, nodes, k, step, sub, hh, t, x, vv, code, inn, over⟩ := s
  simp only at *
  subst ho hp hs
  have HR := Lib.hid h
  have c0 := h.cell (j := 0) rfl
  have f0 := h.frozen 0
  have c1 := h.cell (j := 1) rfl
  have f1 := h.frozen 1
  have c2 := h.cell (j := 2) rfl
  have f2 := h.frozen 2
  have c3 := h.cell (j := 3) rfl
  have f3 := h.frozen 3
  have c4 := h.cell (j := 4) rfl
  have f4 := h.frozen 4
  have c5 := h.cell (j := 5) rfl
  have f5 := h.frozen 5
  have c6 := h.cell (j := 6) rfl
  have f6 := h.frozen 6
  have c7 := h.cell (j := 7) rfl
  have f7 := h.frozen 7
  have c8 := h.cell (j := 8) rfl
  have f8 := h.frozen 8
  have c9 := h.cell (j := 9) rfl
  have f9 := h.frozen 9
  have c10 := h.cell (j := 10) rfl
  have f10 := h.frozen 10
  have c11 := h.cell (j := 11) rfl
  have f11 := h.frozen 11
  have c12 := h.cell (j := 12) rfl
  have f12 := h.frozen 12
  have c13 := h.cell (j := 13) rfl
  have f13 := h.frozen 13
  have c14 := h.cell (j := 14) rfl
  have f14 := h.frozen 14
  have c15 := h.cell (j := 15) rfl
  have f15 := h.frozen 15
  have c16 := h.cell (j := 16) rfl
  have f16 := h.frozen 16
  have c17 := h.cell (j := 17) rfl
  have f17 := h.frozen 17
  simp only [Option.isSome_none, Option.getD_none] at c14 c15 c16
  clear h
  have dv : (v != hh) = true := by simpa using hv
  have HW := Lib.hid (fun W c => refWrong_any p n v W hU c)
  rw [decide_eq_false hw] at HW
  clear hw
  clear hU hHU hTU hXU
  go_enter Tryz.func41, Tryz.ntmps41
  repeat
    fail_if_success (with_reducible refine ⟨rfl, ?_⟩)
    first
      | (with_reducible show bodyPost _ _ _ _ _ _; first | go_end0 | refine bodyPost_ret (results_none rfl _ _ _) rfl ?_)
      | go_quiet (first
        | fail)
      | go_wp2_with (first
        | (go_at_call 153; refine (HW.out _ (by apply Did.at (hr := HR.out); (· repeat (first | with_reducible apply Did.set | with_reducible apply Did.drew | with_reducible apply Did.drewN | with_reducible exact Did.refl)); (· kernel_rfl))).mono ?_; rintro e w' ⟨rfl, md, rfl⟩)
        | go_in)
  refine ⟨rfl, ?_⟩
  apply Did.fin (hr := HR.out)
  · repeat (first | with_reducible apply Did.set | with_reducible apply Did.drew | with_reducible apply Did.drewN | with_reducible exact Did.refl)
  · kernel_rfl
set_option maxHeartbeats 1600000 in
theorem rq_t4e (s : QuS) (v : Int) (won : Bool) (h : Row w p 85 (quCells s lv nv (.pointer none))) (hn : ∃ q c, nv = .slice q s.nodes.length c) (ho : s.over = none) (hp : s.puts = false) (hs : s.step = 4) (hU : M.U v) (hHU : M.U s.h) (hTU : M.U s.t) (hXU : M.U s.x) (hkk : s.k ≤ 300) (hv : v = s.h) (hx : quNode s.x = 0) (hl : quNode s.t = quNode s.h) :
    Calls Tryz.prog 41 #[.pointer (some ⟨p, 0, none⟩), .int .u64 v, .bool won] w fun e w' => e = .returned (.tuple #[]) ∧ Row w' p 85 (quCells (quEnd s 5 0) lv nv (.pointer none)) ∧ Keeps [p] w w' := by
  obtain ⟨nq, nc, rfl⟩ := hn
  obtain ⟨at_, n, puts, l, nodes, k, step, sub, hh, t, x, vv, code, inn, over⟩ := s
  simp only at *
  subst ho hp hs
  have HR := Lib.hid h
  have c0 := h.cell (j := 0) rfl
  have f0 := h.frozen 0
  have c1 := h.cell (j := 1) rfl
  have f1 := h.frozen 1
  have c2 := h.cell (j := 2) rfl
  have f2 := h.frozen 2
  have c3 := h.cell (j := 3) rfl
  have f3 := h.frozen 3
  have c4 := h.cell (j := 4) rfl
  have f4 := h.frozen 4
  have c5 := h.cell (j := 5) rfl
  have f5 := h.frozen 5
  have c6 := h.cell (j := 6) rfl
  have f6 := h.frozen 6
  have c7 := h.cell (j := 7) rfl
  have f7 := h.frozen 7
  have c8 := h.cell (j := 8) rfl
  have f8 := h.frozen 8
  have c9 := h.cell (j := 9) rfl
  have f9 := h.frozen 9
  have c10 := h.cell (j := 10) rfl
  have f10 := h.frozen 10
  have c11 := h.cell (j := 11) rfl
  have f11 := h.frozen 11
  have c12 := h.cell (j := 12) rfl
  have f12 := h.frozen 12
  have c13 := h.cell (j := 13) rfl
  have f13 := h.frozen 13
  have c14 := h.cell (j := 14) rfl
  have f14 := h.frozen 14
  have c15 := h.cell (j := 15) rfl
  have f15 := h.frozen 15
  have c16 := h.cell (j := 16) rfl
  have f16 := h.frozen 16
  have c17 := h.cell (j := 17) rfl
  have f17 := h.frozen 17
  simp only [Option.isSome_none, Option.getD_none] at c14 c15 c16
  clear h
  subst hv
  have dv : (v != v) = false := by simp
  have HNNX := Lib.hid (fun W => refNodeOf_any x W hXU)
  obtain ⟨qx, hqx⟩ : ∃ q, quNode x = q := ⟨_, rfl⟩
  rw [hqx] at HNNX hx
  clear hqx
  have HNNT := Lib.hid (fun W => refNodeOf_any t W hTU)
  obtain ⟨qt, hqt⟩ : ∃ q, quNode t = q := ⟨_, rfl⟩
  rw [hqt] at HNNT hl
  clear hqt
  have HNNH := Lib.hid (fun W => refNodeOf_any v W hU)
  obtain ⟨qh, hqh⟩ : ∃ q, quNode v = q := ⟨_, rfl⟩
  rw [hqh] at HNNH hl
  clear hqh
  have dx : (qx == 0) = true := by simp [hx]
  have dl : (qt == qh) = true := by simp [hl]
  clear hU hHU hTU hXU
  go_enter Tryz.func41, Tryz.ntmps41
  repeat
    fail_if_success (with_reducible refine ⟨rfl, ?_⟩)
    first
      | (with_reducible show bodyPost _ _ _ _ _ _; first | go_end0 | refine bodyPost_ret (results_none rfl _ _ _) rfl ?_)
      | go_quiet (first
        | (go_at_call 128; exact qs (HNNX.out _))
        | (go_at_call 128; exact qs (HNNT.out _))
        | (go_at_call 128; exact qs (HNNH.out _))
        | fail)
      | go_wp2_with (first
        | (go_at_call 128; refine (HNNX.out _).mono ?_; rintro e w' ⟨rfl, rfl⟩)
        | (go_at_call 128; refine (HNNT.out _).mono ?_; rintro e w' ⟨rfl, rfl⟩)
        | (go_at_call 128; refine (HNNH.out _).mono ?_; rintro e w' ⟨rfl, rfl⟩)
        | go_in)
  refine ⟨rfl, ?_⟩
  apply Did.fin (hr := HR.out)
  · repeat (first | with_reducible apply Did.set | with_reducible apply Did.drew | with_reducible apply Did.drewN | with_reducible exact Did.refl)
  · kernel_rfl
set_option maxHeartbeats 1600000 in
theorem rq_t4r (s : QuS) (v : Int) (won : Bool) (h : Row w p 85 (quCells s lv nv (.pointer none))) (hn : ∃ q c, nv = .slice q s.nodes.length c) (ho : s.over = none) (hp : s.puts = false) (hs : s.step = 4) (hU : M.U v) (hHU : M.U s.h) (hTU : M.U s.t) (hXU : M.U s.x) (hkk : s.k ≤ 300) (hv : v = s.h) (hx : quNode s.x = 0) (hl : quNode s.t ≠ quNode s.h) :
    Calls Tryz.prog 41 #[.pointer (some ⟨p, 0, none⟩), .int .u64 v, .bool won] w fun e w' => e = .returned (.tuple #[]) ∧ Row w' p 85 (quCells ({ s with step := 1 }) lv nv (.pointer none)) ∧ Keeps [p] w w' := by
  obtain ⟨nq, nc, rfl⟩ := hn
  obtain ⟨at_, n, puts, l, nodes, k, step, sub, hh, t, x, vv, code, inn, over⟩ := s
  simp only at *
  subst ho hp hs
  have HR := Lib.hid h
  have c0 := h.cell (j := 0) rfl
  have f0 := h.frozen 0
  have c1 := h.cell (j := 1) rfl
  have f1 := h.frozen 1
  have c2 := h.cell (j := 2) rfl
  have f2 := h.frozen 2
  have c3 := h.cell (j := 3) rfl
  have f3 := h.frozen 3
  have c4 := h.cell (j := 4) rfl
  have f4 := h.frozen 4
  have c5 := h.cell (j := 5) rfl
  have f5 := h.frozen 5
  have c6 := h.cell (j := 6) rfl
  have f6 := h.frozen 6
  have c7 := h.cell (j := 7) rfl
  have f7 := h.frozen 7
  have c8 := h.cell (j := 8) rfl
  have f8 := h.frozen 8
  have c9 := h.cell (j := 9) rfl
  have f9 := h.frozen 9
  have c10 := h.cell (j := 10) rfl
  have f10 := h.frozen 10
  have c11 := h.cell (j := 11) rfl
  have f11 := h.frozen 11
  have c12 := h.cell (j := 12) rfl
  have f12 := h.frozen 12
  have c13 := h.cell (j := 13) rfl
  have f13 := h.frozen 13
  have c14 := h.cell (j := 14) rfl
  have f14 := h.frozen 14
  have c15 := h.cell (j := 15) rfl
  have f15 := h.frozen 15
  have c16 := h.cell (j := 16) rfl
  have f16 := h.frozen 16
  have c17 := h.cell (j := 17) rfl
  have f17 := h.frozen 17
  simp only [Option.isSome_none, Option.getD_none] at c14 c15 c16
  clear h
  subst hv
  have dv : (v != v) = false := by simp
  have HNNX := Lib.hid (fun W => refNodeOf_any x W hXU)
  obtain ⟨qx, hqx⟩ : ∃ q, quNode x = q := ⟨_, rfl⟩
  rw [hqx] at HNNX hx
  clear hqx
  have HNNT := Lib.hid (fun W => refNodeOf_any t W hTU)
  obtain ⟨qt, hqt⟩ : ∃ q, quNode t = q := ⟨_, rfl⟩
  rw [hqt] at HNNT hl
  clear hqt
  have HNNH := Lib.hid (fun W => refNodeOf_any v W hU)
  obtain ⟨qh, hqh⟩ : ∃ q, quNode v = q := ⟨_, rfl⟩
  rw [hqh] at HNNH hl
  clear hqh
  have dx : (qx == 0) = true := by simp [hx]
  have dl : (qt == qh) = false := by simp [hl]
  clear hU hHU hTU hXU
  go_enter Tryz.func41, Tryz.ntmps41
  repeat
    fail_if_success (with_reducible refine ⟨rfl, ?_⟩)
    first
      | (with_reducible show bodyPost _ _ _ _ _ _; first | go_end0 | refine bodyPost_ret (results_none rfl _ _ _) rfl ?_)
      | go_quiet (first
        | (go_at_call 128; exact qs (HNNX.out _))
        | (go_at_call 128; exact qs (HNNT.out _))
        | (go_at_call 128; exact qs (HNNH.out _))
        | fail)
      | go_wp2_with (first
        | (go_at_call 128; refine (HNNX.out _).mono ?_; rintro e w' ⟨rfl, rfl⟩)
        | (go_at_call 128; refine (HNNT.out _).mono ?_; rintro e w' ⟨rfl, rfl⟩)
        | (go_at_call 128; refine (HNNH.out _).mono ?_; rintro e w' ⟨rfl, rfl⟩)
        | go_in)
  refine ⟨rfl, ?_⟩
  apply Did.fin (hr := HR.out)
  · repeat (first | with_reducible apply Did.set | with_reducible apply Did.drew | with_reducible apply Did.drewN | with_reducible exact Did.refl)
  · kernel_rfl
set_option maxHeartbeats 1600000 in
theorem rq_t4x (s : QuS) (v : Int) (won : Bool) (h : Row w p 85 (quCells s lv nv (.pointer none))) (hn : ∃ q c, nv = .slice q s.nodes.length c) (ho : s.over = none) (hp : s.puts = false) (hs : s.step = 4) (hU : M.U v) (hHU : M.U s.h) (hTU : M.U s.t) (hXU : M.U s.x) (hkk : s.k ≤ 300) (hv : v = s.h) (hx : quNode s.x ≠ 0) (hw : quWrong s.n s.x) :
    Calls Tryz.prog 41 #[.pointer (some ⟨p, 0, none⟩), .int .u64 v, .bool won] w fun e w' => e = .returned (.tuple #[]) ∧ Row w' p 85 (quCells (quEnd s 9 0) lv nv (.pointer none)) ∧ Keeps [p] w w' := by
  obtain ⟨nq, nc, rfl⟩ := hn
  obtain ⟨at_, n, puts, l, nodes, k, step, sub, hh, t, x, vv, code, inn, over⟩ := s
  simp only at *
  subst ho hp hs
  have HR := Lib.hid h
  have c0 := h.cell (j := 0) rfl
  have f0 := h.frozen 0
  have c1 := h.cell (j := 1) rfl
  have f1 := h.frozen 1
  have c2 := h.cell (j := 2) rfl
  have f2 := h.frozen 2
  have c3 := h.cell (j := 3) rfl
  have f3 := h.frozen 3
  have c4 := h.cell (j := 4) rfl
  have f4 := h.frozen 4
  have c5 := h.cell (j := 5) rfl
  have f5 := h.frozen 5
  have c6 := h.cell (j := 6) rfl
  have f6 := h.frozen 6
  have c7 := h.cell (j := 7) rfl
  have f7 := h.frozen 7
  have c8 := h.cell (j := 8) rfl
  have f8 := h.frozen 8
  have c9 := h.cell (j := 9) rfl
  have f9 := h.frozen 9
  have c10 := h.cell (j := 10) rfl
  have f10 := h.frozen 10
  have c11 := h.cell (j := 11) rfl
  have f11 := h.frozen 11
  have c12 := h.cell (j := 12) rfl
  have f12 := h.frozen 12
  have c13 := h.cell (j := 13) rfl
  have f13 := h.frozen 13
  have c14 := h.cell (j := 14) rfl
  have f14 := h.frozen 14
  have c15 := h.cell (j := 15) rfl
  have f15 := h.frozen 15
  have c16 := h.cell (j := 16) rfl
  have f16 := h.frozen 16
  have c17 := h.cell (j := 17) rfl
  have f17 := h.frozen 17
  simp only [Option.isSome_none, Option.getD_none] at c14 c15 c16
  clear h
  subst hv
  have dv : (v != v) = false := by simp
  have HW := Lib.hid (fun W c => refWrong_any p n x W hXU c)
  rw [decide_eq_true hw] at HW
  clear hw
  have HNNX := Lib.hid (fun W => refNodeOf_any x W hXU)
  obtain ⟨qx, hqx⟩ : ∃ q, quNode x = q := ⟨_, rfl⟩
  rw [hqx] at HNNX hx
  clear hqx
  have HNNT := Lib.hid (fun W => refNodeOf_any t W hTU)
  obtain ⟨qt, hqt⟩ : ∃ q, quNode t = q := ⟨_, rfl⟩
  rw [hqt] at HNNT
  clear hqt
  have HNNH := Lib.hid (fun W => refNodeOf_any v W hU)
  obtain ⟨qh, hqh⟩ : ∃ q, quNode v = q := ⟨_, rfl⟩
  rw [hqh] at HNNH
  clear hqh
  have dx : (qx == 0) = false := by simp [hx]
  obtain ⟨bl, hbl⟩ : ∃ bl, (qt == qh) = bl := ⟨_, rfl⟩
  clear hU hHU hTU hXU
  go_enter Tryz.func41, Tryz.ntmps41
  repeat
    fail_if_success (with_reducible refine ⟨rfl, ?_⟩)
    first
      | (with_reducible show bodyPost _ _ _ _ _ _; first | go_end0 | refine bodyPost_ret (results_none rfl _ _ _) rfl ?_)
      | go_quiet (first
        | (go_at_call 128; exact qs (HNNX.out _))
        | (go_at_call 128; exact qs (HNNT.out _))
        | (go_at_call 128; exact qs (HNNH.out _))
        | fail)
      | go_wp2_with (first
        | (go_at_call 153; refine (HW.out _ (by apply Did.at (hr := HR.out); (· repeat (first | with_reducible apply Did.set | with_reducible apply Did.drew | with_reducible apply Did.drewN | with_reducible exact Did.refl)); (· kernel_rfl))).mono ?_; rintro e w' ⟨rfl, md, rfl⟩)
        | (go_at_call 128; refine (HNNX.out _).mono ?_; rintro e w' ⟨rfl, rfl⟩)
        | (go_at_call 128; refine (HNNT.out _).mono ?_; rintro e w' ⟨rfl, rfl⟩)
        | (go_at_call 128; refine (HNNH.out _).mono ?_; rintro e w' ⟨rfl, rfl⟩)
        | go_in)
  refine ⟨rfl, ?_⟩
  apply Did.fin (hr := HR.out)
  · repeat (first | with_reducible apply Did.set | with_reducible apply Did.drew | with_reducible apply Did.drewN | with_reducible exact Did.refl)
  · kernel_rfl
set_option maxHeartbeats 1600000 in
theorem rq_t4l (s : QuS) (v : Int) (won : Bool) (h : Row w p 85 (quCells s lv nv (.pointer none))) (hn : ∃ q c, nv = .slice q s.nodes.length c) (ho : s.over = none) (hp : s.puts = false) (hs : s.step = 4) (hU : M.U v) (hHU : M.U s.h) (hTU : M.U s.t) (hXU : M.U s.x) (hkk : s.k ≤ 300) (hv : v = s.h) (hx : quNode s.x ≠ 0) (hw : ¬ quWrong s.n s.x) (hl : quNode s.t = quNode s.h) :
    Calls Tryz.prog 41 #[.pointer (some ⟨p, 0, none⟩), .int .u64 v, .bool won] w fun e w' => e = .returned (.tuple #[]) ∧ Row w' p 85 (quCells ({ s with step := 50 }) lv nv (.pointer none)) ∧ Keeps [p] w w' := by
  obtain ⟨nq, nc, rfl⟩ := hn
  obtain ⟨at_, n, puts, l, nodes, k, step, sub, hh, t, x, vv, code, inn, over⟩ := s
  simp only at *
  subst ho hp hs
  have HR := Lib.hid h
  have c0 := h.cell (j := 0) rfl
  have f0 := h.frozen 0
  have c1 := h.cell (j := 1) rfl
  have f1 := h.frozen 1
  have c2 := h.cell (j := 2) rfl
  have f2 := h.frozen 2
  have c3 := h.cell (j := 3) rfl
  have f3 := h.frozen 3
  have c4 := h.cell (j := 4) rfl
  have f4 := h.frozen 4
  have c5 := h.cell (j := 5) rfl
  have f5 := h.frozen 5
  have c6 := h.cell (j := 6) rfl
  have f6 := h.frozen 6
  have c7 := h.cell (j := 7) rfl
  have f7 := h.frozen 7
  have c8 := h.cell (j := 8) rfl
  have f8 := h.frozen 8
  have c9 := h.cell (j := 9) rfl
  have f9 := h.frozen 9
  have c10 := h.cell (j := 10) rfl
  have f10 := h.frozen 10
  have c11 := h.cell (j := 11) rfl
  have f11 := h.frozen 11
  have c12 := h.cell (j := 12) rfl
  have f12 := h.frozen 12
  have c13 := h.cell (j := 13) rfl
  have f13 := h.frozen 13
  have c14 := h.cell (j := 14) rfl
  have f14 := h.frozen 14
  have c15 := h.cell (j := 15) rfl
  have f15 := h.frozen 15
  have c16 := h.cell (j := 16) rfl
  have f16 := h.frozen 16
  have c17 := h.cell (j := 17) rfl
  have f17 := h.frozen 17
  simp only [Option.isSome_none, Option.getD_none] at c14 c15 c16
  clear h
  subst hv
  have dv : (v != v) = false := by simp
  have HW := Lib.hid (fun W c => refWrong_any p n x W hXU c)
  rw [decide_eq_false hw] at HW
  clear hw
  have HNNX := Lib.hid (fun W => refNodeOf_any x W hXU)
  obtain ⟨qx, hqx⟩ : ∃ q, quNode x = q := ⟨_, rfl⟩
  rw [hqx] at HNNX hx
  clear hqx
  have HNNT := Lib.hid (fun W => refNodeOf_any t W hTU)
  obtain ⟨qt, hqt⟩ : ∃ q, quNode t = q := ⟨_, rfl⟩
  rw [hqt] at HNNT hl
  clear hqt
  have HNNH := Lib.hid (fun W => refNodeOf_any v W hU)
  obtain ⟨qh, hqh⟩ : ∃ q, quNode v = q := ⟨_, rfl⟩
  rw [hqh] at HNNH hl
  clear hqh
  have dx : (qx == 0) = false := by simp [hx]
  have dl : (qt == qh) = true := by simp [hl]
  clear hU hHU hTU hXU
  go_enter Tryz.func41, Tryz.ntmps41
  repeat
    fail_if_success (with_reducible refine ⟨rfl, ?_⟩)
    first
      | (with_reducible show bodyPost _ _ _ _ _ _; first | go_end0 | refine bodyPost_ret (results_none rfl _ _ _) rfl ?_)
      | go_quiet (first
        | (go_at_call 128; exact qs (HNNX.out _))
        | (go_at_call 128; exact qs (HNNT.out _))
        | (go_at_call 128; exact qs (HNNH.out _))
        | fail)
      | go_wp2_with (first
        | (go_at_call 153; refine (HW.out _ (by apply Did.at (hr := HR.out); (· repeat (first | with_reducible apply Did.set | with_reducible apply Did.drew | with_reducible apply Did.drewN | with_reducible exact Did.refl)); (· kernel_rfl))).mono ?_; rintro e w' ⟨rfl, md, rfl⟩)
        | (go_at_call 128; refine (HNNX.out _).mono ?_; rintro e w' ⟨rfl, rfl⟩)
        | (go_at_call 128; refine (HNNT.out _).mono ?_; rintro e w' ⟨rfl, rfl⟩)
        | (go_at_call 128; refine (HNNH.out _).mono ?_; rintro e w' ⟨rfl, rfl⟩)
        | go_in)
  refine ⟨rfl, ?_⟩
  apply Did.fin (hr := HR.out)
  · repeat (first | with_reducible apply Did.set | with_reducible apply Did.drew | with_reducible apply Did.drewN | with_reducible exact Did.refl)
  · kernel_rfl
set_option maxHeartbeats 1600000 in
theorem rq_t4n (s : QuS) (v : Int) (won : Bool) (h : Row w p 85 (quCells s lv nv (.pointer none))) (hn : ∃ q c, nv = .slice q s.nodes.length c) (ho : s.over = none) (hp : s.puts = false) (hs : s.step = 4) (hU : M.U v) (hHU : M.U s.h) (hTU : M.U s.t) (hXU : M.U s.x) (hkk : s.k ≤ 300) (hv : v = s.h) (hx : quNode s.x ≠ 0) (hw : ¬ quWrong s.n s.x) (hl : quNode s.t ≠ quNode s.h) :
    Calls Tryz.prog 41 #[.pointer (some ⟨p, 0, none⟩), .int .u64 v, .bool won] w fun e w' => e = .returned (.tuple #[]) ∧ Row w' p 85 (quCells ({ s with step := 5 }) lv nv (.pointer none)) ∧ Keeps [p] w w' := by
  obtain ⟨nq, nc, rfl⟩ := hn
  obtain ⟨at_, n, puts, l, nodes, k, step, sub, hh, t, x, vv, code, inn, over⟩ := s
  simp only at *
  subst ho hp hs
  have HR := Lib.hid h
  have c0 := h.cell (j := 0) rfl
  have f0 := h.frozen 0
  have c1 := h.cell (j := 1) rfl
  have f1 := h.frozen 1
  have c2 := h.cell (j := 2) rfl
  have f2 := h.frozen 2
  have c3 := h.cell (j := 3) rfl
  have f3 := h.frozen 3
  have c4 := h.cell (j := 4) rfl
  have f4 := h.frozen 4
  have c5 := h.cell (j := 5) rfl
  have f5 := h.frozen 5
  have c6 := h.cell (j := 6) rfl
  have f6 := h.frozen 6
  have c7 := h.cell (j := 7) rfl
  have f7 := h.frozen 7
  have c8 := h.cell (j := 8) rfl
  have f8 := h.frozen 8
  have c9 := h.cell (j := 9) rfl
  have f9 := h.frozen 9
  have c10 := h.cell (j := 10) rfl
  have f10 := h.frozen 10
  have c11 := h.cell (j := 11) rfl
  have f11 := h.frozen 11
  have c12 := h.cell (j := 12) rfl
  have f12 := h.frozen 12
  have c13 := h.cell (j := 13) rfl
  have f13 := h.frozen 13
  have c14 := h.cell (j := 14) rfl
  have f14 := h.frozen 14
  have c15 := h.cell (j := 15) rfl
  have f15 := h.frozen 15
  have c16 := h.cell (j := 16) rfl
  have f16 := h.frozen 16
  have c17 := h.cell (j := 17) rfl
  have f17 := h.frozen 17
  simp only [Option.isSome_none, Option.getD_none] at c14 c15 c16
  clear h
  subst hv
  have dv : (v != v) = false := by simp
  have HW := Lib.hid (fun W c => refWrong_any p n x W hXU c)
  rw [decide_eq_false hw] at HW
  clear hw
  have HNNX := Lib.hid (fun W => refNodeOf_any x W hXU)
  obtain ⟨qx, hqx⟩ : ∃ q, quNode x = q := ⟨_, rfl⟩
  rw [hqx] at HNNX hx
  clear hqx
  have HNNT := Lib.hid (fun W => refNodeOf_any t W hTU)
  obtain ⟨qt, hqt⟩ : ∃ q, quNode t = q := ⟨_, rfl⟩
  rw [hqt] at HNNT hl
  clear hqt
  have HNNH := Lib.hid (fun W => refNodeOf_any v W hU)
  obtain ⟨qh, hqh⟩ : ∃ q, quNode v = q := ⟨_, rfl⟩
  rw [hqh] at HNNH hl
  clear hqh
  have dx : (qx == 0) = false := by simp [hx]
  have dl : (qt == qh) = false := by simp [hl]
  clear hU hHU hTU hXU
  go_enter Tryz.func41, Tryz.ntmps41
  repeat
    fail_if_success (with_reducible refine ⟨rfl, ?_⟩)
    first
      | (with_reducible show bodyPost _ _ _ _ _ _; first | go_end0 | refine bodyPost_ret (results_none rfl _ _ _) rfl ?_)
      | go_quiet (first
        | (go_at_call 128; exact qs (HNNX.out _))
        | (go_at_call 128; exact qs (HNNT.out _))
        | (go_at_call 128; exact qs (HNNH.out _))
        | fail)
      | go_wp2_with (first
        | (go_at_call 153; refine (HW.out _ (by apply Did.at (hr := HR.out); (· repeat (first | with_reducible apply Did.set | with_reducible apply Did.drew | with_reducible apply Did.drewN | with_reducible exact Did.refl)); (· kernel_rfl))).mono ?_; rintro e w' ⟨rfl, md, rfl⟩)
        | (go_at_call 128; refine (HNNX.out _).mono ?_; rintro e w' ⟨rfl, rfl⟩)
        | (go_at_call 128; refine (HNNT.out _).mono ?_; rintro e w' ⟨rfl, rfl⟩)
        | (go_at_call 128; refine (HNNH.out _).mono ?_; rintro e w' ⟨rfl, rfl⟩)
        | go_in)
  refine ⟨rfl, ?_⟩
  apply Did.fin (hr := HR.out)
  · repeat (first | with_reducible apply Did.set | with_reducible apply Did.drew | with_reducible apply Did.drewN | with_reducible exact Did.refl)
  · kernel_rfl
set_option maxHeartbeats 1600000 in
theorem rq_t50 (s : QuS) (v : Int) (won : Bool) (h : Row w p 85 (quCells s lv nv (.pointer none))) (hn : ∃ q c, nv = .slice q s.nodes.length c) (ho : s.over = none) (hp : s.puts = false) (hs : s.step = 50) (hU : M.U v) (hHU : M.U s.h) (hTU : M.U s.t) (hXU : M.U s.x) (hkk : s.k ≤ 300)  :
    Calls Tryz.prog 41 #[.pointer (some ⟨p, 0, none⟩), .int .u64 v, .bool won] w fun e w' => e = .returned (.tuple #[]) ∧ Row w' p 85 (quCells ({ s with step := 1 }) lv nv (.pointer none)) ∧ Keeps [p] w w' := by
  obtain ⟨nq, nc, rfl⟩ := hn
  obtain ⟨at_, n, puts, l, nodes, k, step, sub, hh, t, x, vv, code, inn, over⟩ := s
  simp only at *
  subst ho hp hs
  have HR := Lib.hid h
  have c0 := h.cell (j := 0) rfl
  have f0 := h.frozen 0
  have c1 := h.cell (j := 1) rfl
  have f1 := h.frozen 1
  have c2 := h.cell (j := 2) rfl
  have f2 := h.frozen 2
  have c3 := h.cell (j := 3) rfl
  have f3 := h.frozen 3
  have c4 := h.cell (j := 4) rfl
  have f4 := h.frozen 4
  have c5 := h.cell (j := 5) rfl
  have f5 := h.frozen 5
  have c6 := h.cell (j := 6) rfl
  have f6 := h.frozen 6
  have c7 := h.cell (j := 7) rfl
  have f7 := h.frozen 7
  have c8 := h.cell (j := 8) rfl
  have f8 := h.frozen 8
  have c9 := h.cell (j := 9) rfl
  have f9 := h.frozen 9
  have c10 := h.cell (j := 10) rfl
  have f10 := h.frozen 10
  have c11 := h.cell (j := 11) rfl
  have f11 := h.frozen 11
  have c12 := h.cell (j := 12) rfl
  have f12 := h.frozen 12
  have c13 := h.cell (j := 13) rfl
  have f13 := h.frozen 13
  have c14 := h.cell (j := 14) rfl
  have f14 := h.frozen 14
  have c15 := h.cell (j := 15) rfl
  have f15 := h.frozen 15
  have c16 := h.cell (j := 16) rfl
  have f16 := h.frozen 16
  have c17 := h.cell (j := 17) rfl
  have f17 := h.frozen 17
  simp only [Option.isSome_none, Option.getD_none] at c14 c15 c16
  clear h

  clear hU hHU hTU hXU
  go_enter Tryz.func41, Tryz.ntmps41
  repeat
    fail_if_success (with_reducible refine ⟨rfl, ?_⟩)
    first
      | (with_reducible show bodyPost _ _ _ _ _ _; first | go_end0 | refine bodyPost_ret (results_none rfl _ _ _) rfl ?_)
      | go_quiet (first
        | fail)
      | go_wp2_with (first
        | go_in)
  refine ⟨rfl, ?_⟩
  apply Did.fin (hr := HR.out)
  · repeat (first | with_reducible apply Did.set | with_reducible apply Did.drew | with_reducible apply Did.drewN | with_reducible exact Did.refl)
  · kernel_rfl
set_option maxHeartbeats 1600000 in
theorem rq_t5 (s : QuS) (v : Int) (won : Bool) (h : Row w p 85 (quCells s lv nv (.pointer none))) (hn : ∃ q c, nv = .slice q s.nodes.length c) (ho : s.over = none) (hp : s.puts = false) (hs : s.step = 5) (hU : M.U v) (hHU : M.U s.h) (hTU : M.U s.t) (hXU : M.U s.x) (hkk : s.k ≤ 300)  :
    Calls Tryz.prog 41 #[.pointer (some ⟨p, 0, none⟩), .int .u64 v, .bool won] w fun e w' => e = .returned (.tuple #[]) ∧ Row w' p 85 (quCells ({ s with v := v, step := 6 }) lv nv (.pointer none)) ∧ Keeps [p] w w' := by
  obtain ⟨nq, nc, rfl⟩ := hn
  obtain ⟨at_, n, puts, l, nodes, k, step, sub, hh, t, x, vv, code, inn, over⟩ := s
  simp only at *
  subst ho hp hs
  have HR := Lib.hid h
  have c0 := h.cell (j := 0) rfl
  have f0 := h.frozen 0
  have c1 := h.cell (j := 1) rfl
  have f1 := h.frozen 1
  have c2 := h.cell (j := 2) rfl
  have f2 := h.frozen 2
  have c3 := h.cell (j := 3) rfl
  have f3 := h.frozen 3
  have c4 := h.cell (j := 4) rfl
  have f4 := h.frozen 4
  have c5 := h.cell (j := 5) rfl
  have f5 := h.frozen 5
  have c6 := h.cell (j := 6) rfl
  have f6 := h.frozen 6
  have c7 := h.cell (j := 7) rfl
  have f7 := h.frozen 7
  have c8 := h.cell (j := 8) rfl
  have f8 := h.frozen 8
  have c9 := h.cell (j := 9) rfl
  have f9 := h.frozen 9
  have c10 := h.cell (j := 10) rfl
  have f10 := h.frozen 10
  have c11 := h.cell (j := 11) rfl
  have f11 := h.frozen 11
  have c12 := h.cell (j := 12) rfl
  have f12 := h.frozen 12
  have c13 := h.cell (j := 13) rfl
  have f13 := h.frozen 13
  have c14 := h.cell (j := 14) rfl
  have f14 := h.frozen 14
  have c15 := h.cell (j := 15) rfl
  have f15 := h.frozen 15
  have c16 := h.cell (j := 16) rfl
  have f16 := h.frozen 16
  have c17 := h.cell (j := 17) rfl
  have f17 := h.frozen 17
  simp only [Option.isSome_none, Option.getD_none] at c14 c15 c16
  clear h

  clear hU hHU hTU hXU
  go_enter Tryz.func41, Tryz.ntmps41
  repeat
    fail_if_success (with_reducible refine ⟨rfl, ?_⟩)
    first
      | (with_reducible show bodyPost _ _ _ _ _ _; first | go_end0 | refine bodyPost_ret (results_none rfl _ _ _) rfl ?_)
      | go_quiet (first
        | fail)
      | go_wp2_with (first
        | go_in)
  refine ⟨rfl, ?_⟩
  apply Did.fin (hr := HR.out)
  · repeat (first | with_reducible apply Did.set | with_reducible apply Did.drew | with_reducible apply Did.drewN | with_reducible exact Did.refl)
  · kernel_rfl
set_option maxHeartbeats 1600000 in
theorem rq_t6l (s : QuS) (v : Int) (won : Bool) (h : Row w p 85 (quCells s lv nv (.pointer none))) (hn : ∃ q c, nv = .slice q s.nodes.length c) (ho : s.over = none) (hp : s.puts = false) (hs : s.step = 6) (hU : M.U v) (hHU : M.U s.h) (hTU : M.U s.t) (hXU : M.U s.x) (hkk : s.k ≤ 300) (hw : won = false) :
    Calls Tryz.prog 41 #[.pointer (some ⟨p, 0, none⟩), .int .u64 v, .bool won] w fun e w' => e = .returned (.tuple #[]) ∧ Row w' p 85 (quCells ({ s with step := 1 }) lv nv (.pointer none)) ∧ Keeps [p] w w' := by
  obtain ⟨nq, nc, rfl⟩ := hn
  obtain ⟨at_, n, puts, l, nodes, k, step, sub, hh, t, x, vv, code, inn, over⟩ := s
  simp only at *
  subst ho hp hs
  have HR := Lib.hid h
  have c0 := h.cell (j := 0) rfl
  have f0 := h.frozen 0
  have c1 := h.cell (j := 1) rfl
  have f1 := h.frozen 1
  have c2 := h.cell (j := 2) rfl
  have f2 := h.frozen 2
  have c3 := h.cell (j := 3) rfl
  have f3 := h.frozen 3
  have c4 := h.cell (j := 4) rfl
  have f4 := h.frozen 4
  have c5 := h.cell (j := 5) rfl
  have f5 := h.frozen 5
  have c6 := h.cell (j := 6) rfl
  have f6 := h.frozen 6
  have c7 := h.cell (j := 7) rfl
  have f7 := h.frozen 7
  have c8 := h.cell (j := 8) rfl
  have f8 := h.frozen 8
  have c9 := h.cell (j := 9) rfl
  have f9 := h.frozen 9
  have c10 := h.cell (j := 10) rfl
  have f10 := h.frozen 10
  have c11 := h.cell (j := 11) rfl
  have f11 := h.frozen 11
  have c12 := h.cell (j := 12) rfl
  have f12 := h.frozen 12
  have c13 := h.cell (j := 13) rfl
  have f13 := h.frozen 13
  have c14 := h.cell (j := 14) rfl
  have f14 := h.frozen 14
  have c15 := h.cell (j := 15) rfl
  have f15 := h.frozen 15
  have c16 := h.cell (j := 16) rfl
  have f16 := h.frozen 16
  have c17 := h.cell (j := 17) rfl
  have f17 := h.frozen 17
  simp only [Option.isSome_none, Option.getD_none] at c14 c15 c16
  clear h
  subst hw
  clear hU hHU hTU hXU
  go_enter Tryz.func41, Tryz.ntmps41
  repeat
    fail_if_success (with_reducible refine ⟨rfl, ?_⟩)
    first
      | (with_reducible show bodyPost _ _ _ _ _ _; first | go_end0 | refine bodyPost_ret (results_none rfl _ _ _) rfl ?_)
      | go_quiet (first
        | fail)
      | go_wp2_with (first
        | go_in)
  refine ⟨rfl, ?_⟩
  apply Did.fin (hr := HR.out)
  · repeat (first | with_reducible apply Did.set | with_reducible apply Did.drew | with_reducible apply Did.drewN | with_reducible exact Did.refl)
  · kernel_rfl
end
end Go.Proofs.YtoomefclbemnlaaGreat

/-
  Give of the document's frame of a queue, where it is in the arena.
-/
namespace Go.Proofs.YtoomefclbemnlaaGreat
set_option maxRecDepth 100000
set_option linter.unusedSimpArgs false
set_option linter.unusedVariables false
open Go.ChangeShapes Go.WideShapes Go.ChangeAt Go.RowKit

section
variable {p q : Nat} {w : World} {lv nv : Value}
set_option maxHeartbeats 1600000 in
theorem rq_sub_on (s : QuS) (a : ArS) (v : Int) (won : Bool) (h : Row w p 85 (quCells s lv nv (.pointer (some ⟨q, 0, none⟩)))) (hj : refArJ q w [q] a) (hpq : p ≠ q) (ho : s.over = none) (ha : a.over = none) (hU : M.U v) (hg : (arenaM.give a v won).over = none) :
    Calls Tryz.prog 41 #[.pointer (some ⟨p, 0, none⟩), .int .u64 v, .bool won] w fun e w' => e = .returned (.tuple #[]) ∧ Row w' p 85 (quCells s lv nv (.pointer (some ⟨q, 0, none⟩))) ∧ refArJ q w' [q] (arenaM.give a v won) ∧ Keeps [q] w w' := by
  have HG := Lib.hid (refAr_give q a w [q] v won hj hU)
  obtain ⟨at_, n, puts, l, nodes, k, step, sub, hh, t, x, vv, code, inn, over⟩ := s
  simp only at *
  subst ho
  have HR := Lib.hid h
  have c7 := h.cell (j := 7) rfl
  have c14 := h.cell (j := 14) rfl
  simp only [Option.isSome_none] at c14
  obtain ⟨a', ha'⟩ : ∃ a', arenaM.give a v won = a' := ⟨_, rfl⟩
  rw [ha'] at hg HG ⊢
  have hra : (arenaM.res a).isSome = false := by show a.over.isSome = false; rw [ha]; rfl
  rw [hra] at HG
  clear h hj hU ha' hra
  go_enter Tryz.func41, Tryz.ntmps41
  go_wp2_with fail
  refine HG.out.mono ?_
  rintro e w1 ⟨rfl, S', j1, k1, -⟩
  have hS : S' = [q] := j1.1
  subst hS
  simp only [Bool.false_eq_true, if_false] at k1
  have hr1 := HR.out.keeps k1 (by simp; exact hpq)
  have HO := refAr_over q a' w1 [q] j1
  rw [show arenaM.res a' = none from hg] at HO
  have HO := Lib.hid HO
  have HJ1 := Lib.hid j1
  have HK1 := Lib.hid k1
  have HR1 := Lib.hid hr1
  have d7 := hr1.cell (j := 7) rfl
  clear j1 k1 hr1 c7 c14
  go_wp2_with fail
  refine HO.out.mono ?_
  rintro e w2 ⟨oq, on, oc, rfl, k2, -⟩
  have HJ2 := Lib.hid ((show refArJ q w2 [q] a' from ⟨HJ1.out.1, HJ1.out.2.1.keeps k2 (by simp), HJ1.out.2.2⟩))
  have HK2 := Lib.hid (HK1.out.trans (k2.nil (S := [q])))
  have HR2 := Lib.hid (HR1.out.keeps k2 (by simp))
  have hbs : p < w2.heap.size := HR2.out.lt
  clear k2 d7
  go_wp2
  refine bodyPost_ret (results_none rfl _ _ _) rfl ?_
  exact ⟨rfl, HR2.out.keeps ((Keeps.refl [] _).alloc _) (by simp), ⟨HJ2.out.1, HJ2.out.2.1.keeps ((Keeps.refl [] _).alloc _) (by simp), HJ2.out.2.2⟩, HK2.out.alloc _⟩
set_option maxHeartbeats 3200000 in
theorem rq_left_t_err (s : QuS) (a : ArS) (v rc rv : Int) (won : Bool) (h : Row w p 85 (quCells s lv nv (.pointer (some ⟨q, 0, none⟩)))) (hj : refArJ q w [q] a) (hpq : p ≠ q) (hn : ∃ q c, nv = .slice q s.nodes.length c) (ho : s.over = none) (ha : a.over = none) (hU : M.U v) (hg : (arenaM.give a v won).over = some ⟨rc, rv, []⟩) (hp : s.puts = false) (hc : rc ≠ 0) :
    Calls Tryz.prog 41 #[.pointer (some ⟨p, 0, none⟩), .int .u64 v, .bool won] w fun e w' => e = .returned (.tuple #[]) ∧ Row w' p 85 (quCells (quEnd s rc 0) lv nv (.pointer none)) ∧ Keeps [p, q] w w' := by
  have HG := Lib.hid (refAr_give q a w [q] v won hj hU)
  obtain ⟨bq9, bc9, rfl⟩ := hn
  obtain ⟨at_, n, puts, l, nodes, k, step, sub, hh, t, x, vv, code, inn, over⟩ := s
  simp only at *
  subst ho
  subst hp
  have dc : (rc != 0) = true := by simpa using hc
  have HR := Lib.hid h
  have c7 := h.cell (j := 7) rfl
  have c14 := h.cell (j := 14) rfl
  simp only [Option.isSome_none] at c14
  obtain ⟨a', ha'⟩ : ∃ a', arenaM.give a v won = a' := ⟨_, rfl⟩
  rw [ha'] at hg HG
  have hra : (arenaM.res a).isSome = false := by show a.over.isSome = false; rw [ha]; rfl
  rw [hra] at HG
  clear h hj hU ha' hra
  go_enter Tryz.func41, Tryz.ntmps41
  go_wp2_with fail
  refine HG.out.mono ?_
  rintro e w1 ⟨rfl, S', j1, k1, -⟩
  have hS : S' = [q] := j1.1
  subst hS
  simp only [Bool.false_eq_true, if_false] at k1
  have hr1 := HR.out.keeps k1 (by simp; exact hpq)
  have HO := refAr_over q a' w1 [q] j1
  rw [show arenaM.res a' = some ⟨rc, rv, []⟩ from hg] at HO
  have HO := Lib.hid HO
  have HK1 := Lib.hid k1
  have HR1 := Lib.hid hr1
  have d7 := hr1.cell (j := 7) rfl
  clear j1 k1 hr1 c7 c14
  go_wp2_with fail
  refine HO.out.mono ?_
  rintro e w2 ⟨oq, on, oc, rfl, k2, -⟩
  have HK2 := Lib.hid (HK1.out.trans (k2.nil (S := [q])))
  have HR2 := Lib.hid (HR1.out.keeps k2 (by simp))
  have hbs : p < w2.heap.size := HR2.out.lt
  have c0 := HR2.out.cell (j := 0) rfl
  have f0 := HR2.out.frozen 0
  have c1 := HR2.out.cell (j := 1) rfl
  have f1 := HR2.out.frozen 1
  have c2 := HR2.out.cell (j := 2) rfl
  have f2 := HR2.out.frozen 2
  have c3 := HR2.out.cell (j := 3) rfl
  have f3 := HR2.out.frozen 3
  have c4 := HR2.out.cell (j := 4) rfl
  have f4 := HR2.out.frozen 4
  have c5 := HR2.out.cell (j := 5) rfl
  have f5 := HR2.out.frozen 5
  have c6 := HR2.out.cell (j := 6) rfl
  have f6 := HR2.out.frozen 6
  have c7 := HR2.out.cell (j := 7) rfl
  have f7 := HR2.out.frozen 7
  have c8 := HR2.out.cell (j := 8) rfl
  have f8 := HR2.out.frozen 8
  have c9 := HR2.out.cell (j := 9) rfl
  have f9 := HR2.out.frozen 9
  have c10 := HR2.out.cell (j := 10) rfl
  have f10 := HR2.out.frozen 10
  have c11 := HR2.out.cell (j := 11) rfl
  have f11 := HR2.out.frozen 11
  have c12 := HR2.out.cell (j := 12) rfl
  have f12 := HR2.out.frozen 12
  have c13 := HR2.out.cell (j := 13) rfl
  have f13 := HR2.out.frozen 13
  have c14 := HR2.out.cell (j := 14) rfl
  have f14 := HR2.out.frozen 14
  have c15 := HR2.out.cell (j := 15) rfl
  have f15 := HR2.out.frozen 15
  have c16 := HR2.out.cell (j := 16) rfl
  have f16 := HR2.out.frozen 16
  have c17 := HR2.out.cell (j := 17) rfl
  have f17 := HR2.out.frozen 17
  simp only [Option.isSome_none, Option.getD_none] at c14 c15 c16
  clear k2 d7
  repeat
    fail_if_success (with_reducible refine ⟨rfl, ?_⟩)
    first
      | (with_reducible show bodyPost _ _ _ _ _ _; first | go_end0 | refine bodyPost_ret (results_none rfl _ _ _) rfl ?_)
      | go_quiet (fail)
      | go_wp2_with (first | go_in)
  have hfin : ∀ {W : World}, Row W p 85 (quCells (quEnd ⟨at_, n, false, l, nodes, k, step, sub, hh, t, x, vv, code, inn, none⟩ rc 0) lv (.slice bq9 nodes.length bc9) (.pointer none)) ∧ Keeps [p] w2 W → Row W p 85 (quCells (quEnd ⟨at_, n, false, l, nodes, k, step, sub, hh, t, x, vv, code, inn, none⟩ rc 0) lv (.slice bq9 nodes.length bc9) (.pointer none)) ∧ Keeps [p, q] w W := fun hx => ⟨hx.1, (HK2.out.mono (by simp)).trans (hx.2.mono (by simp))⟩
  refine ⟨rfl, hfin ?_⟩
  apply Did.fin (hr := HR2.out)
  · repeat (first | with_reducible apply Did.set | with_reducible apply Did.drew | with_reducible apply Did.drewN | with_reducible apply Did.alloc | with_reducible exact Did.refl)
  · kernel_rfl
set_option maxHeartbeats 3200000 in
theorem rq_left_t_ok (s : QuS) (a : ArS) (v rc rv : Int) (won : Bool) (h : Row w p 85 (quCells s lv nv (.pointer (some ⟨q, 0, none⟩)))) (hj : refArJ q w [q] a) (hpq : p ≠ q) (hn : ∃ q c, nv = .slice q s.nodes.length c) (ho : s.over = none) (ha : a.over = none) (hU : M.U v) (hg : (arenaM.give a v won).over = some ⟨rc, rv, []⟩) (hp : s.puts = false) (hc : rc = 0) :
    Calls Tryz.prog 41 #[.pointer (some ⟨p, 0, none⟩), .int .u64 v, .bool won] w fun e w' => e = .returned (.tuple #[]) ∧ Row w' p 85 (quCells (quEnd s rc s.v) lv nv (.pointer none)) ∧ Keeps [p, q] w w' := by
  have HG := Lib.hid (refAr_give q a w [q] v won hj hU)
  obtain ⟨bq9, bc9, rfl⟩ := hn
  obtain ⟨at_, n, puts, l, nodes, k, step, sub, hh, t, x, vv, code, inn, over⟩ := s
  simp only at *
  subst ho
  subst hp
  have dc : (rc != 0) = false := by simp [hc]
  clear hc
  have HR := Lib.hid h
  have c7 := h.cell (j := 7) rfl
  have c14 := h.cell (j := 14) rfl
  simp only [Option.isSome_none] at c14
  obtain ⟨a', ha'⟩ : ∃ a', arenaM.give a v won = a' := ⟨_, rfl⟩
  rw [ha'] at hg HG
  have hra : (arenaM.res a).isSome = false := by show a.over.isSome = false; rw [ha]; rfl
  rw [hra] at HG
  clear h hj hU ha' hra
  go_enter Tryz.func41, Tryz.ntmps41
  go_wp2_with fail
  refine HG.out.mono ?_
  rintro e w1 ⟨rfl, S', j1, k1, -⟩
  have hS : S' = [q] := j1.1
  subst hS
  simp only [Bool.false_eq_true, if_false] at k1
  have hr1 := HR.out.keeps k1 (by simp; exact hpq)
  have HO := refAr_over q a' w1 [q] j1
  rw [show arenaM.res a' = some ⟨rc, rv, []⟩ from hg] at HO
  have HO := Lib.hid HO
  have HK1 := Lib.hid k1
  have HR1 := Lib.hid hr1
  have d7 := hr1.cell (j := 7) rfl
  clear j1 k1 hr1 c7 c14
  go_wp2_with fail
  refine HO.out.mono ?_
  rintro e w2 ⟨oq, on, oc, rfl, k2, -⟩
  have HK2 := Lib.hid (HK1.out.trans (k2.nil (S := [q])))
  have HR2 := Lib.hid (HR1.out.keeps k2 (by simp))
  have hbs : p < w2.heap.size := HR2.out.lt
  have c0 := HR2.out.cell (j := 0) rfl
  have f0 := HR2.out.frozen 0
  have c1 := HR2.out.cell (j := 1) rfl
  have f1 := HR2.out.frozen 1
  have c2 := HR2.out.cell (j := 2) rfl
  have f2 := HR2.out.frozen 2
  have c3 := HR2.out.cell (j := 3) rfl
  have f3 := HR2.out.frozen 3
  have c4 := HR2.out.cell (j := 4) rfl
  have f4 := HR2.out.frozen 4
  have c5 := HR2.out.cell (j := 5) rfl
  have f5 := HR2.out.frozen 5
  have c6 := HR2.out.cell (j := 6) rfl
  have f6 := HR2.out.frozen 6
  have c7 := HR2.out.cell (j := 7) rfl
  have f7 := HR2.out.frozen 7
  have c8 := HR2.out.cell (j := 8) rfl
  have f8 := HR2.out.frozen 8
  have c9 := HR2.out.cell (j := 9) rfl
  have f9 := HR2.out.frozen 9
  have c10 := HR2.out.cell (j := 10) rfl
  have f10 := HR2.out.frozen 10
  have c11 := HR2.out.cell (j := 11) rfl
  have f11 := HR2.out.frozen 11
  have c12 := HR2.out.cell (j := 12) rfl
  have f12 := HR2.out.frozen 12
  have c13 := HR2.out.cell (j := 13) rfl
  have f13 := HR2.out.frozen 13
  have c14 := HR2.out.cell (j := 14) rfl
  have f14 := HR2.out.frozen 14
  have c15 := HR2.out.cell (j := 15) rfl
  have f15 := HR2.out.frozen 15
  have c16 := HR2.out.cell (j := 16) rfl
  have f16 := HR2.out.frozen 16
  have c17 := HR2.out.cell (j := 17) rfl
  have f17 := HR2.out.frozen 17
  simp only [Option.isSome_none, Option.getD_none] at c14 c15 c16
  clear k2 d7
  repeat
    fail_if_success (with_reducible refine ⟨rfl, ?_⟩)
    first
      | (with_reducible show bodyPost _ _ _ _ _ _; first | go_end0 | refine bodyPost_ret (results_none rfl _ _ _) rfl ?_)
      | go_quiet (fail)
      | go_wp2_with (first | go_in)
  have hfin : ∀ {W : World}, Row W p 85 (quCells (quEnd ⟨at_, n, false, l, nodes, k, step, sub, hh, t, x, vv, code, inn, none⟩ rc vv) lv (.slice bq9 nodes.length bc9) (.pointer none)) ∧ Keeps [p] w2 W → Row W p 85 (quCells (quEnd ⟨at_, n, false, l, nodes, k, step, sub, hh, t, x, vv, code, inn, none⟩ rc vv) lv (.slice bq9 nodes.length bc9) (.pointer none)) ∧ Keeps [p, q] w W := fun hx => ⟨hx.1, (HK2.out.mono (by simp)).trans (hx.2.mono (by simp))⟩
  refine ⟨rfl, hfin ?_⟩
  apply Did.fin (hr := HR2.out)
  · repeat (first | with_reducible apply Did.set | with_reducible apply Did.drew | with_reducible apply Did.drewN | with_reducible apply Did.alloc | with_reducible exact Did.refl)
  · kernel_rfl
set_option maxHeartbeats 3200000 in
theorem rq_left_p_end (s : QuS) (a : ArS) (v rc rv : Int) (won : Bool) (h : Row w p 85 (quCells s lv nv (.pointer (some ⟨q, 0, none⟩)))) (hj : refArJ q w [q] a) (hpq : p ≠ q) (hn : ∃ q c, nv = .slice q s.nodes.length c) (ho : s.over = none) (ha : a.over = none) (hU : M.U v) (hg : (arenaM.give a v won).over = some ⟨rc, rv, []⟩) (hp : s.puts = true) (hs : s.step = 10) (hk : s.k = s.nodes.length) :
    Calls Tryz.prog 41 #[.pointer (some ⟨p, 0, none⟩), .int .u64 v, .bool won] w fun e w' => e = .returned (.tuple #[]) ∧ Row w' p 85 (quCells (quEnd s s.code 0) lv nv (.pointer none)) ∧ Keeps [p, q] w w' := by
  have HG := Lib.hid (refAr_give q a w [q] v won hj hU)
  obtain ⟨bq9, bc9, rfl⟩ := hn
  obtain ⟨at_, n, puts, l, nodes, k, step, sub, hh, t, x, vv, code, inn, over⟩ := s
  simp only at *
  subst ho
  subst hp hs hk
  have dk : ((nodes.length : Int) == (nodes.length : Int)) = true := by simp
  have HR := Lib.hid h
  have c7 := h.cell (j := 7) rfl
  have c14 := h.cell (j := 14) rfl
  simp only [Option.isSome_none] at c14
  obtain ⟨a', ha'⟩ : ∃ a', arenaM.give a v won = a' := ⟨_, rfl⟩
  rw [ha'] at hg HG
  have hra : (arenaM.res a).isSome = false := by show a.over.isSome = false; rw [ha]; rfl
  rw [hra] at HG
  clear h hj hU ha' hra
  go_enter Tryz.func41, Tryz.ntmps41
  go_wp2_with fail
  refine HG.out.mono ?_
  rintro e w1 ⟨rfl, S', j1, k1, -⟩
  have hS : S' = [q] := j1.1
  subst hS
  simp only [Bool.false_eq_true, if_false] at k1
  have hr1 := HR.out.keeps k1 (by simp; exact hpq)
  have HO := refAr_over q a' w1 [q] j1
  rw [show arenaM.res a' = some ⟨rc, rv, []⟩ from hg] at HO
  have HO := Lib.hid HO
  have HK1 := Lib.hid k1
  have HR1 := Lib.hid hr1
  have d7 := hr1.cell (j := 7) rfl
  clear j1 k1 hr1 c7 c14
  go_wp2_with fail
  refine HO.out.mono ?_
  rintro e w2 ⟨oq, on, oc, rfl, k2, -⟩
  have HK2 := Lib.hid (HK1.out.trans (k2.nil (S := [q])))
  have HR2 := Lib.hid (HR1.out.keeps k2 (by simp))
  have hbs : p < w2.heap.size := HR2.out.lt
  have c0 := HR2.out.cell (j := 0) rfl
  have f0 := HR2.out.frozen 0
  have c1 := HR2.out.cell (j := 1) rfl
  have f1 := HR2.out.frozen 1
  have c2 := HR2.out.cell (j := 2) rfl
  have f2 := HR2.out.frozen 2
  have c3 := HR2.out.cell (j := 3) rfl
  have f3 := HR2.out.frozen 3
  have c4 := HR2.out.cell (j := 4) rfl
  have f4 := HR2.out.frozen 4
  have c5 := HR2.out.cell (j := 5) rfl
  have f5 := HR2.out.frozen 5
  have c6 := HR2.out.cell (j := 6) rfl
  have f6 := HR2.out.frozen 6
  have c7 := HR2.out.cell (j := 7) rfl
  have f7 := HR2.out.frozen 7
  have c8 := HR2.out.cell (j := 8) rfl
  have f8 := HR2.out.frozen 8
  have c9 := HR2.out.cell (j := 9) rfl
  have f9 := HR2.out.frozen 9
  have c10 := HR2.out.cell (j := 10) rfl
  have f10 := HR2.out.frozen 10
  have c11 := HR2.out.cell (j := 11) rfl
  have f11 := HR2.out.frozen 11
  have c12 := HR2.out.cell (j := 12) rfl
  have f12 := HR2.out.frozen 12
  have c13 := HR2.out.cell (j := 13) rfl
  have f13 := HR2.out.frozen 13
  have c14 := HR2.out.cell (j := 14) rfl
  have f14 := HR2.out.frozen 14
  have c15 := HR2.out.cell (j := 15) rfl
  have f15 := HR2.out.frozen 15
  have c16 := HR2.out.cell (j := 16) rfl
  have f16 := HR2.out.frozen 16
  have c17 := HR2.out.cell (j := 17) rfl
  have f17 := HR2.out.frozen 17
  simp only [Option.isSome_none, Option.getD_none] at c14 c15 c16
  clear k2 d7
  repeat
    fail_if_success (with_reducible refine ⟨rfl, ?_⟩)
    first
      | (with_reducible show bodyPost _ _ _ _ _ _; first | go_end0 | refine bodyPost_ret (results_none rfl _ _ _) rfl ?_)
      | go_quiet (fail)
      | go_wp2_with (first | go_in)
  have hfin : ∀ {W : World}, Row W p 85 (quCells (quEnd ⟨at_, n, true, l, nodes, nodes.length, 10, sub, hh, t, x, vv, code, inn, none⟩ code 0) lv (.slice bq9 nodes.length bc9) (.pointer none)) ∧ Keeps [p] w2 W → Row W p 85 (quCells (quEnd ⟨at_, n, true, l, nodes, nodes.length, 10, sub, hh, t, x, vv, code, inn, none⟩ code 0) lv (.slice bq9 nodes.length bc9) (.pointer none)) ∧ Keeps [p, q] w W := fun hx => ⟨hx.1, (HK2.out.mono (by simp)).trans (hx.2.mono (by simp))⟩
  refine ⟨rfl, hfin ?_⟩
  apply Did.fin (hr := HR2.out)
  · repeat (first | with_reducible apply Did.set | with_reducible apply Did.drew | with_reducible apply Did.drewN | with_reducible apply Did.alloc | with_reducible exact Did.refl)
  · kernel_rfl
set_option maxHeartbeats 3200000 in
theorem rq_left_p_none (s : QuS) (a : ArS) (v rc rv : Int) (won : Bool) (h : Row w p 85 (quCells s lv nv (.pointer (some ⟨q, 0, none⟩)))) (hj : refArJ q w [q] a) (hpq : p ≠ q) (hn : ∃ q c, nv = .slice q s.nodes.length c) (ho : s.over = none) (ha : a.over = none) (hU : M.U v) (hg : (arenaM.give a v won).over = some ⟨rc, rv, []⟩) (hp : s.puts = true) (hs : s.step = 1) (hc : rc ≠ 0) (hk : s.k = s.nodes.length) :
    Calls Tryz.prog 41 #[.pointer (some ⟨p, 0, none⟩), .int .u64 v, .bool won] w fun e w' => e = .returned (.tuple #[]) ∧ Row w' p 85 (quCells (quEnd { s with code := rc, step := 10 } rc 0) lv nv (.pointer none)) ∧ Keeps [p, q] w w' := by
  have HG := Lib.hid (refAr_give q a w [q] v won hj hU)
  obtain ⟨bq9, bc9, rfl⟩ := hn
  obtain ⟨at_, n, puts, l, nodes, k, step, sub, hh, t, x, vv, code, inn, over⟩ := s
  simp only at *
  subst ho
  subst hp hs hk
  have dc : (rc != 0) = true := by simpa using hc
  have dk : ((nodes.length : Int) == (nodes.length : Int)) = true := by simp
  have HR := Lib.hid h
  have c7 := h.cell (j := 7) rfl
  have c14 := h.cell (j := 14) rfl
  simp only [Option.isSome_none] at c14
  obtain ⟨a', ha'⟩ : ∃ a', arenaM.give a v won = a' := ⟨_, rfl⟩
  rw [ha'] at hg HG
  have hra : (arenaM.res a).isSome = false := by show a.over.isSome = false; rw [ha]; rfl
  rw [hra] at HG
  clear h hj hU ha' hra
  go_enter Tryz.func41, Tryz.ntmps41
  go_wp2_with fail
  refine HG.out.mono ?_
  rintro e w1 ⟨rfl, S', j1, k1, -⟩
  have hS : S' = [q] := j1.1
  subst hS
  simp only [Bool.false_eq_true, if_false] at k1
  have hr1 := HR.out.keeps k1 (by simp; exact hpq)
  have HO := refAr_over q a' w1 [q] j1
  rw [show arenaM.res a' = some ⟨rc, rv, []⟩ from hg] at HO
  have HO := Lib.hid HO
  have HK1 := Lib.hid k1
  have HR1 := Lib.hid hr1
  have d7 := hr1.cell (j := 7) rfl
  clear j1 k1 hr1 c7 c14
  go_wp2_with fail
  refine HO.out.mono ?_
  rintro e w2 ⟨oq, on, oc, rfl, k2, -⟩
  have HK2 := Lib.hid (HK1.out.trans (k2.nil (S := [q])))
  have HR2 := Lib.hid (HR1.out.keeps k2 (by simp))
  have hbs : p < w2.heap.size := HR2.out.lt
  have c0 := HR2.out.cell (j := 0) rfl
  have f0 := HR2.out.frozen 0
  have c1 := HR2.out.cell (j := 1) rfl
  have f1 := HR2.out.frozen 1
  have c2 := HR2.out.cell (j := 2) rfl
  have f2 := HR2.out.frozen 2
  have c3 := HR2.out.cell (j := 3) rfl
  have f3 := HR2.out.frozen 3
  have c4 := HR2.out.cell (j := 4) rfl
  have f4 := HR2.out.frozen 4
  have c5 := HR2.out.cell (j := 5) rfl
  have f5 := HR2.out.frozen 5
  have c6 := HR2.out.cell (j := 6) rfl
  have f6 := HR2.out.frozen 6
  have c7 := HR2.out.cell (j := 7) rfl
  have f7 := HR2.out.frozen 7
  have c8 := HR2.out.cell (j := 8) rfl
  have f8 := HR2.out.frozen 8
  have c9 := HR2.out.cell (j := 9) rfl
  have f9 := HR2.out.frozen 9
  have c10 := HR2.out.cell (j := 10) rfl
  have f10 := HR2.out.frozen 10
  have c11 := HR2.out.cell (j := 11) rfl
  have f11 := HR2.out.frozen 11
  have c12 := HR2.out.cell (j := 12) rfl
  have f12 := HR2.out.frozen 12
  have c13 := HR2.out.cell (j := 13) rfl
  have f13 := HR2.out.frozen 13
  have c14 := HR2.out.cell (j := 14) rfl
  have f14 := HR2.out.frozen 14
  have c15 := HR2.out.cell (j := 15) rfl
  have f15 := HR2.out.frozen 15
  have c16 := HR2.out.cell (j := 16) rfl
  have f16 := HR2.out.frozen 16
  have c17 := HR2.out.cell (j := 17) rfl
  have f17 := HR2.out.frozen 17
  simp only [Option.isSome_none, Option.getD_none] at c14 c15 c16
  clear k2 d7
  repeat
    fail_if_success (with_reducible refine ⟨rfl, ?_⟩)
    first
      | (with_reducible show bodyPost _ _ _ _ _ _; first | go_end0 | refine bodyPost_ret (results_none rfl _ _ _) rfl ?_)
      | go_quiet (fail)
      | go_wp2_with (first | go_in)
  have hfin : ∀ {W : World}, Row W p 85 (quCells (quEnd ⟨at_, n, true, l, nodes, nodes.length, 10, sub, hh, t, x, vv, rc, inn, none⟩ rc 0) lv (.slice bq9 nodes.length bc9) (.pointer none)) ∧ Keeps [p] w2 W → Row W p 85 (quCells (quEnd ⟨at_, n, true, l, nodes, nodes.length, 10, sub, hh, t, x, vv, rc, inn, none⟩ rc 0) lv (.slice bq9 nodes.length bc9) (.pointer none)) ∧ Keeps [p, q] w W := fun hx => ⟨hx.1, (HK2.out.mono (by simp)).trans (hx.2.mono (by simp))⟩
  refine ⟨rfl, hfin ?_⟩
  apply Did.fin (hr := HR2.out)
  · repeat (first | with_reducible apply Did.set | with_reducible apply Did.drew | with_reducible apply Did.drewN | with_reducible apply Did.alloc | with_reducible exact Did.refl)
  · kernel_rfl
end
end Go.Proofs.YtoomefclbemnlaaGreat
