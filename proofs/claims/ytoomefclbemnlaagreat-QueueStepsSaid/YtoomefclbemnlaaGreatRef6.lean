/-
  Contracts: the document's frames of an arena go as the machine of Take and Put goes.
-/
import Derived.Test.YtoomefclbemnlaaGreatSeen
import Derived.Test.YtoomefclbemnlaaGreatWord
import Derived.Test.YtoomefclbemnlaaGreatArM
import Derived.IntWalk
import Derived.Deep.CutRange
import Derived.LoopTactic
import Derived.Test.YtoomefclbemnlaaGreatDraw
import Derived.Test.YtoomefclbemnlaaGreatFresh
import Derived.Test.YtoomefclbemnlaaGreatKeep
namespace Go.Proofs.YtoomefclbemnlaaGreat
set_option maxRecDepth 100000
set_option linter.unusedSimpArgs false
set_option linter.unusedVariables false
open Go.ChangeShapes Go.WideShapes Go.ChangeAt Go.RowKit

def arCells (s : ArS) : List Value := [.int .i64 s.at_, .int .i64 s.n, .bool s.puts, .int .i64 s.node, .int .i64 s.step, .int .u64 s.h, .int .u64 s.link, .bool s.over.isSome, .int .i64 (s.over.getD Rs.zero).code, .int .u64 (s.over.getD Rs.zero).v, .slice none 0 0]
def refArJ (p : Nat) (w : World) (S : List Nat) (s : ArS) : Prop :=
  S = [p] ∧ Row w p 119 (arCells s) ∧ (∀ r, s.over = some r → r.l = []) ∧ (s.over = none → arRight s.at_ s.n ∧ (s.puts = true → 1 ≤ s.node ∧ s.node ≤ s.n)) ∧ M.U s.h ∧ M.U s.link
theorem refArJ.cells {p : Nat} {w : World} {S : List Nat} {s : ArS} (h : refArJ p w S s) (j : Nat) (v : Value) (hv : (arCells s)[j]? = some v) : w.cell? ⟨p, j, none⟩ = some v := h.2.1.cell hv

theorem refEnd_any (p : Nat) (s : ArS) (code v : Int) (w : World) (h : Row w p 119 (arCells s)) :
    Calls Tryz.prog 77 #[.pointer (some ⟨p, 0, none⟩), .int .i64 code, .int .u64 v] w fun e w' => e = .returned (.tuple #[]) ∧ Row w' p 119 (arCells { s with over := some ⟨code, v, []⟩ }) ∧ Keeps [p] w w' := by
  have h7 := h.cell (j := 7) rfl
  have h8 := h.cell (j := 8) rfl
  have h9 := h.cell (j := 9) rfl
  have h10 := h.cell (j := 10) rfl
  have f7 := h.frozen 7
  have f8 := h.frozen 8
  have f9 := h.frozen 9
  have f10 := h.frozen 10
  have HR := Lib.hid h
  clear h
  go_enter Tryz.func77, Tryz.ntmps77
  go_wp2
  first | go_end0 | refine bodyPost_ret (results_none rfl _ _ _) rfl ?_
  exact ⟨rfl, (((HR.out.set 7 (.bool true)).set 8 (.int .i64 code)).set 9 (.int .u64 v)).set 10 (.slice none 0 0), (((((Keeps.refl [p] w).set (by simp) _ _).set (by simp) _ _).set (by simp) _ _).set (by simp) _ _)⟩

theorem refNext_any (p : Nat) (s : ArS) (i : Int) (w : World) (h : Row w p 119 (arCells s)) (hU : M.U s.h) (h0 : 0 ≤ i) (h1 : i < 4294967296) :
    Calls Tryz.prog 121 #[.pointer (some ⟨p, 0, none⟩), .int .u32 i] w fun e w' => e = .returned (.int .u64 (arNext s.h i)) ∧ w = w' := by
  have h5 := h.cell (j := 5) rfl
  have u0 := hU.nn
  have u1 := hU.lt
  obtain ⟨hh, hhh⟩ : ∃ hh, s.h = hh := ⟨_, rfl⟩
  have H := refHi_any s.h w hU.nn hU
  rw [hhh] at h5 H u0 u1 ⊢
  obtain ⟨q, hq⟩ : ∃ q, hh / 4294967296 = q := ⟨_, rfl⟩
  have q0 : 0 ≤ q := by omega
  have q1 : q < 4294967296 := by omega
  rw [hq] at H
  have HQ := Lib.hid hq
  clear h hU hhh hq
  go_enter Tryz.func121, Tryz.ntmps121
  go_wp2_with fail
  refine H.mono ?_
  rintro e w1 ⟨rfl, rfl⟩
  go_wp2_with fail
  refine (refPair_any ((q + 1) % 4294967296) i w (by omega) (by omega) h0 h1).mono ?_
  rintro e w1 ⟨rfl, rfl⟩
  go_wp2
  go_ret
  exact ⟨by unfold arNext; rw [HQ.out]; rfl, rfl⟩

set_option maxHeartbeats 800000 in
theorem refHead_any (p : Nat) (s : ArS) (v : Int) (w : World) (h : Row w p 119 (arCells s)) (hU : M.U v) (ho : s.over = none) (hr : arRight s.at_ s.n) :
    Calls Tryz.prog 130 #[.pointer (some ⟨p, 0, none⟩), .int .u64 v] w fun e w' => e = .returned (.tuple #[]) ∧ Row w' p 119 (arCells (arHead s v)) ∧ Keeps [p] w w' := by
  have HE := Lib.hid (fun s c u W h => refEnd_any p s c u W h)
  have HL := Lib.hid (fun W => refLo_any v W hU.nn)
  have HR := Lib.hid h
  have h1 := h.cell (j := 1) rfl
  have h2 := h.cell (j := 2) rfl
  have h4 := h.cell (j := 4) rfl
  have h5 := h.cell (j := 5) rfl
  have f4 := h.frozen 4
  have f5 := h.frozen 5
  have HRt := Lib.hid hr
  have hnn : 1 ≤ s.n ∧ s.n ≤ 4096 := ⟨hr.1, hr.2.1⟩
  have u0 := hU.nn
  have u1 := hU.lt
  obtain ⟨at_, n, puts, node, step, hh, link, over⟩ := s
  simp only at h1 h2 h4 h5 ho hnn
  subst ho
  clear h hU hr
  obtain ⟨lo, hlo⟩ : ∃ lo, v % 4294967296 = lo := ⟨_, rfl⟩
  rw [hlo] at HL
  have l0 : 0 ≤ lo := by omega
  have l1 : lo < 4294967296 := by omega
  have HLO := Lib.hid hlo
  clear hlo
  have key : ∀ W, Row W p 119 (arCells ⟨at_, n, puts, node, step, hh, link, none⟩) → Row ((W.setCell ⟨p, 5, none⟩ (.int .u64 v)).setCell ⟨p, 4, none⟩ (.int .i64 2)) p 119 (arCells ⟨at_, n, puts, node, 2, v, link, none⟩) :=
    fun W h => (h.set 5 _).set 4 _
  have HKey := Lib.hid (⟨key w HR.out, ((Keeps.refl [p] w).set (by simp) _ _).set (by simp) _ _⟩ : Row ((w.setCell ⟨p, 5, none⟩ (.int .u64 v)).setCell ⟨p, 4, none⟩ (.int .i64 2)) p 119 (arCells ⟨at_, n, puts, node, 2, v, link, none⟩) ∧ Keeps [p] w ((w.setCell ⟨p, 5, none⟩ (.int .u64 v)).setCell ⟨p, 4, none⟩ (.int .i64 2)))
  clear key
  cases puts with
  | true =>
    have HA : Hid (arHead ⟨at_, n, true, node, step, hh, link, none⟩ v = ⟨at_, n, true, node, 2, v, link, none⟩) := Lib.hid rfl
    go_enter Tryz.func130, Tryz.ntmps130
    go_wp2
    first | go_end0 | refine bodyPost_ret (results_none rfl _ _ _) rfl ?_
    rw [HA.out]
    exact ⟨rfl, HKey.out⟩
  | false =>
    obtain ⟨W1, hW1⟩ : ∃ W1, (w.setCell ⟨p, 5, none⟩ (.int .u64 v)).setCell ⟨p, 4, none⟩ (.int .i64 2) = W1 := ⟨_, rfl⟩
    rw [hW1] at HKey
    have g1 := HKey.out.1.cell (j := 1) rfl
    have g2 := HKey.out.1.cell (j := 2) rfl
    simp only at g1 g2
    by_cases c0 : lo = 0
    · subst c0
      have HA : Hid (arHead ⟨at_, n, false, node, step, hh, link, none⟩ v = ⟨at_, n, false, node, 2, v, link, some ⟨7, 0, []⟩⟩) := Lib.hid (by simp [arHead, HLO.out])
      go_enter Tryz.func130, Tryz.ntmps130
      go_wp2_with fail
      refine (HL.out W1).mono ?_
      rintro e w2 ⟨rfl, rfl⟩
      go_wp2_with fail
      refine (HE.out _ 7 0 W1 HKey.out.1).mono ?_
      rintro e w3 ⟨rfl, hr3, k3⟩
      have HQ := Lib.hid (⟨hr3, HKey.out.2.trans k3⟩ : _ ∧ _)
      clear hr3 k3
      go_wp2
      first | go_end0 | refine bodyPost_ret (results_none rfl _ _ _) rfl ?_
      rw [HA.out]
      exact ⟨rfl, HQ.out⟩
    · have b0 : (lo == 0) = false := by simp [c0]
      by_cases c1 : n < lo
      · have HA : Hid (arHead ⟨at_, n, false, node, step, hh, link, none⟩ v = ⟨at_, n, false, node, 2, v, link, some ⟨9, 0, []⟩⟩) := Lib.hid (by simp [arHead, HLO.out, c0, c1])
        clear c0
        go_enter Tryz.func130, Tryz.ntmps130
        go_wp2_with fail
        refine (HL.out W1).mono ?_
        rintro e w2 ⟨rfl, rfl⟩
        go_wp2_with fail
        refine (HE.out _ 9 0 W1 HKey.out.1).mono ?_
        rintro e w3 ⟨rfl, hr3, k3⟩
        have HQ := Lib.hid (⟨hr3, HKey.out.2.trans k3⟩ : _ ∧ _)
        clear hr3 k3
        go_wp2
        first | go_end0 | refine bodyPost_ret (results_none rfl _ _ _) rfl ?_
        rw [HA.out]
        exact ⟨rfl, HQ.out⟩
      · have HA : Hid (arHead ⟨at_, n, false, node, step, hh, link, none⟩ v = ⟨at_, n, false, node, 2, v, link, none⟩) := Lib.hid (by simp [arHead, HLO.out, c0, c1])
        clear c0
        go_enter Tryz.func130, Tryz.ntmps130
        go_wp2_with fail
        refine (HL.out W1).mono ?_
        rintro e w2 ⟨rfl, rfl⟩
        go_wp2
        first | go_end0 | refine bodyPost_ret (results_none rfl _ _ _) rfl ?_
        rw [HA.out]
        exact ⟨rfl, HKey.out⟩

theorem still_of {P : Program} {f : FuncId} {args : Array Value} {w : World} {v : Value} (h : Calls P f args w fun e w' => e = .returned v ∧ w = w') : Calls P f args w fun e w' => e = .returned v ∧ w' = w :=
  h.mono fun _ _ ⟨a, b⟩ => ⟨a, b.symm⟩
set_option maxHeartbeats 1600000 in
theorem refAr_want (p : Nat) (s : ArS) (w : World) (S : List Nat) (h : refArJ p w S s) :
    Calls Tryz.prog 78 #[.pointer (some ⟨p, 0, none⟩)] w fun e w' => e = .returned (.tuple #[((arenaM.want s).getD zacc).val, .bool (arenaM.want s).isSome]) ∧ Keeps [] w w' := by
  have hlt := h.2.1.lt
  obtain ⟨W0, hW0⟩ : ∃ W0, w.alloc (.cells #[.int .i64 0, .int .i64 0, .int .u64 0, .int .u64 0] 60) = W0 := ⟨_, rfl⟩
  have k0 : Keeps [] w W0 := by rw [← hW0]; exact (Keeps.refl _ _).alloc _
  have r0 : Row W0 w.heap.size 60 [.int .i64 0, .int .i64 0, .int .u64 0, .int .u64 0] := by rw [← hW0]; exact Row.new _ _ _
  have hrow := h.2.1.keeps k0 (by simp)
  obtain ⟨-, -, -, hg, hUh, hUl⟩ := h
  have fin : ∀ (x : C.Acc) (W : World), Keeps [] W0 W → Keeps [] w ((((W.setCell ⟨w.heap.size, 0, none⟩ (.int .i64 x.k)).setCell ⟨w.heap.size, 1, none⟩ (.int .i64 x.c)).setCell ⟨w.heap.size, 2, none⟩ (.int .u64 x.a)).setCell ⟨w.heap.size, 3, none⟩ (.int .u64 x.b)) := fun x W hW =>
    (k0.trans hW).step (S := [w.heap.size]) (((((Keeps.refl _ _).set (by simp) _ _).set (by simp) _ _).set (by simp) _ _).set (by simp) _ _) (by simp)
  have HF := Lib.hid fin
  have q0 := r0.cell (j := 0) rfl
  have q1 := r0.cell (j := 1) rfl
  have q2 := r0.cell (j := 2) rfl
  have q3 := r0.cell (j := 3) rfl
  have e0 := r0.frozen 0
  have e1 := r0.frozen 1
  have e2 := r0.frozen 2
  have e3 := r0.frozen 3
  have hl0 := r0.lt
  obtain ⟨at_, n, puts, node, step, hh, link, over⟩ := s
  have c0 := hrow.cell (j := 0) rfl
  have c2 := hrow.cell (j := 2) rfl
  have c3 := hrow.cell (j := 3) rfl
  have c4 := hrow.cell (j := 4) rfl
  have c5 := hrow.cell (j := 5) rfl
  have c6 := hrow.cell (j := 6) rfl
  have c7 := hrow.cell (j := 7) rfl
  simp only at c0 c2 c3 c4 c5 c6 c7 hg hUh hUl
  have HL := Lib.hid (fun W => refLo_any hh W hUh.nn)
  have HLl := Lib.hid (fun W => refLo_any link W hUl.nn)
  have HN := Lib.hid (fun W i h h0 h1 => refNext_any p ⟨at_, n, puts, node, step, hh, link, over⟩ i W h hUh h0 h1)
  have HRow := Lib.hid hrow
  have HK0 := Lib.hid k0
  have u0 := hUh.nn
  have u1 := hUh.lt
  have v0 := hUl.nn
  clear hrow k0 r0 fin hUh hUl
  cases over with
  | some r =>
    simp only [Option.isSome_some] at c7
    go_enter Tryz.func78, Tryz.ntmps78
    go_wp2
    refine bodyPost_ret (v := .tuple #[zacc.val, .bool false]) (by simp [results, Tryz.results78, go_sem, q0, q1, q2, q3]) rfl ⟨rfl, ?_⟩
    exact HF.out zacc W0 (Keeps.refl _ _)
  | none =>
    obtain ⟨hr, hnode⟩ := hg rfl
    have hn1 := hr.1
    have hn2 := hr.2.1
    have ha1 := hr.2.2.1
    have ha2 := hr.2.2.2
    have HW : Hid (arenaM.want ⟨at_, n, puts, node, step, hh, link, none⟩ = some (arWant ⟨at_, n, puts, node, step, hh, link, none⟩)) := Lib.hid rfl
    rw [HW.out]
    simp only [Option.isSome_none] at c7
    clear hg hr
    by_cases s1 : step = 1
    · have HWt : Hid (arWant ⟨at_, n, puts, node, step, hh, link, none⟩ = ⟨1, at_, 0, 0⟩) := Lib.hid (by simp [arWant, s1])
      rw [HWt.out]
      subst s1
      go_enter Tryz.func78, Tryz.ntmps78
      go_wp2
      refine bodyPost_ret (v := .tuple #[(⟨1, at_, 0, 0⟩ : C.Acc).val, .bool true]) (by simp [results, Tryz.results78, go_sem, q0, q1, q2, q3]) rfl ⟨rfl, ?_⟩
      exact HF.out ⟨1, at_, 0, 0⟩ W0 (Keeps.refl _ _)
    · have b1 : (step == 1) = false := by simp [s1]
      obtain ⟨lo, hlo⟩ : ∃ lo, hh % 4294967296 = lo := ⟨_, rfl⟩
      rw [hlo] at HL
      have l0 : 0 ≤ lo := by omega
      have l1 : lo < 4294967296 := by omega
      have HLO := Lib.hid hlo
      have HS1 := Lib.hid s1
      clear hlo s1
      by_cases hs2 : step = 2
      · subst hs2
        cases puts
        · -- a Take loads the link
          have HWt : Hid (arWant ⟨at_, n, false, node, 2, hh, link, none⟩ = ⟨1, at_ + lo, 0, 0⟩) := Lib.hid (by simp [arWant, HLO.out])
          rw [HWt.out]
          go_enter Tryz.func78, Tryz.ntmps78
          go_wp2_with fail
          refine (HL.out W0).mono ?_
          rintro e w1 ⟨rfl, rfl⟩
          go_wp2
          refine bodyPost_ret (v := .tuple #[(⟨1, at_ + lo, 0, 0⟩ : C.Acc).val, .bool true]) (by simp [results, Tryz.results78, go_sem, q0, q1, q2, q3]) rfl ⟨rfl, ?_⟩
          exact HF.out ⟨1, at_ + lo, 0, 0⟩ W0 (Keeps.refl _ _)
        · -- a Put stores the link
          have HWt : Hid (arWant ⟨at_, n, true, node, 2, hh, link, none⟩ = ⟨2, at_ + node, lo, 0⟩) := Lib.hid (by simp [arWant, HLO.out])
          rw [HWt.out]
          obtain ⟨n1, n2⟩ := hnode rfl
          go_enter Tryz.func78, Tryz.ntmps78
          go_wp2_with fail
          refine (HL.out W0).mono ?_
          rintro e w1 ⟨rfl, rfl⟩
          go_wp2
          refine wp_region_mid 12 (by kernel_rfl) (by kernel_rfl) ?_
          simp only [List.take_succ_cons, List.take_zero, List.drop_succ_cons, List.drop_zero]
          repeat still_step
          refine wpStill_nil ?_
          go_wp2
          show wpStill _ _ _ _ _ _
          repeat still_step
          refine wpStill_nil ?_
          go_wp2
          refine bodyPost_ret (v := .tuple #[(⟨2, at_ + node, lo, 0⟩ : C.Acc).val, .bool true]) (by simp [results, Tryz.results78, go_sem, q0, q1, q2, q3]) rfl ⟨rfl, ?_⟩
          exact HF.out ⟨2, at_ + node, lo, 0⟩ _ (Keeps.refl _ _).drew
      · have b2 : (step == 2) = false := by simp [hs2]
        cases puts
        · -- a Take swaps the head
          have HWt : Hid (arWant ⟨at_, n, false, node, step, hh, link, none⟩ = ⟨3, at_, hh, arNext hh (link % 4294967296)⟩) := Lib.hid (by simp [arWant, hs2, HS1.out])
          rw [HWt.out]
          obtain ⟨ln, hln⟩ : ∃ ln, link % 4294967296 = ln := ⟨_, rfl⟩
          rw [hln] at HLl ⊢
          have m0 : 0 ≤ ln := by omega
          have m1 : ln < 4294967296 := by omega
          have HN' := Lib.hid (fun W h => HN.out W ln h m0 m1)
          obtain ⟨nx, hnx⟩ : ∃ nx, arNext hh ln = nx := ⟨_, rfl⟩
          simp only [hnx] at HN' ⊢
          clear hln hnx hs2 HN
          go_enter Tryz.func78, Tryz.ntmps78
          go_wp2_with fail
          refine (HL.out W0).mono ?_
          rintro e w1 ⟨rfl, rfl⟩
          go_wp2
          refine wp_region_mid 16 (by kernel_rfl) (by kernel_rfl) ?_
          simp only [List.take_succ_cons, List.take_zero, List.drop_succ_cons, List.drop_zero]
          repeat still_step
          still_call (still_of (HLl.out _))
          still_call (still_of (HN'.out _ (HRow.out.keeps (Keeps.refl [] W0).drew (by simp))))
          repeat still_step
          refine wpStill_nil ?_
          go_wp2
          show wpStill _ _ _ _ _ _
          repeat still_step
          refine wpStill_nil ?_
          go_wp2
          refine bodyPost_ret (v := .tuple #[(⟨3, at_, hh, nx⟩ : C.Acc).val, .bool true]) (by simp [results, Tryz.results78, go_sem, q0, q1, q2, q3]) rfl ⟨rfl, ?_⟩
          exact HF.out ⟨3, at_, hh, nx⟩ _ (Keeps.refl _ _).drew
        · -- a Put swaps the head
          obtain ⟨n1, n2⟩ := hnode rfl
          have HWt : Hid (arWant ⟨at_, n, true, node, step, hh, link, none⟩ = ⟨3, at_, hh, arNext hh node⟩) := Lib.hid (by simp [arWant, hs2, HS1.out])
          rw [HWt.out]
          have HN' := Lib.hid (fun W h => HN.out W node h (by omega) (by omega))
          have hw32 : IntKind.u32.wrap node = node := by show node % 4294967296 = node; omega
          obtain ⟨nx, hnx⟩ : ∃ nx, arNext hh node = nx := ⟨_, rfl⟩
          simp only [hnx] at HN' ⊢
          clear hnx hs2 HN
          go_enter Tryz.func78, Tryz.ntmps78
          go_wp2_with fail
          refine (HL.out W0).mono ?_
          rintro e w1 ⟨rfl, rfl⟩
          go_wp2
          refine wp_region_mid 16 (by kernel_rfl) (by kernel_rfl) ?_
          simp only [List.take_succ_cons, List.take_zero, List.drop_succ_cons, List.drop_zero]
          repeat still_step
          still_call (still_of (HN'.out _ (HRow.out.keeps (Keeps.refl [] W0).drew (by simp))))
          repeat still_step
          refine wpStill_nil ?_
          go_wp2
          show wpStill _ _ _ _ _ _
          repeat still_step
          refine wpStill_nil ?_
          go_wp2
          refine bodyPost_ret (v := .tuple #[(⟨3, at_, hh, nx⟩ : C.Acc).val, .bool true]) (by simp [results, Tryz.results78, go_sem, q0, q1, q2, q3]) rfl ⟨rfl, ?_⟩
          exact HF.out ⟨3, at_, hh, nx⟩ _ (Keeps.refl _ _).drew

set_option maxHeartbeats 800000 in
theorem refAr_over (p : Nat) (s : ArS) (w : World) (S : List Nat) (h : refArJ p w S s) :
    Calls Tryz.prog 82 #[.pointer (some ⟨p, 0, none⟩)] w fun e w' => ∃ q n c,
      e = .returned (.tuple #[.agg #[.int .i64 ((arenaM.res s).getD Rs.zero).code, .int .u64 ((arenaM.res s).getD Rs.zero).v, .slice q n c], .bool (arenaM.res s).isSome]) ∧ Keeps [] w w' ∧
      ∀ r, arenaM.res s = some r → Sl w' 1 (.slice q n c) r.l.length (ints .u64 r.l) ∧ r.l.length ≤ maxLen ∧ ∀ g, (Value.slice q n c).ownBlock = some g → g ∈ S ∨ w.heap.size ≤ g := by
  obtain ⟨-, hrow, hnil, -⟩ := h
  have hlt := hrow.lt
  have fin : ∀ w' r, arenaM.res s = some r → Sl w' 1 (.slice none 0 0) r.l.length (ints .u64 r.l) ∧ r.l.length ≤ maxLen ∧ ∀ g, (Value.slice none 0 0).ownBlock = some g → g ∈ S ∨ w.heap.size ≤ g := by
    intro w' r hr
    have := hnil r hr
    rw [this]
    exact ⟨⟨rfl, .inl ⟨_, _, rfl, rfl⟩⟩, Nat.zero_le _, fun g hg => by cases hg⟩
  have HF := Lib.hid fin
  obtain ⟨rr, hrr⟩ : ∃ rr, (arenaM.res s).getD Rs.zero = rr := ⟨_, rfl⟩
  obtain ⟨br, hbr⟩ : ∃ br, (arenaM.res s).isSome = br := ⟨_, rfl⟩
  obtain ⟨W0, hW0⟩ : ∃ W0, w.alloc (.cells #[.int .i64 0, .int .u64 0, .slice none 0 0] 56) = W0 := ⟨_, rfl⟩
  have k0 : Keeps [] w W0 := by rw [← hW0]; exact (Keeps.refl _ _).alloc _
  have r0 : Row W0 w.heap.size 56 [.int .i64 0, .int .u64 0, .slice none 0 0] := by rw [← hW0]; exact Row.new _ _ _
  have hr0 := hrow.keeps k0 (by simp)
  have c7 := hr0.cell (j := 7) rfl
  have c8 := hr0.cell (j := 8) rfl
  have c9 := hr0.cell (j := 9) rfl
  have c10 := hr0.cell (j := 10) rfl
  rw [show s.over.getD Rs.zero = rr from hrr] at c8 c9
  rw [show s.over.isSome = br from hbr] at c7
  rw [hrr, hbr]
  have q0 := r0.cell (j := 0) rfl
  have q1 := r0.cell (j := 1) rfl
  have q2 := r0.cell (j := 2) rfl
  have e0 := r0.frozen 0
  have e1 := r0.frozen 1
  have e2 := r0.frozen 2
  have hl0 := r0.lt
  have HK := Lib.hid k0
  clear hrow hnil fin hrr hbr hr0 r0 k0
  go_enter Tryz.func82, Tryz.ntmps82
  go_wp2
  go_region
  go_wp2
  refine bodyPost_ret (v := .tuple #[.agg #[.int .i64 rr.code, .int .u64 rr.v, .slice none 0 0], .bool br]) (by simp [results, Tryz.results82, go_sem, q0, q1, q2]) rfl ⟨none, 0, 0, rfl, ?_, HF.out _⟩
  exact HK.out.drew.step (S := [w.heap.size]) ((((Keeps.refl _ _).set (by simp) _ _).set (by simp) _ _).set (by simp) _ _) (by simp)
theorem arHead_over (s : ArS) (v : Int) : ∀ r, (arHead s v).over = some r → s.over = none → r.l = [] := by
  intro r hr ho
  unfold arHead at hr
  split at hr
  · rw [ho] at hr; cases hr
  · split at hr
    · cases hr; rfl
    · split at hr
      · cases hr; rfl
      · rw [ho] at hr; cases hr
theorem arHead_parts (s : ArS) (v : Int) : (arHead s v).at_ = s.at_ ∧ (arHead s v).n = s.n ∧ (arHead s v).puts = s.puts ∧ (arHead s v).node = s.node ∧ (arHead s v).h = v ∧ (arHead s v).link = s.link := by
  unfold arHead
  split
  · exact ⟨rfl, rfl, rfl, rfl, rfl, rfl⟩
  · split
    · exact ⟨rfl, rfl, rfl, rfl, rfl, rfl⟩
    · split <;> exact ⟨rfl, rfl, rfl, rfl, rfl, rfl⟩
set_option maxHeartbeats 800000 in
theorem refAr_give (p : Nat) (s : ArS) (w : World) (S : List Nat) (tv : Int) (won : Bool) (h : refArJ p w S s) (hv : M.U tv) :
    Calls Tryz.prog 81 #[.pointer (some ⟨p, 0, none⟩), .int .u64 tv, .bool won] w fun e w' => e = .returned (.tuple #[]) ∧ ∃ S', refArJ p w' S' (arenaM.give s tv won) ∧ Keeps (if (arenaM.res s).isSome then [] else S) w w' ∧ ∀ k ∈ S', k ∈ S ∨ w.heap.size ≤ k := by
  have H0 := Lib.hid h
  obtain ⟨hS, hrow, hnil, hg, hUh, hUl⟩ := h
  cases ho : s.over with
  | some r =>
    have e : arenaM.give s tv won = s := by simp [arenaM, ho]
    have e2 : (arenaM.res s).isSome = true := by simp [arenaM, ho]
    rw [e, if_pos e2]
    have c7 := hrow.cell (j := 7) (u := .bool true) (by simp [arCells, ho])
    clear hrow hnil hg hUh hUl e e2 ho hS
    go_enter Tryz.func81, Tryz.ntmps81
    go_wp2
    first | go_end0 | refine bodyPost_ret (results_none rfl _ _ _) rfl ?_
    exact ⟨rfl, S, H0.out, Keeps.refl _ _, fun k hk => .inl hk⟩
  | none =>
    have e : arenaM.give s tv won = arGive s tv won := arTake_give s ho tv won
    have e2 : ¬ (arenaM.res s).isSome = true := by simp [arenaM, ho]
    rw [e, if_neg e2, hS]
    obtain ⟨hr, hnode⟩ := hg ho
    have HH := Lib.hid (fun W h => refHead_any p s tv W h hv ho hr)
    have HE := Lib.hid (fun c u W h => refEnd_any p s c u W h)
    have HLo := Lib.hid (fun W => refLo_any s.h W hUh.nn)
    have c2 := hrow.cell (j := 2) rfl
    have c4 := hrow.cell (j := 4) rfl
    have c5 := hrow.cell (j := 5) rfl
    have c6 := hrow.cell (j := 6) rfl
    have c7 := hrow.cell (j := 7) (u := .bool false) (by simp [arCells, ho])
    have f4 := hrow.frozen 4
    have f6 := hrow.frozen 6
    have hj : ∀ W s', Row W p 119 (arCells s') → s'.at_ = s.at_ → s'.n = s.n → s'.puts = s.puts → s'.node = s.node → M.U s'.h → M.U s'.link → (∀ r, s'.over = some r → r.l = []) → refArJ p W [p] s' := fun W s' h1 h2 h3 h4 h5 h6 h7 h8 =>
      ⟨rfl, h1, h8, fun _ => by rw [h2, h3, h4, h5]; exact ⟨hr, hnode⟩, h6, h7⟩
    have HJ := Lib.hid hj
    have HRow := Lib.hid hrow
    have HUh := Lib.hid hUh
    have HUl := Lib.hid hUl
    have HV := Lib.hid hv
    have HO := Lib.hid ho
    have hhead : ∀ W, Row W p 119 (arCells (arHead s tv)) → refArJ p W [p] (arHead s tv) := fun W hW => by
      obtain ⟨a1, a2, a3, a4, a5, a6⟩ := arHead_parts s tv
      exact hj W _ hW a1 a2 a3 a4 (by rw [a5]; exact hv) (by rw [a6]; exact hUl) (fun r hr => arHead_over s tv r hr ho)
    have HHd := Lib.hid hhead
    clear hj hhead hrow hnil hg hr hnode hUh hUl e e2 ho hS
    obtain ⟨st, hst⟩ : ∃ st, s.step = st := ⟨_, rfl⟩
    obtain ⟨pu, hpu⟩ : ∃ pu, s.puts = pu := ⟨_, rfl⟩
    obtain ⟨hh, hhh⟩ : ∃ hh, s.h = hh := ⟨_, rfl⟩
    rw [hst] at c4
    rw [hpu] at c2
    rw [hhh] at c5 HLo HUh
    have u0 := HUh.out.nn
    have u1 := HUh.out.lt
    by_cases s1 : st = 1
    · have HG : Hid (arGive s tv won = arHead s tv) := Lib.hid (by unfold arGive; rw [if_pos (by rw [hst]; exact s1)])
      rw [HG.out]
      subst s1
      clear hst hpu hhh
      go_enter Tryz.func81, Tryz.ntmps81
      go_wp2_with fail
      refine (HH.out w HRow.out).mono ?_
      rintro e w1 ⟨rfl, hr1, k1⟩
      have HQ := Lib.hid (⟨HHd.out _ hr1, k1⟩ : _ ∧ _)
      clear hr1 k1
      go_wp2
      first | go_end0 | refine bodyPost_ret (results_none rfl _ _ _) rfl ?_
      exact ⟨rfl, [p], HQ.out.1, HQ.out.2, fun k hk => .inl hk⟩
    · have b1 : (st == 1) = false := by simp [s1]
      by_cases s2 : st = 2
      · have HG : Hid (arGive s tv won = { s with link := tv, step := 3 }) := Lib.hid (by unfold arGive; rw [if_neg (by rw [hst]; exact s1), if_pos (by rw [hst]; exact s2)])
        rw [HG.out]
        subst s2
        clear s1
        have hnew : Row ((w.setCell ⟨p, 6, none⟩ (.int .u64 tv)).setCell ⟨p, 4, none⟩ (.int .i64 3)) p 119 (arCells { s with link := tv, step := 3 }) := (HRow.out.set 6 _).set 4 _
        have HQ := Lib.hid (HJ.out _ { s with link := tv, step := 3 } hnew rfl rfl rfl rfl (by show M.U s.h; rw [hhh]; exact HUh.out) HV.out (fun r hr => by have h2 : s.over = some r := hr; rw [HO.out] at h2; cases h2))
        clear hnew hst hpu hhh
        go_enter Tryz.func81, Tryz.ntmps81
        go_wp2
        first | go_end0 | refine bodyPost_ret (results_none rfl _ _ _) rfl ?_
        exact ⟨rfl, [p], HQ.out, ((Keeps.refl [p] w).set (by simp) _ _).set (by simp) _ _, fun k hk => .inl hk⟩
      · have b2 : (st == 2) = false := by simp [s2]
        cases won with
        | false =>
          have HG : Hid (arGive s tv false = arHead s tv) := Lib.hid (by unfold arGive; rw [if_neg (by rw [hst]; exact s1), if_neg (by rw [hst]; exact s2), if_neg (by simp)])
          rw [HG.out]
          clear s1 s2 hst hpu hhh
          go_enter Tryz.func81, Tryz.ntmps81
          go_wp2_with fail
          refine (HH.out w HRow.out).mono ?_
          rintro e w1 ⟨rfl, hr1, k1⟩
          have HQ := Lib.hid (⟨HHd.out _ hr1, k1⟩ : _ ∧ _)
          clear hr1 k1
          go_wp2
          first | go_end0 | refine bodyPost_ret (results_none rfl _ _ _) rfl ?_
          exact ⟨rfl, [p], HQ.out.1, HQ.out.2, fun k hk => .inl hk⟩
        | true =>
          have hover : ∀ c u, ∀ r, ({ s with over := some ⟨c, u, []⟩ } : ArS).over = some r → r.l = [] := fun c u r hr => by cases hr; rfl
          cases pu with
          | true =>
            have HG : Hid (arGive s tv true = { s with over := some ⟨0, 0, []⟩ }) := Lib.hid (by unfold arGive; rw [if_neg (by rw [hst]; exact s1), if_neg (by rw [hst]; exact s2), if_pos rfl, if_pos hpu])
            rw [HG.out]
            have HFin := Lib.hid (fun W hW => HJ.out W { s with over := some ⟨0, 0, []⟩ } hW rfl rfl rfl rfl (by show M.U s.h; rw [hhh]; exact HUh.out) HUl.out (hover 0 0))
            clear s1 s2 hst hpu hhh hover
            go_enter Tryz.func81, Tryz.ntmps81
            go_wp2_with fail
            refine (HE.out 0 0 w HRow.out).mono ?_
            rintro e w1 ⟨rfl, hr1, k1⟩
            have HQ := Lib.hid (⟨HFin.out _ hr1, k1⟩ : _ ∧ _)
            clear hr1 k1
            go_wp2
            first | go_end0 | refine bodyPost_ret (results_none rfl _ _ _) rfl ?_
            exact ⟨rfl, [p], HQ.out.1, HQ.out.2, fun k hk => .inl hk⟩
          | false =>
            obtain ⟨lo, hlo⟩ : ∃ lo, hh % 4294967296 = lo := ⟨_, rfl⟩
            have HG : Hid (arGive s tv true = { s with over := some ⟨0, lo, []⟩ }) := Lib.hid (by unfold arGive; rw [if_neg (by rw [hst]; exact s1), if_neg (by rw [hst]; exact s2), if_pos rfl, if_neg (by rw [hpu]; simp), hhh, hlo])
            rw [HG.out]
            rw [hlo] at HLo
            have l0 : 0 ≤ lo := by omega
            have l1 : lo < 4294967296 := by omega
            have HFin := Lib.hid (fun W hW => HJ.out W { s with over := some ⟨0, lo, []⟩ } hW rfl rfl rfl rfl (by show M.U s.h; rw [hhh]; exact HUh.out) HUl.out (hover 0 lo))
            clear s1 s2 hst hpu hhh hover hlo
            go_enter Tryz.func81, Tryz.ntmps81
            go_wp2_with fail
            refine (HLo.out _).mono ?_
            rintro e w1 ⟨rfl, rfl⟩
            go_wp2_with fail
            refine (HE.out 0 lo w HRow.out).mono ?_
            rintro e w1 ⟨rfl, hr1, k1⟩
            have HQ := Lib.hid (⟨HFin.out _ hr1, k1⟩ : _ ∧ _)
            clear hr1 k1
            go_wp2
            first | go_end0 | refine bodyPost_ret (results_none rfl _ _ _) rfl ?_
            exact ⟨rfl, [p], HQ.out.1, HQ.out.2, fun k hk => .inl hk⟩
end Go.Proofs.YtoomefclbemnlaaGreat

/-
  Contracts: whether there can be an arena, as the document says.
-/
namespace Go.Proofs.YtoomefclbemnlaaGreat
set_option maxRecDepth 100000
set_option linter.unusedSimpArgs false
set_option linter.unusedVariables false
open Go.ChangeShapes Go.WideShapes Go.ChangeAt Go.RowKit

theorem refRight_any (at_ n : Int) (w : World) :
    Calls Tryz.prog 76 #[.int .i64 at_, .int .i64 n] w fun e w' => e = .returned (.bool (decide (arRight at_ n))) ∧ w = w' := by
  by_cases h1 : n < 1
  · have HD : Hid (decide (arRight at_ n) = false) := Lib.hid (decide_eq_false fun h => by have := h.1; omega)
    rw [HD.out]
    go_enter Tryz.func76, Tryz.ntmps76
    go_wp2
    go_ret
    exact ⟨rfl, rfl⟩
  have d1 : decide ((1 : Int) ≤ n) = true := decide_eq_true (by omega)
  by_cases h2 : 4096 < n
  · have HD : Hid (decide (arRight at_ n) = false) := Lib.hid (decide_eq_false fun h => by have := h.2.1; omega)
    rw [HD.out]
    go_enter Tryz.func76, Tryz.ntmps76
    go_wp2
    go_ret
    exact ⟨rfl, rfl⟩
  have d2 : decide (n ≤ 4096) = true := decide_eq_true (by omega)
  by_cases h3 : at_ < 0
  · have HD : Hid (decide (arRight at_ n) = false) := Lib.hid (decide_eq_false fun h => by have := h.2.2.1; omega)
    rw [HD.out]
    go_enter Tryz.func76, Tryz.ntmps76
    go_wp2
    go_ret
    exact ⟨rfl, rfl⟩
  have d3 : decide (0 ≤ at_) = true := decide_eq_true (by omega)
  have hn1 : 1 ≤ n := by omega
  have hn2 : n ≤ 4096 := by omega
  have ha : 0 ≤ at_ := by omega
  obtain ⟨m, hm⟩ : ∃ m, 65536 - n = m := ⟨_, rfl⟩
  by_cases h4 : at_ < 65536 - n
  · have HD : Hid (decide (arRight at_ n) = true) := Lib.hid (decide_eq_true ⟨hn1, hn2, ha, h4⟩)
    rw [HD.out]
    have d4 : decide (at_ < m) = true := decide_eq_true (by omega)
    go_enter Tryz.func76, Tryz.ntmps76
    go_wp2
    go_ret
    exact ⟨rfl, rfl⟩
  · have HD : Hid (decide (arRight at_ n) = false) := Lib.hid (decide_eq_false fun h => h4 h.2.2.2)
    rw [HD.out]
    have d4 : decide (at_ < m) = false := decide_eq_false (by omega)
    go_enter Tryz.func76, Tryz.ntmps76
    go_wp2
    go_ret
    exact ⟨rfl, rfl⟩
end Go.Proofs.YtoomefclbemnlaaGreat

/-
  Contracts: how the document's frames of an arena are made.
-/
namespace Go.Proofs.YtoomefclbemnlaaGreat
set_option maxRecDepth 100000
set_option linter.unusedSimpArgs false
set_option linter.unusedVariables false
open Go.ChangeShapes Go.WideShapes Go.ChangeAt Go.RowKit

theorem refTake_any (at_ n : Int) (w : World) :
    Calls Tryz.prog 37 #[.int .i64 at_, .int .i64 n] w fun e w' => ∃ p, e = .returned (.pointer (some ⟨p, 0, none⟩)) ∧ refArJ p w' [p] (arTake at_ n) ∧ Keeps [] w w' ∧ w.heap.size ≤ p := by
  have HR := Lib.hid (fun W => refRight_any at_ n W)
  have U0 : M.U 0 := ⟨by decide, by decide⟩
  obtain ⟨W0, hW0⟩ : ∃ W0, w.alloc (.cells #[.int .i64 at_, .int .i64 n, .bool false, .int .i64 0, .int .i64 1, .int .u64 0, .int .u64 0, .bool false, .int .i64 0, .int .u64 0, .slice none 0 0] 119) = W0 := ⟨_, rfl⟩
  have r0 : Row W0 w.heap.size 119 (arCells ⟨at_, n, false, 0, 1, 0, 0, none⟩) := by rw [← hW0]; exact Row.new _ _ _
  have HK : Hid (Keeps [] w W0) := Lib.hid (by rw [← hW0]; exact (Keeps.refl _ _).alloc _)
  have HE := Lib.hid (refEnd_any w.heap.size _ 2 0 W0 r0)
  have HR0 := Lib.hid r0
  clear r0
  by_cases hr : arRight at_ n
  · have hd : decide (arRight at_ n) = true := decide_eq_true hr
    rw [hd] at HR
    have HT : Hid (arTake at_ n = ⟨at_, n, false, 0, 1, 0, 0, none⟩) := Lib.hid (by simp [arTake, hr])
    have HH := Lib.hid hr
    clear hr hd
    go_enter Tryz.func37, Tryz.ntmps37
    go_wp2_with fail
    refine (HR.out W0).mono ?_
    rintro e w1 ⟨rfl, rfl⟩
    go_wp2
    go_ret
    refine ⟨w.heap.size, rfl, ?_, HK.out, Nat.le_refl _⟩
    rw [HT.out]
    exact ⟨rfl, HR0.out, fun r h => by (cases h), fun _ => ⟨HH.out, fun h => by (cases h)⟩, U0, U0⟩
  · have hd : decide (arRight at_ n) = false := decide_eq_false hr
    rw [hd] at HR
    have HT : Hid (arTake at_ n = ⟨at_, n, false, 0, 1, 0, 0, some ⟨2, 0, []⟩⟩) := Lib.hid (by simp [arTake, hr])
    clear hr hd
    go_enter Tryz.func37, Tryz.ntmps37
    go_wp2_with fail
    refine (HR.out W0).mono ?_
    rintro e w1 ⟨rfl, rfl⟩
    go_wp2_with fail
    refine HE.out.mono ?_
    rintro e w2 ⟨rfl, hr2, k2⟩
    have HQ := Lib.hid (⟨hr2, HK.out.step k2 (by simp)⟩ : _ ∧ _)
    clear hr2 k2 hW0
    go_wp2
    go_ret
    refine ⟨w.heap.size, rfl, ?_, HQ.out.2, Nat.le_refl _⟩
    rw [HT.out]
    exact ⟨rfl, HQ.out.1, fun r h => by (cases h; rfl), fun h => by (cases h), U0, U0⟩
theorem refPut_any (at_ n i : Int) (w : World) :
    Calls Tryz.prog 135 #[.int .i64 at_, .int .i64 n, .int .i64 i] w fun e w' => ∃ p, e = .returned (.pointer (some ⟨p, 0, none⟩)) ∧ refArJ p w' [p] (arPut at_ n i) ∧ Keeps [] w w' ∧ w.heap.size ≤ p := by
  have HR := Lib.hid (fun W => refRight_any at_ n W)
  have U0 : M.U 0 := ⟨by decide, by decide⟩
  obtain ⟨W0, hW0⟩ : ∃ W0, w.alloc (.cells #[.int .i64 at_, .int .i64 n, .bool true, .int .i64 i, .int .i64 1, .int .u64 0, .int .u64 0, .bool false, .int .i64 0, .int .u64 0, .slice none 0 0] 119) = W0 := ⟨_, rfl⟩
  have r0 : Row W0 w.heap.size 119 (arCells ⟨at_, n, true, i, 1, 0, 0, none⟩) := by rw [← hW0]; exact Row.new _ _ _
  have HK : Hid (Keeps [] w W0) := Lib.hid (by rw [← hW0]; exact (Keeps.refl _ _).alloc _)
  have HE := Lib.hid (refEnd_any w.heap.size _ 2 0 W0 r0)
  have HR0 := Lib.hid r0
  clear r0
  by_cases hr : arRight at_ n ∧ 1 ≤ i ∧ i ≤ n
  · have hd : decide (arRight at_ n) = true := decide_eq_true hr.1
    rw [hd] at HR
    have HT : Hid (arPut at_ n i = ⟨at_, n, true, i, 1, 0, 0, none⟩) := Lib.hid (by simp [arPut, hr])
    have HH := Lib.hid hr
    have i1 := hr.2.1
    have i2 := hr.2.2
    have e1 : decide (i < 1) = false := decide_eq_false (by omega)
    have e2 : decide (n < i) = false := decide_eq_false (by omega)
    clear hr hd
    go_enter Tryz.func135, Tryz.ntmps135
    go_wp2_with fail
    refine (HR.out W0).mono ?_
    rintro e w1 ⟨rfl, rfl⟩
    go_wp2
    go_ret
    refine ⟨w.heap.size, rfl, ?_, HK.out, Nat.le_refl _⟩
    rw [HT.out]
    exact ⟨rfl, HR0.out, fun r h => by (cases h), fun _ => ⟨HH.out.1, fun _ => HH.out.2⟩, U0, U0⟩
  · have HT : Hid (arPut at_ n i = ⟨at_, n, true, i, 1, 0, 0, some ⟨2, 0, []⟩⟩) := Lib.hid (by simp only [arPut]; rw [if_neg hr])
    have bad : arRight at_ n → i < 1 ∨ n < i := fun h => by
      by_cases h1 : i < 1
      · exact .inl h1
      · exact .inr (Int.not_le.1 fun h2 => hr ⟨h, by omega, h2⟩)
    by_cases h1 : arRight at_ n
    case' neg => have hd : decide (arRight at_ n) = false := decide_eq_false h1
    case' pos =>
      have hd : decide (arRight at_ n) = true := decide_eq_true h1
      have hb := bad h1
      by_cases h2 : i < 1
      case' pos => have e1 : decide (i < 1) = true := decide_eq_true h2
      case' neg =>
        have e1 : decide (i < 1) = false := decide_eq_false h2
        have h3 : n < i := by omega
        have e2 : decide (n < i) = true := decide_eq_true h3
      all_goals clear hb h2
    all_goals
      rw [hd] at HR
      clear hr hd bad h1
      go_enter Tryz.func135, Tryz.ntmps135
      go_wp2_with fail
      refine (HR.out W0).mono ?_
      rintro e w1 ⟨rfl, rfl⟩
      go_wp2_with fail
      refine HE.out.mono ?_
      rintro e w2 ⟨rfl, hr2, k2⟩
      have HQ := Lib.hid (⟨hr2, HK.out.step k2 (by simp)⟩ : _ ∧ _)
      clear hr2 k2 hW0
      go_wp2
      go_ret
      refine ⟨w.heap.size, rfl, ?_, HQ.out.2, Nat.le_refl _⟩
      rw [HT.out]
      exact ⟨rfl, HQ.out.1, fun r h => by (cases h; rfl), fun h => by (cases h), U0, U0⟩
end Go.Proofs.YtoomefclbemnlaaGreat
