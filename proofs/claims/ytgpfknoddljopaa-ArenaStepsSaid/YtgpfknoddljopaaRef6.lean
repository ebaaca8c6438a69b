/-
  Contracts: the document's frames of an arena go as the machine of Take and Put goes.
-/
import Derived.Test.YtgpfknoddljopaaSeen
import Derived.Test.YtgpfknoddljopaaWord
import Derived.Test.YtgpfknoddljopaaArM
import Derived.IntWalk
import Derived.Deep.CutRange
import Derived.LoopTactic
import Derived.Test.YtgpfknoddljopaaDraw
import Derived.Test.YtgpfknoddljopaaFresh2
namespace Go.Proofs.Ytgpfknoddljopaa
set_option maxRecDepth 100000
open Go.ChangeShapes Go.WideShapes Go.ChangeAt Go.RowKit

def arCells (s : ArS) : List Value := [.int .i64 s.at_, .int .i64 s.n, .bool s.puts, .int .i64 s.node, .int .i64 s.step, .int .u64 s.h, .int .u64 s.link, .bool s.over.isSome, .int .i64 (s.over.getD Rs.zero).code, .int .u64 (s.over.getD Rs.zero).v, .slice none 0 0]
def refArJ (p : Nat) (w : World) (S : List Nat) (s : ArS) : Prop :=
  S = [p] ∧ Row w p 91 (arCells s) ∧ (∀ r, s.over = some r → r.l = []) ∧ (s.over = none → arRight s.at_ s.n ∧ (s.puts = true → 1 ≤ s.node ∧ s.node ≤ s.n)) ∧ M.U s.h ∧ M.U s.link
theorem refArJ.cells {p : Nat} {w : World} {S : List Nat} {s : ArS} (h : refArJ p w S s) (j : Nat) (v : Value) (hv : (arCells s)[j]? = some v) : w.cell? ⟨p, j, none⟩ = some v := h.2.1.cell hv

theorem refEnd_any (p : Nat) (s : ArS) (code v : Int) (w : World) (h : Row w p 91 (arCells s)) :
    Calls Try.prog 42 #[.pointer (some ⟨p, 0, none⟩), .int .i64 code, .int .u64 v] w fun e w' => e = .returned (.tuple #[]) ∧ Row w' p 91 (arCells { s with over := some ⟨code, v, []⟩ }) ∧ Keeps [p] w w' := by
  have h7 := h.cell (j := 7) rfl
  have h8 := h.cell (j := 8) rfl
  have h9 := h.cell (j := 9) rfl
  have h10 := h.cell (j := 10) rfl
  have f7 := h.frozen 7
  have f8 := h.frozen 8
  have f9 := h.frozen 9
  have f10 := h.frozen 10
  have HR := Lib.hid h
  clear h
  go_enter Try.func42, Try.ntmps42
  go_wp2
  first | go_end0 | refine bodyPost_ret (results_none rfl _ _ _) rfl ?_
  exact ⟨rfl, (((HR.out.set 7 (.bool true)).set 8 (.int .i64 code)).set 9 (.int .u64 v)).set 10 (.slice none 0 0), (((((Keeps.refl [p] w).set (by simp) _ _).set (by simp) _ _).set (by simp) _ _).set (by simp) _ _)⟩

theorem refNext_any (p : Nat) (s : ArS) (i : Int) (w : World) (h : Row w p 91 (arCells s)) (hU : M.U s.h) (h0 : 0 ≤ i) (h1 : i < 4294967296) :
    Calls Try.prog 71 #[.pointer (some ⟨p, 0, none⟩), .int .u32 i] w fun e w' => e = .returned (.int .u64 (arNext s.h i)) ∧ w = w' := by
  have h5 := h.cell (j := 5) rfl
  have u0 := hU.nn
  have u1 := hU.lt
  obtain ⟨hh, hhh⟩ : ∃ hh, s.h = hh := ⟨_, rfl⟩
  have H := refHi_any s.h w hU.nn hU
  rw [hhh] at h5 H u0 u1 ⊢
  obtain ⟨q, hq⟩ : ∃ q, hh / 4294967296 = q := ⟨_, rfl⟩
  have q0 : 0 ≤ q := by omega
  have q1 : q < 4294967296 := by omega
  rw [hq] at H
  have HQ := Lib.hid hq
  clear h hU hhh hq
  go_enter Try.func71, Try.ntmps71
  go_wp2_with fail
  refine H.mono ?_
  rintro e w1 ⟨rfl, rfl⟩
  go_wp2_with fail
  refine (refPair_any ((q + 1) % 4294967296) i w (by omega) (by omega) h0 h1).mono ?_
  rintro e w1 ⟨rfl, rfl⟩
  go_wp2
  go_ret
  exact ⟨by unfold arNext; rw [HQ.out]; rfl, rfl⟩

set_option maxHeartbeats 800000 in
theorem refHead_any (p : Nat) (s : ArS) (v : Int) (w : World) (h : Row w p 91 (arCells s)) (hU : M.U v) (ho : s.over = none) (hr : arRight s.at_ s.n) :
    Calls Try.prog 72 #[.pointer (some ⟨p, 0, none⟩), .int .u64 v] w fun e w' => e = .returned (.tuple #[]) ∧ Row w' p 91 (arCells (arHead s v)) ∧ Keeps [p] w w' := by
  have HE := Lib.hid (fun s c u W h => refEnd_any p s c u W h)
  have HL := Lib.hid (fun W => refLo_any v W hU.nn)
  have HR := Lib.hid h
  have h1 := h.cell (j := 1) rfl
  have h2 := h.cell (j := 2) rfl
  have h4 := h.cell (j := 4) rfl
  have h5 := h.cell (j := 5) rfl
  have f4 := h.frozen 4
  have f5 := h.frozen 5
  have HRt := Lib.hid hr
  have hnn : 1 ≤ s.n ∧ s.n ≤ 4096 := ⟨hr.1, hr.2.1⟩
  have u0 := hU.nn
  have u1 := hU.lt
  obtain ⟨at_, n, puts, node, step, hh, link, over⟩ := s
  simp only at h1 h2 h4 h5 ho hnn
  subst ho
  clear h hU hr
  obtain ⟨lo, hlo⟩ : ∃ lo, v % 4294967296 = lo := ⟨_, rfl⟩
  rw [hlo] at HL
  have l0 : 0 ≤ lo := by omega
  have l1 : lo < 4294967296 := by omega
  have HLO := Lib.hid hlo
  clear hlo
  have key : ∀ W, Row W p 91 (arCells ⟨at_, n, puts, node, step, hh, link, none⟩) → Row ((W.setCell ⟨p, 5, none⟩ (.int .u64 v)).setCell ⟨p, 4, none⟩ (.int .i64 2)) p 91 (arCells ⟨at_, n, puts, node, 2, v, link, none⟩) :=
    fun W h => (h.set 5 _).set 4 _
  have HKey := Lib.hid (⟨key w HR.out, ((Keeps.refl [p] w).set (by simp) _ _).set (by simp) _ _⟩ : Row ((w.setCell ⟨p, 5, none⟩ (.int .u64 v)).setCell ⟨p, 4, none⟩ (.int .i64 2)) p 91 (arCells ⟨at_, n, puts, node, 2, v, link, none⟩) ∧ Keeps [p] w ((w.setCell ⟨p, 5, none⟩ (.int .u64 v)).setCell ⟨p, 4, none⟩ (.int .i64 2)))
  clear key
  cases puts with
  | true =>
    have HA : Hid (arHead ⟨at_, n, true, node, step, hh, link, none⟩ v = ⟨at_, n, true, node, 2, v, link, none⟩) := Lib.hid rfl
    go_enter Try.func72, Try.ntmps72
    go_wp2
    first | go_end0 | refine bodyPost_ret (results_none rfl _ _ _) rfl ?_
    rw [HA.out]
    exact ⟨rfl, HKey.out⟩
  | false =>
    obtain ⟨W1, hW1⟩ : ∃ W1, (w.setCell ⟨p, 5, none⟩ (.int .u64 v)).setCell ⟨p, 4, none⟩ (.int .i64 2) = W1 := ⟨_, rfl⟩
    rw [hW1] at HKey
    have g1 := HKey.out.1.cell (j := 1) rfl
    have g2 := HKey.out.1.cell (j := 2) rfl
    simp only at g1 g2
    by_cases c0 : lo = 0
    · subst c0
      have HA : Hid (arHead ⟨at_, n, false, node, step, hh, link, none⟩ v = ⟨at_, n, false, node, 2, v, link, some ⟨7, 0, []⟩⟩) := Lib.hid (by simp [arHead, HLO.out])
      go_enter Try.func72, Try.ntmps72
      go_wp2_with fail
      refine (HL.out W1).mono ?_
      rintro e w2 ⟨rfl, rfl⟩
      go_wp2_with fail
      refine (HE.out _ 7 0 W1 HKey.out.1).mono ?_
      rintro e w3 ⟨rfl, hr3, k3⟩
      have HQ := Lib.hid (⟨hr3, HKey.out.2.trans k3⟩ : _ ∧ _)
      clear hr3 k3
      go_wp2
      first | go_end0 | refine bodyPost_ret (results_none rfl _ _ _) rfl ?_
      rw [HA.out]
      exact ⟨rfl, HQ.out⟩
    · have b0 : (lo == 0) = false := by simp [c0]
      by_cases c1 : n < lo
      · have HA : Hid (arHead ⟨at_, n, false, node, step, hh, link, none⟩ v = ⟨at_, n, false, node, 2, v, link, some ⟨9, 0, []⟩⟩) := Lib.hid (by simp [arHead, HLO.out, c0, c1])
        clear c0
        go_enter Try.func72, Try.ntmps72
        go_wp2_with fail
        refine (HL.out W1).mono ?_
        rintro e w2 ⟨rfl, rfl⟩
        go_wp2_with fail
        refine (HE.out _ 9 0 W1 HKey.out.1).mono ?_
        rintro e w3 ⟨rfl, hr3, k3⟩
        have HQ := Lib.hid (⟨hr3, HKey.out.2.trans k3⟩ : _ ∧ _)
        clear hr3 k3
        go_wp2
        first | go_end0 | refine bodyPost_ret (results_none rfl _ _ _) rfl ?_
        rw [HA.out]
        exact ⟨rfl, HQ.out⟩
      · have HA : Hid (arHead ⟨at_, n, false, node, step, hh, link, none⟩ v = ⟨at_, n, false, node, 2, v, link, none⟩) := Lib.hid (by simp [arHead, HLO.out, c0, c1])
        clear c0
        go_enter Try.func72, Try.ntmps72
        go_wp2_with fail
        refine (HL.out W1).mono ?_
        rintro e w2 ⟨rfl, rfl⟩
        go_wp2
        first | go_end0 | refine bodyPost_ret (results_none rfl _ _ _) rfl ?_
        rw [HA.out]
        exact ⟨rfl, HKey.out⟩

theorem still_of {P : Program} {f : FuncId} {args : Array Value} {w : World} {v : Value} (h : Calls P f args w fun e w' => e = .returned v ∧ w = w') : Calls P f args w fun e w' => e = .returned v ∧ w' = w :=
  h.mono fun _ _ ⟨a, b⟩ => ⟨a, b.symm⟩
set_option maxHeartbeats 1600000 in
theorem refAr_want (p : Nat) (s : ArS) (w : World) (S : List Nat) (h : refArJ p w S s) :
    Calls Try.prog 43 #[.pointer (some ⟨p, 0, none⟩)] w fun e w' => e = .returned (.tuple #[((arenaM.want s).getD zacc).val, .bool (arenaM.want s).isSome]) ∧ Keeps [] w w' := by
  have hlt := h.2.1.lt
  obtain ⟨W0, hW0⟩ : ∃ W0, w.alloc (.cells #[.int .i64 0, .int .i64 0, .int .u64 0, .int .u64 0] 73) = W0 := ⟨_, rfl⟩
  have k0 : Keeps [] w W0 := by rw [← hW0]; exact (Keeps.refl _ _).alloc _
  have r0 : Row W0 w.heap.size 73 [.int .i64 0, .int .i64 0, .int .u64 0, .int .u64 0] := by rw [← hW0]; exact Row.new _ _ _
  have hrow := h.2.1.keeps k0 (by simp)
  obtain ⟨-, -, -, hg, hUh, hUl⟩ := h
  have fin : ∀ (x : C.Acc) (W : World), Keeps [] W0 W → Keeps [] w ((((W.setCell ⟨w.heap.size, 0, none⟩ (.int .i64 x.k)).setCell ⟨w.heap.size, 1, none⟩ (.int .i64 x.c)).setCell ⟨w.heap.size, 2, none⟩ (.int .u64 x.a)).setCell ⟨w.heap.size, 3, none⟩ (.int .u64 x.b)) := fun x W hW =>
    (k0.trans hW).step (S := [w.heap.size]) (((((Keeps.refl _ _).set (by simp) _ _).set (by simp) _ _).set (by simp) _ _).set (by simp) _ _) (by simp)
  have HF := Lib.hid fin
  have q0 := r0.cell (j := 0) rfl
  have q1 := r0.cell (j := 1) rfl
  have q2 := r0.cell (j := 2) rfl
  have q3 := r0.cell (j := 3) rfl
  have e0 := r0.frozen 0
  have e1 := r0.frozen 1
  have e2 := r0.frozen 2
  have e3 := r0.frozen 3
  have hl0 := r0.lt
  obtain ⟨at_, n, puts, node, step, hh, link, over⟩ := s
  have c0 := hrow.cell (j := 0) rfl
  have c2 := hrow.cell (j := 2) rfl
  have c3 := hrow.cell (j := 3) rfl
  have c4 := hrow.cell (j := 4) rfl
  have c5 := hrow.cell (j := 5) rfl
  have c6 := hrow.cell (j := 6) rfl
  have c7 := hrow.cell (j := 7) rfl
  simp only at c0 c2 c3 c4 c5 c6 c7 hg hUh hUl
  have HL := Lib.hid (fun W => refLo_any hh W hUh.nn)
  have HLl := Lib.hid (fun W => refLo_any link W hUl.nn)
  have HN := Lib.hid (fun W i h h0 h1 => refNext_any p ⟨at_, n, puts, node, step, hh, link, over⟩ i W h hUh h0 h1)
  have HRow := Lib.hid hrow
  have HK0 := Lib.hid k0
  have u0 := hUh.nn
  have u1 := hUh.lt
  have v0 := hUl.nn
  clear hrow k0 r0 fin hUh hUl
  cases over with
  | some r =>
    simp only [Option.isSome_some] at c7
    go_enter Try.func43, Try.ntmps43
    go_wp2
    refine bodyPost_ret (v := .tuple #[zacc.val, .bool false]) (by simp [results, Try.results43, go_sem, q0, q1, q2, q3]) rfl ⟨rfl, ?_⟩
    exact HF.out zacc W0 (Keeps.refl _ _)
  | none =>
    obtain ⟨hr, hnode⟩ := hg rfl
    have hn1 := hr.1
    have hn2 := hr.2.1
    have ha1 := hr.2.2.1
    have ha2 := hr.2.2.2
    have HW : Hid (arenaM.want ⟨at_, n, puts, node, step, hh, link, none⟩ = some (arWant ⟨at_, n, puts, node, step, hh, link, none⟩)) := Lib.hid rfl
    rw [HW.out]
    simp only [Option.isSome_none] at c7
    clear hg hr
    by_cases s1 : step = 1
    · have HWt : Hid (arWant ⟨at_, n, puts, node, step, hh, link, none⟩ = ⟨1, at_, 0, 0⟩) := Lib.hid (by simp [arWant, s1])
      rw [HWt.out]
      subst s1
      go_enter Try.func43, Try.ntmps43
      go_wp2
      refine bodyPost_ret (v := .tuple #[(⟨1, at_, 0, 0⟩ : C.Acc).val, .bool true]) (by simp [results, Try.results43, go_sem, q0, q1, q2, q3]) rfl ⟨rfl, ?_⟩
      exact HF.out ⟨1, at_, 0, 0⟩ W0 (Keeps.refl _ _)
    · have b1 : (step == 1) = false := by simp [s1]
      obtain ⟨lo, hlo⟩ : ∃ lo, hh % 4294967296 = lo := ⟨_, rfl⟩
      rw [hlo] at HL
      have l0 : 0 ≤ lo := by omega
      have l1 : lo < 4294967296 := by omega
      have HLO := Lib.hid hlo
      have HS1 := Lib.hid s1
      clear hlo s1
      by_cases hs2 : step = 2
      · subst hs2
        cases puts
        · -- a Take loads the link
          have HWt : Hid (arWant ⟨at_, n, false, node, 2, hh, link, none⟩ = ⟨1, at_ + lo, 0, 0⟩) := Lib.hid (by simp [arWant, HLO.out])
          rw [HWt.out]
          go_enter Try.func43, Try.ntmps43
          go_wp2_with fail
          refine (HL.out W0).mono ?_
          rintro e w1 ⟨rfl, rfl⟩
          go_wp2
          refine bodyPost_ret (v := .tuple #[(⟨1, at_ + lo, 0, 0⟩ : C.Acc).val, .bool true]) (by simp [results, Try.results43, go_sem, q0, q1, q2, q3]) rfl ⟨rfl, ?_⟩
          exact HF.out ⟨1, at_ + lo, 0, 0⟩ W0 (Keeps.refl _ _)
        · -- a Put stores the link
          have HWt : Hid (arWant ⟨at_, n, true, node, 2, hh, link, none⟩ = ⟨2, at_ + node, lo, 0⟩) := Lib.hid (by simp [arWant, HLO.out])
          rw [HWt.out]
          obtain ⟨n1, n2⟩ := hnode rfl
          go_enter Try.func43, Try.ntmps43
          go_wp2_with fail
          refine (HL.out W0).mono ?_
          rintro e w1 ⟨rfl, rfl⟩
          go_wp2
          refine wp_region_mid 12 (by kernel_rfl) (by kernel_rfl) ?_
          simp only [List.take_succ_cons, List.take_zero, List.drop_succ_cons, List.drop_zero]
          repeat still_step
          refine wpStill_nil ?_
          go_wp2
          show wpStill _ _ _ _ _ _
          repeat still_step
          refine wpStill_nil ?_
          go_wp2
          refine bodyPost_ret (v := .tuple #[(⟨2, at_ + node, lo, 0⟩ : C.Acc).val, .bool true]) (by simp [results, Try.results43, go_sem, q0, q1, q2, q3]) rfl ⟨rfl, ?_⟩
          exact HF.out ⟨2, at_ + node, lo, 0⟩ _ (Keeps.refl _ _).drew
      · have b2 : (step == 2) = false := by simp [hs2]
        cases puts
        · -- a Take swaps the head
          have HWt : Hid (arWant ⟨at_, n, false, node, step, hh, link, none⟩ = ⟨3, at_, hh, arNext hh (link % 4294967296)⟩) := Lib.hid (by simp [arWant, hs2, HS1.out])
          rw [HWt.out]
          obtain ⟨ln, hln⟩ : ∃ ln, link % 4294967296 = ln := ⟨_, rfl⟩
          rw [hln] at HLl ⊢
          have m0 : 0 ≤ ln := by omega
          have m1 : ln < 4294967296 := by omega
          have HN' := Lib.hid (fun W h => HN.out W ln h m0 m1)
          obtain ⟨nx, hnx⟩ : ∃ nx, arNext hh ln = nx := ⟨_, rfl⟩
          simp only [hnx] at HN' ⊢
          clear hln hnx hs2 HN
          go_enter Try.func43, Try.ntmps43
          go_wp2_with fail
          refine (HL.out W0).mono ?_
          rintro e w1 ⟨rfl, rfl⟩
          go_wp2
          refine wp_region_mid 16 (by kernel_rfl) (by kernel_rfl) ?_
          simp only [List.take_succ_cons, List.take_zero, List.drop_succ_cons, List.drop_zero]
          repeat still_step
          still_call (still_of (HLl.out _))
          still_call (still_of (HN'.out _ (HRow.out.keeps (Keeps.refl [] W0).drew (by simp))))
          repeat still_step
          refine wpStill_nil ?_
          go_wp2
          show wpStill _ _ _ _ _ _
          repeat still_step
          refine wpStill_nil ?_
          go_wp2
          refine bodyPost_ret (v := .tuple #[(⟨3, at_, hh, nx⟩ : C.Acc).val, .bool true]) (by simp [results, Try.results43, go_sem, q0, q1, q2, q3]) rfl ⟨rfl, ?_⟩
          exact HF.out ⟨3, at_, hh, nx⟩ _ (Keeps.refl _ _).drew
        · -- a Put swaps the head
          obtain ⟨n1, n2⟩ := hnode rfl
          have HWt : Hid (arWant ⟨at_, n, true, node, step, hh, link, none⟩ = ⟨3, at_, hh, arNext hh node⟩) := Lib.hid (by simp [arWant, hs2, HS1.out])
          rw [HWt.out]
          have HN' := Lib.hid (fun W h => HN.out W node h (by omega) (by omega))
          have hw32 : IntKind.u32.wrap node = node := by show node % 4294967296 = node; omega
          obtain ⟨nx, hnx⟩ : ∃ nx, arNext hh node = nx := ⟨_, rfl⟩
          simp only [hnx] at HN' ⊢
          clear hnx hs2 HN
          go_enter Try.func43, Try.ntmps43
          go_wp2_with fail
          refine (HL.out W0).mono ?_
          rintro e w1 ⟨rfl, rfl⟩
          go_wp2
          refine wp_region_mid 16 (by kernel_rfl) (by kernel_rfl) ?_
          simp only [List.take_succ_cons, List.take_zero, List.drop_succ_cons, List.drop_zero]
          repeat still_step
          still_call (still_of (HN'.out _ (HRow.out.keeps (Keeps.refl [] W0).drew (by simp))))
          repeat still_step
          refine wpStill_nil ?_
          go_wp2
          show wpStill _ _ _ _ _ _
          repeat still_step
          refine wpStill_nil ?_
          go_wp2
          refine bodyPost_ret (v := .tuple #[(⟨3, at_, hh, nx⟩ : C.Acc).val, .bool true]) (by simp [results, Try.results43, go_sem, q0, q1, q2, q3]) rfl ⟨rfl, ?_⟩
          exact HF.out ⟨3, at_, hh, nx⟩ _ (Keeps.refl _ _).drew

set_option maxHeartbeats 800000 in
theorem refAr_over (p : Nat) (s : ArS) (w : World) (S : List Nat) (h : refArJ p w S s) :
    Calls Try.prog 44 #[.pointer (some ⟨p, 0, none⟩)] w fun e w' => ∃ q n c,
      e = .returned (.tuple #[.agg #[.int .i64 ((arenaM.res s).getD Rs.zero).code, .int .u64 ((arenaM.res s).getD Rs.zero).v, .slice q n c], .bool (arenaM.res s).isSome]) ∧ Keeps [] w w' ∧
      ∀ r, arenaM.res s = some r → Sl w' 1 (.slice q n c) r.l.length (ints .u64 r.l) ∧ r.l.length ≤ maxLen ∧ ∀ g, (Value.slice q n c).ownBlock = some g → g ∈ S ∨ w.heap.size ≤ g := by
  obtain ⟨-, hrow, hnil, -⟩ := h
  have hlt := hrow.lt
  have fin : ∀ w' r, arenaM.res s = some r → Sl w' 1 (.slice none 0 0) r.l.length (ints .u64 r.l) ∧ r.l.length ≤ maxLen ∧ ∀ g, (Value.slice none 0 0).ownBlock = some g → g ∈ S ∨ w.heap.size ≤ g := by
    intro w' r hr
    have := hnil r hr
    rw [this]
    exact ⟨⟨rfl, .inl ⟨_, _, rfl, rfl⟩⟩, Nat.zero_le _, fun g hg => by cases hg⟩
  have HF := Lib.hid fin
  obtain ⟨rr, hrr⟩ : ∃ rr, (arenaM.res s).getD Rs.zero = rr := ⟨_, rfl⟩
  obtain ⟨br, hbr⟩ : ∃ br, (arenaM.res s).isSome = br := ⟨_, rfl⟩
  obtain ⟨W0, hW0⟩ : ∃ W0, w.alloc (.cells #[.int .i64 0, .int .u64 0, .slice none 0 0] 66) = W0 := ⟨_, rfl⟩
  have k0 : Keeps [] w W0 := by rw [← hW0]; exact (Keeps.refl _ _).alloc _
  have r0 : Row W0 w.heap.size 66 [.int .i64 0, .int .u64 0, .slice none 0 0] := by rw [← hW0]; exact Row.new _ _ _
  have hr0 := hrow.keeps k0 (by simp)
  have c7 := hr0.cell (j := 7) rfl
  have c8 := hr0.cell (j := 8) rfl
  have c9 := hr0.cell (j := 9) rfl
  have c10 := hr0.cell (j := 10) rfl
  rw [show s.over.getD Rs.zero = rr from hrr] at c8 c9
  rw [show s.over.isSome = br from hbr] at c7
  rw [hrr, hbr]
  have q0 := r0.cell (j := 0) rfl
  have q1 := r0.cell (j := 1) rfl
  have q2 := r0.cell (j := 2) rfl
  have e0 := r0.frozen 0
  have e1 := r0.frozen 1
  have e2 := r0.frozen 2
  have hl0 := r0.lt
  have HK := Lib.hid k0
  clear hrow hnil fin hrr hbr hr0 r0 k0
  go_enter Try.func44, Try.ntmps44
  go_wp2
  go_region
  go_wp2
  refine bodyPost_ret (v := .tuple #[.agg #[.int .i64 rr.code, .int .u64 rr.v, .slice none 0 0], .bool br]) (by simp [results, Try.results44, go_sem, q0, q1, q2]) rfl ⟨none, 0, 0, rfl, ?_, HF.out _⟩
  exact HK.out.drew.step (S := [w.heap.size]) ((((Keeps.refl _ _).set (by simp) _ _).set (by simp) _ _).set (by simp) _ _) (by simp)
theorem refAr_held (p : Nat) (s : ArS) (w : World) (S : List Nat) (h : refArJ p w S s) :
    Calls Try.prog 45 #[.pointer (some ⟨p, 0, none⟩)] w fun e w' => ∃ q c, e = .returned (.slice q (arenaM.held s).length c) ∧ Sl w' 1 (.slice q (arenaM.held s).length c) (arenaM.held s).length (ints .u64 (arenaM.held s)) ∧ Keeps [] w w' := by
  show Calls Try.prog 45 #[.pointer (some ⟨p, 0, none⟩)] w fun e w' => ∃ q c, e = .returned (.slice q 0 c) ∧ Sl w' 1 (.slice q 0 c) 0 (ints .u64 []) ∧ Keeps [] w w'
  clear h
  go_enter Try.func45, Try.ntmps45
  go_wp2
  go_ret
  exact ⟨none, 0, rfl, ⟨rfl, .inl ⟨_, _, rfl, rfl⟩⟩, Keeps.refl _ _⟩
theorem arHead_over (s : ArS) (v : Int) : ∀ r, (arHead s v).over = some r → s.over = none → r.l = [] := by
  intro r hr ho
  unfold arHead at hr
  split at hr
  · rw [ho] at hr; cases hr
  · split at hr
    · cases hr; rfl
    · split at hr
      · cases hr; rfl
      · rw [ho] at hr; cases hr
theorem arHead_parts (s : ArS) (v : Int) : (arHead s v).at_ = s.at_ ∧ (arHead s v).n = s.n ∧ (arHead s v).puts = s.puts ∧ (arHead s v).node = s.node ∧ (arHead s v).h = v ∧ (arHead s v).link = s.link := by
  unfold arHead
  split
  · exact ⟨rfl, rfl, rfl, rfl, rfl, rfl⟩
  · split
    · exact ⟨rfl, rfl, rfl, rfl, rfl, rfl⟩
    · split <;> exact ⟨rfl, rfl, rfl, rfl, rfl, rfl⟩
set_option maxHeartbeats 800000 in
theorem refAr_give (p : Nat) (s : ArS) (w : World) (S : List Nat) (tv : Int) (won : Bool) (h : refArJ p w S s) (hv : M.U tv) :
    Calls Try.prog 46 #[.pointer (some ⟨p, 0, none⟩), .int .u64 tv, .bool won] w fun e w' => e = .returned (.tuple #[]) ∧ ∃ S', refArJ p w' S' (arenaM.give s tv won) ∧ Keeps (if (arenaM.res s).isSome then [] else S) w w' ∧ ∀ k ∈ S', k ∈ S ∨ w.heap.size ≤ k := by
  have H0 := Lib.hid h
  obtain ⟨hS, hrow, hnil, hg, hUh, hUl⟩ := h
  cases ho : s.over with
  | some r =>
    have e : arenaM.give s tv won = s := by simp [arenaM, ho]
    have e2 : (arenaM.res s).isSome = true := by simp [arenaM, ho]
    rw [e, if_pos e2]
    have c7 := hrow.cell (j := 7) (u := .bool true) (by simp [arCells, ho])
    clear hrow hnil hg hUh hUl e e2 ho hS
    go_enter Try.func46, Try.ntmps46
    go_wp2
    first | go_end0 | refine bodyPost_ret (results_none rfl _ _ _) rfl ?_
    exact ⟨rfl, S, H0.out, Keeps.refl _ _, fun k hk => .inl hk⟩
  | none =>
    have e : arenaM.give s tv won = arGive s tv won := arTake_give s ho tv won
    have e2 : ¬ (arenaM.res s).isSome = true := by simp [arenaM, ho]
    rw [e, if_neg e2, hS]
    obtain ⟨hr, hnode⟩ := hg ho
    have HH := Lib.hid (fun W h => refHead_any p s tv W h hv ho hr)
    have HE := Lib.hid (fun c u W h => refEnd_any p s c u W h)
    have HLo := Lib.hid (fun W => refLo_any s.h W hUh.nn)
    have c2 := hrow.cell (j := 2) rfl
    have c4 := hrow.cell (j := 4) rfl
    have c5 := hrow.cell (j := 5) rfl
    have c6 := hrow.cell (j := 6) rfl
    have c7 := hrow.cell (j := 7) (u := .bool false) (by simp [arCells, ho])
    have f4 := hrow.frozen 4
    have f6 := hrow.frozen 6
    have hj : ∀ W s', Row W p 91 (arCells s') → s'.at_ = s.at_ → s'.n = s.n → s'.puts = s.puts → s'.node = s.node → M.U s'.h → M.U s'.link → (∀ r, s'.over = some r → r.l = []) → refArJ p W [p] s' := fun W s' h1 h2 h3 h4 h5 h6 h7 h8 =>
      ⟨rfl, h1, h8, fun _ => by rw [h2, h3, h4, h5]; exact ⟨hr, hnode⟩, h6, h7⟩
    have HJ := Lib.hid hj
    have HRow := Lib.hid hrow
    have HUh := Lib.hid hUh
    have HUl := Lib.hid hUl
    have HV := Lib.hid hv
    have HO := Lib.hid ho
    have hhead : ∀ W, Row W p 91 (arCells (arHead s tv)) → refArJ p W [p] (arHead s tv) := fun W hW => by
      obtain ⟨a1, a2, a3, a4, a5, a6⟩ := arHead_parts s tv
      exact hj W _ hW a1 a2 a3 a4 (by rw [a5]; exact hv) (by rw [a6]; exact hUl) (fun r hr => arHead_over s tv r hr ho)
    have HHd := Lib.hid hhead
    clear hj hhead hrow hnil hg hr hnode hUh hUl e e2 ho hS
    obtain ⟨st, hst⟩ : ∃ st, s.step = st := ⟨_, rfl⟩
    obtain ⟨pu, hpu⟩ : ∃ pu, s.puts = pu := ⟨_, rfl⟩
    obtain ⟨hh, hhh⟩ : ∃ hh, s.h = hh := ⟨_, rfl⟩
    rw [hst] at c4
    rw [hpu] at c2
    rw [hhh] at c5 HLo HUh
    have u0 := HUh.out.nn
    have u1 := HUh.out.lt
    by_cases s1 : st = 1
    · have HG : Hid (arGive s tv won = arHead s tv) := Lib.hid (by unfold arGive; rw [if_pos (by rw [hst]; exact s1)])
      rw [HG.out]
      subst s1
      clear hst hpu hhh
      go_enter Try.func46, Try.ntmps46
      go_wp2_with fail
      refine (HH.out w HRow.out).mono ?_
      rintro e w1 ⟨rfl, hr1, k1⟩
      have HQ := Lib.hid (⟨HHd.out _ hr1, k1⟩ : _ ∧ _)
      clear hr1 k1
      go_wp2
      first | go_end0 | refine bodyPost_ret (results_none rfl _ _ _) rfl ?_
      exact ⟨rfl, [p], HQ.out.1, HQ.out.2, fun k hk => .inl hk⟩
    · have b1 : (st == 1) = false := by simp [s1]
      by_cases s2 : st = 2
      · have HG : Hid (arGive s tv won = { s with link := tv, step := 3 }) := Lib.hid (by unfold arGive; rw [if_neg (by rw [hst]; exact s1), if_pos (by rw [hst]; exact s2)])
        rw [HG.out]
        subst s2
        clear s1
        have hnew : Row ((w.setCell ⟨p, 6, none⟩ (.int .u64 tv)).setCell ⟨p, 4, none⟩ (.int .i64 3)) p 91 (arCells { s with link := tv, step := 3 }) := (HRow.out.set 6 _).set 4 _
        have HQ := Lib.hid (HJ.out _ { s with link := tv, step := 3 } hnew rfl rfl rfl rfl (by show M.U s.h; rw [hhh]; exact HUh.out) HV.out (fun r hr => by have h2 : s.over = some r := hr; rw [HO.out] at h2; cases h2))
        clear hnew hst hpu hhh
        go_enter Try.func46, Try.ntmps46
        go_wp2
        first | go_end0 | refine bodyPost_ret (results_none rfl _ _ _) rfl ?_
        exact ⟨rfl, [p], HQ.out, ((Keeps.refl [p] w).set (by simp) _ _).set (by simp) _ _, fun k hk => .inl hk⟩
      · have b2 : (st == 2) = false := by simp [s2]
        cases won with
        | false =>
          have HG : Hid (arGive s tv false = arHead s tv) := Lib.hid (by unfold arGive; rw [if_neg (by rw [hst]; exact s1), if_neg (by rw [hst]; exact s2), if_neg (by simp)])
          rw [HG.out]
          clear s1 s2 hst hpu hhh
          go_enter Try.func46, Try.ntmps46
          go_wp2_with fail
          refine (HH.out w HRow.out).mono ?_
          rintro e w1 ⟨rfl, hr1, k1⟩
          have HQ := Lib.hid (⟨HHd.out _ hr1, k1⟩ : _ ∧ _)
          clear hr1 k1
          go_wp2
          first | go_end0 | refine bodyPost_ret (results_none rfl _ _ _) rfl ?_
          exact ⟨rfl, [p], HQ.out.1, HQ.out.2, fun k hk => .inl hk⟩
        | true =>
          have hover : ∀ c u, ∀ r, ({ s with over := some ⟨c, u, []⟩ } : ArS).over = some r → r.l = [] := fun c u r hr => by cases hr; rfl
          cases pu with
          | true =>
            have HG : Hid (arGive s tv true = { s with over := some ⟨0, 0, []⟩ }) := Lib.hid (by unfold arGive; rw [if_neg (by rw [hst]; exact s1), if_neg (by rw [hst]; exact s2), if_pos rfl, if_pos hpu])
            rw [HG.out]
            have HFin := Lib.hid (fun W hW => HJ.out W { s with over := some ⟨0, 0, []⟩ } hW rfl rfl rfl rfl (by show M.U s.h; rw [hhh]; exact HUh.out) HUl.out (hover 0 0))
            clear s1 s2 hst hpu hhh hover
            go_enter Try.func46, Try.ntmps46
            go_wp2_with fail
            refine (HE.out 0 0 w HRow.out).mono ?_
            rintro e w1 ⟨rfl, hr1, k1⟩
            have HQ := Lib.hid (⟨HFin.out _ hr1, k1⟩ : _ ∧ _)
            clear hr1 k1
            go_wp2
            first | go_end0 | refine bodyPost_ret (results_none rfl _ _ _) rfl ?_
            exact ⟨rfl, [p], HQ.out.1, HQ.out.2, fun k hk => .inl hk⟩
          | false =>
            obtain ⟨lo, hlo⟩ : ∃ lo, hh % 4294967296 = lo := ⟨_, rfl⟩
            have HG : Hid (arGive s tv true = { s with over := some ⟨0, lo, []⟩ }) := Lib.hid (by unfold arGive; rw [if_neg (by rw [hst]; exact s1), if_neg (by rw [hst]; exact s2), if_pos rfl, if_neg (by rw [hpu]; simp), hhh, hlo])
            rw [HG.out]
            rw [hlo] at HLo
            have l0 : 0 ≤ lo := by omega
            have l1 : lo < 4294967296 := by omega
            have HFin := Lib.hid (fun W hW => HJ.out W { s with over := some ⟨0, lo, []⟩ } hW rfl rfl rfl rfl (by show M.U s.h; rw [hhh]; exact HUh.out) HUl.out (hover 0 lo))
            clear s1 s2 hst hpu hhh hover hlo
            go_enter Try.func46, Try.ntmps46
            go_wp2_with fail
            refine (HLo.out _).mono ?_
            rintro e w1 ⟨rfl, rfl⟩
            go_wp2_with fail
            refine (HE.out 0 lo w HRow.out).mono ?_
            rintro e w1 ⟨rfl, hr1, k1⟩
            have HQ := Lib.hid (⟨HFin.out _ hr1, k1⟩ : _ ∧ _)
            clear hr1 k1
            go_wp2
            first | go_end0 | refine bodyPost_ret (results_none rfl _ _ _) rfl ?_
            exact ⟨rfl, [p], HQ.out.1, HQ.out.2, fun k hk => .inl hk⟩
theorem refArRuns (p : Nat) : RefRuns arenaM (refArJ p) (fun _ => False) p 43 44 45 46 where
  lt := fun ⟨hS, h, _⟩ k hk => by rw [hS] at hk; simp at hk; subst hk; exact h.lt
  frame := fun ⟨hS, h, a, b, c, d⟩ hk hT _ => ⟨hS, h.keeps hk (hT p (by rw [hS]; simp)), a, b, c, d⟩
  stays := fun s v won h => by
    have h' : s.over.isSome = true := h
    show (arenaM.give s v won).over.isSome = true
    simp [arenaM, h']
  few := fun _ => by simp [arenaM]
  want := fun w S s h => refAr_want p s w S h
  over := fun w S s h => refAr_over p s w S h
  held := fun w S s h => refAr_held p s w S h
  give := fun w S s v won h hv => refAr_give p s w S v won h hv
set_option maxHeartbeats 3200000 in
set_option maxRecDepth 100000 in
theorem seen_frame {σ : Type} (K : Mach σ) (J : World → List Nat → σ → Prop) (R : Nat → Prop) (p : Nat) (hR : RefRuns K J R p 43 44 45 46) (vt : Value) (s : σ) (ts : List (Int × Bool)) (S0 : List Nat) (w : World) (hJ : J w S0 s)
    (ht : Sl w 2 vt ts.length (tolds ts)) (htS : ts.length ≠ 0 → ∀ g, vt.ownBlock = some g → g ∉ S0) (hv : ∀ t ∈ ts, M.U t.1) (hn : ts.length ≤ 1000000) (hRo : ∀ k, R k → k < w.heap.size) :
    Calls Try.prog 13 #[.pointer (some ⟨p, 0, none⟩), vt] w fun e w' => ∃ v, e = .returned v ∧ SeenAt w' (fun k => k ∈ S0 ∨ w.heap.size ≤ k) v (K.trace s ts) ∧ Keeps S0 w w' := by
  obtain ⟨pt, ct, rfl⟩ := ht.len
  have HT := Lib.hid ht
  have HTS := Lib.hid htS
  have HV := Lib.hid hv
  have HJ := Lib.hid hJ
  have HRO := Lib.hid hRo
  clear ht htS hv hJ hRo
  go_enter Try.func13, Try.ntmps13
  go_wp2
  go_loopw [5, 6] (fun v i wr => ∃ k : Nat, k ≤ ts.length + 1 ∧ i = .int .i64 k ∧ SeenInv K J s ts S0 w 78 k v wr) (fun _ i _ => ts.length + 1 - (intOf i).toNat)
  case atStart =>
    refine ⟨0, Nat.zero_le _, rfl, S0, [], hR.frame HJ.out ((Keeps.refl [] w).alloc _) (by simp) (by simp), owns_empty w 78 10, rfl, by simp, by simp, (Keeps.refl _ _).alloc _, fun j h => .inl h, fun g hg => ?_⟩
    intro h
    have := hR.lt HJ.out g h
    simp [Value.ownBlock] at hg
    omega
  case round =>
    obtain ⟨k, hk, rfl, S, gs, hJ, ho, hf, hg, hnone, hK, hnew, hvS⟩ := hrel
    have hgl : gs.length = min k (ts.length + 1) := by rw [← K.trace_len s ts, ← List.length_take, ← hf, List.length_map]
    obtain ⟨qv, cv, rfl⟩ := (Sl.of_owns ho).len
    have hvlt := ho.lt
    have HO := Lib.hid ho
    have HF := Lib.hid hf
    have HG := Lib.hid hg
    have HNONE := Lib.hid hnone
    have HK := Lib.hid hK
    have HN := Lib.hid hnew
    have HVS := Lib.hid hvS
    have HJ1 := Lib.hid hJ
    have HVLT := Lib.hid hvlt
    clear hJ ho hf hg hnone hK hnew hvS hvlt
    by_cases hlt : k ≤ ts.length
    · have HGL : Hid (gs.length = k) := Lib.hid (by omega)
      clear hgl
      obtain ⟨sk, hsk⟩ : ∃ sk, K.goes s (ts.take k) = sk := ⟨_, rfl⟩
      have HSK := Lib.hid hsk
      rw [hsk] at HJ1 HNONE
      obtain ⟨x, hx⟩ : ∃ x, (K.want sk).getD zacc = x := ⟨_, rfl⟩
      obtain ⟨bw, hbw⟩ : ∃ bw, (K.want sk).isSome = bw := ⟨_, rfl⟩
      obtain ⟨rr, hrr⟩ : ∃ rr, (K.res sk).getD Rs.zero = rr := ⟨_, rfl⟩
      obtain ⟨br, hbr⟩ : ∃ br, (K.res sk).isSome = br := ⟨_, rfl⟩
      have HWant := hR.want wr S sk HJ1.out
      rw [hx, hbw] at HWant
      have HRes := fun w1 hI => hR.over w1 S sk hI
      rw [hrr, hbr] at HRes
      have HResH := Lib.hid HRes
      have HX := Lib.hid hx
      have HBW := Lib.hid hbw
      have HRR := Lib.hid hrr
      have HBR := Lib.hid hbr
      have hwr : wr.heap.size = wr.heap.size := rfl
      clear hsk hx hbw hrr hbr HRes
      go_wp2_with fail
      refine HWant.mono ?_
      clear HWant
      rintro e w1 ⟨rfl, k1⟩
      have HJ2 := Lib.hid (hR.frame HJ1.out k1 (by simp) (by simp))
      have HK1 := Lib.hid k1
      have hs1 := k1.size
      clear k1
      obtain ⟨W1, hW1⟩ : ∃ W1, w1.alloc (.cells #[.int .i64 x.k, .int .i64 x.c, .int .u64 x.a, .int .u64 x.b] 73) = W1 := ⟨_, rfl⟩
      have hb1 : Box W1 w1.heap.size #[.int .i64 x.k, .int .i64 x.c, .int .u64 x.a, .int .u64 x.b] := by rw [← hW1]; exact Box.new _ _ _
      have hk1 : Keeps [] w1 W1 := by rw [← hW1]; exact (Keeps.refl _ _).alloc _
      have HB1 := Lib.hid hb1
      have HK1' := Lib.hid hk1
      have HJ3 := Lib.hid (hR.frame HJ2.out hk1 (by simp) (by simp))
      clear hb1 hk1 HJ2
      go_wp2_with fail
      clear hW1
      refine (HResH.out _ HJ3.out).mono ?_
      rintro e w2 ⟨ql, nl, cl, rfl, k2, hres⟩
      obtain ⟨W, hW⟩ : ∃ W, w2.alloc (.cells #[.int .i64 rr.code, .int .u64 rr.v, .slice ql nl cl] 66) = W := ⟨_, rfl⟩
      have hb2 : Box W w2.heap.size #[.int .i64 rr.code, .int .u64 rr.v, .slice ql nl cl] := by rw [← hW]; exact Box.new _ _ _
      have hk2 : Keeps [] w2 W := by rw [← hW]; exact (Keeps.refl _ _).alloc _
      have hbA : Box W w1.heap.size #[.int .i64 x.k, .int .i64 x.c, .int .u64 x.a, .int .u64 x.b] := (HB1.out.keeps k2 (by simp)).keeps hk2 (by simp)
      have hkk : Keeps [] wr W := ((HK1.out.trans HK1'.out).trans k2).trans hk2
      have HRESL : Hid (∀ r, K.res sk = some r → Sl W 1 (.slice ql nl cl) r.l.length (ints .u64 r.l) ∧ r.l.length ≤ maxLen ∧ ∀ g, (Value.slice ql nl cl).ownBlock = some g → g ∈ S ∨ wr.heap.size ≤ g) := Lib.hid fun r hr =>
        ⟨(hres r hr).1.but hk2 (by simp), (hres r hr).2.1, fun g hg => ((hres r hr).2.2 g hg).imp id (fun h => Nat.le_trans (Nat.le_trans HK1.out.size HK1'.out.size) h)⟩
      go_upto_region 7 with (fail)
      have a0 := hbA.cells 0
      have a1 := hbA.cells 1
      have a2 := hbA.cells 2
      have a3 := hbA.cells 3
      have r0 := hb2.cells 0
      have r1 := hb2.cells 1
      have r2 := hb2.cells 2
      have la := hbA.lt
      have lr := hb2.lt
      have HJ4 := Lib.hid (hR.frame HJ3.out (k2.trans hk2) (by simp) (by simp))
      have HOW := Lib.hid (owns_keeps HO.out hkk (by simp))
      have HKK := Lib.hid hkk
      have hs2 : w1.heap.size ≤ w2.heap.size := Nat.le_trans HK1'.out.size k2.size
      clear hbA hb2 hk2 k2 hres HB1 HJ3 HK1 HK1' HResH hkk hW
      simp at a0 a1 a2 a3 r0 r1 r2
      have HSC : Hid (∀ h, seenCells ⟨K.want sk, K.res sk, K.held sk⟩ (.slice ql nl cl) h = [.int .i64 x.k, .int .i64 x.c, .int .u64 x.a, .int .u64 x.b, .bool bw, .int .i64 rr.code, .int .u64 rr.v, .slice ql nl cl, .bool br, h]) := Lib.hid fun h => by
        unfold seenCells; simp only [HX.out, HBW.out, HRR.out, HBR.out]
      obtain ⟨L, hL⟩ : ∃ L, (Value.slice qv gs.length cv).ownBlock.toList = L := ⟨_, rfl⟩
      have hLm : ∀ g ∈ L, w.heap.size ≤ g ∧ g < wr.heap.size ∧ g ∉ S := fun g hg => by
        rw [← hL] at hg
        have e : (Value.slice qv gs.length cv).ownBlock = some g := by simpa using hg
        exact ⟨(HVLT.out g e).1, (HVLT.out g e).2, HVS.out g e⟩
      have hwr1 : wr.heap.size ≤ w1.heap.size := hs1
      have na : w1.heap.size ∉ L := fun h => by have := (hLm _ h).2.1; omega
      have nb : w2.heap.size ∉ L := fun h => by have := (hLm _ h).2.1; omega
      have HL := Lib.hid hL
      have HLM := Lib.hid hLm
      clear hL
      have hHeld : ∀ W', Keeps L W W' → Calls Try.prog 45 #[.pointer (some ⟨p, 0, none⟩)] W' fun e w' => ∃ q c, e = .returned (.slice q (K.held sk).length c) ∧ Sl w' 1 (.slice q (K.held sk).length c) (K.held sk).length (ints .u64 (K.held sk)) ∧ Keeps [] W' w' :=
        fun W' hW' => hR.held W' S sk (hR.frame HJ4.out hW' (fun k hk h => (hLm k h).2.2 hk) (fun k hk h => by have := HRO.out k h; have := (hLm k hk).1; omega))
      have HHeld := Lib.hid hHeld
      have HVW : Hid (∀ g, (Value.slice qv gs.length cv).ownBlock = some g → g < W.heap.size) := Lib.hid fun g hg => (HOW.out.lt g hg).2
      have HFEW := Lib.hid (hR.few HJ4.out)
      have HBB : Hid (w.heap.size ≤ W.heap.size) := Lib.hid (Nat.le_trans HK.out.size HKK.out.size)
      obtain ⟨N, hN⟩ : ∃ N, W.heap.size = N := ⟨_, rfl⟩
      rw [hN] at la lr
      have HN3 := Lib.hid hN
      clear hN hHeld hLm
      have hkeep : Keeps L W W := Keeps.refl _ _
      have hownW := HOW.out
      go_cut [5] from 12 to 55 (fun v w' => SeenMid W w.heap.size 78 (.slice qv gs.length cv) gs.length (seenRows gs) ⟨K.want sk, K.res sk, K.held sk⟩ (.slice ql nl cl) v w')
      case first =>
        have hcell : ∀ b o, b < N → b ∉ L → W.cell? ⟨b, o, none⟩ = W.cell? ⟨b, o, none⟩ := fun _ _ _ _ => rfl
        (go_region_held3 (fun w' => Keeps L W w' ∧ ∀ b o, b < N → b ∉ L → w'.cell? ⟨b, o, none⟩ = W.cell? ⟨b, o, none⟩)
            (first
              | exact ⟨by assumption, by assumption⟩
              | exact heldOf HN3.out (Keeps.drew (by assumption))
              | (go_split_ands; exact heldOf HN3.out (Keeps.alloc (by assumption) _))
              | (go_split_ands; exact heldOf HN3.out (Keeps.trans (by assumption) hk2.nil))
              | (go_split_ands; exact heldOf HN3.out (Keeps.trans (by assumption) k7)))
            (first
              | (go_at_call 45; go_split_ands; refine (HHeld.out _ (by assumption)).mono ?_; rintro e w4 ⟨qh, ch, rfl, hsl, hk2⟩; have own4 := owns_keeps (first_own (by first | exact hownW | exact World.ownsRow.alloc hownW _)) hk2 (by simp))
              | (go_split_ands; (refine step_append_empty (by rfl) _ _ 37 (by rfl) 64 _ 1 8 Try.underlying37 elemU _ (by rfl) _ (K.held sk).length (ints .u64 (K.held sk)) (by rfl) (by first | exact hsl | exact hsl.but ((Keeps.refl [] _).alloc _) (by simp)) (ints_one .u64 _) (by have := HFEW.out; omega) ?_); intro v5 w5 hs5 hk2 hf5; have hk45 := hk2; have own5 := owns_keeps (first_own (by first | exact own4 | exact World.ownsRow.alloc own4 _)) hk2 (by simp); obtain ⟨p5, c5, rfl⟩ := hs5.len)
              | (go_split_ands; (refine step_append_fresh (by rfl) _ _ 30 (by rfl) w.heap.size 78 _ 10 112 Try.underlying30 elemSeen _ gs.length (seenRows gs) (by rfl) (World.ownsRow.alloc own5 _) _ (seenCells ⟨K.want sk, K.res sk, K.held sk⟩ (.slice ql nl cl) (.slice p5 (K.held sk).length c5)) (by rfl) rfl (by simp [Value.oneCell']) (fun j u hu => by rw [World.cell?_alloc_at _ _ _ _ rfl, ← Array.getElem?_toList]; rw [HSC.out] at hu; exact hu) (by have := HGL.out; omega) (Nat.le_trans HBB.out (Keeps.size (S := L) (by assumption))) ?_); intro v7 w7 own7 k7 f7 ne7; rw [HL.out] at k7)))
        all_goals
          go_split_ands
          go_wp2_with fail
          go_meet
          exact SeenMid.mk HVW.out (by rw [HL.out]; assumption) hk45 hs5 hf5 own7 (by rw [HL.out]; exact k7) f7 ne7
      case rest =>
        have hnow : SeenNow K J s ts S0 w 78 k (.slice qv gs.length cv) wr S sk gs := ⟨HJ1.out, HO.out, HF.out, HG.out, HNONE.out, HK.out, HN.out, HVS.out⟩
        have hmid := hcut
        clear hcut
        have hkL : Keeps L W wc := by obtain ⟨_, _, _, _, _, h, _⟩ := hmid; rw [← HL.out]; exact h
        have hJc : J wc S sk := hR.frame HJ4.out hkL (fun k hk h => (HLM.out k h).2.2 hk) (fun k hk h => by have := HRO.out k h; have := (HLM.out k hk).1; omega)
        obtain ⟨hh, hn2⟩ := hnow.snoc hlt HSK.out HKK.out hJc (fun g hg => hR.lt HJ4.out g hg) ⟨_, _, _, rfl⟩ HRESL.out HFEW.out hmid
        have hKw : Keeps S0 w wc := hn2.keeps
        have hST := hR.stays sk
        clear hnow hkL hJc hmid hkeep hownW HL HLM HSC HKK HHeld HRESL HFEW HVW HBB HOW HN3 HJ4 HJ1 HO HF HG HNONE HK HN HVS HVLT HX HBW HRR HBR la lr na nb a0 a1 a2 a3 r0 r1 r2 hs1 hs2 hwr1 hwr
        have HN2 := Lib.hid hn2
        have HKW := Lib.hid hKw
        have HST := Lib.hid hST
        clear hn2 hKw hST
        by_cases hl2 : k < ts.length
        · have hsl : Sl wc 2 (.slice pt ts.length ct) ts.length (tolds ts) := HT.out.but0 HKW.out HTS.out
          obtain ⟨bt, ot, ct', he, hbt, hct⟩ := hsl.some (by omega)
          cases he
          obtain ⟨⟨tv, tw⟩, htk⟩ : ∃ t, ts[k]? = some t := ⟨_, List.getElem?_eq_getElem hl2⟩
          have hu : M.U tv := HV.out (tv, tw) (List.mem_of_getElem? htk)
          have t0 := hct (k * 2) _ (tolds_at ts k _ htk).1
          have t1 := hct (k * 2 + 1) _ (tolds_at ts k _ htk).2
          have t1' : wc.cell? ⟨bt, ot + k * 2 + 1, none⟩ = some (.bool tw) := by rw [← t1, Nat.add_assoc]
          have hgo : K.goes s (ts.take (k + 1)) = K.give sk tv tw := by
            rw [K.goes_succ s ts hl2, HSK.out]
            have := (List.getElem?_eq_some_iff.1 htk).2
            rw [this]
          have HGO := Lib.hid hgo
          have HGive := Lib.hid (fun W hI => hR.give W S sk tv tw hI hu)
          have i0 : (0 : Int) ≤ (k : Int) := by omega
          have i1 : (k : Int) < (ts.length : Int) := by omega
          clear hgo hsl hct hu htk t1
          go_wp2_with fail
          go_still_tail 11, (by kernel_rfl)
          change wpList _ _ _ _ _ wc.drew
          go_wp2_with fail
          refine (HGive.out wc.drew (hR.frame HN2.out.j (Keeps.refl [] wc).drew (by simp) (by simp))).mono ?_
          rintro e w7 ⟨rfl, S7, hI7, k7, n7⟩
          have HP := Lib.hid (show SeenInv K J s ts S0 w 78 (k + 1) u5 w7 from (HN2.out.give (HST.out tv tw) hI7 k7.undrew n7).inv HGO.out)
          clear hI7 k7 n7
          go_wp2
          go_roundw
          case rel => exact ⟨k + 1, by omega, by go_num, HP.out⟩
          case measure => simp [intOf]; omega
        · obtain rfl : k = ts.length := by omega
          have hgo : K.goes s (ts.take (ts.length + 1)) = sk := by
            rw [List.take_of_length_le (by omega)]
            have := HSK.out
            rwa [List.take_of_length_le (Nat.le_refl _)] at this
          have HP := Lib.hid (show SeenInv K J s ts S0 w 78 (ts.length + 1) u5 wc from HN2.out.inv hgo)
          clear hgo
          go_wp2
          go_roundw
          case rel => exact ⟨ts.length + 1, by omega, by go_num, HP.out⟩
          case measure => simp [intOf]
    · obtain rfl : k = ts.length + 1 := by omega
      go_wp2
      go_ret
      have hfull : (K.trace s ts).take (ts.length + 1) = K.trace s ts := List.take_of_length_le (by rw [K.trace_len]; exact Nat.le_refl _)
      exact ⟨_, rfl, seen_done HO.out (by omega) (by rw [HF.out, hfull]) HG.out (fun g hg => (HVLT.out g hg).1), HK.out⟩

end Go.Proofs.Ytgpfknoddljopaa
