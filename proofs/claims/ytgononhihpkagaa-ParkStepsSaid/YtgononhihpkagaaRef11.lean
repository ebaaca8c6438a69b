/-
  Contracts: the document's frames of a parker go as the machine of its walks goes.
-/
import Derived.Test.YtgononhihpkagaaSeen
import Derived.Test.YtgononhihpkagaaWord
import Derived.Test.YtgononhihpkagaaPkM
import Derived.IntWalk
import Derived.Deep.CutRange
import Derived.LoopTactic
import Derived.Test.YtgononhihpkagaaDraw
namespace Go.Proofs.Ytgononhihpkagaa
set_option maxRecDepth 100000
set_option linter.unusedSimpArgs false
set_option linter.unusedVariables false
open Go.ChangeShapes Go.WideShapes Go.ChangeAt Go.RowKit

def pkCells (s : PkS) : List Value := [.int .i64 s.at_, .int .i64 s.kind, .int .u32 s.key, .int .i64 s.step, .int .u64 s.x, .int .u64 s.waited, .bool s.over.isSome, .int .i64 (s.over.getD Rs.zero).code, .int .u64 (s.over.getD Rs.zero).v, .slice none 0 0]
def pkFits (s : PkS) : Prop := pkKind s.kind ∧ (s.step = 1 ∨ s.step = 2 ∨ s.step = 3) ∧ 0 ≤ s.key ∧ s.key < 4294967296
def refPkJ (p : Nat) (w : World) (S : List Nat) (s : PkS) : Prop :=
  S = [p] ∧ Row w p 86 (pkCells s) ∧ (∀ r, s.over = some r → r.l = []) ∧ pkFits s
theorem refPkEnd_any (p : Nat) (s : PkS) (code v : Int) (w : World) (h : Row w p 86 (pkCells s)) :
    Calls Try.prog 42 #[.pointer (some ⟨p, 0, none⟩), .int .i64 code, .int .u64 v] w fun e w' => e = .returned (.tuple #[]) ∧ Row w' p 86 (pkCells { s with over := some ⟨code, v, []⟩ }) ∧ Keeps [p] w w' := by
  have h6 := h.cell (j := 6) rfl
  have h7 := h.cell (j := 7) rfl
  have h8 := h.cell (j := 8) rfl
  have h9 := h.cell (j := 9) rfl
  have f6 := h.frozen 6
  have f7 := h.frozen 7
  have f8 := h.frozen 8
  have f9 := h.frozen 9
  have HR := Lib.hid h
  clear h
  go_enter Try.func42, Try.ntmps42
  go_wp2
  first | go_end0 | refine bodyPost_ret (results_none rfl _ _ _) rfl ?_
  exact ⟨rfl, (((HR.out.set 6 (.bool true)).set 7 (.int .i64 code)).set 8 (.int .u64 v)).set 9 (.slice none 0 0), (((((Keeps.refl [p] w).set (by simp) _ _).set (by simp) _ _).set (by simp) _ _).set (by simp) _ _)⟩

set_option maxHeartbeats 800000 in
theorem refPk_over (p : Nat) (s : PkS) (w : World) (S : List Nat) (h : refPkJ p w S s) :
    Calls Try.prog 44 #[.pointer (some ⟨p, 0, none⟩)] w fun e w' => ∃ q n c,
      e = .returned (.tuple #[.agg #[.int .i64 ((pkM.res s).getD Rs.zero).code, .int .u64 ((pkM.res s).getD Rs.zero).v, .slice q n c], .bool (pkM.res s).isSome]) ∧ Keeps [] w w' ∧
      ∀ r, pkM.res s = some r → Sl w' 1 (.slice q n c) r.l.length (ints .u64 r.l) ∧ r.l.length ≤ maxLen ∧ ∀ g, (Value.slice q n c).ownBlock = some g → g ∈ S ∨ w.heap.size ≤ g := by
  obtain ⟨-, hrow, hnil, -⟩ := h
  have hlt := hrow.lt
  have fin : ∀ w' r, pkM.res s = some r → Sl w' 1 (.slice none 0 0) r.l.length (ints .u64 r.l) ∧ r.l.length ≤ maxLen ∧ ∀ g, (Value.slice none 0 0).ownBlock = some g → g ∈ S ∨ w.heap.size ≤ g := by
    intro w' r hr
    have := hnil r hr
    rw [this]
    exact ⟨⟨rfl, .inl ⟨_, _, rfl, rfl⟩⟩, Nat.zero_le _, fun g hg => by cases hg⟩
  have HF := Lib.hid fin
  obtain ⟨rr, hrr⟩ : ∃ rr, (pkM.res s).getD Rs.zero = rr := ⟨_, rfl⟩
  obtain ⟨br, hbr⟩ : ∃ br, (pkM.res s).isSome = br := ⟨_, rfl⟩
  obtain ⟨W0, hW0⟩ : ∃ W0, w.alloc (.cells #[.int .i64 0, .int .u64 0, .slice none 0 0] 55) = W0 := ⟨_, rfl⟩
  have k0 : Keeps [] w W0 := by rw [← hW0]; exact (Keeps.refl _ _).alloc _
  have r0 : Row W0 w.heap.size 55 [.int .i64 0, .int .u64 0, .slice none 0 0] := by rw [← hW0]; exact Row.new _ _ _
  have hr0 := hrow.keeps k0 (by simp)
  have c7 := hr0.cell (j := 6) rfl
  have c8 := hr0.cell (j := 7) rfl
  have c9 := hr0.cell (j := 8) rfl
  have c10 := hr0.cell (j := 9) rfl
  rw [show s.over.getD Rs.zero = rr from hrr] at c8 c9
  rw [show s.over.isSome = br from hbr] at c7
  rw [hrr, hbr]
  have q0 := r0.cell (j := 0) rfl
  have q1 := r0.cell (j := 1) rfl
  have q2 := r0.cell (j := 2) rfl
  have e0 := r0.frozen 0
  have e1 := r0.frozen 1
  have e2 := r0.frozen 2
  have hl0 := r0.lt
  have HK := Lib.hid k0
  clear hrow hnil fin hrr hbr hr0 r0 k0
  go_enter Try.func44, Try.ntmps44
  go_wp2
  go_region
  go_wp2
  refine bodyPost_ret (v := .tuple #[.agg #[.int .i64 rr.code, .int .u64 rr.v, .slice none 0 0], .bool br]) (by simp [results, Try.results44, go_sem, q0, q1, q2]) rfl ⟨none, 0, 0, rfl, ?_, HF.out _⟩
  exact HK.out.drew.step (S := [w.heap.size]) ((((Keeps.refl _ _).set (by simp) _ _).set (by simp) _ _).set (by simp) _ _) (by simp)
theorem refPk_held (p : Nat) (s : PkS) (w : World) (S : List Nat) (h : refPkJ p w S s) :
    Calls Try.prog 45 #[.pointer (some ⟨p, 0, none⟩)] w fun e w' => ∃ q c, e = .returned (.slice q (pkM.held s).length c) ∧ Sl w' 1 (.slice q (pkM.held s).length c) (pkM.held s).length (ints .u64 (pkM.held s)) ∧ Keeps [] w w' := by
  show Calls Try.prog 45 #[.pointer (some ⟨p, 0, none⟩)] w fun e w' => ∃ q c, e = .returned (.slice q 0 c) ∧ Sl w' 1 (.slice q 0 c) 0 (ints .u64 []) ∧ Keeps [] w w'
  clear h
  go_enter Try.func45, Try.ntmps45
  go_wp2
  go_ret
  exact ⟨none, 0, rfl, ⟨rfl, .inl ⟨_, _, rfl, rfl⟩⟩, Keeps.refl _ _⟩

set_option maxHeartbeats 1600000 in
theorem refPk_want (p : Nat) (s : PkS) (w : World) (S : List Nat) (h : refPkJ p w S s) :
    Calls Try.prog 43 #[.pointer (some ⟨p, 0, none⟩)] w fun e w' => e = .returned (.tuple #[((pkM.want s).getD zacc).val, .bool (pkM.want s).isSome]) ∧ Keeps [] w w' := by
  have hlt := h.2.1.lt
  obtain ⟨W0, hW0⟩ : ∃ W0, w.alloc (.cells #[.int .i64 0, .int .i64 0, .int .u64 0, .int .u64 0] 73) = W0 := ⟨_, rfl⟩
  have k0 : Keeps [] w W0 := by rw [← hW0]; exact (Keeps.refl _ _).alloc _
  have r0 : Row W0 w.heap.size 73 [.int .i64 0, .int .i64 0, .int .u64 0, .int .u64 0] := by rw [← hW0]; exact Row.new _ _ _
  have hz : W0.heap.size = w.heap.size + 1 := by rw [← hW0]; simp
  have hrow := h.2.1.keeps k0 (by simp)
  obtain ⟨-, -, -, hkd, hstp, -⟩ := h
  have fin : ∀ (x : C.Acc) (W : World), Keeps [] W0 W → Keeps [] w ((((W.setCell ⟨w.heap.size, 0, none⟩ (.int .i64 x.k)).setCell ⟨w.heap.size, 1, none⟩ (.int .i64 x.c)).setCell ⟨w.heap.size, 2, none⟩ (.int .u64 x.a)).setCell ⟨w.heap.size, 3, none⟩ (.int .u64 x.b)) := fun x W hW =>
    (k0.trans hW).step (S := [w.heap.size]) (((((Keeps.refl _ _).set (by simp) _ _).set (by simp) _ _).set (by simp) _ _).set (by simp) _ _) (by simp)
  have HF := Lib.hid fin
  have HR0 : Hid (∀ W, Keeps [] W0 W → Row W w.heap.size 73 [.int .i64 0, .int .i64 0, .int .u64 0, .int .u64 0]) := Lib.hid (fun W hk => r0.keeps hk (by simp))
  have HP0 : Hid (∀ W, Keeps [] W0 W → Row W p 86 (pkCells s)) := Lib.hid (fun W hk => hrow.keeps hk (by simp))
  have q0 := r0.cell (j := 0) rfl
  have q1 := r0.cell (j := 1) rfl
  have q2 := r0.cell (j := 2) rfl
  have q3 := r0.cell (j := 3) rfl
  have e0 := r0.frozen 0
  have e1 := r0.frozen 1
  have e2 := r0.frozen 2
  have e3 := r0.frozen 3
  have hl0 := r0.lt
  have c0 := hrow.cell (j := 0) rfl
  have c6 := hrow.cell (j := 6) rfl
  obtain ⟨at_, kind, key, step, x, waited, over⟩ := s
  simp only at hkd hstp c0 c6
  clear hrow k0 r0 fin
  cases over with
  | some r =>
    simp only [Option.isSome_some] at c6
    go_enter Try.func43, Try.ntmps43
    go_wp2
    refine bodyPost_ret (v := .tuple #[zacc.val, .bool false]) (by simp [results, Try.results43, go_sem, q0, q1, q2, q3]) rfl ⟨rfl, ?_⟩
    exact HF.out zacc W0 (Keeps.refl _ _)
  | none =>
    have HW : Hid (pkM.want ⟨at_, kind, key, step, x, waited, none⟩ = some (pkWant ⟨at_, kind, key, step, x, waited, none⟩)) := Lib.hid rfl
    rw [HW.out]
    simp only [Option.isSome_none] at c6
    clear HW
    have HZ := Lib.hid hz
    obtain ⟨X, hX⟩ : ∃ X, pkWant ⟨at_, kind, key, step, x, waited, none⟩ = X := ⟨_, rfl⟩
    rw [hX]
    have HX := Lib.hid hX
    clear hX
    have p1 : (W0.alloc (.cells #[.int .i64 6, .int .i64 at_, .int .u64 18446744073709551614, .int .u64 0] 73)).cell? ⟨p, 1, none⟩ = some (.int .i64 kind) := (HP0.out _ ((Keeps.refl _ _).alloc _)).cell (j := 1) rfl
    go_enter Try.func43, Try.ntmps43
    go_upto_if 20 with (fail)
    generalize hW1 : World.alloc W0 _ = W1
    have k1 : Keeps [] W0 W1 := by rw [← hW1]; exact (Keeps.refl _ _).alloc _
    have r1 : Row W1 W0.heap.size 73 [.int .i64 6, .int .i64 at_, .int .u64 18446744073709551614, .int .u64 0] := by rw [← hW1]; exact Row.new _ _ _
    rw [hz] at r1
    have hz1 : W1.heap.size = w.heap.size + 2 := by rw [← hW1]; simp [hz]
    have g0 := r1.cell (j := 0) rfl
    have g1 := r1.cell (j := 1) rfl
    have g2 := r1.cell (j := 2) rfl
    have g3 := r1.cell (j := 3) rfl
    have HK1 := Lib.hid k1
    have R := HR0.out W1 k1
    have P := HP0.out W1 k1
    clear q0 q1 q2 q3 e0 e1 e2 e3 p1 hW1
    have q0 := R.cell (j := 0) rfl
    have q1 := R.cell (j := 1) rfl
    have q2 := R.cell (j := 2) rfl
    have q3 := R.cell (j := 3) rfl
    have e0 := R.frozen 0
    have e1 := R.frozen 1
    have e2 := R.frozen 2
    have e3 := R.frozen 3
    have p0 := P.cell (j := 0) rfl
    have p3 := P.cell (j := 3) rfl
    have p4 := P.cell (j := 4) rfl
    simp only at p0 p3 p4
    clear k1 r1
    rcases hkd with rfl | rfl | rfl | rfl
    · have hx : X = ⟨5, at_, 1, 0⟩ := HX.out.symm.trans rfl
      clear HX
      go_wp2
      refine bodyPost_ret (v := .tuple #[X.val, .bool true]) (by rw [hx]; simp [results, Try.results43, go_sem, q0, q1, q2, q3]) rfl ⟨rfl, ?_⟩
      exact HF.out ⟨5, at_, 1, 0⟩ W1 HK1.out
    · have hx : X = ⟨6, at_, 18446744073709551614, 0⟩ := HX.out.symm.trans rfl
      clear HX
      go_wp2
      refine bodyPost_ret (v := .tuple #[X.val, .bool true]) (by rw [hx]; simp [results, Try.results43, go_sem, q0, q1, q2, q3]) rfl ⟨rfl, ?_⟩
      exact HF.out ⟨6, at_, 18446744073709551614, 0⟩ W1 HK1.out
    · have HL := Lib.hid hstp
      have kd : Keeps [] W1 W1.drew := (Keeps.refl [] W1).drew
      have HPK := Lib.hid (fun W (hk : Keeps [] W1 W) => HP0.out W (HK1.out.trans hk))
      have HRK := Lib.hid (fun W (hk : Keeps [] W1 W) => HR0.out W (HK1.out.trans hk))
      go_wp2
      refine wp_region_mid 15 (by kernel_rfl) (by kernel_rfl) ?_
      simp only [List.take_succ_cons, List.take_zero, List.drop_succ_cons, List.drop_zero]
      repeat still_step
      refine wpStill_nil ?_
      go_wp2
      show wpStill _ _ _ _ _ _
      repeat still_step
      refine wpStill_nil ?_
      generalize hW2 : World.alloc _ _ = W2
      have k2 : Keeps [] W1 W2.drew := by rw [← hW2]; exact ((Keeps.refl _ _).alloc _).drew
      have r2 : Row W2 W1.heap.size 73 [.int .i64 1, .int .i64 at_, .int .u64 0, .int .u64 0, .int .i64 7, .int .i64 at_, .int .u64 x, .int .u64 0, .int .i64 6, .int .i64 at_, .int .u64 18446744073709551614, .int .u64 0] := by rw [← hW2]; exact Row.new _ _ _
      rw [hz1] at r2
      have r2 : Row W2.drew (w.heap.size + 2) 73 _ := r2
      obtain ⟨W3, hW3⟩ : ∃ W3, W2.drew = W3 := ⟨_, rfl⟩
      rw [hW3] at k2 r2 ⊢
      have R3 := HRK.out W3 k2
      have P3 := (HPK.out W3 k2).cell (j := 3) rfl
      simp only at P3
      have HK3 := Lib.hid (HK1.out.trans k2)
      have q0 := R3.cell (j := 0) rfl
      have q1 := R3.cell (j := 1) rfl
      have q2 := R3.cell (j := 2) rfl
      have q3 := R3.cell (j := 3) rfl
      have e0 := R3.frozen 0
      have e1 := R3.frozen 1
      have e2 := R3.frozen 2
      have e3 := R3.frozen 3
      have HL3 := Lib.hid r2
      clear R3 k2 r2 hW2 hW3 kd
      rcases HL.out with rfl | rfl | rfl
      · have hx : X = ⟨1, at_, 0, 0⟩ := HX.out.symm.trans rfl
        have l0 := HL3.out.cell (j := 0) rfl
        have l1 := HL3.out.cell (j := 1) rfl
        have l2 := HL3.out.cell (j := 2) rfl
        have l3 := HL3.out.cell (j := 3) rfl
        have HXX := Lib.hid hx
        clear HX hx
        go_wp2
        refine bodyPost_ret (v := .tuple #[X.val, .bool true]) (by rw [HXX.out]; simp [results, Try.results43, go_sem, q0, q1, q2, q3]) rfl ⟨rfl, ?_⟩
        exact HF.out ⟨1, at_, 0, 0⟩ W3 HK3.out
      · have hx : X = ⟨7, at_, x, 0⟩ := HX.out.symm.trans rfl
        have l0 := HL3.out.cell (j := 4) rfl
        have l1 := HL3.out.cell (j := 5) rfl
        have l2 := HL3.out.cell (j := 6) rfl
        have l3 := HL3.out.cell (j := 7) rfl
        have HXX := Lib.hid hx
        clear HX hx
        go_wp2
        refine bodyPost_ret (v := .tuple #[X.val, .bool true]) (by rw [HXX.out]; simp [results, Try.results43, go_sem, q0, q1, q2, q3]) rfl ⟨rfl, ?_⟩
        exact HF.out ⟨7, at_, x, 0⟩ W3 HK3.out
      · have hx : X = ⟨6, at_, 18446744073709551614, 0⟩ := HX.out.symm.trans rfl
        have l0 := HL3.out.cell (j := 8) rfl
        have l1 := HL3.out.cell (j := 9) rfl
        have l2 := HL3.out.cell (j := 10) rfl
        have l3 := HL3.out.cell (j := 11) rfl
        have HXX := Lib.hid hx
        clear HX hx
        go_wp2
        refine bodyPost_ret (v := .tuple #[X.val, .bool true]) (by rw [HXX.out]; simp [results, Try.results43, go_sem, q0, q1, q2, q3]) rfl ⟨rfl, ?_⟩
        exact HF.out ⟨6, at_, 18446744073709551614, 0⟩ W3 HK3.out
    · have hx : X = ⟨4, at_, 4294967296, 0⟩ := HX.out.symm.trans rfl
      clear HX
      go_wp2
      refine bodyPost_ret (v := .tuple #[X.val, .bool true]) (by rw [hx]; simp [results, Try.results43, go_sem, q0, q1, q2, q3]) rfl ⟨rfl, ?_⟩
      exact HF.out ⟨4, at_, 4294967296, 0⟩ W1 HK1.out

theorem pkGive_fits (s : PkS) (v : Int) (h : pkFits s) : pkFits (pkGive s v) := by
  obtain ⟨h1, h2, h3⟩ := h
  unfold pkGive
  split
  · exact ⟨h1, h2, h3⟩
  · split
    · exact ⟨h1, h2, h3⟩
    · split
      · split
        · exact ⟨h1, .inr (.inl rfl), h3⟩
        · exact ⟨h1, .inr (.inr rfl), h3⟩
      · split
        · exact ⟨h1, .inl rfl, h3⟩
        · exact ⟨h1, h2, h3⟩
set_option maxHeartbeats 1600000 in
theorem refPk_give (p : Nat) (s : PkS) (w : World) (S : List Nat) (tv : Int) (won : Bool) (h : refPkJ p w S s) (hv : M.U tv) :
    Calls Try.prog 46 #[.pointer (some ⟨p, 0, none⟩), .int .u64 tv, .bool won] w fun e w' => e = .returned (.tuple #[]) ∧ ∃ S', refPkJ p w' S' (pkM.give s tv won) ∧ Keeps (if (pkM.res s).isSome then [] else S) w w' ∧ ∀ k ∈ S', k ∈ S ∨ w.heap.size ≤ k := by
  have H0 := Lib.hid h
  obtain ⟨hS, hrow, hnil, hfit⟩ := h
  cases ho : s.over with
  | some r =>
    have e : pkM.give s tv won = s := by simp [pkM, ho]
    have e2 : (pkM.res s).isSome = true := by simp [pkM, ho]
    rw [e, if_pos e2]
    have c6 := hrow.cell (j := 6) (u := .bool true) (by simp [pkCells, ho])
    clear hrow hnil hfit e e2 ho hS
    go_enter Try.func46, Try.ntmps46
    go_wp2
    first | go_end0 | refine bodyPost_ret (results_none rfl _ _ _) rfl ?_
    exact ⟨rfl, S, H0.out, Keeps.refl _ _, fun k hk => .inl hk⟩
  | none =>
    have e : pkM.give s tv won = pkGive s tv := by simp [pkM, ho]
    have e2 : ¬ (pkM.res s).isSome = true := by simp [pkM, ho]
    rw [e, if_neg e2, hS]
    have HJ : Hid (∀ W s', Row W p 86 (pkCells s') → pkGive s tv = s' → (∀ r, s'.over = some r → r.l = []) → refPkJ p W [p] (pkGive s tv)) := Lib.hid (fun W s' h1 h2 h3 => ⟨rfl, by rw [h2]; exact h1, by rw [h2]; exact h3, pkGive_fits s tv hfit⟩)
    have HE := Lib.hid (fun c u W => refPkEnd_any p s c u W)
    have hH := refHi_any tv w hv.nn hv
    have c1 := hrow.cell (j := 1) rfl
    have c2 := hrow.cell (j := 2) rfl
    have c3 := hrow.cell (j := 3) rfl
    have c5 := hrow.cell (j := 5) rfl
    have c6 := hrow.cell (j := 6) (u := .bool false) (by simp [pkCells, ho])
    have c4 := hrow.cell (j := 4) rfl
    have f3 := hrow.frozen 3
    have f4 := hrow.frozen 4
    have f5 := hrow.frozen 5
    have HRow := Lib.hid hrow
    have u0 := hv.nn
    have u1 := hv.lt
    obtain ⟨q, hq⟩ : ∃ q : Int, tv / 4294967296 = q := ⟨_, rfl⟩
    have q0 : 0 ≤ q := by omega
    have q1 : q < 4294967296 := by omega
    rw [hq] at hH
    have HHi := Lib.hid hH
    have htm : tv.tmod 2 = tv % 2 := Int.tmod_eq_emod_of_nonneg u0
    obtain ⟨y, hy⟩ : ∃ y : Int, tv % 2 = y := ⟨_, rfl⟩
    rw [hy] at htm
    have HTM := Lib.hid htm
    have HY := Lib.hid hy
    have HQ := Lib.hid hq
    have HO := Lib.hid ho
    have wq : IntKind.u64.wrap q = q := by rw [IntKind.wrap_u64]; omega
    obtain ⟨hkd, hstp, ky0, ky1⟩ := hfit
    have wk : IntKind.u64.wrap s.key = s.key := by rw [IntKind.wrap_u64]; omega
    obtain ⟨at_, kind, key, step, x, waited, over⟩ := s
    simp only at hkd hstp c1 c2 c3 c4 c5 ho wk ky0 ky1
    subst ho
    clear hrow hnil e e2 hS hv hH hq hy htm H0 u0 u1 ky0 ky1
    rcases hkd with rfl | rfl | rfl | rfl
    · have hg : pkGive ⟨at_, 1, key, step, x, waited, none⟩ tv = ⟨at_, 1, key, step, x, waited, some ⟨0, q, []⟩⟩ := by rw [← HQ.out]; rfl
      have HG := Lib.hid hg
      clear hg
      go_enter Try.func46, Try.ntmps46
      go_wp2_with fail
      refine HHi.out.mono ?_
      rintro e w1 ⟨rfl, rfl⟩
      go_wp2_with fail
      refine (HE.out 0 q w HRow.out).mono ?_
      rintro e w2 ⟨rfl, hr, k2⟩
      have HP := Lib.hid (⟨HJ.out _ _ hr HG.out (fun r h => by cases h; rfl), k2⟩ : _ ∧ _)
      clear hr k2
      go_wp2
      first | go_end0 | refine bodyPost_ret (results_none rfl _ _ _) rfl ?_
      exact ⟨rfl, [p], HP.out.1, HP.out.2, fun k hk => .inl hk⟩
    · have hg : pkGive ⟨at_, 2, key, step, x, waited, none⟩ tv = ⟨at_, 2, key, step, x, waited, some ⟨0, q, []⟩⟩ := by rw [← HQ.out]; rfl
      have HG := Lib.hid hg
      clear hg
      go_enter Try.func46, Try.ntmps46
      go_wp2_with fail
      refine HHi.out.mono ?_
      rintro e w1 ⟨rfl, rfl⟩
      go_wp2_with fail
      refine (HE.out 0 q w HRow.out).mono ?_
      rintro e w2 ⟨rfl, hr, k2⟩
      have HP := Lib.hid (⟨HJ.out _ _ hr HG.out (fun r h => by cases h; rfl), k2⟩ : _ ∧ _)
      clear hr k2
      go_wp2
      first | go_end0 | refine bodyPost_ret (results_none rfl _ _ _) rfl ?_
      exact ⟨rfl, [p], HP.out.1, HP.out.2, fun k hk => .inl hk⟩
    · rcases hstp with rfl | rfl | rfl
      · by_cases hk : q = key
        · subst hk
          have hg : pkGive ⟨at_, 3, q, 1, x, waited, none⟩ tv = ⟨at_, 3, q, 2, tv, 1, none⟩ := by simp [pkGive, HQ.out]
          have HG := Lib.hid hg
          have HP := Lib.hid (HJ.out (((((w.setCell ⟨p, 4, none⟩ (.int .u64 tv)).setCell ⟨p, 3, none⟩ (.int .i64 3)).setCell ⟨p, 3, none⟩ (.int .i64 2))).setCell ⟨p, 5, none⟩ (.int .u64 1)) ⟨at_, 3, q, 2, tv, 1, none⟩ ((((HRow.out.set 4 _).set 3 _).set 3 _).set 5 _) hg (fun r h => by cases h))
          clear hg
          go_enter Try.func46, Try.ntmps46
          go_wp2_with fail
          refine HHi.out.mono ?_
          rintro e w1 ⟨rfl, rfl⟩
          go_wp2
          first | go_end0 | refine bodyPost_ret (results_none rfl _ _ _) rfl ?_
          exact ⟨rfl, [p], HP.out, ((((Keeps.refl [p] w).set (by simp) _ _).set (by simp) _ _).set (by simp) _ _).set (by simp) _ _, fun k hk => .inl hk⟩
        · have hg : pkGive ⟨at_, 3, key, 1, x, waited, none⟩ tv = ⟨at_, 3, key, 3, tv, waited, none⟩ := by simp [pkGive, HQ.out, hk]
          have HG := Lib.hid hg
          have HP := Lib.hid (HJ.out ((w.setCell ⟨p, 4, none⟩ (.int .u64 tv)).setCell ⟨p, 3, none⟩ (.int .i64 3)) ⟨at_, 3, key, 3, tv, waited, none⟩ ((HRow.out.set 4 _).set 3 _) hg (fun r h => by cases h))
          have hb : (q == key) = false := by simp [hk]
          clear hg hk
          go_enter Try.func46, Try.ntmps46
          go_wp2_with fail
          refine HHi.out.mono ?_
          rintro e w1 ⟨rfl, rfl⟩
          go_wp2
          first | go_end0 | refine bodyPost_ret (results_none rfl _ _ _) rfl ?_
          exact ⟨rfl, [p], HP.out, ((Keeps.refl [p] w).set (by simp) _ _).set (by simp) _ _, fun k hk => .inl hk⟩
      · have hg : pkGive ⟨at_, 3, key, 2, x, waited, none⟩ tv = ⟨at_, 3, key, 1, x, waited, none⟩ := rfl
        have HP := Lib.hid (HJ.out (w.setCell ⟨p, 3, none⟩ (.int .i64 1)) ⟨at_, 3, key, 1, x, waited, none⟩ (HRow.out.set 3 _) hg (fun r h => by cases h))
        clear hg
        go_enter Try.func46, Try.ntmps46
        go_wp2_with fail
        refine HHi.out.mono ?_
        rintro e w1 ⟨rfl, rfl⟩
        go_wp2
        first | go_end0 | refine bodyPost_ret (results_none rfl _ _ _) rfl ?_
        exact ⟨rfl, [p], HP.out, (Keeps.refl [p] w).set (by simp) _ _, fun k hk => .inl hk⟩
      · have hg : pkGive ⟨at_, 3, key, 3, x, waited, none⟩ tv = ⟨at_, 3, key, 3, x, waited, some ⟨0, waited, []⟩⟩ := rfl
        have HG := Lib.hid hg
        clear hg
        go_enter Try.func46, Try.ntmps46
        go_wp2_with fail
        refine HHi.out.mono ?_
        rintro e w1 ⟨rfl, rfl⟩
        go_wp2_with fail
        refine (HE.out 0 waited w HRow.out).mono ?_
        rintro e w2 ⟨rfl, hr, k2⟩
        have HP := Lib.hid (⟨HJ.out _ _ hr HG.out (fun r h => by cases h; rfl), k2⟩ : _ ∧ _)
        clear hr k2
        go_wp2
        first | go_end0 | refine bodyPost_ret (results_none rfl _ _ _) rfl ?_
        exact ⟨rfl, [p], HP.out.1, HP.out.2, fun k hk => .inl hk⟩
    · have hg : pkGive ⟨at_, 4, key, step, x, waited, none⟩ tv = ⟨at_, 4, key, step, x, waited, some ⟨0, y, []⟩⟩ := by rw [← HY.out]; rfl
      have HG := Lib.hid hg
      have htm := HTM.out
      clear hg
      go_enter Try.func46, Try.ntmps46
      go_wp2_with fail
      refine HHi.out.mono ?_
      rintro e w1 ⟨rfl, rfl⟩
      go_wp2_with fail
      refine (HE.out 0 y w HRow.out).mono ?_
      rintro e w2 ⟨rfl, hr, k2⟩
      have HP := Lib.hid (⟨HJ.out _ _ hr HG.out (fun r h => by cases h; rfl), k2⟩ : _ ∧ _)
      clear hr k2
      go_wp2
      first | go_end0 | refine bodyPost_ret (results_none rfl _ _ _) rfl ?_
      exact ⟨rfl, [p], HP.out.1, HP.out.2, fun k hk => .inl hk⟩

theorem refPkRuns (p : Nat) : RefRuns pkM (refPkJ p) (fun _ => False) p 43 44 45 46 where
  lt := fun ⟨hS, h, _⟩ k hk => by rw [hS] at hk; simp at hk; subst hk; exact h.lt
  frame := fun ⟨hS, h, a, b⟩ hk hT _ => ⟨hS, h.keeps hk (hT p (by rw [hS]; simp)), a, b⟩
  stays := fun s v won h => by
    have h' : s.over.isSome = true := h
    show (pkM.give s v won).over.isSome = true
    simp [pkM, h']
  few := fun _ => by simp [pkM]
  want := fun w S s h => refPk_want p s w S h
  over := fun w S s h => refPk_over p s w S h
  held := fun w S s h => refPk_held p s w S h
  give := fun w S s v won h hv => refPk_give p s w S v won h hv
set_option maxHeartbeats 3200000 in
set_option maxRecDepth 100000 in
theorem seen_spot {σ : Type} (K : Mach σ) (J : World → List Nat → σ → Prop) (R : Nat → Prop) (p : Nat) (hR : RefRuns K J R p 43 44 45 46) (vt : Value) (s : σ) (ts : List (Int × Bool)) (S0 : List Nat) (w : World) (hJ : J w S0 s)
    (ht : Sl w 2 vt ts.length (tolds ts)) (htS : ts.length ≠ 0 → ∀ g, vt.ownBlock = some g → g ∉ S0) (hv : ∀ t ∈ ts, M.U t.1) (hn : ts.length ≤ 1000000) (hRo : ∀ k, R k → k < w.heap.size) :
    Calls Try.prog 13 #[.pointer (some ⟨p, 0, none⟩), vt] w fun e w' => ∃ v, e = .returned v ∧ SeenAt w' (fun k => k ∈ S0 ∨ w.heap.size ≤ k) v (K.trace s ts) ∧ Keeps S0 w w' := by
  obtain ⟨pt, ct, rfl⟩ := ht.len
  have HT := Lib.hid ht
  have HTS := Lib.hid htS
  have HV := Lib.hid hv
  have HJ := Lib.hid hJ
  have HRO := Lib.hid hRo
  clear ht htS hv hJ hRo
  go_enter Try.func13, Try.ntmps13
  go_wp2
  go_loopw [5, 6] (fun v i wr => ∃ k : Nat, k ≤ ts.length + 1 ∧ i = .int .i64 k ∧ SeenInv K J s ts S0 w 78 k v wr) (fun _ i _ => ts.length + 1 - (intOf i).toNat)
  case atStart =>
    refine ⟨0, Nat.zero_le _, rfl, S0, [], hR.frame HJ.out ((Keeps.refl [] w).alloc _) (by simp) (by simp), owns_empty w 78 10, rfl, by simp, by simp, (Keeps.refl _ _).alloc _, fun j h => .inl h, fun g hg => ?_⟩
    intro h
    have := hR.lt HJ.out g h
    simp [Value.ownBlock] at hg
    omega
  case round =>
    obtain ⟨k, hk, rfl, S, gs, hJ, ho, hf, hg, hnone, hK, hnew, hvS⟩ := hrel
    have hgl : gs.length = min k (ts.length + 1) := by rw [← K.trace_len s ts, ← List.length_take, ← hf, List.length_map]
    obtain ⟨qv, cv, rfl⟩ := (Sl.of_owns ho).len
    have hvlt := ho.lt
    have HO := Lib.hid ho
    have HF := Lib.hid hf
    have HG := Lib.hid hg
    have HNONE := Lib.hid hnone
    have HK := Lib.hid hK
    have HN := Lib.hid hnew
    have HVS := Lib.hid hvS
    have HJ1 := Lib.hid hJ
    have HVLT := Lib.hid hvlt
    clear hJ ho hf hg hnone hK hnew hvS hvlt
    by_cases hlt : k ≤ ts.length
    · have HGL : Hid (gs.length = k) := Lib.hid (by omega)
      clear hgl
      obtain ⟨sk, hsk⟩ : ∃ sk, K.goes s (ts.take k) = sk := ⟨_, rfl⟩
      have HSK := Lib.hid hsk
      rw [hsk] at HJ1 HNONE
      obtain ⟨x, hx⟩ : ∃ x, (K.want sk).getD zacc = x := ⟨_, rfl⟩
      obtain ⟨bw, hbw⟩ : ∃ bw, (K.want sk).isSome = bw := ⟨_, rfl⟩
      obtain ⟨rr, hrr⟩ : ∃ rr, (K.res sk).getD Rs.zero = rr := ⟨_, rfl⟩
      obtain ⟨br, hbr⟩ : ∃ br, (K.res sk).isSome = br := ⟨_, rfl⟩
      have HWant := hR.want wr S sk HJ1.out
      rw [hx, hbw] at HWant
      have HRes := fun w1 hI => hR.over w1 S sk hI
      rw [hrr, hbr] at HRes
      have HResH := Lib.hid HRes
      have HX := Lib.hid hx
      have HBW := Lib.hid hbw
      have HRR := Lib.hid hrr
      have HBR := Lib.hid hbr
      have hwr : wr.heap.size = wr.heap.size := rfl
      clear hsk hx hbw hrr hbr HRes
      go_wp2_with fail
      refine HWant.mono ?_
      clear HWant
      rintro e w1 ⟨rfl, k1⟩
      have HJ2 := Lib.hid (hR.frame HJ1.out k1 (by simp) (by simp))
      have HK1 := Lib.hid k1
      have hs1 := k1.size
      clear k1
      obtain ⟨W1, hW1⟩ : ∃ W1, w1.alloc (.cells #[.int .i64 x.k, .int .i64 x.c, .int .u64 x.a, .int .u64 x.b] 73) = W1 := ⟨_, rfl⟩
      have hb1 : Box W1 w1.heap.size #[.int .i64 x.k, .int .i64 x.c, .int .u64 x.a, .int .u64 x.b] := by rw [← hW1]; exact Box.new _ _ _
      have hk1 : Keeps [] w1 W1 := by rw [← hW1]; exact (Keeps.refl _ _).alloc _
      have HB1 := Lib.hid hb1
      have HK1' := Lib.hid hk1
      have HJ3 := Lib.hid (hR.frame HJ2.out hk1 (by simp) (by simp))
      clear hb1 hk1 HJ2
      go_wp2_with fail
      clear hW1
      refine (HResH.out _ HJ3.out).mono ?_
      rintro e w2 ⟨ql, nl, cl, rfl, k2, hres⟩
      obtain ⟨W, hW⟩ : ∃ W, w2.alloc (.cells #[.int .i64 rr.code, .int .u64 rr.v, .slice ql nl cl] 55) = W := ⟨_, rfl⟩
      have hb2 : Box W w2.heap.size #[.int .i64 rr.code, .int .u64 rr.v, .slice ql nl cl] := by rw [← hW]; exact Box.new _ _ _
      have hk2 : Keeps [] w2 W := by rw [← hW]; exact (Keeps.refl _ _).alloc _
      have hbA : Box W w1.heap.size #[.int .i64 x.k, .int .i64 x.c, .int .u64 x.a, .int .u64 x.b] := (HB1.out.keeps k2 (by simp)).keeps hk2 (by simp)
      have hkk : Keeps [] wr W := ((HK1.out.trans HK1'.out).trans k2).trans hk2
      have HRESL : Hid (∀ r, K.res sk = some r → Sl W 1 (.slice ql nl cl) r.l.length (ints .u64 r.l) ∧ r.l.length ≤ maxLen ∧ ∀ g, (Value.slice ql nl cl).ownBlock = some g → g ∈ S ∨ wr.heap.size ≤ g) := Lib.hid fun r hr =>
        ⟨(hres r hr).1.but hk2 (by simp), (hres r hr).2.1, fun g hg => ((hres r hr).2.2 g hg).imp id (fun h => Nat.le_trans (Nat.le_trans HK1.out.size HK1'.out.size) h)⟩
      go_upto_region 7 with (fail)
      have a0 := hbA.cells 0
      have a1 := hbA.cells 1
      have a2 := hbA.cells 2
      have a3 := hbA.cells 3
      have r0 := hb2.cells 0
      have r1 := hb2.cells 1
      have r2 := hb2.cells 2
      have la := hbA.lt
      have lr := hb2.lt
      have HJ4 := Lib.hid (hR.frame HJ3.out (k2.trans hk2) (by simp) (by simp))
      have HOW := Lib.hid (owns_keeps HO.out hkk (by simp))
      have HKK := Lib.hid hkk
      have hs2 : w1.heap.size ≤ w2.heap.size := Nat.le_trans HK1'.out.size k2.size
      clear hbA hb2 hk2 k2 hres HB1 HJ3 HK1 HK1' HResH hkk hW
      simp at a0 a1 a2 a3 r0 r1 r2
      have HSC : Hid (∀ h, seenCells ⟨K.want sk, K.res sk, K.held sk⟩ (.slice ql nl cl) h = [.int .i64 x.k, .int .i64 x.c, .int .u64 x.a, .int .u64 x.b, .bool bw, .int .i64 rr.code, .int .u64 rr.v, .slice ql nl cl, .bool br, h]) := Lib.hid fun h => by
        unfold seenCells; simp only [HX.out, HBW.out, HRR.out, HBR.out]
      obtain ⟨L, hL⟩ : ∃ L, (Value.slice qv gs.length cv).ownBlock.toList = L := ⟨_, rfl⟩
      have hLm : ∀ g ∈ L, w.heap.size ≤ g ∧ g < wr.heap.size ∧ g ∉ S := fun g hg => by
        rw [← hL] at hg
        have e : (Value.slice qv gs.length cv).ownBlock = some g := by simpa using hg
        exact ⟨(HVLT.out g e).1, (HVLT.out g e).2, HVS.out g e⟩
      have hwr1 : wr.heap.size ≤ w1.heap.size := hs1
      have na : w1.heap.size ∉ L := fun h => by have := (hLm _ h).2.1; omega
      have nb : w2.heap.size ∉ L := fun h => by have := (hLm _ h).2.1; omega
      have HL := Lib.hid hL
      have HLM := Lib.hid hLm
      clear hL
      have hHeld : ∀ W', Keeps L W W' → Calls Try.prog 45 #[.pointer (some ⟨p, 0, none⟩)] W' fun e w' => ∃ q c, e = .returned (.slice q (K.held sk).length c) ∧ Sl w' 1 (.slice q (K.held sk).length c) (K.held sk).length (ints .u64 (K.held sk)) ∧ Keeps [] W' w' :=
        fun W' hW' => hR.held W' S sk (hR.frame HJ4.out hW' (fun k hk h => (hLm k h).2.2 hk) (fun k hk h => by have := HRO.out k h; have := (hLm k hk).1; omega))
      have HHeld := Lib.hid hHeld
      have HVW : Hid (∀ g, (Value.slice qv gs.length cv).ownBlock = some g → g < W.heap.size) := Lib.hid fun g hg => (HOW.out.lt g hg).2
      have HFEW := Lib.hid (hR.few HJ4.out)
      have HBB : Hid (w.heap.size ≤ W.heap.size) := Lib.hid (Nat.le_trans HK.out.size HKK.out.size)
      obtain ⟨N, hN⟩ : ∃ N, W.heap.size = N := ⟨_, rfl⟩
      rw [hN] at la lr
      have HN3 := Lib.hid hN
      clear hN hHeld hLm
      have hkeep : Keeps L W W := Keeps.refl _ _
      have hownW := HOW.out
      go_cut [5] from 12 to 55 (fun v w' => SeenMid W w.heap.size 78 (.slice qv gs.length cv) gs.length (seenRows gs) ⟨K.want sk, K.res sk, K.held sk⟩ (.slice ql nl cl) v w')
      case first =>
        have hcell : ∀ b o, b < N → b ∉ L → W.cell? ⟨b, o, none⟩ = W.cell? ⟨b, o, none⟩ := fun _ _ _ _ => rfl
        (go_region_held3 (fun w' => Keeps L W w' ∧ ∀ b o, b < N → b ∉ L → w'.cell? ⟨b, o, none⟩ = W.cell? ⟨b, o, none⟩)
            (first
              | exact ⟨by assumption, by assumption⟩
              | exact heldOf HN3.out (Keeps.drew (by assumption))
              | (go_split_ands; exact heldOf HN3.out (Keeps.alloc (by assumption) _))
              | (go_split_ands; exact heldOf HN3.out (Keeps.trans (by assumption) hk2.nil))
              | (go_split_ands; exact heldOf HN3.out (Keeps.trans (by assumption) k7)))
            (first
              | (go_at_call 45; go_split_ands; refine (HHeld.out _ (by assumption)).mono ?_; rintro e w4 ⟨qh, ch, rfl, hsl, hk2⟩; have own4 := owns_keeps (first_own (by first | exact hownW | exact World.ownsRow.alloc hownW _)) hk2 (by simp))
              | (go_split_ands; (refine step_append_empty (by rfl) _ _ 37 (by rfl) 46 _ 1 8 Try.underlying37 elemU _ (by rfl) _ (K.held sk).length (ints .u64 (K.held sk)) (by rfl) (by first | exact hsl | exact hsl.but ((Keeps.refl [] _).alloc _) (by simp)) (ints_one .u64 _) (by have := HFEW.out; omega) ?_); intro v5 w5 hs5 hk2 hf5; have hk45 := hk2; have own5 := owns_keeps (first_own (by first | exact own4 | exact World.ownsRow.alloc own4 _)) hk2 (by simp); obtain ⟨p5, c5, rfl⟩ := hs5.len)
              | (go_split_ands; (refine step_append_fresh (by rfl) _ _ 32 (by rfl) w.heap.size 78 _ 10 112 Try.underlying32 elemSeen _ gs.length (seenRows gs) (by rfl) (World.ownsRow.alloc own5 _) _ (seenCells ⟨K.want sk, K.res sk, K.held sk⟩ (.slice ql nl cl) (.slice p5 (K.held sk).length c5)) (by rfl) rfl (by simp [Value.oneCell']) (fun j u hu => by rw [World.cell?_alloc_at _ _ _ _ rfl, ← Array.getElem?_toList]; rw [HSC.out] at hu; exact hu) (by have := HGL.out; omega) (Nat.le_trans HBB.out (Keeps.size (S := L) (by assumption))) ?_); intro v7 w7 own7 k7 f7 ne7; rw [HL.out] at k7)))
        all_goals
          go_split_ands
          go_wp2_with fail
          go_meet
          exact SeenMid.mk HVW.out (by rw [HL.out]; assumption) hk45 hs5 hf5 own7 (by rw [HL.out]; exact k7) f7 ne7
      case rest =>
        have hnow : SeenNow K J s ts S0 w 78 k (.slice qv gs.length cv) wr S sk gs := ⟨HJ1.out, HO.out, HF.out, HG.out, HNONE.out, HK.out, HN.out, HVS.out⟩
        have hmid := hcut
        clear hcut
        have hkL : Keeps L W wc := by obtain ⟨_, _, _, _, _, h, _⟩ := hmid; rw [← HL.out]; exact h
        have hJc : J wc S sk := hR.frame HJ4.out hkL (fun k hk h => (HLM.out k h).2.2 hk) (fun k hk h => by have := HRO.out k h; have := (HLM.out k hk).1; omega)
        obtain ⟨hh, hn2⟩ := hnow.snoc hlt HSK.out HKK.out hJc (fun g hg => hR.lt HJ4.out g hg) ⟨_, _, _, rfl⟩ HRESL.out HFEW.out hmid
        have hKw : Keeps S0 w wc := hn2.keeps
        have hST := hR.stays sk
        clear hnow hkL hJc hmid hkeep hownW HL HLM HSC HKK HHeld HRESL HFEW HVW HBB HOW HN3 HJ4 HJ1 HO HF HG HNONE HK HN HVS HVLT HX HBW HRR HBR la lr na nb a0 a1 a2 a3 r0 r1 r2 hs1 hs2 hwr1 hwr
        have HN2 := Lib.hid hn2
        have HKW := Lib.hid hKw
        have HST := Lib.hid hST
        clear hn2 hKw hST
        by_cases hl2 : k < ts.length
        · have hsl : Sl wc 2 (.slice pt ts.length ct) ts.length (tolds ts) := HT.out.but0 HKW.out HTS.out
          obtain ⟨bt, ot, ct', he, hbt, hct⟩ := hsl.some (by omega)
          cases he
          obtain ⟨⟨tv, tw⟩, htk⟩ : ∃ t, ts[k]? = some t := ⟨_, List.getElem?_eq_getElem hl2⟩
          have hu : M.U tv := HV.out (tv, tw) (List.mem_of_getElem? htk)
          have t0 := hct (k * 2) _ (tolds_at ts k _ htk).1
          have t1 := hct (k * 2 + 1) _ (tolds_at ts k _ htk).2
          have t1' : wc.cell? ⟨bt, ot + k * 2 + 1, none⟩ = some (.bool tw) := by rw [← t1, Nat.add_assoc]
          have hgo : K.goes s (ts.take (k + 1)) = K.give sk tv tw := by
            rw [K.goes_succ s ts hl2, HSK.out]
            have := (List.getElem?_eq_some_iff.1 htk).2
            rw [this]
          have HGO := Lib.hid hgo
          have HGive := Lib.hid (fun W hI => hR.give W S sk tv tw hI hu)
          have i0 : (0 : Int) ≤ (k : Int) := by omega
          have i1 : (k : Int) < (ts.length : Int) := by omega
          clear hgo hsl hct hu htk t1
          go_wp2_with fail
          go_still_tail 11, (by kernel_rfl)
          change wpList _ _ _ _ _ wc.drew
          go_wp2_with fail
          refine (HGive.out wc.drew (hR.frame HN2.out.j (Keeps.refl [] wc).drew (by simp) (by simp))).mono ?_
          rintro e w7 ⟨rfl, S7, hI7, k7, n7⟩
          have HP := Lib.hid (show SeenInv K J s ts S0 w 78 (k + 1) u5 w7 from (HN2.out.give (HST.out tv tw) hI7 k7.undrew n7).inv HGO.out)
          clear hI7 k7 n7
          go_wp2
          go_roundw
          case rel => exact ⟨k + 1, by omega, by go_num, HP.out⟩
          case measure => simp [intOf]; omega
        · obtain rfl : k = ts.length := by omega
          have hgo : K.goes s (ts.take (ts.length + 1)) = sk := by
            rw [List.take_of_length_le (by omega)]
            have := HSK.out
            rwa [List.take_of_length_le (Nat.le_refl _)] at this
          have HP := Lib.hid (show SeenInv K J s ts S0 w 78 (ts.length + 1) u5 wc from HN2.out.inv hgo)
          clear hgo
          go_wp2
          go_roundw
          case rel => exact ⟨ts.length + 1, by omega, by go_num, HP.out⟩
          case measure => simp [intOf]
    · obtain rfl : k = ts.length + 1 := by omega
      go_wp2
      go_ret
      have hfull : (K.trace s ts).take (ts.length + 1) = K.trace s ts := List.take_of_length_le (by rw [K.trace_len]; exact Nat.le_refl _)
      exact ⟨_, rfl, seen_done HO.out (by omega) (by rw [HF.out, hfull]) HG.out (fun g hg => (HVLT.out g hg).1), HK.out⟩

theorem refPkNew_any (at_ kind key : Int) (w : World) (hk : pkKind kind) (hk2 : 0 ≤ key ∧ key < 4294967296) :
    Calls Try.prog 12 #[.int .i64 at_, .int .i64 kind, .int .u32 key] w fun e w' => ∃ p, e = .returned (.pointer (some ⟨p, 0, none⟩)) ∧ refPkJ p w' [p] (pkNew at_ kind key) ∧ Keeps [] w w' ∧ w.heap.size ≤ p := by
  obtain ⟨W0, hW0⟩ : ∃ W0, w.alloc (.cells #[.int .i64 at_, .int .i64 kind, .int .u32 key, .int .i64 1, .int .u64 0, .int .u64 0, .bool false, .int .i64 0, .int .u64 0, .slice none 0 0] 86) = W0 := ⟨_, rfl⟩
  have r0 : Row W0 w.heap.size 86 (pkCells ⟨at_, kind, key, 1, 0, 0, none⟩) := by rw [← hW0]; exact Row.new _ _ _
  have HK : Hid (Keeps [] w W0) := Lib.hid (by rw [← hW0]; exact (Keeps.refl _ _).alloc _)
  have HE := Lib.hid (refPkEnd_any w.heap.size _ 2 0 W0 r0)
  have HR0 := Lib.hid r0
  clear r0
  by_cases hr : pkRight at_
  · have HT : Hid (pkNew at_ kind key = ⟨at_, kind, key, 1, 0, 0, none⟩) := Lib.hid (by simp [pkNew, hr])
    have d0 : decide (at_ < 0) = false := decide_eq_false (by have := hr.1; omega)
    have d1 : decide (65535 < at_) = false := decide_eq_false (by have := hr.2; omega)
    clear hr
    go_enter Try.func12, Try.ntmps12
    go_wp2
    go_ret
    refine ⟨w.heap.size, rfl, ?_, HK.out, Nat.le_refl _⟩
    rw [HT.out]
    exact ⟨rfl, HR0.out, fun r h => by (cases h), hk, .inl rfl, hk2⟩
  · have HT : Hid (pkNew at_ kind key = ⟨at_, kind, key, 1, 0, 0, some ⟨2, 0, []⟩⟩) := Lib.hid (by simp [pkNew, hr])
    have dcase : decide (at_ < 0) = true ∨ (decide (at_ < 0) = false ∧ decide (65535 < at_) = true) := by
      by_cases h : at_ < 0
      · exact .inl (decide_eq_true h)
      · refine .inr ⟨decide_eq_false h, decide_eq_true ?_⟩
        unfold pkRight at hr; omega
    clear hr
    rcases dcase with d0 | ⟨d0, d1⟩
    all_goals (
      go_enter Try.func12, Try.ntmps12
      go_wp2_with fail
      refine HE.out.mono ?_
      rintro e w2 ⟨rfl, hr2, k2⟩
      have HQ := Lib.hid (⟨hr2, HK.out.step k2 (by simp)⟩ : _ ∧ _)
      clear hr2 k2 hW0
      go_wp2
      go_ret
      refine ⟨w.heap.size, rfl, ?_, HQ.out.2, Nat.le_refl _⟩
      rw [HT.out]
      exact ⟨rfl, HQ.out.1, fun r h => by (cases h; rfl), hk, .inl rfl, hk2⟩)
end Go.Proofs.Ytgononhihpkagaa
