import Derived.Test.YtjfgpplnlepnoaaGreatLcR
import Derived.Test.YtjfgpplnlepnoaaGreatRef7h
import Derived.Test.YtjfgpplnlepnoaaGreatRef8e
/-
  Contracts: the document's machine of a local row's walk goes as the machine of such a walk.
-/
namespace Go.Proofs.YtjfgpplnlepnoaaGreat
set_option maxRecDepth 100000
set_option linter.unusedSimpArgs false
set_option linter.unusedVariables false
open Go.ChangeShapes Go.WideShapes Go.ChangeAt Go.RowKit

theorem neq_ptr {P : Program} (w : World) (t e : TypeId) (p : Option Addr) (h : P.underlying t = some (.pointer e)) :
    (binOp .neq t (.pointer p) (.pointer none)).run P w = .ok (.bool (!p.isNone)) w := by
  have h : ∀ d : Nat, (Op.equalIn (d + 1) t (.pointer p) (.pointer none)).run P w = .ok p.isNone w := fun d => by
    cases p <;> simp [Op.equalIn, run_underlying h]
  simp only [binOp]
  simp [Op.equal, Op.maxDepth, h 9999]
def rcPtr (q : Nat) : Value := .pointer (some ⟨q, 0, none⟩)
def rcNil : Value := .pointer none
def rcCells (code : Int) (d r k : Value) : List Value := [.int .i64 code, d, r, rcNil, rcNil, rcNil, k]
@[reducible] def rcTy : TypeId := 100
/-- It was refused. -/
def rcOut (p : Nat) (w : World) (S : List Nat) (s : LcS) : Prop := S = [p] ∧ Row w p rcTy (rcCells 2 rcNil rcNil rcNil) ∧ lcM.res s = some ⟨2, 0, []⟩ ∧ lcM.want s = none ∧ lcM.held s = []
def rcIn (p : Nat) (w : World) (S : List Nat) : LcS → Prop
  | .dq s => ∃ q T, S = p :: T ∧ p ∉ T ∧ Row w p rcTy (rcCells 0 (rcPtr q) rcNil rcNil) ∧ refDqJ q w T s
  | .rg s => ∃ q T, S = p :: T ∧ p ∉ T ∧ Row w p rcTy (rcCells 0 rcNil (rcPtr q) rcNil) ∧ rfJ q w T s
  | .lk s => ∃ q T, S = p :: T ∧ p ∉ T ∧ Row w p rcTy (rcCells 0 rcNil rcNil (rcPtr q)) ∧ rkJ q w T s
def rcJ (p : Nat) (w : World) (S : List Nat) (s : LcS) : Prop := rcOut p w S s ∨ rcIn p w S s
theorem rk_frame {q : Nat} {w w' : World} {T A : List Nat} {s : LkS} (h : rkJ q w T s) (hk : Keeps A w w') (hT : ∀ k ∈ T, k ∉ A) : rkJ q w' T s :=
  ⟨h.1, h.2.1.keeps hk (hT q (by rw [h.1]; simp)), h.2.2.1, h.2.2.2⟩
set_option maxHeartbeats 1600000 in
theorem rc_want (p : Nat) (s : LcS) (w : World) (S : List Nat) (h : rcJ p w S s) :
    Calls Tryz.prog 57 #[.pointer (some ⟨p, 0, none⟩)] w fun e w' => e = .returned (.tuple #[((lcM.want s).getD zacc).val, .bool (lcM.want s).isSome]) ∧ Keeps [] w w' := by
  obtain ⟨W0, hW0⟩ : ∃ W0, w.alloc (.cells #[.int .i64 0, .int .i64 0, .int .u64 0, .int .u64 0] 107) = W0 := ⟨_, rfl⟩
  have k0 : Keeps [] w W0 := by rw [← hW0]; exact (Keeps.refl _ _).alloc _
  have r0 : Row W0 w.heap.size 107 [.int .i64 0, .int .i64 0, .int .u64 0, .int .u64 0] := by rw [← hW0]; exact Row.new _ _ _
  have n7 := fun (w : World) (p : Option Addr) => neq_ptr (P := Tryz.prog) w 93 _ p Tryz.underlying93
  have n8 := fun (w : World) (p : Option Addr) => neq_ptr (P := Tryz.prog) w 94 _ p Tryz.underlying94
  have n9 := fun (w : World) (p : Option Addr) => neq_ptr (P := Tryz.prog) w 95 _ p Tryz.underlying95
  have n10 := fun (w : World) (p : Option Addr) => neq_ptr (P := Tryz.prog) w 96 _ p Tryz.underlying96
  have n11 := fun (w : World) (p : Option Addr) => neq_ptr (P := Tryz.prog) w 97 _ p Tryz.underlying97
  have n13 := fun (w : World) (p : Option Addr) => neq_ptr (P := Tryz.prog) w 98 _ p Tryz.underlying98
  have fin : ∀ (x : C.Acc) (W : World), Keeps [] W0 W → Keeps [] w ((((W.setCell ⟨w.heap.size, 0, none⟩ (.int .i64 x.k)).setCell ⟨w.heap.size, 1, none⟩ (.int .i64 x.c)).setCell ⟨w.heap.size, 2, none⟩ (.int .u64 x.a)).setCell ⟨w.heap.size, 3, none⟩ (.int .u64 x.b)) := fun x W hW =>
    (k0.trans hW).step (S := [w.heap.size]) (((((Keeps.refl _ _).set (by simp) _ _).set (by simp) _ _).set (by simp) _ _).set (by simp) _ _) (by simp)
  have HF := Lib.hid fin
  have HR0 : Hid (∀ W, Keeps [] W0 W → Row W w.heap.size 107 [.int .i64 0, .int .i64 0, .int .u64 0, .int .u64 0]) := Lib.hid (fun W hk => r0.keeps hk (by simp))
  have q0 := r0.cell (j := 0) rfl
  have q1 := r0.cell (j := 1) rfl
  have q2 := r0.cell (j := 2) rfl
  have q3 := r0.cell (j := 3) rfl
  have e0 := r0.frozen 0
  have e1 := r0.frozen 1
  have e2 := r0.frozen 2
  have e3 := r0.frozen 3
  have hl0 := r0.lt
  clear fin r0
  rcases h with ⟨rfl, hrow, -, hwant, -⟩ | h
  · have HW : Hid (lcM.want s = none) := Lib.hid hwant
    rw [HW.out]
    have hr := hrow.keeps k0 (by simp)
    have c0 := hr.cell (j := 0) rfl
    have c1 := hr.cell (j := 1) rfl
    have c2 := hr.cell (j := 2) rfl
    have c3 := hr.cell (j := 3) rfl
    have c4 := hr.cell (j := 4) rfl
    have c5 := hr.cell (j := 5) rfl
    have c6 := hr.cell (j := 6) rfl
    unfold rcPtr rcNil at *
    clear hr hrow hwant k0
    go_enter Tryz.func57, Tryz.ntmps57
    go_wp2
    refine bodyPost_ret (v := .tuple #[zacc.val, .bool false]) (by simp [results, Tryz.results57, go_sem, q0, q1, q2, q3]) rfl ⟨rfl, ?_⟩
    exact HF.out zacc W0 (Keeps.refl _ _)
  · cases s with
    | dq s =>
      obtain ⟨q, T, rfl, hp, hrow, hj⟩ := h
      have hq := (refDqRuns q).want W0 T s ((refDqRuns q).frame hj k0 (by simp) (by simp))
      have hr := hrow.keeps k0 (by simp)
      have c0 := hr.cell (j := 0) rfl
      have c1 := hr.cell (j := 1) rfl
      have c2 := hr.cell (j := 2) rfl
      have c3 := hr.cell (j := 3) rfl
      have c4 := hr.cell (j := 4) rfl
      have c5 := hr.cell (j := 5) rfl
      have c6 := hr.cell (j := 6) rfl
      unfold rcPtr rcNil at *
      show Calls _ _ _ _ fun e w' => e = .returned (.tuple #[((dequeM.want s).getD zacc).val, .bool (dequeM.want s).isSome]) ∧ Keeps [] w w'
      obtain ⟨x, hx⟩ : ∃ x, (dequeM.want s).getD zacc = x := ⟨_, rfl⟩
      obtain ⟨b, hb⟩ : ∃ b, (dequeM.want s).isSome = b := ⟨_, rfl⟩
      rw [hx, hb] at hq ⊢
      have HQ := Lib.hid hq
      clear hq hj hr hrow hx hb k0
      go_enter Tryz.func57, Tryz.ntmps57
      go_wp2_with fail
      refine HQ.out.mono ?_
      rintro e w1 ⟨rfl, k1⟩
      clear q0 q1 q2 q3 e0 e1 e2 e3 hl0
      have r1 := HR0.out w1 k1
      have q0 := r1.cell (j := 0) rfl
      have q1 := r1.cell (j := 1) rfl
      have q2 := r1.cell (j := 2) rfl
      have q3 := r1.cell (j := 3) rfl
      have e0 := r1.frozen 0
      have e1 := r1.frozen 1
      have e2 := r1.frozen 2
      have e3 := r1.frozen 3
      have hl1 := r1.lt
      have HK1 := Lib.hid k1
      clear r1 k1
      go_wp2
      refine bodyPost_ret (v := .tuple #[x.val, .bool b]) (by simp [results, Tryz.results57, go_sem, q0, q1, q2, q3]) rfl ⟨rfl, ?_⟩
      exact HF.out x w1 HK1.out
    | rg s =>
      obtain ⟨q, T, rfl, hp, hrow, hj⟩ := h
      have hq := (rfRuns q).want W0 T s ((rfRuns q).frame hj k0 (by simp) (by simp))
      have hr := hrow.keeps k0 (by simp)
      have c0 := hr.cell (j := 0) rfl
      have c1 := hr.cell (j := 1) rfl
      have c2 := hr.cell (j := 2) rfl
      have c3 := hr.cell (j := 3) rfl
      have c4 := hr.cell (j := 4) rfl
      have c5 := hr.cell (j := 5) rfl
      have c6 := hr.cell (j := 6) rfl
      unfold rcPtr rcNil at *
      show Calls _ _ _ _ fun e w' => e = .returned (.tuple #[((ringM.want s).getD zacc).val, .bool (ringM.want s).isSome]) ∧ Keeps [] w w'
      obtain ⟨x, hx⟩ : ∃ x, (ringM.want s).getD zacc = x := ⟨_, rfl⟩
      obtain ⟨b, hb⟩ : ∃ b, (ringM.want s).isSome = b := ⟨_, rfl⟩
      rw [hx, hb] at hq ⊢
      have HQ := Lib.hid hq
      clear hq hj hr hrow hx hb k0
      go_enter Tryz.func57, Tryz.ntmps57
      go_wp2_with fail
      refine HQ.out.mono ?_
      rintro e w1 ⟨rfl, k1⟩
      clear q0 q1 q2 q3 e0 e1 e2 e3 hl0
      have r1 := HR0.out w1 k1
      have q0 := r1.cell (j := 0) rfl
      have q1 := r1.cell (j := 1) rfl
      have q2 := r1.cell (j := 2) rfl
      have q3 := r1.cell (j := 3) rfl
      have e0 := r1.frozen 0
      have e1 := r1.frozen 1
      have e2 := r1.frozen 2
      have e3 := r1.frozen 3
      have hl1 := r1.lt
      have HK1 := Lib.hid k1
      clear r1 k1
      go_wp2
      refine bodyPost_ret (v := .tuple #[x.val, .bool b]) (by simp [results, Tryz.results57, go_sem, q0, q1, q2, q3]) rfl ⟨rfl, ?_⟩
      exact HF.out x w1 HK1.out
    | lk s =>
      obtain ⟨q, T, rfl, hp, hrow, hj⟩ := h
      have hq := rk_want q s W0 T (rk_frame hj k0 (by simp))
      have hr := hrow.keeps k0 (by simp)
      have c0 := hr.cell (j := 0) rfl
      have c1 := hr.cell (j := 1) rfl
      have c2 := hr.cell (j := 2) rfl
      have c3 := hr.cell (j := 3) rfl
      have c4 := hr.cell (j := 4) rfl
      have c5 := hr.cell (j := 5) rfl
      have c6 := hr.cell (j := 6) rfl
      unfold rcPtr rcNil at *
      show Calls _ _ _ _ fun e w' => e = .returned (.tuple #[((lkM.want s).getD zacc).val, .bool (lkM.want s).isSome]) ∧ Keeps [] w w'
      obtain ⟨x, hx⟩ : ∃ x, (lkM.want s).getD zacc = x := ⟨_, rfl⟩
      obtain ⟨b, hb⟩ : ∃ b, (lkM.want s).isSome = b := ⟨_, rfl⟩
      rw [hx, hb] at hq ⊢
      have HQ := Lib.hid hq
      clear hq hj hr hrow hx hb k0
      go_enter Tryz.func57, Tryz.ntmps57
      go_wp2_with fail
      refine HQ.out.mono ?_
      rintro e w1 ⟨rfl, k1⟩
      clear q0 q1 q2 q3 e0 e1 e2 e3 hl0
      have r1 := HR0.out w1 k1
      have q0 := r1.cell (j := 0) rfl
      have q1 := r1.cell (j := 1) rfl
      have q2 := r1.cell (j := 2) rfl
      have q3 := r1.cell (j := 3) rfl
      have e0 := r1.frozen 0
      have e1 := r1.frozen 1
      have e2 := r1.frozen 2
      have e3 := r1.frozen 3
      have hl1 := r1.lt
      have HK1 := Lib.hid k1
      clear r1 k1
      go_wp2
      refine bodyPost_ret (v := .tuple #[x.val, .bool b]) (by simp [results, Tryz.results57, go_sem, q0, q1, q2, q3]) rfl ⟨rfl, ?_⟩
      exact HF.out x w1 HK1.out
set_option maxHeartbeats 1600000 in
theorem rc_over (p : Nat) (s : LcS) (w : World) (S : List Nat) (h : rcJ p w S s) :
    Calls Tryz.prog 58 #[.pointer (some ⟨p, 0, none⟩)] w fun e w' => ∃ q n c,
      e = .returned (.tuple #[.agg #[.int .i64 ((lcM.res s).getD Rs.zero).code, .int .u64 ((lcM.res s).getD Rs.zero).v, .slice q n c], .bool (lcM.res s).isSome]) ∧ Keeps [] w w' ∧
      ∀ r, lcM.res s = some r → Sl w' 1 (.slice q n c) r.l.length (ints .u64 r.l) ∧ r.l.length ≤ maxLen ∧ ∀ g, (Value.slice q n c).ownBlock = some g → g ∈ S ∨ w.heap.size ≤ g := by
  obtain ⟨W0, hW0⟩ : ∃ W0, w.alloc (.cells #[.int .i64 0, .int .u64 0, .slice none 0 0] 66) = W0 := ⟨_, rfl⟩
  have k0 : Keeps [] w W0 := by rw [← hW0]; exact (Keeps.refl _ _).alloc _
  have r0 : Row W0 w.heap.size 66 [.int .i64 0, .int .u64 0, .slice none 0 0] := by rw [← hW0]; exact Row.new _ _ _
  have n7 := fun (w : World) (p : Option Addr) => neq_ptr (P := Tryz.prog) w 93 _ p Tryz.underlying93
  have n8 := fun (w : World) (p : Option Addr) => neq_ptr (P := Tryz.prog) w 94 _ p Tryz.underlying94
  have n9 := fun (w : World) (p : Option Addr) => neq_ptr (P := Tryz.prog) w 95 _ p Tryz.underlying95
  have n10 := fun (w : World) (p : Option Addr) => neq_ptr (P := Tryz.prog) w 96 _ p Tryz.underlying96
  have n11 := fun (w : World) (p : Option Addr) => neq_ptr (P := Tryz.prog) w 97 _ p Tryz.underlying97
  have n13 := fun (w : World) (p : Option Addr) => neq_ptr (P := Tryz.prog) w 98 _ p Tryz.underlying98
  have fin : ∀ (x y z : Value) (W : World), Keeps [] W0 W → Keeps [] w (((W.setCell ⟨w.heap.size, 0, none⟩ x).setCell ⟨w.heap.size, 1, none⟩ y).setCell ⟨w.heap.size, 2, none⟩ z) := fun x y z W hW =>
    (k0.trans hW).step (S := [w.heap.size]) ((((Keeps.refl _ _).set (by simp) _ _).set (by simp) _ _).set (by simp) _ _) (by simp)
  have HF := Lib.hid fin
  have HR0 : Hid (∀ W, Keeps [] W0 W → Row W w.heap.size 66 [.int .i64 0, .int .u64 0, .slice none 0 0]) := Lib.hid (fun W hk => r0.keeps hk (by simp))
  have nilSl : ∀ (w' : World) (r : Rs) (S : List Nat), r.l = [] → Sl w' 1 (.slice none 0 0) r.l.length (ints .u64 r.l) ∧ r.l.length ≤ maxLen ∧ ∀ g, (Value.slice none 0 0).ownBlock = some g → g ∈ S ∨ w.heap.size ≤ g := fun w' r S e => by
    rw [e]
    exact ⟨⟨rfl, .inl ⟨_, _, rfl, rfl⟩⟩, Nat.zero_le _, fun g hg => by cases hg⟩
  have HNS := Lib.hid nilSl
  have q0 := r0.cell (j := 0) rfl
  have q1 := r0.cell (j := 1) rfl
  have q2 := r0.cell (j := 2) rfl
  have e0 := r0.frozen 0
  have e1 := r0.frozen 1
  have e2 := r0.frozen 2
  have hl0 := r0.lt
  clear fin r0 nilSl
  rcases h with ⟨rfl, hrow, hres, -, -⟩ | h
  · have HW : Hid (lcM.res s = some ⟨2, 0, []⟩) := Lib.hid hres
    rw [HW.out]
    have hr := hrow.keeps k0 (by simp)
    have c0 := hr.cell (j := 0) rfl
    have c1 := hr.cell (j := 1) rfl
    have c2 := hr.cell (j := 2) rfl
    have c3 := hr.cell (j := 3) rfl
    have c4 := hr.cell (j := 4) rfl
    have c5 := hr.cell (j := 5) rfl
    have c6 := hr.cell (j := 6) rfl
    unfold rcPtr rcNil at *
    clear hr hrow hres k0
    go_enter Tryz.func58, Tryz.ntmps58
    go_wp2
    refine bodyPost_ret (v := .tuple #[.agg #[.int .i64 2, .int .u64 0, .slice none 0 0], .bool true]) (by simp [results, Tryz.results58, go_sem, q0, q1, q2]) rfl ⟨none, 0, 0, rfl, ?_, fun r hr => HNS.out _ _ _ (by cases hr; rfl)⟩
    exact HF.out _ _ _ W0 (Keeps.refl _ _)
  · cases s with
    | dq s =>
      obtain ⟨q, T, rfl, hp, hrow, hj⟩ := h
      have hq := (refDqRuns q).over W0 T s ((refDqRuns q).frame hj k0 (by simp) (by simp))
      have hr := hrow.keeps k0 (by simp)
      have c0 := hr.cell (j := 0) rfl
      have c1 := hr.cell (j := 1) rfl
      have c2 := hr.cell (j := 2) rfl
      have c3 := hr.cell (j := 3) rfl
      have c4 := hr.cell (j := 4) rfl
      have c5 := hr.cell (j := 5) rfl
      have c6 := hr.cell (j := 6) rfl
      unfold rcPtr rcNil at *
      show Calls _ _ _ _ fun e w' => ∃ q n c, e = .returned (.tuple #[.agg #[.int .i64 ((dequeM.res s).getD Rs.zero).code, .int .u64 ((dequeM.res s).getD Rs.zero).v, .slice q n c], .bool (dequeM.res s).isSome]) ∧ Keeps [] w w' ∧
        ∀ r, dequeM.res s = some r → Sl w' 1 (.slice q n c) r.l.length (ints .u64 r.l) ∧ r.l.length ≤ maxLen ∧ ∀ g, (Value.slice q n c).ownBlock = some g → g ∈ p :: T ∨ w.heap.size ≤ g
      obtain ⟨x, hx⟩ : ∃ x, (dequeM.res s).getD Rs.zero = x := ⟨_, rfl⟩
      obtain ⟨b, hb⟩ : ∃ b, (dequeM.res s).isSome = b := ⟨_, rfl⟩
      rw [hx, hb] at hq ⊢
      have HQ := Lib.hid hq
      have hTlt : ∀ k ∈ T, k < w.heap.size := fun k hk => (refDqRuns q).lt hj k hk
      have HTl := Lib.hid hTlt
      have hz0 : W0.heap.size = w.heap.size + 1 := by rw [← hW0]; simp
      have HZ0 := Lib.hid hz0
      have HK0 := Lib.hid k0
      clear hq hj hr hrow hx hb k0 hTlt hz0
      go_enter Tryz.func58, Tryz.ntmps58
      go_wp2_with fail
      refine HQ.out.mono ?_
      rintro e w1 ⟨ql, nl, cl, rfl, k1, hl⟩
      clear q0 q1 q2 e0 e1 e2 hl0
      have r1 := HR0.out w1 k1
      have q0 := r1.cell (j := 0) rfl
      have q1 := r1.cell (j := 1) rfl
      have q2 := r1.cell (j := 2) rfl
      have e0 := r1.frozen 0
      have e1 := r1.frozen 1
      have e2 := r1.frozen 2
      have hl1 := r1.lt
      have HK1 := Lib.hid k1
      have HL1 := Lib.hid hl
      clear r1 k1 hl
      go_wp2
      refine bodyPost_ret (v := .tuple #[.agg #[.int .i64 x.code, .int .u64 x.v, .slice ql nl cl], .bool b]) (by simp [results, Tryz.results58, go_sem, q0, q1, q2]) rfl ⟨ql, nl, cl, rfl, HF.out _ _ _ w1 HK1.out, fun r hr => ?_⟩
      obtain ⟨z1, z2, z3⟩ := HL1.out r hr
      refine ⟨z1.but (S := [w.heap.size]) ((((Keeps.refl [w.heap.size] w1).set (by simp) _ _).set (by simp) _ _).set (by simp) _ _) (fun g hg => ?_), z2, fun g hg => ?_⟩
      · rcases z3 g hg with h | h
        · have := HTl.out g h; simp; omega
        · have := HZ0.out; simp; omega
      · rcases z3 g hg with h | h
        · exact .inl (List.mem_cons_of_mem _ h)
        · exact .inr (Nat.le_trans HK0.out.size h)
    | rg s =>
      obtain ⟨q, T, rfl, hp, hrow, hj⟩ := h
      have hq := (rfRuns q).over W0 T s ((rfRuns q).frame hj k0 (by simp) (by simp))
      have hr := hrow.keeps k0 (by simp)
      have c0 := hr.cell (j := 0) rfl
      have c1 := hr.cell (j := 1) rfl
      have c2 := hr.cell (j := 2) rfl
      have c3 := hr.cell (j := 3) rfl
      have c4 := hr.cell (j := 4) rfl
      have c5 := hr.cell (j := 5) rfl
      have c6 := hr.cell (j := 6) rfl
      unfold rcPtr rcNil at *
      show Calls _ _ _ _ fun e w' => ∃ q n c, e = .returned (.tuple #[.agg #[.int .i64 ((ringM.res s).getD Rs.zero).code, .int .u64 ((ringM.res s).getD Rs.zero).v, .slice q n c], .bool (ringM.res s).isSome]) ∧ Keeps [] w w' ∧
        ∀ r, ringM.res s = some r → Sl w' 1 (.slice q n c) r.l.length (ints .u64 r.l) ∧ r.l.length ≤ maxLen ∧ ∀ g, (Value.slice q n c).ownBlock = some g → g ∈ p :: T ∨ w.heap.size ≤ g
      obtain ⟨x, hx⟩ : ∃ x, (ringM.res s).getD Rs.zero = x := ⟨_, rfl⟩
      obtain ⟨b, hb⟩ : ∃ b, (ringM.res s).isSome = b := ⟨_, rfl⟩
      rw [hx, hb] at hq ⊢
      have HQ := Lib.hid hq
      have hTlt : ∀ k ∈ T, k < w.heap.size := fun k hk => (rfRuns q).lt hj k hk
      have HTl := Lib.hid hTlt
      have hz0 : W0.heap.size = w.heap.size + 1 := by rw [← hW0]; simp
      have HZ0 := Lib.hid hz0
      have HK0 := Lib.hid k0
      clear hq hj hr hrow hx hb k0 hTlt hz0
      go_enter Tryz.func58, Tryz.ntmps58
      go_wp2_with fail
      refine HQ.out.mono ?_
      rintro e w1 ⟨ql, nl, cl, rfl, k1, hl⟩
      clear q0 q1 q2 e0 e1 e2 hl0
      have r1 := HR0.out w1 k1
      have q0 := r1.cell (j := 0) rfl
      have q1 := r1.cell (j := 1) rfl
      have q2 := r1.cell (j := 2) rfl
      have e0 := r1.frozen 0
      have e1 := r1.frozen 1
      have e2 := r1.frozen 2
      have hl1 := r1.lt
      have HK1 := Lib.hid k1
      have HL1 := Lib.hid hl
      clear r1 k1 hl
      go_wp2
      refine bodyPost_ret (v := .tuple #[.agg #[.int .i64 x.code, .int .u64 x.v, .slice ql nl cl], .bool b]) (by simp [results, Tryz.results58, go_sem, q0, q1, q2]) rfl ⟨ql, nl, cl, rfl, HF.out _ _ _ w1 HK1.out, fun r hr => ?_⟩
      obtain ⟨z1, z2, z3⟩ := HL1.out r hr
      refine ⟨z1.but (S := [w.heap.size]) ((((Keeps.refl [w.heap.size] w1).set (by simp) _ _).set (by simp) _ _).set (by simp) _ _) (fun g hg => ?_), z2, fun g hg => ?_⟩
      · rcases z3 g hg with h | h
        · have := HTl.out g h; simp; omega
        · have := HZ0.out; simp; omega
      · rcases z3 g hg with h | h
        · exact .inl (List.mem_cons_of_mem _ h)
        · exact .inr (Nat.le_trans HK0.out.size h)
    | lk s =>
      obtain ⟨q, T, rfl, hp, hrow, hj⟩ := h
      have hj0 := rk_frame hj k0 (by simp)
      have hnl := hj.2.2.1
      have hr := hrow.keeps k0 (by simp)
      have c0 := hr.cell (j := 0) rfl
      have c1 := hr.cell (j := 1) rfl
      have c2 := hr.cell (j := 2) rfl
      have c3 := hr.cell (j := 3) rfl
      have c4 := hr.cell (j := 4) rfl
      have c5 := hr.cell (j := 5) rfl
      have c6 := hr.cell (j := 6) rfl
      unfold rcPtr rcNil at *
      have d5 := hj0.2.1.cell (j := 5) rfl
      have d6 := hj0.2.1.cell (j := 6) rfl
      have d7 := hj0.2.1.cell (j := 7) rfl
      have d8 := hj0.2.1.cell (j := 8) rfl
      show Calls _ _ _ _ fun e w' => ∃ q n c, e = .returned (.tuple #[.agg #[.int .i64 ((lkM.res s).getD Rs.zero).code, .int .u64 ((lkM.res s).getD Rs.zero).v, .slice q n c], .bool (lkM.res s).isSome]) ∧ Keeps [] w w' ∧
        ∀ r, lkM.res s = some r → Sl w' 1 (.slice q n c) r.l.length (ints .u64 r.l) ∧ r.l.length ≤ maxLen ∧ ∀ g, (Value.slice q n c).ownBlock = some g → g ∈ p :: T ∨ w.heap.size ≤ g
      obtain ⟨x, hx⟩ : ∃ x, s.over.getD Rs.zero = x := ⟨_, rfl⟩
      obtain ⟨b, hb⟩ : ∃ b, s.over.isSome = b := ⟨_, rfl⟩
      rw [hx] at d6 d7
      rw [hb] at d5
      rw [show (lkM.res s).getD Rs.zero = x from hx, show (lkM.res s).isSome = b from hb]
      have HNl : Hid (∀ r, lkM.res s = some r → r.l = []) := Lib.hid hnl
      clear hj hj0 hr hrow hx hb k0 hnl
      go_enter Tryz.func58, Tryz.ntmps58
      go_wp2
      first | go_region | skip
      go_wp2
      refine bodyPost_ret (v := .tuple #[.agg #[.int .i64 x.code, .int .u64 x.v, .slice none 0 0], .bool b]) (by simp [results, Tryz.results58, go_sem, q0, q1, q2]) rfl ⟨none, 0, 0, rfl, ?_, fun r hr => HNS.out _ _ _ (HNl.out r hr)⟩
      first | exact HF.out _ _ _ W0 (Keeps.refl _ _) | exact HF.out _ _ _ W0.drew ((Keeps.refl _ _).drew)
set_option maxHeartbeats 1600000 in
theorem rc_held (p : Nat) (s : LcS) (w : World) (S : List Nat) (h : rcJ p w S s) :
    Calls Tryz.prog 59 #[.pointer (some ⟨p, 0, none⟩)] w fun e w' => ∃ q c, e = .returned (.slice q (lcM.held s).length c) ∧ Sl w' 1 (.slice q (lcM.held s).length c) (lcM.held s).length (ints .u64 (lcM.held s)) ∧ Keeps [] w w' := by
  have n7 := fun (w : World) (p : Option Addr) => neq_ptr (P := Tryz.prog) w 93 _ p Tryz.underlying93
  have n8 := fun (w : World) (p : Option Addr) => neq_ptr (P := Tryz.prog) w 94 _ p Tryz.underlying94
  have n9 := fun (w : World) (p : Option Addr) => neq_ptr (P := Tryz.prog) w 95 _ p Tryz.underlying95
  have n10 := fun (w : World) (p : Option Addr) => neq_ptr (P := Tryz.prog) w 96 _ p Tryz.underlying96
  have n11 := fun (w : World) (p : Option Addr) => neq_ptr (P := Tryz.prog) w 97 _ p Tryz.underlying97
  have n13 := fun (w : World) (p : Option Addr) => neq_ptr (P := Tryz.prog) w 98 _ p Tryz.underlying98
  rcases h with ⟨rfl, hrow, -, -, hheld⟩ | h
  · have HW : Hid (lcM.held s = []) := Lib.hid hheld
    rw [HW.out]
    have hr := hrow
    have c0 := hr.cell (j := 0) rfl
    have c1 := hr.cell (j := 1) rfl
    have c2 := hr.cell (j := 2) rfl
    have c3 := hr.cell (j := 3) rfl
    have c4 := hr.cell (j := 4) rfl
    have c5 := hr.cell (j := 5) rfl
    have c6 := hr.cell (j := 6) rfl
    unfold rcPtr rcNil at *
    clear hr hrow hheld
    go_enter Tryz.func59, Tryz.ntmps59
    go_wp2
    go_ret
    exact ⟨none, 0, rfl, ⟨rfl, .inl ⟨_, _, rfl, rfl⟩⟩, Keeps.refl _ _⟩
  · cases s with
    | dq s =>
      obtain ⟨q, T, rfl, hp, hrow, hj⟩ := h
      have hq := (refDqRuns q).held w T s hj
      have hr := hrow
      have c0 := hr.cell (j := 0) rfl
      have c1 := hr.cell (j := 1) rfl
      have c2 := hr.cell (j := 2) rfl
      have c3 := hr.cell (j := 3) rfl
      have c4 := hr.cell (j := 4) rfl
      have c5 := hr.cell (j := 5) rfl
      have c6 := hr.cell (j := 6) rfl
      unfold rcPtr rcNil at *
      show Calls _ _ _ _ fun e w' => ∃ q c, e = .returned (.slice q (dequeM.held s).length c) ∧ Sl w' 1 (.slice q (dequeM.held s).length c) (dequeM.held s).length (ints .u64 (dequeM.held s)) ∧ Keeps [] w w'
      obtain ⟨l, hl⟩ : ∃ l, dequeM.held s = l := ⟨_, rfl⟩
      rw [hl] at hq ⊢
      have HQ := Lib.hid hq
      clear hq hj hr hrow hl
      go_enter Tryz.func59, Tryz.ntmps59
      go_wp2_with fail
      refine HQ.out.mono ?_
      rintro e w1 ⟨ql, cl, rfl, hs, k1⟩
      have HP := Lib.hid (⟨hs, k1⟩ : _ ∧ _)
      clear hs k1
      go_wp2
      go_ret
      exact ⟨ql, cl, rfl, HP.out⟩
    | rg s =>
      obtain ⟨q, T, rfl, hp, hrow, hj⟩ := h
      have hq := (rfRuns q).held w T s hj
      have hr := hrow
      have c0 := hr.cell (j := 0) rfl
      have c1 := hr.cell (j := 1) rfl
      have c2 := hr.cell (j := 2) rfl
      have c3 := hr.cell (j := 3) rfl
      have c4 := hr.cell (j := 4) rfl
      have c5 := hr.cell (j := 5) rfl
      have c6 := hr.cell (j := 6) rfl
      unfold rcPtr rcNil at *
      show Calls _ _ _ _ fun e w' => ∃ q c, e = .returned (.slice q (ringM.held s).length c) ∧ Sl w' 1 (.slice q (ringM.held s).length c) (ringM.held s).length (ints .u64 (ringM.held s)) ∧ Keeps [] w w'
      obtain ⟨l, hl⟩ : ∃ l, ringM.held s = l := ⟨_, rfl⟩
      rw [hl] at hq ⊢
      have HQ := Lib.hid hq
      clear hq hj hr hrow hl
      go_enter Tryz.func59, Tryz.ntmps59
      go_wp2_with fail
      refine HQ.out.mono ?_
      rintro e w1 ⟨ql, cl, rfl, hs, k1⟩
      have HP := Lib.hid (⟨hs, k1⟩ : _ ∧ _)
      clear hs k1
      go_wp2
      go_ret
      exact ⟨ql, cl, rfl, HP.out⟩
    | lk s =>
      obtain ⟨q, T, rfl, hp, hrow, hj⟩ := h
      have hr := hrow
      have c0 := hr.cell (j := 0) rfl
      have c1 := hr.cell (j := 1) rfl
      have c2 := hr.cell (j := 2) rfl
      have c3 := hr.cell (j := 3) rfl
      have c4 := hr.cell (j := 4) rfl
      have c5 := hr.cell (j := 5) rfl
      have c6 := hr.cell (j := 6) rfl
      unfold rcPtr rcNil at *
      show Calls _ _ _ _ fun e w' => ∃ q c, e = .returned (.slice q 0 c) ∧ Sl w' 1 (.slice q 0 c) 0 (ints .u64 []) ∧ Keeps [] w w'
      clear hr hrow hj
      go_enter Tryz.func59, Tryz.ntmps59
      go_wp2
      go_ret
      exact ⟨none, 0, rfl, ⟨rfl, .inl ⟨_, _, rfl, rfl⟩⟩, Keeps.refl _ _⟩
/-- Where a Give leads. -/
def rcG (p : Nat) (w : World) (S : List Nat) (s s' : LcS) (w' : World) : Prop := ∃ S', rcJ p w' S' s' ∧ Keeps (if (lcM.res s).isSome then [] else S) w w' ∧ ∀ k ∈ S', k ∈ S ∨ w.heap.size ≤ k
theorem lcM_ended {s : LcS} {v : Int} {won : Bool} {r : Rs} (h : lcM.res s = some r) : lcM.give s v won = s := by
  cases s with
  | dq s => have h : s.over = some r := h; show LcS.dq (dequeM.give s v won) = _; simp [dequeM, h]
  | rg s => have h : s.over = some r := h; show LcS.rg (ringM.give s v won) = _; simp [ringM, h]
  | lk s => have h : s.over = some r := h; show LcS.lk (lkM.give s v won) = _; simp [lkM, h]
set_option maxHeartbeats 1600000 in
theorem rc_give (p : Nat) (s : LcS) (w : World) (S : List Nat) (v : Int) (won : Bool) (h : rcJ p w S s) (hv : M.U v) :
    Calls Tryz.prog 60 #[.pointer (some ⟨p, 0, none⟩), .int .u64 v, .bool won] w fun e w' => e = .returned (.tuple #[]) ∧ rcG p w S s (lcM.give s v won) w' := by
  have n7 := fun (w : World) (p : Option Addr) => neq_ptr (P := Tryz.prog) w 93 _ p Tryz.underlying93
  have n8 := fun (w : World) (p : Option Addr) => neq_ptr (P := Tryz.prog) w 94 _ p Tryz.underlying94
  have n9 := fun (w : World) (p : Option Addr) => neq_ptr (P := Tryz.prog) w 95 _ p Tryz.underlying95
  have n10 := fun (w : World) (p : Option Addr) => neq_ptr (P := Tryz.prog) w 96 _ p Tryz.underlying96
  have n11 := fun (w : World) (p : Option Addr) => neq_ptr (P := Tryz.prog) w 97 _ p Tryz.underlying97
  have n13 := fun (w : World) (p : Option Addr) => neq_ptr (P := Tryz.prog) w 98 _ p Tryz.underlying98
  rcases h with h | h
  · have HJ := Lib.hid h
    obtain ⟨rfl, hrow, hres, -, -⟩ := h
    have HG : Hid (lcM.give s v won = s) := Lib.hid (lcM_ended hres)
    rw [HG.out]
    have hr := hrow
    have c0 := hr.cell (j := 0) rfl
    have c1 := hr.cell (j := 1) rfl
    have c2 := hr.cell (j := 2) rfl
    have c3 := hr.cell (j := 3) rfl
    have c4 := hr.cell (j := 4) rfl
    have c5 := hr.cell (j := 5) rfl
    have c6 := hr.cell (j := 6) rfl
    unfold rcPtr rcNil at *
    clear hr hrow hres hv
    go_enter Tryz.func60, Tryz.ntmps60
    go_wp2
    first | go_end0 | refine bodyPost_ret (results_none rfl _ _ _) rfl ?_ | skip
    exact ⟨rfl, [p], .inl HJ.out, Keeps.refl _ _, fun k hk => .inl hk⟩
  · cases s with
    | dq s =>
      obtain ⟨q, T, rfl, hp, hrow, hj⟩ := h
      have hq := (refDqRuns q).give w T s v won hj hv
      have HRow := Lib.hid hrow
      have HPT := Lib.hid hp
      have hplt := hrow.lt
      have hr := hrow
      have c0 := hr.cell (j := 0) rfl
      have c1 := hr.cell (j := 1) rfl
      have c2 := hr.cell (j := 2) rfl
      have c3 := hr.cell (j := 3) rfl
      have c4 := hr.cell (j := 4) rfl
      have c5 := hr.cell (j := 5) rfl
      have c6 := hr.cell (j := 6) rfl
      unfold rcPtr rcNil at *
      have HQ : Hid (Calls _ _ _ w fun e w' => e = .returned (.tuple #[]) ∧ ∃ S', refDqJ q w' S' (dequeM.give s v won) ∧ Keeps (if (dequeM.res s).isSome then [] else T) w w' ∧ ∀ k ∈ S', k ∈ T ∨ w.heap.size ≤ k) := Lib.hid hq
      clear hq hj hr hrow hv hp
      go_enter Tryz.func60, Tryz.ntmps60
      go_wp2_with fail
      refine HQ.out.mono ?_
      rintro e w1 ⟨rfl, S', hj1, k1, hS1⟩
      have kT : Keeps T w w1 := k1.mono (fun k hk _ => by split at hk; simp at hk; exact hk)
      have r1 := HRow.out.keeps kT HPT.out
      clear c0 c1 c2 c3 c4 c5 c6
      have hr := r1
      have c0 := hr.cell (j := 0) rfl
      have c1 := hr.cell (j := 1) rfl
      have c2 := hr.cell (j := 2) rfl
      have c3 := hr.cell (j := 3) rfl
      have c4 := hr.cell (j := 4) rfl
      have c5 := hr.cell (j := 5) rfl
      have c6 := hr.cell (j := 6) rfl
      unfold rcPtr rcNil at *
      have HP : Hid (rcG p w (p :: T) (.dq s) (lcM.give (.dq s) v won) w1) := Lib.hid ⟨p :: S', .inr ⟨q, S', rfl, fun h => by
        rcases hS1 p h with h | h
        · exact HPT.out h
        · omega, r1, hj1⟩, k1.mono (fun k hk _ => by
          split at hk
          · simp at hk
          · rename_i hn
            show k ∈ if _ then _ else _
            rw [if_neg (show ¬ ((lcM.res (.dq s)).isSome = true) from hn)]; exact List.mem_cons_of_mem _ hk), fun k hk => by
        rcases List.mem_cons.1 hk with rfl | hk
        · exact .inl (by simp)
        · exact (hS1 k hk).imp (List.mem_cons_of_mem _) id⟩
      clear r1 hr hj1 k1 hS1 kT
      go_wp2
      first | go_end0 | refine bodyPost_ret (results_none rfl _ _ _) rfl ?_ | skip
      exact ⟨rfl, HP.out⟩
    | rg s =>
      obtain ⟨q, T, rfl, hp, hrow, hj⟩ := h
      have hq := (rfRuns q).give w T s v won hj hv
      have HRow := Lib.hid hrow
      have HPT := Lib.hid hp
      have hplt := hrow.lt
      have hr := hrow
      have c0 := hr.cell (j := 0) rfl
      have c1 := hr.cell (j := 1) rfl
      have c2 := hr.cell (j := 2) rfl
      have c3 := hr.cell (j := 3) rfl
      have c4 := hr.cell (j := 4) rfl
      have c5 := hr.cell (j := 5) rfl
      have c6 := hr.cell (j := 6) rfl
      unfold rcPtr rcNil at *
      have HQ : Hid (Calls _ _ _ w fun e w' => e = .returned (.tuple #[]) ∧ ∃ S', rfJ q w' S' (ringM.give s v won) ∧ Keeps (if (ringM.res s).isSome then [] else T) w w' ∧ ∀ k ∈ S', k ∈ T ∨ w.heap.size ≤ k) := Lib.hid hq
      clear hq hj hr hrow hv hp
      go_enter Tryz.func60, Tryz.ntmps60
      go_wp2_with fail
      refine HQ.out.mono ?_
      rintro e w1 ⟨rfl, S', hj1, k1, hS1⟩
      have kT : Keeps T w w1 := k1.mono (fun k hk _ => by split at hk; simp at hk; exact hk)
      have r1 := HRow.out.keeps kT HPT.out
      clear c0 c1 c2 c3 c4 c5 c6
      have hr := r1
      have c0 := hr.cell (j := 0) rfl
      have c1 := hr.cell (j := 1) rfl
      have c2 := hr.cell (j := 2) rfl
      have c3 := hr.cell (j := 3) rfl
      have c4 := hr.cell (j := 4) rfl
      have c5 := hr.cell (j := 5) rfl
      have c6 := hr.cell (j := 6) rfl
      unfold rcPtr rcNil at *
      have HP : Hid (rcG p w (p :: T) (.rg s) (lcM.give (.rg s) v won) w1) := Lib.hid ⟨p :: S', .inr ⟨q, S', rfl, fun h => by
        rcases hS1 p h with h | h
        · exact HPT.out h
        · omega, r1, hj1⟩, k1.mono (fun k hk _ => by
          split at hk
          · simp at hk
          · rename_i hn
            show k ∈ if _ then _ else _
            rw [if_neg (show ¬ ((lcM.res (.rg s)).isSome = true) from hn)]; exact List.mem_cons_of_mem _ hk), fun k hk => by
        rcases List.mem_cons.1 hk with rfl | hk
        · exact .inl (by simp)
        · exact (hS1 k hk).imp (List.mem_cons_of_mem _) id⟩
      clear r1 hr hj1 k1 hS1 kT
      go_wp2
      first | go_end0 | refine bodyPost_ret (results_none rfl _ _ _) rfl ?_ | skip
      exact ⟨rfl, HP.out⟩
    | lk s =>
      obtain ⟨q, T, rfl, hp, hrow, hj⟩ := h
      have hq := rk_give q s w T v won hj hv
      have HRow := Lib.hid hrow
      have HPT := Lib.hid hp
      have hplt := hrow.lt
      have hr := hrow
      have c0 := hr.cell (j := 0) rfl
      have c1 := hr.cell (j := 1) rfl
      have c2 := hr.cell (j := 2) rfl
      have c3 := hr.cell (j := 3) rfl
      have c4 := hr.cell (j := 4) rfl
      have c5 := hr.cell (j := 5) rfl
      have c6 := hr.cell (j := 6) rfl
      unfold rcPtr rcNil at *
      have HQ : Hid (Calls _ _ _ w fun e w' => e = .returned (.tuple #[]) ∧ ∃ S', rkJ q w' S' (lkM.give s v won) ∧ Keeps (if (lkM.res s).isSome then [] else T) w w' ∧ ∀ k ∈ S', k ∈ T ∨ w.heap.size ≤ k) := Lib.hid hq
      clear hq hj hr hrow hv hp
      go_enter Tryz.func60, Tryz.ntmps60
      go_wp2_with fail
      refine HQ.out.mono ?_
      rintro e w1 ⟨rfl, S', hj1, k1, hS1⟩
      have kT : Keeps T w w1 := k1.mono (fun k hk _ => by split at hk; simp at hk; exact hk)
      have r1 := HRow.out.keeps kT HPT.out
      clear c0 c1 c2 c3 c4 c5 c6
      have hr := r1
      have c0 := hr.cell (j := 0) rfl
      have c1 := hr.cell (j := 1) rfl
      have c2 := hr.cell (j := 2) rfl
      have c3 := hr.cell (j := 3) rfl
      have c4 := hr.cell (j := 4) rfl
      have c5 := hr.cell (j := 5) rfl
      have c6 := hr.cell (j := 6) rfl
      unfold rcPtr rcNil at *
      have HP : Hid (rcG p w (p :: T) (.lk s) (lcM.give (.lk s) v won) w1) := Lib.hid ⟨p :: S', .inr ⟨q, S', rfl, fun h => by
        rcases hS1 p h with h | h
        · exact HPT.out h
        · omega, r1, hj1⟩, k1.mono (fun k hk _ => by
          split at hk
          · simp at hk
          · rename_i hn
            show k ∈ if _ then _ else _
            rw [if_neg (show ¬ ((lcM.res (.lk s)).isSome = true) from hn)]; exact List.mem_cons_of_mem _ hk), fun k hk => by
        rcases List.mem_cons.1 hk with rfl | hk
        · exact .inl (by simp)
        · exact (hS1 k hk).imp (List.mem_cons_of_mem _) id⟩
      clear r1 hr hj1 k1 hS1 kT
      go_wp2
      first | go_end0 | refine bodyPost_ret (results_none rfl _ _ _) rfl ?_ | skip
      exact ⟨rfl, HP.out⟩
theorem rcRuns (p : Nat) : RefRuns lcM (rcJ p) (fun _ => False) p 57 58 59 60 where
  lt := fun {w S s} h k hk => by
    rcases h with ⟨rfl, hrow, -⟩ | h
    · simp at hk; subst hk; exact hrow.lt
    · cases s with
      | dq s =>
        obtain ⟨q, T, rfl, -, hrow, hj⟩ := h
        rcases List.mem_cons.1 hk with rfl | hk
        · exact hrow.lt
        · exact (refDqRuns q).lt hj k hk
      | rg s =>
        obtain ⟨q, T, rfl, -, hrow, hj⟩ := h
        rcases List.mem_cons.1 hk with rfl | hk
        · exact hrow.lt
        · exact (rfRuns q).lt hj k hk
      | lk s =>
        obtain ⟨q, T, rfl, -, hrow, hj⟩ := h
        rcases List.mem_cons.1 hk with rfl | hk
        · exact hrow.lt
        · rw [hj.1] at hk; simp at hk; subst hk; exact hj.2.1.lt
  frame := fun {w w' S A s} h hk hT _ => by
    rcases h with ⟨rfl, hrow, h1⟩ | h
    · exact .inl ⟨rfl, hrow.keeps hk (hT p (by simp)), h1⟩
    · cases s with
      | dq s =>
        obtain ⟨q, T, rfl, h0, hrow, hj⟩ := h
        exact .inr ⟨q, T, rfl, h0, hrow.keeps hk (hT p (by simp)), (refDqRuns q).frame hj hk (fun k hk' => hT k (by simp [hk'])) (by simp)⟩
      | rg s =>
        obtain ⟨q, T, rfl, h0, hrow, hj⟩ := h
        exact .inr ⟨q, T, rfl, h0, hrow.keeps hk (hT p (by simp)), (rfRuns q).frame hj hk (fun k hk' => hT k (by simp [hk'])) (by simp)⟩
      | lk s =>
        obtain ⟨q, T, rfl, h0, hrow, hj⟩ := h
        exact .inr ⟨q, T, rfl, h0, hrow.keeps hk (hT p (by simp)), rk_frame hj hk (fun k hk' => hT k (by simp [hk']))⟩
  stays := fun s v won h => by
    obtain ⟨r, hr⟩ := Option.isSome_iff_exists.1 h
    rw [lcM_ended hr, hr]; rfl
  few := fun {w S s} h => by
    rcases h with ⟨-, -, -, -, h⟩ | h
    · rw [h]; simp
    · cases s with
      | dq s => obtain ⟨q, T, -, -, -, hj⟩ := h; exact (refDqRuns q).few hj
      | rg s => obtain ⟨q, T, -, -, -, hj⟩ := h; exact (rfRuns q).few hj
      | lk s => show ([] : List Int).length ≤ _; simp
  want := fun w S s h => rc_want p s w S h
  over := fun w S s h => rc_over p s w S h
  held := fun w S s h => rc_held p s w S h
  give := fun w S s v won h hv => rc_give p s w S v won h hv
set_option maxHeartbeats 3200000 in
set_option maxRecDepth 100000 in
theorem seen_part {σ : Type} (K : Mach σ) (J : World → List Nat → σ → Prop) (R : Nat → Prop) (p : Nat) (hR : RefRuns K J R p 57 58 59 60) (vt : Value) (s : σ) (ts : List (Int × Bool)) (S0 : List Nat) (w : World) (hJ : J w S0 s)
    (ht : Sl w 2 vt ts.length (tolds ts)) (htS : ts.length ≠ 0 → ∀ g, vt.ownBlock = some g → g ∉ S0) (hv : ∀ t ∈ ts, M.U t.1) (hn : ts.length ≤ 1000000) (hRo : ∀ k, R k → k < w.heap.size) :
    Calls Tryz.prog 19 #[.pointer (some ⟨p, 0, none⟩), vt] w fun e w' => ∃ v, e = .returned v ∧ SeenAt w' (fun k => k ∈ S0 ∨ w.heap.size ≤ k) v (K.trace s ts) ∧ Keeps S0 w w' := by
  obtain ⟨pt, ct, rfl⟩ := ht.len
  have HT := Lib.hid ht
  have HTS := Lib.hid htS
  have HV := Lib.hid hv
  have HJ := Lib.hid hJ
  have HRO := Lib.hid hRo
  clear ht htS hv hJ hRo
  go_enter Tryz.func19, Tryz.ntmps19
  go_wp2
  go_loopw [5, 6] (fun v i wr => ∃ k : Nat, k ≤ ts.length + 1 ∧ i = .int .i64 k ∧ SeenInv K J s ts S0 w 112 k v wr) (fun _ i _ => ts.length + 1 - (intOf i).toNat)
  case atStart =>
    refine ⟨0, Nat.zero_le _, rfl, S0, [], hR.frame HJ.out ((Keeps.refl [] w).alloc _) (by simp) (by simp), owns_empty w 112 10, rfl, by simp, by simp, (Keeps.refl _ _).alloc _, fun j h => .inl h, fun g hg => ?_⟩
    intro h
    have := hR.lt HJ.out g h
    simp [Value.ownBlock] at hg
    omega
  case round =>
    obtain ⟨k, hk, rfl, S, gs, hJ, ho, hf, hg, hnone, hK, hnew, hvS⟩ := hrel
    have hgl : gs.length = min k (ts.length + 1) := by rw [← K.trace_len s ts, ← List.length_take, ← hf, List.length_map]
    obtain ⟨qv, cv, rfl⟩ := (Sl.of_owns ho).len
    have hvlt := ho.lt
    have HO := Lib.hid ho
    have HF := Lib.hid hf
    have HG := Lib.hid hg
    have HNONE := Lib.hid hnone
    have HK := Lib.hid hK
    have HN := Lib.hid hnew
    have HVS := Lib.hid hvS
    have HJ1 := Lib.hid hJ
    have HVLT := Lib.hid hvlt
    clear hJ ho hf hg hnone hK hnew hvS hvlt
    by_cases hlt : k ≤ ts.length
    · have HGL : Hid (gs.length = k) := Lib.hid (by omega)
      clear hgl
      obtain ⟨sk, hsk⟩ : ∃ sk, K.goes s (ts.take k) = sk := ⟨_, rfl⟩
      have HSK := Lib.hid hsk
      rw [hsk] at HJ1 HNONE
      obtain ⟨x, hx⟩ : ∃ x, (K.want sk).getD zacc = x := ⟨_, rfl⟩
      obtain ⟨bw, hbw⟩ : ∃ bw, (K.want sk).isSome = bw := ⟨_, rfl⟩
      obtain ⟨rr, hrr⟩ : ∃ rr, (K.res sk).getD Rs.zero = rr := ⟨_, rfl⟩
      obtain ⟨br, hbr⟩ : ∃ br, (K.res sk).isSome = br := ⟨_, rfl⟩
      have HWant := hR.want wr S sk HJ1.out
      rw [hx, hbw] at HWant
      have HRes := fun w1 hI => hR.over w1 S sk hI
      rw [hrr, hbr] at HRes
      have HResH := Lib.hid HRes
      have HX := Lib.hid hx
      have HBW := Lib.hid hbw
      have HRR := Lib.hid hrr
      have HBR := Lib.hid hbr
      have hwr : wr.heap.size = wr.heap.size := rfl
      clear hsk hx hbw hrr hbr HRes
      go_wp2_with fail
      refine HWant.mono ?_
      clear HWant
      rintro e w1 ⟨rfl, k1⟩
      have HJ2 := Lib.hid (hR.frame HJ1.out k1 (by simp) (by simp))
      have HK1 := Lib.hid k1
      have hs1 := k1.size
      clear k1
      obtain ⟨W1, hW1⟩ : ∃ W1, w1.alloc (.cells #[.int .i64 x.k, .int .i64 x.c, .int .u64 x.a, .int .u64 x.b] 107) = W1 := ⟨_, rfl⟩
      have hb1 : Box W1 w1.heap.size #[.int .i64 x.k, .int .i64 x.c, .int .u64 x.a, .int .u64 x.b] := by rw [← hW1]; exact Box.new _ _ _
      have hk1 : Keeps [] w1 W1 := by rw [← hW1]; exact (Keeps.refl _ _).alloc _
      have HB1 := Lib.hid hb1
      have HK1' := Lib.hid hk1
      have HJ3 := Lib.hid (hR.frame HJ2.out hk1 (by simp) (by simp))
      clear hb1 hk1 HJ2
      go_wp2_with fail
      clear hW1
      refine (HResH.out _ HJ3.out).mono ?_
      rintro e w2 ⟨ql, nl, cl, rfl, k2, hres⟩
      obtain ⟨W, hW⟩ : ∃ W, w2.alloc (.cells #[.int .i64 rr.code, .int .u64 rr.v, .slice ql nl cl] 66) = W := ⟨_, rfl⟩
      have hb2 : Box W w2.heap.size #[.int .i64 rr.code, .int .u64 rr.v, .slice ql nl cl] := by rw [← hW]; exact Box.new _ _ _
      have hk2 : Keeps [] w2 W := by rw [← hW]; exact (Keeps.refl _ _).alloc _
      have hbA : Box W w1.heap.size #[.int .i64 x.k, .int .i64 x.c, .int .u64 x.a, .int .u64 x.b] := (HB1.out.keeps k2 (by simp)).keeps hk2 (by simp)
      have hkk : Keeps [] wr W := ((HK1.out.trans HK1'.out).trans k2).trans hk2
      have HRESL : Hid (∀ r, K.res sk = some r → Sl W 1 (.slice ql nl cl) r.l.length (ints .u64 r.l) ∧ r.l.length ≤ maxLen ∧ ∀ g, (Value.slice ql nl cl).ownBlock = some g → g ∈ S ∨ wr.heap.size ≤ g) := Lib.hid fun r hr =>
        ⟨(hres r hr).1.but hk2 (by simp), (hres r hr).2.1, fun g hg => ((hres r hr).2.2 g hg).imp id (fun h => Nat.le_trans (Nat.le_trans HK1.out.size HK1'.out.size) h)⟩
      go_upto_region 7 with (fail)
      have a0 := hbA.cells 0
      have a1 := hbA.cells 1
      have a2 := hbA.cells 2
      have a3 := hbA.cells 3
      have r0 := hb2.cells 0
      have r1 := hb2.cells 1
      have r2 := hb2.cells 2
      have la := hbA.lt
      have lr := hb2.lt
      have HJ4 := Lib.hid (hR.frame HJ3.out (k2.trans hk2) (by simp) (by simp))
      have HOW := Lib.hid (owns_keeps HO.out hkk (by simp))
      have HKK := Lib.hid hkk
      have hs2 : w1.heap.size ≤ w2.heap.size := Nat.le_trans HK1'.out.size k2.size
      clear hbA hb2 hk2 k2 hres HB1 HJ3 HK1 HK1' HResH hkk hW
      simp at a0 a1 a2 a3 r0 r1 r2
      have HSC : Hid (∀ h, seenCells ⟨K.want sk, K.res sk, K.held sk⟩ (.slice ql nl cl) h = [.int .i64 x.k, .int .i64 x.c, .int .u64 x.a, .int .u64 x.b, .bool bw, .int .i64 rr.code, .int .u64 rr.v, .slice ql nl cl, .bool br, h]) := Lib.hid fun h => by
        unfold seenCells; simp only [HX.out, HBW.out, HRR.out, HBR.out]
      obtain ⟨L, hL⟩ : ∃ L, (Value.slice qv gs.length cv).ownBlock.toList = L := ⟨_, rfl⟩
      have hLm : ∀ g ∈ L, w.heap.size ≤ g ∧ g < wr.heap.size ∧ g ∉ S := fun g hg => by
        rw [← hL] at hg
        have e : (Value.slice qv gs.length cv).ownBlock = some g := by simpa using hg
        exact ⟨(HVLT.out g e).1, (HVLT.out g e).2, HVS.out g e⟩
      have hwr1 : wr.heap.size ≤ w1.heap.size := hs1
      have na : w1.heap.size ∉ L := fun h => by have := (hLm _ h).2.1; omega
      have nb : w2.heap.size ∉ L := fun h => by have := (hLm _ h).2.1; omega
      have HL := Lib.hid hL
      have HLM := Lib.hid hLm
      clear hL
      have hHeld : ∀ W', Keeps L W W' → Calls Tryz.prog 59 #[.pointer (some ⟨p, 0, none⟩)] W' fun e w' => ∃ q c, e = .returned (.slice q (K.held sk).length c) ∧ Sl w' 1 (.slice q (K.held sk).length c) (K.held sk).length (ints .u64 (K.held sk)) ∧ Keeps [] W' w' :=
        fun W' hW' => hR.held W' S sk (hR.frame HJ4.out hW' (fun k hk h => (hLm k h).2.2 hk) (fun k hk h => by have := HRO.out k h; have := (hLm k hk).1; omega))
      have HHeld := Lib.hid hHeld
      have HVW : Hid (∀ g, (Value.slice qv gs.length cv).ownBlock = some g → g < W.heap.size) := Lib.hid fun g hg => (HOW.out.lt g hg).2
      have HFEW := Lib.hid (hR.few HJ4.out)
      have HBB : Hid (w.heap.size ≤ W.heap.size) := Lib.hid (Nat.le_trans HK.out.size HKK.out.size)
      obtain ⟨N, hN⟩ : ∃ N, W.heap.size = N := ⟨_, rfl⟩
      rw [hN] at la lr
      have HN3 := Lib.hid hN
      clear hN hHeld hLm
      have hkeep : Keeps L W W := Keeps.refl _ _
      have hownW := HOW.out
      go_cut [5] from 12 to 55 (fun v w' => SeenMid W w.heap.size 112 (.slice qv gs.length cv) gs.length (seenRows gs) ⟨K.want sk, K.res sk, K.held sk⟩ (.slice ql nl cl) v w')
      case first =>
        have hcell : ∀ b o, b < N → b ∉ L → W.cell? ⟨b, o, none⟩ = W.cell? ⟨b, o, none⟩ := fun _ _ _ _ => rfl
        (go_region_held3 (fun w' => Keeps L W w' ∧ ∀ b o, b < N → b ∉ L → w'.cell? ⟨b, o, none⟩ = W.cell? ⟨b, o, none⟩)
            (first
              | exact ⟨by assumption, by assumption⟩
              | exact heldOf HN3.out (Keeps.drew (by assumption))
              | (go_split_ands; exact heldOf HN3.out (Keeps.alloc (by assumption) _))
              | (go_split_ands; exact heldOf HN3.out (Keeps.trans (by assumption) hk2.nil))
              | (go_split_ands; exact heldOf HN3.out (Keeps.trans (by assumption) k7)))
            (first
              | (go_at_call 59; go_split_ands; refine (HHeld.out _ (by assumption)).mono ?_; rintro e w4 ⟨qh, ch, rfl, hsl, hk2⟩; have own4 := owns_keeps (first_own (by first | exact hownW | exact World.ownsRow.alloc hownW _)) hk2 (by simp))
              | (go_split_ands; (refine step_append_empty (by rfl) _ _ 46 (by rfl) 26 _ 1 8 Tryz.underlying46 elemU _ (by rfl) _ (K.held sk).length (ints .u64 (K.held sk)) (by rfl) (by first | exact hsl | exact hsl.but ((Keeps.refl [] _).alloc _) (by simp)) (ints_one .u64 _) (by have := HFEW.out; omega) ?_); intro v5 w5 hs5 hk2 hf5; have hk45 := hk2; have own5 := owns_keeps (first_own (by first | exact own4 | exact World.ownsRow.alloc own4 _)) hk2 (by simp); obtain ⟨p5, c5, rfl⟩ := hs5.len)
              | (go_split_ands; (refine step_append_fresh (by rfl) _ _ 43 (by rfl) w.heap.size 112 _ 10 112 Tryz.underlying43 elemSeen _ gs.length (seenRows gs) (by rfl) (World.ownsRow.alloc own5 _) _ (seenCells ⟨K.want sk, K.res sk, K.held sk⟩ (.slice ql nl cl) (.slice p5 (K.held sk).length c5)) (by rfl) rfl (by simp [Value.oneCell']) (fun j u hu => by rw [World.cell?_alloc_at _ _ _ _ rfl, ← Array.getElem?_toList]; rw [HSC.out] at hu; exact hu) (by have := HGL.out; omega) (Nat.le_trans HBB.out (Keeps.size (S := L) (by assumption))) ?_); intro v7 w7 own7 k7 f7 ne7; rw [HL.out] at k7)))
        all_goals
          go_split_ands
          go_wp2_with fail
          go_meet
          exact SeenMid.mk HVW.out (by rw [HL.out]; assumption) hk45 hs5 hf5 own7 (by rw [HL.out]; exact k7) f7 ne7
      case rest =>
        have hnow : SeenNow K J s ts S0 w 112 k (.slice qv gs.length cv) wr S sk gs := ⟨HJ1.out, HO.out, HF.out, HG.out, HNONE.out, HK.out, HN.out, HVS.out⟩
        have hmid := hcut
        clear hcut
        have hkL : Keeps L W wc := by obtain ⟨_, _, _, _, _, h, _⟩ := hmid; rw [← HL.out]; exact h
        have hJc : J wc S sk := hR.frame HJ4.out hkL (fun k hk h => (HLM.out k h).2.2 hk) (fun k hk h => by have := HRO.out k h; have := (HLM.out k hk).1; omega)
        obtain ⟨hh, hn2⟩ := hnow.snoc hlt HSK.out HKK.out hJc (fun g hg => hR.lt HJ4.out g hg) ⟨_, _, _, rfl⟩ HRESL.out HFEW.out hmid
        have hKw : Keeps S0 w wc := hn2.keeps
        have hST := hR.stays sk
        clear hnow hkL hJc hmid hkeep hownW HL HLM HSC HKK HHeld HRESL HFEW HVW HBB HOW HN3 HJ4 HJ1 HO HF HG HNONE HK HN HVS HVLT HX HBW HRR HBR la lr na nb a0 a1 a2 a3 r0 r1 r2 hs1 hs2 hwr1 hwr
        have HN2 := Lib.hid hn2
        have HKW := Lib.hid hKw
        have HST := Lib.hid hST
        clear hn2 hKw hST
        by_cases hl2 : k < ts.length
        · have hsl : Sl wc 2 (.slice pt ts.length ct) ts.length (tolds ts) := HT.out.but0 HKW.out HTS.out
          obtain ⟨bt, ot, ct', he, hbt, hct⟩ := hsl.some (by omega)
          cases he
          obtain ⟨⟨tv, tw⟩, htk⟩ : ∃ t, ts[k]? = some t := ⟨_, List.getElem?_eq_getElem hl2⟩
          have hu : M.U tv := HV.out (tv, tw) (List.mem_of_getElem? htk)
          have t0 := hct (k * 2) _ (tolds_at ts k _ htk).1
          have t1 := hct (k * 2 + 1) _ (tolds_at ts k _ htk).2
          have t1' : wc.cell? ⟨bt, ot + k * 2 + 1, none⟩ = some (.bool tw) := by rw [← t1, Nat.add_assoc]
          have hgo : K.goes s (ts.take (k + 1)) = K.give sk tv tw := by
            rw [K.goes_succ s ts hl2, HSK.out]
            have := (List.getElem?_eq_some_iff.1 htk).2
            rw [this]
          have HGO := Lib.hid hgo
          have HGive := Lib.hid (fun W hI => hR.give W S sk tv tw hI hu)
          have i0 : (0 : Int) ≤ (k : Int) := by omega
          have i1 : (k : Int) < (ts.length : Int) := by omega
          clear hgo hsl hct hu htk t1
          go_wp2_with fail
          go_still_tail 11, (by kernel_rfl)
          change wpList _ _ _ _ _ wc.drew
          go_wp2_with fail
          refine (HGive.out wc.drew (hR.frame HN2.out.j (Keeps.refl [] wc).drew (by simp) (by simp))).mono ?_
          rintro e w7 ⟨rfl, S7, hI7, k7, n7⟩
          have HP := Lib.hid (show SeenInv K J s ts S0 w 112 (k + 1) u5 w7 from (HN2.out.give (HST.out tv tw) hI7 k7.undrew n7).inv HGO.out)
          clear hI7 k7 n7
          go_wp2
          go_roundw
          case rel => exact ⟨k + 1, by omega, by go_num, HP.out⟩
          case measure => simp [intOf]; omega
        · obtain rfl : k = ts.length := by omega
          have hgo : K.goes s (ts.take (ts.length + 1)) = sk := by
            rw [List.take_of_length_le (by omega)]
            have := HSK.out
            rwa [List.take_of_length_le (Nat.le_refl _)] at this
          have HP := Lib.hid (show SeenInv K J s ts S0 w 112 (ts.length + 1) u5 wc from HN2.out.inv hgo)
          clear hgo
          go_wp2
          go_roundw
          case rel => exact ⟨ts.length + 1, by omega, by go_num, HP.out⟩
          case measure => simp [intOf]
    · obtain rfl : k = ts.length + 1 := by omega
      go_wp2
      go_ret
      have hfull : (K.trace s ts).take (ts.length + 1) = K.trace s ts := List.take_of_length_le (by rw [K.trace_len]; exact Nat.le_refl _)
      exact ⟨_, rfl, seen_done HO.out (by omega) (by rw [HF.out, hfull]) HG.out (fun g hg => (HVLT.out g hg).1), HK.out⟩

end Go.Proofs.YtjfgpplnlepnoaaGreat
