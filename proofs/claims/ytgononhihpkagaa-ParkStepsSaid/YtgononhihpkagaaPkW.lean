/-
  Contracts: what the walks of a parker do at each of their steps.
-/
import Derived.Test.YtgononhihpkagaaMach
import Derived.Test.YtgononhihpkagaaAcc
import Derived.Test.YtgononhihpkagaaWord
import Derived.Test.YtgononhihpkagaaPkM
import Derived.Test.YtgononhihpkagaaDraw
import Derived.StillTailTactics
namespace Go.Proofs.Ytgononhihpkagaa
set_option maxRecDepth 100000
set_option linter.unusedSimpArgs false
set_option linter.unusedVariables false
open Go.ChangeShapes Go.WideShapes Go.ChangeAt Go.RowKit

/-- What one who waits knows. -/
def tPk (m : Nat) (at_ key waited : Int) : List Value := [.pointer (some ⟨m, 0, none⟩), .int .i64 at_, .int .u32 key, .int .u64 waited]

set_option maxHeartbeats 800000 in
theorem pkLast1_any (F : FuncId) (ca : Array Value) (m bv bf : Nat) (at_ u r : Int) (won : Bool) (st : WSt) (w : World) (hw : Wk w m st) (hb : Box w bv #[.pointer (some ⟨m, 0, none⟩), .int .i64 at_]) (hf : Box w bf #[.func (.func F) #[] ca]) (ho : st.over = false) (hu : 0 < st.under) (hU : M.U u)
    (hcf : ∀ args w, (callFunc F args).run Try.prog w = .ok (.enter F args) w)
    (hF : ∀ W, Keeps [] w W → Calls Try.prog F (#[.int .u32 (u / 4294967296), .int .u32 (u % 4294967296)] ++ ca) W fun e w' => e = .returned (.int .u64 r) ∧ W = w') :
    Calls Try.prog 59 #[.int .u64 u, .bool won, .pointer (some ⟨bv, 0, none⟩), .pointer (some ⟨bf, 0, none⟩)] w fun e w' => e = .returned (.tuple #[]) ∧ ∃ l',
      Wk w' m { st with nxt := .nilFunc, after := .nilFunc, over := true, code := 0, v := r, l := l' } ∧ w'.ownsRow w.heap.size 46 1 l' 0 [] ∧ Keeps [m] w w' := by
  have HE := Lib.hid (fun W h => wEnd m st 0 r (.slice none 0 0) 0 [] W h ho (.inl hu) ⟨rfl, .inl ⟨_, _, rfl, rfl⟩⟩ (fun g hg => by cases hg) (by omega))
  have HS := Lib.hid (fun W => split_any u W hU.nn hU)
  have HF := Lib.hid hF
  have HW := Lib.hid hw
  have c0 := hb.cells 0
  have c1 := hf.cells 0
  simp at c0 c1
  clear hw hb hf ho hu hU hF
  go_enter Try.func59, Try.ntmps59
  go_wp2_with fail
  refine wp_region_mid 9 (by kernel_rfl) (by kernel_rfl) ?_
  simp only [List.take_succ_cons, List.take_zero, List.drop_succ_cons, List.drop_zero]
  repeat still_step
  still_call (stillOf (HS.out _))
  repeat still_step
  still_call (stillOf (HF.out _ ((Keeps.refl _ _).drew)))
  repeat still_step
  refine wpStill_nil ?_
  go_wp2_with fail
  refine (HE.out _ (HW.out.keeps ((Keeps.refl [] w).drew) (by simp))).mono ?_
  rintro e w1 ⟨rfl, l', hw, ho, hk⟩
  have HP := Lib.hid (⟨hw, ho, hk⟩ : _ ∧ _ ∧ _)
  clear hw ho hk
  go_wp2
  show wpStill _ _ _ _ _ _
  repeat still_step
  refine wpStill_nil ?_
  go_wp2
  first | go_end0 | refine bodyPost_ret (results_none rfl _ _ _) rfl ?_
  exact ⟨rfl, _, HP.out.1, HP.out.2.1, HP.out.2.2.undrew⟩

theorem pkPrepared (a b : Int) (w : World) (h0 : 0 ≤ a) (h1 : a < 4294967296) : Calls Try.prog 27 (#[.int .u32 a, .int .u32 b] ++ #[]) w fun e w' => e = .returned (.int .u64 a) ∧ w = w' := by
  go_enter Try.func27, Try.ntmps27
  go_wp2
  go_ret
  exact ⟨rfl, rfl⟩
theorem pkGaveUp (a b : Int) (w : World) (h0 : 0 ≤ a) (h1 : a < 4294967296) : Calls Try.prog 30 (#[.int .u32 a, .int .u32 b] ++ #[]) w fun e w' => e = .returned (.int .u64 a) ∧ w = w' := by
  go_enter Try.func30, Try.ntmps30
  go_wp2
  go_ret
  exact ⟨rfl, rfl⟩
theorem pk_low (b : Int) (h0 : 0 ≤ b) (h1 : b < 4294967296) : bits .and .u32 b 1 = b % 2 := by
  obtain ⟨n, rfl⟩ := Int.eq_ofNat_of_zero_le h0
  have h := u32_and_nat n 1 (by omega) (by decide)
  rw [Nat.and_one_is_mod] at h
  rw [show (1 : Int) = ((1 : Nat) : Int) from rfl, h]; rfl
theorem pkCalled (a b : Int) (w : World) (h0 : 0 ≤ b) (h1 : b < 4294967296) : Calls Try.prog 35 (#[.int .u32 a, .int .u32 b] ++ #[]) w fun e w' => e = .returned (.int .u64 (b % 2)) ∧ w = w' := by
  have hl := pk_low b h0 h1
  have hw : IntKind.u64.wrap (b % 2) = b % 2 := by rw [IntKind.wrap_u64]; omega
  go_enter Try.func35, Try.ntmps35
  go_wp2
  go_ret
  exact ⟨by first | rfl | (simp only [hl, hw]; rfl), rfl⟩
theorem pkRead1 (a b key waited at_ : Int) (m p bw : Nat) (e : TypeId) (w : World) (hb : Box w bw #[.pointer (some ⟨p, 0, none⟩)]) (hp : Row w p e (tPk m at_ key waited)) :
    Calls Try.prog 74 (#[.int .u32 a, .int .u32 b] ++ #[.pointer (some ⟨bw, 0, none⟩)]) w fun e w' => e = .returned (.int .u64 waited) ∧ w = w' := by
  have c0 := hb.cells 0
  simp at c0
  have c3 := hp.cell (j := 3) rfl
  clear hb hp
  go_enter Try.func74, Try.ntmps74
  go_wp2
  go_ret
  exact ⟨rfl, rfl⟩

set_option maxHeartbeats 800000 in
/-- The last access is asked for. -/
theorem pkLast_any (F : FuncId) (ca : Array Value) (m : Nat) (at_ kind a : Int) (st : WSt) (w : World) (hw : Wk w m st) (ho : st.over = false) (hs : st.sub = none) :
    Calls Try.prog 26 #[.agg #[.pointer (some ⟨m, 0, none⟩), .int .i64 at_], .int .i64 kind, .int .u64 a, .func (.func F) #[] ca] w fun e w' => e = .returned (.tuple #[]) ∧ ∃ bv bf,
      Wk w' m { st with x := ⟨kind, at_, a, 0⟩, nxt := .func (.func 59) #[] #[.pointer (some ⟨bv, 0, none⟩), .pointer (some ⟨bf, 0, none⟩)], sub := none, after := .nilFunc } ∧
      Box w' bv #[.pointer (some ⟨m, 0, none⟩), .int .i64 at_] ∧ Box w' bf #[.func (.func F) #[] ca] ∧ w.heap.size ≤ bv ∧ w.heap.size ≤ bf ∧ Keeps [m] w w' := by
  obtain ⟨W1, hW1⟩ : ∃ W1, (w.alloc (.cells #[.pointer (some ⟨m, 0, none⟩), .int .i64 at_] 64)).alloc (.cells #[.func (.func F) #[] ca] 103) = W1 := ⟨_, rfl⟩
  have hb : Box W1 w.heap.size #[.pointer (some ⟨m, 0, none⟩), .int .i64 at_] := by rw [← hW1]; exact (Box.new _ _ _).alloc _
  have hb1 : Box W1 (w.heap.size + 1) #[.func (.func F) #[] ca] := by rw [← hW1]; have := Box.new (w.alloc (.cells #[.pointer (some ⟨m, 0, none⟩), .int .i64 at_] 64)) #[.func (.func F) #[] ca] 103; simpa using this
  have hk1 : Keeps [] w W1 := by rw [← hW1]; exact ((Keeps.refl _ _).alloc _).alloc _
  have HE := Lib.hid (fun W h => wAsk m st ⟨kind, at_, a, 0⟩ (.func 59) #[] #[.pointer (some ⟨w.heap.size, 0, none⟩), .pointer (some ⟨w.heap.size + 1, 0, none⟩)] W h hs ho)
  have HW := Lib.hid (hw.keeps hk1 (by simp))
  have c0 := hb.cells 0
  have c1 := hb.cells 1
  have c2 := hb1.cells 0
  simp at c0 c1 c2
  have hm := hw.lt
  have HB := Lib.hid (⟨hb, hb1, hk1⟩ : _ ∧ _ ∧ _)
  clear hb hb1 hk1 hw ho hs
  go_enter Try.func26, Try.ntmps26
  go_wp2_with fail
  refine (HE.out _ HW.out).mono ?_
  rintro e w1 ⟨rfl, hw, hk⟩
  have HP := Lib.hid (⟨hw, HB.out.1.keeps hk (by simp; omega), HB.out.2.1.keeps hk (by simp; omega), HB.out.2.2.nil.trans hk⟩ : _ ∧ _ ∧ _ ∧ _)
  clear hw hk
  go_wp2
  first | go_end0 | refine bodyPost_ret (results_none rfl _ _ _) rfl ?_
  exact ⟨rfl, _, _, HP.out.1, HP.out.2.1, HP.out.2.2.1, Nat.le_refl _, by omega, HP.out.2.2.2⟩
set_option maxHeartbeats 800000 in
theorem pkUnmark_any (F : FuncId) (ca : Array Value) (m : Nat) (at_ : Int) (st : WSt) (w : World) (hw : Wk w m st) (ho : st.over = false) (hs : st.sub = none) :
    Calls Try.prog 29 #[.agg #[.pointer (some ⟨m, 0, none⟩), .int .i64 at_], .func (.func F) #[] ca] w fun e w' => e = .returned (.tuple #[]) ∧ ∃ bv bf,
      Wk w' m { st with x := ⟨6, at_, 18446744073709551614, 0⟩, nxt := .func (.func 59) #[] #[.pointer (some ⟨bv, 0, none⟩), .pointer (some ⟨bf, 0, none⟩)], sub := none, after := .nilFunc } ∧
      Box w' bv #[.pointer (some ⟨m, 0, none⟩), .int .i64 at_] ∧ Box w' bf #[.func (.func F) #[] ca] ∧ w.heap.size ≤ bv ∧ w.heap.size ≤ bf ∧ Keeps [m] w w' := by
  have HE := Lib.hid (fun W h => pkLast_any F ca m at_ 6 18446744073709551614 st W h ho hs)
  obtain ⟨W1, hW1⟩ : ∃ W1, w.alloc (.cells #[.pointer (some ⟨m, 0, none⟩), .int .i64 at_] 64) = W1 := ⟨_, rfl⟩
  have hk1 : Keeps [] w W1 := by rw [← hW1]; exact (Keeps.refl _ _).alloc _
  have HW := Lib.hid (hw.keeps hk1 (by simp))
  have HK := Lib.hid hk1
  have hb : Box W1 w.heap.size #[.pointer (some ⟨m, 0, none⟩), .int .i64 at_] := by rw [← hW1]; exact Box.new _ _ _
  have c0 := hb.cells 0
  have c1 := hb.cells 1
  simp at c0 c1
  clear hw ho hs hk1 hb
  go_enter Try.func29, Try.ntmps29
  go_wp2_with fail
  refine (HE.out _ HW.out).mono ?_
  rintro e w1 ⟨rfl, bv, bf, h1, h2, h3, h4, h5, h6⟩
  have HP := Lib.hid (⟨h1, h2, h3, Nat.le_trans HK.out.size h4, Nat.le_trans HK.out.size h5, HK.out.nil.trans h6⟩ : _ ∧ _ ∧ _ ∧ _ ∧ _ ∧ _)
  clear h1 h2 h3 h4 h5 h6
  go_wp2
  first | go_end0 | refine bodyPost_ret (results_none rfl _ _ _) rfl ?_
  exact ⟨rfl, _, _, HP.out⟩
set_option maxHeartbeats 800000 in
/-- The Load of one who waits is asked for. -/
theorem pkLoad_any (m p : Nat) (at_ key waited : Int) (e : TypeId) (st : WSt) (w : World) (hw : Wk w m st) (hp : Row w p e (tPk m at_ key waited)) (hpm : p ≠ m) (ho : st.over = false) (hs : st.sub = none) :
    Calls Try.prog 32 #[.pointer (some ⟨p, 0, none⟩)] w fun e' w' => e' = .returned (.tuple #[]) ∧
      Wk w' m { st with x := ⟨1, at_, 0, 0⟩, nxt := .func (.func 61) #[.pointer (some ⟨p, 0, none⟩)] #[], sub := none, after := .nilFunc } ∧ Row w' p e (tPk m at_ key waited) ∧ Keeps [m] w w' := by
  have HE := Lib.hid (fun W h => wAsk m st ⟨1, at_, 0, 0⟩ (.func 61) #[.pointer (some ⟨p, 0, none⟩)] #[] W h hs ho)
  have HW := Lib.hid hw
  have HR := Lib.hid hp
  have c0 := hp.cell (j := 0) rfl
  have c1 := hp.cell (j := 1) rfl
  clear hw hp ho hs
  go_enter Try.func32, Try.ntmps32
  go_wp2_with fail
  go_still_tail 14, (by kernel_rfl)
  change wpList _ _ _ _ _ w.drew
  go_wp2_with fail
  refine (HE.out w.drew HW.out).mono ?_
  rintro e w1 ⟨rfl, hw, hk⟩
  have HP := Lib.hid (⟨hw, hk⟩ : _ ∧ _)
  clear hw hk
  go_wp2
  first | go_end0 | refine bodyPost_ret (results_none rfl _ _ _) rfl ?_
  exact ⟨rfl, HP.out.1, HR.out.keeps HP.out.2.undrew (by simpa using hpm), HP.out.2.undrew⟩
theorem pkChanged_any (m p : Nat) (at_ key waited v : Int) (won : Bool) (e : TypeId) (st : WSt) (w : World) (hw : Wk w m st) (hp : Row w p e (tPk m at_ key waited)) (hpm : p ≠ m) (ho : st.over = false) (hs : st.sub = none) :
    Calls Try.prog 75 #[.pointer (some ⟨p, 0, none⟩), .int .u64 v, .bool won] w fun e' w' => e' = .returned (.tuple #[]) ∧
      Wk w' m { st with x := ⟨1, at_, 0, 0⟩, nxt := .func (.func 61) #[.pointer (some ⟨p, 0, none⟩)] #[], sub := none, after := .nilFunc } ∧ Row w' p e (tPk m at_ key waited) ∧ Keeps [m] w w' := by
  have HE := Lib.hid (pkLoad_any m p at_ key waited e st w hw hp hpm ho hs)
  clear hw hp ho hs
  go_enter Try.func75, Try.ntmps75
  go_wp2_with fail
  refine HE.out.mono ?_
  rintro e w1 ⟨rfl, hw, hr, hk⟩
  have HP := Lib.hid (⟨hw, hr, hk⟩ : _ ∧ _ ∧ _)
  clear hw hr hk
  go_wp2
  first | go_end0 | refine bodyPost_ret (results_none rfl _ _ _) rfl ?_
  exact ⟨rfl, HP.out⟩
set_option maxHeartbeats 800000 in
/-- The epoch is another one: the And is asked for. -/
theorem pkRead_over (m p : Nat) (at_ key waited v : Int) (won : Bool) (e : TypeId) (st : WSt) (w : World) (hw : Wk w m st) (hp : Row w p e (tPk m at_ key waited)) (hpm : p ≠ m) (ho : st.over = false) (hs : st.sub = none) (hv : M.U v) (hne : v / 4294967296 ≠ key) :
    Calls Try.prog 61 #[.pointer (some ⟨p, 0, none⟩), .int .u64 v, .bool won] w fun e' w' => e' = .returned (.tuple #[]) ∧ ∃ bv bf bw,
      Wk w' m { st with x := ⟨6, at_, 18446744073709551614, 0⟩, nxt := .func (.func 59) #[] #[.pointer (some ⟨bv, 0, none⟩), .pointer (some ⟨bf, 0, none⟩)], sub := none, after := .nilFunc } ∧
      Box w' bv #[.pointer (some ⟨m, 0, none⟩), .int .i64 at_] ∧ Box w' bf #[.func (.func 74) #[] #[.pointer (some ⟨bw, 0, none⟩)]] ∧ Box w' bw #[.pointer (some ⟨p, 0, none⟩)] ∧ w.heap.size ≤ bv ∧ w.heap.size ≤ bf ∧ w.heap.size ≤ bw ∧ Row w' p e (tPk m at_ key waited) ∧ Keeps [m] w w' := by
  obtain ⟨W1, hW1⟩ : ∃ W1, w.alloc (.cells #[.pointer (some ⟨p, 0, none⟩)] 69) = W1 := ⟨_, rfl⟩
  have hb : Box W1 w.heap.size #[.pointer (some ⟨p, 0, none⟩)] := by rw [← hW1]; exact Box.new _ _ _
  have hk1 : Keeps [] w W1 := by rw [← hW1]; exact (Keeps.refl _ _).alloc _
  have HS := Lib.hid (fun W => split_any v W hv.nn hv)
  have HE := Lib.hid (fun W h => pkUnmark_any 74 #[.pointer (some ⟨w.heap.size, 0, none⟩)] m at_ st W h ho hs)
  have hp1 := hp.keeps hk1 (by simp)
  have HW := Lib.hid (hw.keeps hk1 (by simp))
  have HR := Lib.hid hp1
  have HB := Lib.hid hb
  have HK := Lib.hid hk1
  have c0 := hp1.cell (j := 0) rfl
  have c1 := hp1.cell (j := 1) rfl
  have c2 := hp1.cell (j := 2) rfl
  have c3 := hb.cells 0
  simp at c3
  have hmlt := hw.lt
  have u0 := hv.nn
  have u1 := hv.lt
  obtain ⟨q, hq⟩ : ∃ q : Int, v / 4294967296 = q := ⟨_, rfl⟩
  rw [hq] at HS hne
  have hd : (q != key) = true := by simp [hne]
  have hd2 : (q == key) = false := by simp [hne]
  clear hw hp ho hs hb hk1 hp1 hq hv hne
  go_enter Try.func61, Try.ntmps61
  go_wp2_with fail
  refine (HS.out _).mono ?_
  rintro e w1 ⟨rfl, rfl⟩
  go_wp2_with fail
  refine (HE.out _ HW.out).mono ?_
  rintro e w2 ⟨rfl, bv, bf, h1, h2, h3, h4, h5, h6⟩
  have hs1 := HK.out.size
  have HP := Lib.hid (⟨h1, h2, h3, HB.out.keeps h6 (by simp; omega), Nat.le_trans hs1 h4, Nat.le_trans hs1 h5, Nat.le_refl w.heap.size, HR.out.keeps h6 (by simpa using hpm), HK.out.nil.trans h6⟩ : _ ∧ _ ∧ _ ∧ _ ∧ _ ∧ _ ∧ _ ∧ _ ∧ Keeps [m] w w2)
  clear h1 h2 h3 h4 h5 h6
  go_wp2
  first | go_end0 | refine bodyPost_ret (results_none rfl _ _ _) rfl ?_
  exact ⟨rfl, _, _, _, HP.out⟩
set_option maxHeartbeats 800000 in
/-- The epoch is the key: a Wait for another word is asked for. -/
theorem pkRead_same (m p : Nat) (at_ key waited v : Int) (won : Bool) (e : TypeId) (st : WSt) (w : World) (hw : Wk w m st) (hp : Row w p e (tPk m at_ key waited)) (hpm : p ≠ m) (ho : st.over = false) (hs : st.sub = none) (hv : M.U v) (hne : v / 4294967296 = key) :
    Calls Try.prog 61 #[.pointer (some ⟨p, 0, none⟩), .int .u64 v, .bool won] w fun e' w' => e' = .returned (.tuple #[]) ∧
      Wk w' m { st with x := ⟨7, at_, v, 0⟩, nxt := .func (.func 75) #[.pointer (some ⟨p, 0, none⟩)] #[], sub := none, after := .nilFunc } ∧ Row w' p e (tPk m at_ key 1) ∧ Keeps [m, p] w w' := by
  obtain ⟨W1, hW1⟩ : ∃ W1, w.alloc (.cells #[.pointer (some ⟨p, 0, none⟩)] 69) = W1 := ⟨_, rfl⟩
  have hb : Box W1 w.heap.size #[.pointer (some ⟨p, 0, none⟩)] := by rw [← hW1]; exact Box.new _ _ _
  have hk1 : Keeps [] w W1 := by rw [← hW1]; exact (Keeps.refl _ _).alloc _
  have HS := Lib.hid (fun W => split_any v W hv.nn hv)
  have HE := Lib.hid (fun W h => wAsk m st ⟨7, at_, v, 0⟩ (.func 75) #[.pointer (some ⟨p, 0, none⟩)] #[] W h hs ho)
  have hp1 := hp.keeps hk1 (by simp)
  have c2 := hp1.cell (j := 2) rfl
  have c3 := hb.cells 0
  simp at c3
  have f3 := hp1.frozen 3
  have d3 := hp1.cell (j := 3) rfl
  have hplt := hp.lt
  obtain ⟨W2, hW2⟩ : ∃ W2, W1.setCell ⟨p, 3, none⟩ (.int .u64 1) = W2 := ⟨_, rfl⟩
  have hp2 : Row W2 p e (tPk m at_ key 1) := by rw [← hW2]; exact hp1.set 3 _
  have hk2 : Keeps [p] W1 W2 := by rw [← hW2]; exact (Keeps.refl [p] _).setCell (fun _ => by simp) _
  have hw2 := (hw.keeps hk1 (by simp)).keeps hk2 (by simpa using Ne.symm hpm)
  have e0 := hp2.cell (j := 0) rfl
  have e1 := hp2.cell (j := 1) rfl
  have e3 : W2.cell? ⟨w.heap.size, 0, none⟩ = some (.pointer (some ⟨p, 0, none⟩)) := by
    have := (hb.keeps hk2 (by simp; omega)).cells 0
    simpa using this
  have HW := Lib.hid hw2
  have HR := Lib.hid hp2
  have HK := Lib.hid ((hk1.nil (S := [m, p])).trans (hk2.mono (by simp)))
  obtain ⟨q, hq⟩ : ∃ q : Int, v / 4294967296 = q := ⟨_, rfl⟩
  rw [hq] at HS hne
  subst hne
  have hd : (q != q) = false := by simp
  clear hw hp ho hs hb hk1 hp1 hq hv hp2 hk2 hw2 hplt
  go_enter Try.func61, Try.ntmps61
  go_wp2_with fail
  refine (HS.out _).mono ?_
  rintro e w1 ⟨rfl, rfl⟩
  go_wp2_with fail
  go_still_tail 15, (by kernel_rfl)
  change wpList _ _ _ _ _ W2.drew
  go_wp2_with fail
  refine (HE.out W2.drew HW.out).mono ?_
  rintro e w3 ⟨rfl, hw, hk⟩
  have HP := Lib.hid (⟨hw, hk.undrew⟩ : _ ∧ Keeps [m] W2 w3)
  clear hw hk
  go_wp2
  first | go_end0 | refine bodyPost_ret (results_none rfl _ _ _) rfl ?_
  exact ⟨rfl, HP.out.1, HR.out.keeps HP.out.2 (by simpa using hpm), HK.out.trans (HP.out.2.mono (by simp))⟩

theorem pkRight_any (at_ : Int) (w : World) :
    Calls Try.prog 47 #[.agg #[.int .i64 at_]] w fun e w' => e = .returned (.bool (decide (pkRight at_))) ∧ Keeps [] w w' := by
  obtain ⟨W1, hW1⟩ : ∃ W1, w.alloc (.cells #[.int .i64 at_] 23) = W1 := ⟨_, rfl⟩
  have hb : Box W1 w.heap.size #[.int .i64 at_] := by rw [← hW1]; exact Box.new _ _ _
  have hk1 : Keeps [] w W1 := by rw [← hW1]; exact (Keeps.refl _ _).alloc _
  have c0 := hb.cells 0
  simp at c0
  have HK := Lib.hid hk1
  have hD : decide (pkRight at_) = (decide (0 ≤ at_) && decide (at_ < 65536)) := by
    by_cases e3 : 0 ≤ at_ <;> by_cases e4 : at_ < 65536 <;> simp [pkRight, e3, e4]
  rw [hD]
  clear hb hk1 hD
  have d3 : decide (0 ≤ at_) = false ∨ decide (0 ≤ at_) = true := by cases decide (0 ≤ at_) <;> simp
  have d4 : decide (at_ < 65536) = false ∨ decide (at_ < 65536) = true := by cases decide (at_ < 65536) <;> simp
  rcases d3 with d3 | d3 <;> rcases d4 with d4 | d4
  all_goals (
    have HD := Lib.hid (⟨d3, d4⟩ : _ ∧ _)
    go_enter Try.func47, Try.ntmps47
    go_wp2
    go_ret
    obtain ⟨d3, d4⟩ := HD.out
    refine ⟨?_, HK.out⟩
    rw [d3, d4]
    rfl)
end Go.Proofs.Ytgononhihpkagaa
