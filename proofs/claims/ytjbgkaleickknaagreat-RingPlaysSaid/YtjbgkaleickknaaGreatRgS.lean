import Derived.Test.YtjbgkaleickknaaGreatRgP
/-
  Contracts: a ring's Right, Push, Pop and Steal.
-/
namespace Go.Proofs.YtjbgkaleickknaaGreat
set_option maxRecDepth 100000
set_option linter.unusedSimpArgs false
set_option linter.unusedVariables false
open Go.ChangeShapes Go.WideShapes Go.ChangeAt Go.RowKit

/-- What the test by bits tells of the numbers from 2 to 256. -/
def rgBits (n : Nat) : Bool := decide (n < 2) || ((bits BinOp.and IntKind.i64 (n : Int) ((n : Int) - 1) == 0) == (n == 2 || n == 4 || n == 8 || n == 16 || n == 32 || n == 64 || n == 128 || n == 256))
theorem rgBits_all : (List.range 257).all rgBits = true := by kernel_rfl
theorem rgBits_at (size : Int) (h1 : 2 ≤ size) (h2 : size ≤ 256) : bits BinOp.and IntKind.i64 size (size - 1) = 0 ↔ (size = 2 ∨ size = 4 ∨ size = 8 ∨ size = 16 ∨ size = 32 ∨ size = 64 ∨ size = 128 ∨ size = 256) := by
  obtain ⟨n, rfl⟩ := Int.eq_ofNat_of_zero_le (show 0 ≤ size by omega)
  have h := List.all_eq_true.1 rgBits_all n (List.mem_range.2 (by omega))
  unfold rgBits at h
  rw [Bool.or_eq_true, decide_eq_true_eq] at h
  rcases h with h | h
  · omega
  · rw [beq_iff_eq] at h
    constructor
    · intro h0
      rw [h0] at h
      simp at h
      omega
    · intro h0
      have : (n == 2 || n == 4 || n == 8 || n == 16 || n == 32 || n == 64 || n == 128 || n == 256) = true := by simp; omega
      rw [this] at h
      simpa using h

theorem rgRight_any (at_ size : Int) (w : World) (hs : -9223372036854775808 ≤ size) :
    Calls Tryz.prog 34 #[.agg #[.int .i64 at_, .int .i64 size]] w fun e w' => e = .returned (.bool (decide (dqRight at_ size))) ∧ Keeps [] w w' := by
  obtain ⟨W1, hW1⟩ : ∃ W1, w.alloc (.cells #[.int .i64 at_, .int .i64 size] 33) = W1 := ⟨_, rfl⟩
  have hb : Box W1 w.heap.size #[.int .i64 at_, .int .i64 size] := by rw [← hW1]; exact Box.new _ _ _
  have hk1 : Keeps [] w W1 := by rw [← hW1]; exact (Keeps.refl _ _).alloc _
  have c0 := hb.cells 0
  have c1 := hb.cells 1
  have HK := Lib.hid hk1
  clear hb hk1
  by_cases h1 : size < 2
  · have HD : Hid (decide (dqRight at_ size) = false) := Lib.hid (decide_eq_false fun h => by have := h.1; omega)
    rw [HD.out]
    have d1 : decide ((2 : Int) ≤ size) = false := decide_eq_false (by omega)
    go_enter Tryz.func34, Tryz.ntmps34
    go_wp2
    go_ret
    exact ⟨rfl, HK.out⟩
  have d1 : decide ((2 : Int) ≤ size) = true := decide_eq_true (by omega)
  by_cases h2 : 256 < size
  · have HD : Hid (decide (dqRight at_ size) = false) := Lib.hid (decide_eq_false fun h => by have := h.1; omega)
    rw [HD.out]
    have d2 : decide (size ≤ 256) = false := decide_eq_false (by omega)
    go_enter Tryz.func34, Tryz.ntmps34
    go_wp2
    go_ret
    exact ⟨rfl, HK.out⟩
  have d2 : decide (size ≤ 256) = true := decide_eq_true (by omega)
  have hn1 : 2 ≤ size := by omega
  have hn2 : size ≤ 256 := by omega
  have hbits := rgBits_at size hn1 hn2
  obtain ⟨y, hy⟩ : ∃ y, bits BinOp.and IntKind.i64 size (size - 1) = y := ⟨_, rfl⟩
  rw [hy] at hbits
  by_cases h3 : y = 0
  · have hpw := hbits.1 h3
    have d3 : decide (y = 0) = true := decide_eq_true h3
    by_cases h4 : at_ < 0
    · have HD : Hid (decide (dqRight at_ size) = false) := Lib.hid (decide_eq_false fun h => by have := h.2.1; omega)
      rw [HD.out]
      have d4 : decide (0 ≤ at_) = false := decide_eq_false (by omega)
      clear hbits hpw
      go_enter Tryz.func34, Tryz.ntmps34
      go_wp2
      go_ret
      exact ⟨rfl, HK.out⟩
    have d4 : decide (0 ≤ at_) = true := decide_eq_true (by omega)
    by_cases h5 : at_ < 65536 - size - 1
    · have HD : Hid (decide (dqRight at_ size) = true) := Lib.hid (decide_eq_true ⟨hpw, by omega, h5⟩)
      rw [HD.out]
      have d5 : decide (at_ < 65536 - size - 1) = true := decide_eq_true h5
      clear hbits hpw
      go_enter Tryz.func34, Tryz.ntmps34
      go_wp2
      go_ret
      exact ⟨rfl, HK.out⟩
    · have HD : Hid (decide (dqRight at_ size) = false) := Lib.hid (decide_eq_false fun h => h5 h.2.2)
      rw [HD.out]
      have d5 : decide (at_ < 65536 - size - 1) = false := decide_eq_false h5
      clear hbits hpw
      go_enter Tryz.func34, Tryz.ntmps34
      go_wp2
      go_ret
      exact ⟨rfl, HK.out⟩
  · have HD : Hid (decide (dqRight at_ size) = false) := Lib.hid (decide_eq_false fun h => h3 (hbits.2 h.1))
    rw [HD.out]
    have d3 : decide (y = 0) = false := decide_eq_false h3
    clear hbits
    go_enter Tryz.func34, Tryz.ntmps34
    go_wp2
    go_ret
    exact ⟨rfl, HK.out⟩

/-- A new one that has ended at once. -/
theorem ended_mid {σ : Type} {K : Mach σ} {R : World → List Nat → Value → Value → σ → Prop} {m : Nat} {s0 : σ} {w1 w2 : World} {c v : Int} {l' : Value} (h1 : m < w1.heap.size) (hw : Wk w2 m { WSt.zero with under := 1, over := true, code := c, v := v, l := l' }) (ho : w2.ownsRow w1.heap.size 34 1 l' 0 []) (hk : Keeps [m] w1 w2)
    (hx : K.want s0 = none) (hr : K.res s0 = some ⟨c, v, []⟩) (hh : K.held s0 = []) (hE : ∀ w T nx ov s, K.want s = none → R w T nx ov s) : MidO K R m [m] [] s0 w1 w2 { WSt.zero with under := 1, over := true, code := c, v := v, l := l' } := by
  have hol := fun g hg => ho.lt g hg
  have hf : K.face s0 = ⟨none, some ⟨c, v, []⟩, []⟩ := by simp only [Mach.face, hx, hr, hh]
  refine ⟨.inr rfl, m :: l'.ownBlock.toList, [], ?_, ?_, by simp, by simp, hE _ _ _ _ _ hx, hk.mono (by simp), ?_, by simp⟩
  · rw [hf]
    exact ⟨hw, rfl, rfl, by simp, ⟨rfl, .inl ⟨_, _, rfl, rfl⟩⟩, (fun g hg => by cases hg), by simp, rfl, (fun r hr => by cases hr; exact ⟨rfl, rfl, by simpa [ints] using Sl.of_owns ho, by simp⟩), (fun g hg => ⟨by simp [show l'.ownBlock = some g from hg], by have := (hol g hg).1; omega⟩), (fun _ => rfl), (fun y hy => by cases hy)⟩
  · intro k hk'
    simp at hk'
    rcases hk' with rfl | hk'
    · exact hw.lt
    · exact (hol k hk').2
  · intro k hk'
    simp at hk'
    rcases hk' with rfl | hk'
    · exact .inl (by simp)
    · exact .inr (hol k hk').1
/-- What stands in a new walk while its first function is under way. -/
@[reducible] def wk1 : WSt := { WSt.zero with under := 1 }


/-- What a step function is handed at first. -/
def rgFirst (m : Nat) (at_ size : Int) : Array Value := #[.pointer (some ⟨m, 0, none⟩), .int .i64 at_, .int .i64 size, .int .u64 0, .int .u32 0, .int .u32 0, .int .u32 0, .nilFunc, .nilFunc, .slice none 0 0]
set_option maxHeartbeats 3200000 in
theorem rgPush1_any (m bv : Nat) (at_ size v : Int) (w : World) (hw : Wk w m wk1) (hb : Box w bv #[.int .u64 v]) (hr : dqRight at_ size) (hv : M.U v) :
    Calls Tryz.prog 35 #[.agg #[.pointer (some ⟨m, 0, none⟩), .int .i64 at_, .int .i64 size, .int .u64 0, .int .u32 0, .int .u32 0, .int .u32 0, .nilFunc, .nilFunc, .slice none 0 0], .pointer (some ⟨bv, 0, none⟩)] w fun e w' => e = .returned (.tuple #[]) ∧ GoesO ringM (rgE m) m wk1 [] [] (rgBegin at_ size 1 v 0 true) w w' := by
  have U0 : M.U 0 := ⟨by decide, by decide⟩
  have Z0 : W32 0 := ⟨by decide, by decide⟩
  have h0 := hb.cells 0
  have hlt := hb.lt
  have hml := hw.lt
  obtain ⟨W2, hW2⟩ : ∃ W2, (w.alloc (.cells #[.pointer (some ⟨m, 0, none⟩), .int .i64 at_, .int .i64 size, .int .u64 0, .int .u32 0, .int .u32 0, .int .u32 0, .nilFunc, .nilFunc, .slice none 0 0] 83)).alloc (.cells #[.pointer (some ⟨m, 0, none⟩), .int .i64 at_, .int .i64 size, .int .u64 0, .int .u32 0, .int .u32 0, .int .u32 0, .nilFunc, .nilFunc, .slice none 0 0, .int .u64 v] 86) = W2 := ⟨_, rfl⟩
  have k2 : Keeps [] w W2 := by rw [← hW2]; exact ((Keeps.refl _ _).alloc _).alloc _
  have hp2 : Row W2 (w.heap.size + 1) 86 (rgCells m at_ size 0 0 0 0 .nilFunc .nilFunc (.slice none 0 0) [.int .u64 v]) := by rw [← hW2]; have := Row.new (w.alloc (.cells #[.pointer (some ⟨m, 0, none⟩), .int .i64 at_, .int .i64 size, .int .u64 0, .int .u32 0, .int .u32 0, .int .u32 0, .nilFunc, .nilFunc, .slice none 0 0] 83)) #[.pointer (some ⟨m, 0, none⟩), .int .i64 at_, .int .i64 size, .int .u64 0, .int .u32 0, .int .u32 0, .int .u32 0, .nilFunc, .nilFunc, .slice none 0 0, .int .u64 v] 86; simpa [rgCells] using this
  have hz2 : W2.heap.size = w.heap.size + 2 := by rw [← hW2]; simp
  have f7 := hp2.frozen 7
  have f8 := hp2.frozen 8
  have c7 := hp2.cell (j := 7) rfl
  have c8 := hp2.cell (j := 8) rfl
  obtain ⟨W3, hW3⟩ : ∃ W3, (W2.setCell ⟨w.heap.size + 1, 7, none⟩ (.func (.func 36) #[.pointer (some ⟨w.heap.size + 1, 0, none⟩)] #[])).setCell ⟨w.heap.size + 1, 8, none⟩ (.func (.func 37) #[.pointer (some ⟨w.heap.size + 1, 0, none⟩)] #[]) = W3 := ⟨_, rfl⟩
  have k3 : Keeps [w.heap.size + 1] W2 W3 := by rw [← hW3]; exact ((Keeps.refl [w.heap.size + 1] W2).setCell (fun _ => by simp) _).setCell (fun _ => by simp) _
  have hp3 : Row W3 (w.heap.size + 1) 86 (rgCells m at_ size 0 0 0 0 (.func (.func 36) #[.pointer (some ⟨w.heap.size + 1, 0, none⟩)] #[]) (.func (.func 37) #[.pointer (some ⟨w.heap.size + 1, 0, none⟩)] #[]) (.slice none 0 0) [.int .u64 v]) := by rw [← hW3]; exact (hp2.set 7 _).set 8 _
  have hw3 : Wk W3 m wk1 := (hw.keeps k2 (by simp)).keeps k3 (by simp; omega)
  have HS := Lib.hid (rg_cells_push hp3)
  have HP3 := Lib.hid hp3
  have HW3 := Lib.hid hw3
  have HK3 : Hid (Keeps [w.heap.size + 1] w W3) := Lib.hid (k2.nil.trans k3)
  have hz3 : W3.heap.size = w.heap.size + 2 := by rw [← hW3]; simpa using hz2
  obtain ⟨a0, a1, a2, a3, a4, a5, a6, a7, a8, a9, a10⟩ := HS.out _ [] (Keeps.refl _ _) (by simp)
  have kL : Keeps [] W3 (W3.alloc (.cells #[.int .u64 v] 34)).drew := ((Keeps.refl [] W3).alloc _).drew
  have hL : Sl (W3.alloc (.cells #[.int .u64 v] 34)).drew 1 (.slice (some ⟨W3.heap.size, 0, none⟩) 1 1) [v].length (ints .u64 [v]) := ((Row.new W3 #[.int .u64 v] 34).keeps ((Keeps.refl [] _).drew) (by simp)).sl (n := 1) (cap := 1) rfl
  have HE := Lib.hid (rgHold_any m (w.heap.size + 1) at_ size 0 0 0 0 _ _ _ _ [v] (.slice (some ⟨W3.heap.size, 0, none⟩) 1 1) _ wk1 _ (hw3.keeps kL (by simp)) (hp3.keeps kL (by simp)) (by omega) rfl rfl hL (by simp))
  have HZ3 := Lib.hid (show W3.heap.size = w.heap.size + 2 ∧ W2.heap.size = w.heap.size + 2 from ⟨hz3, hz2⟩)
  have HKL := Lib.hid kL
  have HR := Lib.hid hr
  have HV := Lib.hid hv
  have HML := Lib.hid hml
  clear hb hw k2 hp2 hr hv k3 hp3 hw3 hz2 hz3 kL hL
  go_enter Tryz.func35, Tryz.ntmps35
  go_wp2_with fail
  go_region_held3 (fun w' => w'.cell? ⟨w.heap.size + 1, 10, none⟩ = some (.int .u64 v))
    (first
      | exact (HS.out _ _ hk5 (by have := HML.out; simp; omega)).2.2.2.2.2.2.2.2.2.2
      | assumption
      | exact (HS.out _ _ (((Keeps.refl [] W3).alloc _).drew) (by simp)).2.2.2.2.2.2.2.2.2.2
      | fail)
    (first
      | (go_at_call 38; refine (HE.out).mono ?_; rintro e5 w5 ⟨rfl, t, ov, g, o, b, hw5, ht5, hd5, hgob, hbo, htx, k5⟩; have hk5 : Keeps [m] W3 w5 := HKL.out.nil.trans k5)
      | fail)
  all_goals (
    have hp5 := HP3.out.keeps hk5 (by have := HML.out; simp; omega)
    have HB := Lib.hid (rgBegin_any m (w.heap.size + 1) at_ size 0 0 0 0 _ _ _ _ _ _ w5 hw5 hp5 (by have := HML.out; omega) rfl rfl)
    have HH : Hid (_ ∧ _ ∧ _ ∧ _ ∧ _ ∧ _) := Lib.hid ⟨ht5, hd5, hgob, hbo, htx, hk5⟩
    clear hw5 ht5 hd5 hgob hbo htx k5 hk5 hp5
    go_wp2_with fail
    refine HB.out.mono ?_
    rintro e6 w6 ⟨rfl, hQ⟩
    have HQ := Lib.hid hQ
    clear hQ
    go_wp2
    first | go_end0 | refine bodyPost_ret (results_none rfl _ _ _) rfl ?_
    obtain ⟨ht5, hd5, ⟨g5, o5, b5⟩, hbo, htx, hk5⟩ := HH.out
    obtain ⟨hw6, hp6, k6⟩ := HQ.out
    obtain ⟨z3, z2⟩ := HZ3.out
    have hml := HML.out
    have zL : (W3.alloc (.cells #[.int .u64 v] 34)).drew.heap.size = W3.heap.size + 1 := by simp
    have hd6 := hd5.keeps k6 (by simp; omega) (by simp; omega) (by simp; omega)
    have ht6 := owns_keeps ht5 k6 (fun x hx => by have := (ht5.lt x hx).1; simp; omega)
    have hN : rgBegin at_ size 1 v 0 true = ⟨at_, size, 1, v, 0, 1, 0, 0, 0, 0, 0, [], none⟩ := by simp [rgBegin]
    rw [hN]
    have kk : Keeps [m] w w6 := (((HK3.out.mono (T := [m, w.heap.size + 1]) (by simp)).trans (hk5.mono (by simp))).trans k6).mono (by intro k hk hl; simp at hk; rcases hk with rfl | rfl; simp; omega)
    refine ⟨rfl, kk, t, ov, .inl ⟨_, _, _, _, [w.heap.size + 1, g, o, b], by simp [ringM, rgWant], rfl, .inr ⟨by simp [ringM, rgHeld], by simpa [ringM, rgHeld, ints] using owns_base ht6 (by omega)⟩, hw6, ?_, fun k hk => ?_, fun k hk => ?_⟩⟩
    · exact rgE_mk (u := 0) (n := 0) ⟨HR.out, HV.out, U0, Z0, Z0, .inl ⟨rfl, .inl ⟨by simp, rfl, rfl⟩⟩⟩ (by simp) (by simp [rgFn]) ⟨by simpa [rgLk, rgTr, rgRest, rgTy] using hp6, World.ownsRow_nil _ _ _ _, (fun g hg => by cases hg), by simp, by simp, by simp, by simp, by simp, fun _ => ⟨g, o, b, hd6, by simp, hbo, by omega, by omega, by omega, fun x hx => by cases hx⟩, by simp⟩
    · simp at hk
      rcases hk with rfl | rfl | rfl | rfl
      · exact hp6.lt
      · exact hd6.row.lt
      · exact hd6.wk.lt
      · exact hd6.box.lt
    · simp at hk
      rcases hk with rfl | rfl | rfl | rfl
      · exact ⟨by omega, .inr ⟨by omega, .inr fun h => by have := (ht5.lt _ h).1; omega⟩⟩
      · exact ⟨by omega, .inr ⟨by omega, .inr fun h => (htx _ h).1 rfl⟩⟩
      · exact ⟨by omega, .inr ⟨by omega, .inr fun h => (htx _ h).2.1 rfl⟩⟩
      · exact ⟨by omega, .inr ⟨by omega, .inr fun h => (htx _ h).2.2 rfl⟩⟩)
end Go.Proofs.YtjbgkaleickknaaGreat

/-
  Contracts: how a ring's Pop and Steal begin.
-/
namespace Go.Proofs.YtjbgkaleickknaaGreat
set_option maxRecDepth 100000
set_option linter.unusedSimpArgs false
set_option linter.unusedVariables false
open Go.ChangeShapes Go.WideShapes Go.ChangeAt Go.RowKit

set_option maxHeartbeats 3200000 in
theorem rgPop1_any (m : Nat) (at_ size : Int) (w : World) (hw : Wk w m wk1) (hr : dqRight at_ size) :
    Calls Tryz.prog 46 #[.agg #[.pointer (some ⟨m, 0, none⟩), .int .i64 at_, .int .i64 size, .int .u64 0, .int .u32 0, .int .u32 0, .int .u32 0, .nilFunc, .nilFunc, .slice none 0 0]] w fun e w' => e = .returned (.tuple #[]) ∧ GoesO ringM (rgE m) m wk1 [] [] (rgBegin at_ size 2 0 0 true) w w' := by
  have U0 : M.U 0 := ⟨by decide, by decide⟩
  have Z0 : W32 0 := ⟨by decide, by decide⟩
  have hml := hw.lt
  obtain ⟨W2, hW2⟩ : ∃ W2, (w.alloc (.cells #[.pointer (some ⟨m, 0, none⟩), .int .i64 at_, .int .i64 size, .int .u64 0, .int .u32 0, .int .u32 0, .int .u32 0, .nilFunc, .nilFunc, .slice none 0 0] 83)).alloc (.cells #[.pointer (some ⟨m, 0, none⟩), .int .i64 at_, .int .i64 size, .int .u64 0, .int .u32 0, .int .u32 0, .int .u32 0, .nilFunc, .nilFunc, .slice none 0 0] 97) = W2 := ⟨_, rfl⟩
  have k2 : Keeps [] w W2 := by rw [← hW2]; exact ((Keeps.refl _ _).alloc _).alloc _
  have hp2 : Row W2 (w.heap.size + 1) 97 (rgCells m at_ size 0 0 0 0 .nilFunc .nilFunc (.slice none 0 0) []) := by rw [← hW2]; have := Row.new (w.alloc (.cells #[.pointer (some ⟨m, 0, none⟩), .int .i64 at_, .int .i64 size, .int .u64 0, .int .u32 0, .int .u32 0, .int .u32 0, .nilFunc, .nilFunc, .slice none 0 0] 83)) #[.pointer (some ⟨m, 0, none⟩), .int .i64 at_, .int .i64 size, .int .u64 0, .int .u32 0, .int .u32 0, .int .u32 0, .nilFunc, .nilFunc, .slice none 0 0] 97; simpa [rgCells] using this
  have hz2 : W2.heap.size = w.heap.size + 2 := by rw [← hW2]; simp
  have f7 := hp2.frozen 7
  have f8 := hp2.frozen 8
  have c7 := hp2.cell (j := 7) rfl
  have c8 := hp2.cell (j := 8) rfl
  obtain ⟨W3, hW3⟩ : ∃ W3, (W2.setCell ⟨w.heap.size + 1, 7, none⟩ (.func (.func 47) #[.pointer (some ⟨w.heap.size + 1, 0, none⟩)] #[])).setCell ⟨w.heap.size + 1, 8, none⟩ (.func (.func 48) #[.pointer (some ⟨w.heap.size + 1, 0, none⟩)] #[]) = W3 := ⟨_, rfl⟩
  have k3 : Keeps [w.heap.size + 1] W2 W3 := by rw [← hW3]; exact ((Keeps.refl [w.heap.size + 1] W2).setCell (fun _ => by simp) _).setCell (fun _ => by simp) _
  have hp3 : Row W3 (w.heap.size + 1) 97 (rgCells m at_ size 0 0 0 0 (.func (.func 47) #[.pointer (some ⟨w.heap.size + 1, 0, none⟩)] #[]) (.func (.func 48) #[.pointer (some ⟨w.heap.size + 1, 0, none⟩)] #[]) (.slice none 0 0) []) := by rw [← hW3]; exact (hp2.set 7 _).set 8 _
  have hw3 : Wk W3 m wk1 := (hw.keeps k2 (by simp)).keeps k3 (by simp; omega)
  have HP3 := Lib.hid hp3
  have HW3 := Lib.hid hw3
  have HK3 : Hid (Keeps [w.heap.size + 1] w W3) := Lib.hid (k2.nil.trans k3)
  have hz3 : W3.heap.size = w.heap.size + 2 := by rw [← hW3]; simpa using hz2
  have HR := Lib.hid hr
  have HML := Lib.hid hml
  have HZ3 := Lib.hid (show W3.heap.size = w.heap.size + 2 ∧ W2.heap.size = w.heap.size + 2 from ⟨hz3, hz2⟩)
  have HE := Lib.hid (rgBegin_any m (w.heap.size + 1) at_ size 0 0 0 0 _ _ _ _ _ _ W3 hw3 hp3 (by omega) rfl rfl)
  clear hw k2 hp2 hr k3 hp3 hw3 hz2 hz3
  go_enter Tryz.func46, Tryz.ntmps46
  go_wp2_with fail
  refine HE.out.mono ?_
  rintro e6 w6 ⟨rfl, hQ⟩
  have HQ := Lib.hid hQ
  clear hQ
  go_wp2
  first | go_end0 | refine bodyPost_ret (results_none rfl _ _ _) rfl ?_
  obtain ⟨hw6, hp6, k6⟩ := HQ.out
  obtain ⟨z3, z2⟩ := HZ3.out
  have hN : rgBegin at_ size 2 0 0 true = ⟨at_, size, 2, 0, 0, 1, 0, 0, 0, 0, 0, [], none⟩ := by simp [rgBegin]
  rw [hN]
  have kk : Keeps [m] w w6 := ((HK3.out.mono (T := [m, w.heap.size + 1]) (by simp)).trans k6).mono (by intro k hk hl; simp at hk; rcases hk with rfl | rfl; simp; omega)
  refine ⟨rfl, kk, .slice none 0 0, .slice none 0 0, .inl ⟨_, _, _, _, [w.heap.size + 1], by simp [ringM, rgWant], rfl, .inl ⟨rfl, by simp [ringM, rgHeld]⟩, hw6, ?_, fun k hk => ?_, fun k hk => ?_⟩⟩
  · exact rgE_mk (u := 0) (n := 0) ⟨HR.out, U0, U0, Z0, Z0, .inr (.inl ⟨rfl, by simp, rfl⟩)⟩ (by simp) (by simp [rgFn]) ⟨by simpa [rgLk, rgTr, rgRest, rgTy] using hp6, World.ownsRow_nil _ _ _ _, (fun g hg => by cases hg), by simp, by simp, by simp, by simp, by simp, by simp, fun _ => rfl⟩
  · simp at hk; subst hk; exact hp6.lt
  · simp at hk; subst hk; exact ⟨by omega, .inr ⟨by omega, .inl rfl⟩⟩

set_option maxHeartbeats 3200000 in
theorem rgSteal1_any (m bt : Nat) (at_ size tat : Int) (w : World) (hw : Wk w m wk1) (hb : Box w bt #[.int .i64 tat, .int .i64 size]) (hr : dqRight at_ size) (htr : dqRight tat size) : 
    Calls Tryz.prog 41 #[.agg #[.pointer (some ⟨m, 0, none⟩), .int .i64 at_, .int .i64 size, .int .u64 0, .int .u32 0, .int .u32 0, .int .u32 0, .nilFunc, .nilFunc, .slice none 0 0], .pointer (some ⟨bt, 0, none⟩)] w fun e w' => e = .returned (.tuple #[]) ∧ GoesO ringM (rgE m) m wk1 [] [] (rgBegin at_ size 3 0 tat true) w w' := by
  have U0 : M.U 0 := ⟨by decide, by decide⟩
  have Z0 : W32 0 := ⟨by decide, by decide⟩
  have hml := hw.lt
  obtain ⟨W2, hW2⟩ : ∃ W2, (w.alloc (.cells #[.pointer (some ⟨m, 0, none⟩), .int .i64 at_, .int .i64 size, .int .u64 0, .int .u32 0, .int .u32 0, .int .u32 0, .nilFunc, .nilFunc, .slice none 0 0] 83)).alloc (.cells #[.pointer (some ⟨m, 0, none⟩), .int .i64 at_, .int .i64 size, .int .u64 0, .int .u32 0, .int .u32 0, .int .u32 0, .nilFunc, .nilFunc, .slice none 0 0, .int .i64 tat, .int .i64 size, .int .u32 0, .int .i64 0] 92) = W2 := ⟨_, rfl⟩
  have k2 : Keeps [] w W2 := by rw [← hW2]; exact ((Keeps.refl _ _).alloc _).alloc _
  have hp2 : Row W2 (w.heap.size + 1) 92 (rgCells m at_ size 0 0 0 0 .nilFunc .nilFunc (.slice none 0 0) [.int .i64 tat, .int .i64 size, .int .u32 0, .int .i64 0]) := by rw [← hW2]; have := Row.new (w.alloc (.cells #[.pointer (some ⟨m, 0, none⟩), .int .i64 at_, .int .i64 size, .int .u64 0, .int .u32 0, .int .u32 0, .int .u32 0, .nilFunc, .nilFunc, .slice none 0 0] 83)) #[.pointer (some ⟨m, 0, none⟩), .int .i64 at_, .int .i64 size, .int .u64 0, .int .u32 0, .int .u32 0, .int .u32 0, .nilFunc, .nilFunc, .slice none 0 0, .int .i64 tat, .int .i64 size, .int .u32 0, .int .i64 0] 92; simpa [rgCells] using this
  have hz2 : W2.heap.size = w.heap.size + 2 := by rw [← hW2]; simp
  have f7 := hp2.frozen 7
  have f8 := hp2.frozen 8
  have c7 := hp2.cell (j := 7) rfl
  have c8 := hp2.cell (j := 8) rfl
  obtain ⟨W3, hW3⟩ : ∃ W3, (W2.setCell ⟨w.heap.size + 1, 7, none⟩ (.func (.func 42) #[.pointer (some ⟨w.heap.size + 1, 0, none⟩)] #[])).setCell ⟨w.heap.size + 1, 8, none⟩ (.func (.func 43) #[.pointer (some ⟨w.heap.size + 1, 0, none⟩)] #[]) = W3 := ⟨_, rfl⟩
  have k3 : Keeps [w.heap.size + 1] W2 W3 := by rw [← hW3]; exact ((Keeps.refl [w.heap.size + 1] W2).setCell (fun _ => by simp) _).setCell (fun _ => by simp) _
  have hp3 : Row W3 (w.heap.size + 1) 92 (rgCells m at_ size 0 0 0 0 (.func (.func 42) #[.pointer (some ⟨w.heap.size + 1, 0, none⟩)] #[]) (.func (.func 43) #[.pointer (some ⟨w.heap.size + 1, 0, none⟩)] #[]) (.slice none 0 0) [.int .i64 tat, .int .i64 size, .int .u32 0, .int .i64 0]) := by rw [← hW3]; exact (hp2.set 7 _).set 8 _
  have hw3 : Wk W3 m wk1 := (hw.keeps k2 (by simp)).keeps k3 (by simp; omega)
  have HP3 := Lib.hid hp3
  have HW3 := Lib.hid hw3
  have HK3 : Hid (Keeps [w.heap.size + 1] w W3) := Lib.hid (k2.nil.trans k3)
  have hz3 : W3.heap.size = w.heap.size + 2 := by rw [← hW3]; simpa using hz2
  have HR := Lib.hid hr
  have HML := Lib.hid hml
  have HZ3 := Lib.hid (show W3.heap.size = w.heap.size + 2 ∧ W2.heap.size = w.heap.size + 2 from ⟨hz3, hz2⟩)
  have t0 := hb.cells 0
  have t1 := hb.cells 1
  have hlt := hb.lt
  have a0 := htr.2.1
  have a1 : tat < 65536 := by have := htr.2.2; have := htr.1; omega
  have HE := Lib.hid (rgHold_any m (w.heap.size + 1) at_ size 0 0 0 0 _ _ _ _ [] (.slice none 0 0) _ wk1 _ hw3 hp3 (by omega) rfl rfl ⟨rfl, .inl ⟨_, _, rfl, rfl⟩⟩ (by simp))
  have HT := Lib.hid htr
  have HTl := Lib.hid (fun W => rgTail_any tat size W a0 a1)
  clear hw hb k2 hp2 hr k3 hp3 hw3 hz2 hz3 htr
  go_enter Tryz.func41, Tryz.ntmps41
  go_wp2_with fail
  refine HE.out.mono ?_
  rintro e5 w5 ⟨rfl, t, ov, g, o, b, hw5, ht5, hd5, hgob, hbo, htx, hk5⟩
  have hp5 := HP3.out.keeps hk5 (by have := HML.out; simp; omega)
  have HS5 := Lib.hid (rg_cells_steal hp5)
  have HP5 := Lib.hid hp5
  have HW5 := Lib.hid hw5
  have HH : Hid (_ ∧ _ ∧ _ ∧ _ ∧ _ ∧ _) := Lib.hid ⟨ht5, hd5, hgob, hbo, htx, hk5⟩
  have HL := Lib.hid (fun W (h : Wk W m { wk1 with tasks := t, outer := ov }) c0 => rgLoad_any m (w.heap.size + 1) (tat + 1) (.func 45) #[.pointer (some ⟨w.heap.size + 1, 0, none⟩)] #[] _ W h c0 rfl rfl)
  obtain ⟨v0, v1, v2, v3, v4, v5, v6, v7, v8, v9, v10, v11, v12, v13⟩ := HS5.out _ [] (Keeps.refl _ _) (by simp)
  clear hw5 ht5 hd5 hgob hbo htx hk5 hp5
  have hkV : Keeps [] w5 w5 := Keeps.refl _ _
  go_wp2_with fail
  go_region_held3 (fun w' => w'.cell? ⟨w.heap.size + 1, 0, none⟩ = some (.pointer (some ⟨m, 0, none⟩)) ∧ w'.cell? ⟨w.heap.size + 1, 10, none⟩ = some (.int .i64 tat) ∧ w'.cell? ⟨w.heap.size + 1, 11, none⟩ = some (.int .i64 size))
    (first
      | exact ⟨(HS5.out _ _ hk4 (by have := HML.out; simp; omega)).1, (HS5.out _ _ hk4 (by have := HML.out; simp; omega)).2.2.2.2.2.2.2.2.2.2.1, (HS5.out _ _ hk4 (by have := HML.out; simp; omega)).2.2.2.2.2.2.2.2.2.2.2.1⟩
      | exact ⟨(HS5.out _ _ hk2 (by simp)).1, (HS5.out _ _ hk2 (by simp)).2.2.2.2.2.2.2.2.2.2.1, (HS5.out _ _ hk2 (by simp)).2.2.2.2.2.2.2.2.2.2.2.1⟩
      | exact ⟨by assumption, by assumption, by assumption⟩
      | fail)
    (first
      | (go_at_call 30; refine (HTl.out _).mono ?_; rintro e2 w2 ⟨rfl, k⟩; have hk2 : Keeps [] w5 w2 := hkV.trans k.undrew; clear k)
      | (go_at_call 44; refine (HL.out _ (HW5.out.keeps hk2 (by simp)) (HS5.out _ _ hk2 (by simp)).1).mono ?_; rintro e4 w6 ⟨rfl, hw6, k4⟩; have hk4 : Keeps [m] w5 w6 := (hk2.mono (by simp)).trans k4; clear k4)
      | fail)
  all_goals (first | go_end0 | refine bodyPost_ret (results_none rfl _ _ _) rfl ?_)
  all_goals (
    obtain ⟨ht5, hd5, ⟨g5, o5, b5⟩, hbo, htx, hk5⟩ := HH.out
    have hml := HML.out
    obtain ⟨z3, z2⟩ := HZ3.out
    have hp6 := HP5.out.keeps hk4 (by have := HML.out; simp; omega)
    have hd6 := hd5.keeps hk4 (by simp; omega) (by simp; omega) (by simp; omega)
    have ht6 := owns_keeps ht5 hk4 (fun x hx => by have := (ht5.lt x hx).1; simp; omega)
    have hN : rgBegin at_ size 3 0 tat true = ⟨at_, size, 3, 0, tat, 1, 0, 0, 0, 0, 0, [], none⟩ := by simp [rgBegin]
    rw [hN]
    have kk : Keeps [m] w w6 := (((HK3.out.mono (T := [m, w.heap.size + 1]) (by simp)).trans (hk5.mono (by simp))).trans (hk4.mono (by simp))).mono (by intro k hk hl; simp at hk; rcases hk with rfl | rfl; simp; omega)
    refine ⟨rfl, kk, t, ov, .inl ⟨_, _, _, _, [w.heap.size + 1, g, o, b], by simp [ringM, rgWant], rfl, .inr ⟨by simp [ringM, rgHeld], by simpa [ringM, rgHeld, ints] using owns_base ht6 (by omega)⟩, hw6, ?_, fun k hk => ?_, fun k hk => ?_⟩⟩
    · exact rgE_mk (u := 0) (n := 0) ⟨HR.out, U0, U0, Z0, Z0, .inr (.inr ⟨rfl, HT.out, .inl ⟨by simp, rfl, rfl⟩⟩)⟩ (by simp) (by simp [rgFn]) ⟨by simpa [rgLk, rgTr, rgRest, rgTy] using hp6, World.ownsRow_nil _ _ _ _, (fun g hg => by cases hg), by simp, by simp, by simp, by simp, by simp, fun _ => ⟨g, o, b, hd6, by simp, hbo, by omega, by omega, by omega, fun x hx => by cases hx⟩, by simp⟩
    · simp at hk
      rcases hk with rfl | rfl | rfl | rfl
      · exact hp6.lt
      · exact hd6.row.lt
      · exact hd6.wk.lt
      · exact hd6.box.lt
    · simp at hk
      rcases hk with rfl | rfl | rfl | rfl
      · exact ⟨by omega, .inr ⟨by omega, .inr fun h => by have := (ht5.lt _ h).1; omega⟩⟩
      · exact ⟨by omega, .inr ⟨by omega, .inr fun h => (htx _ h).1 rfl⟩⟩
      · exact ⟨by omega, .inr ⟨by omega, .inr fun h => (htx _ h).2.1 rfl⟩⟩
      · exact ⟨by omega, .inr ⟨by omega, .inr fun h => (htx _ h).2.2 rfl⟩⟩)
end Go.Proofs.YtjbgkaleickknaaGreat

/-
  Contracts: a ring's Push, Pop and Steal are made.
-/
namespace Go.Proofs.YtjbgkaleickknaaGreat
set_option maxRecDepth 100000
set_option linter.unusedSimpArgs false
set_option linter.unusedVariables false
open Go.ChangeShapes Go.WideShapes Go.ChangeAt Go.RowKit

set_option maxHeartbeats 6400000 in
theorem rgFeeds_any (at_ size tat tsize : Int) (w : World) (h1 : -9223372036854775808 ≤ size) (h2 : -9223372036854775808 ≤ tsize) :
    Calls Tryz.prog 40 #[.agg #[.int .i64 at_, .int .i64 size], .agg #[.int .i64 tat, .int .i64 tsize]] w fun e w' => e = .returned (.bool (decide (rgFeeds at_ size tat tsize))) ∧ Keeps [] w w' := by
  have HR := Lib.hid (fun W => rgRight_any at_ size W h1)
  have HRt := Lib.hid (fun W => rgRight_any tat tsize W h2)
  obtain ⟨W2, hW2⟩ : ∃ W2, (w.alloc (.cells #[.int .i64 at_, .int .i64 size] 33)).alloc (.cells #[.int .i64 tat, .int .i64 tsize] 33) = W2 := ⟨_, rfl⟩
  have k2 : Keeps [] w W2 := by rw [← hW2]; exact ((Keeps.refl _ _).alloc _).alloc _
  have hb1 : Box W2 w.heap.size #[.int .i64 at_, .int .i64 size] := by rw [← hW2]; exact (Box.new _ _ _).alloc _
  have hb2 : Box W2 (w.heap.size + 1) #[.int .i64 tat, .int .i64 tsize] := by rw [← hW2]; have := Box.new (w.alloc (.cells #[.int .i64 at_, .int .i64 size] 33)) #[.int .i64 tat, .int .i64 tsize] 33; simpa using this
  have HS : Hid (∀ W, Keeps [] W2 W → W.cell? ⟨w.heap.size, 0, none⟩ = some (.int .i64 at_) ∧ W.cell? ⟨w.heap.size, 1, none⟩ = some (.int .i64 size) ∧ W.cell? ⟨w.heap.size + 1, 0, none⟩ = some (.int .i64 tat) ∧ W.cell? ⟨w.heap.size + 1, 1, none⟩ = some (.int .i64 tsize)) := Lib.hid fun W k => ⟨(hb1.keeps k (by simp)).cells 0, (hb1.keeps k (by simp)).cells 1, (hb2.keeps k (by simp)).cells 0, (hb2.keeps k (by simp)).cells 1⟩
  obtain ⟨c0, c1, c2, c3⟩ := HS.out W2 (Keeps.refl _ _)
  have HK := Lib.hid k2
  clear hb1 hb2 k2 h1 h2
  by_cases hA : dqRight at_ size
  case neg =>
    have HD : Hid (decide (rgFeeds at_ size tat tsize) = false) := Lib.hid (decide_eq_false fun h => hA h.1)
    rw [HD.out]
    rw [decide_eq_false hA] at HR
    clear hA
    go_enter Tryz.func40, Tryz.ntmps40
    go_wp2_with fail
    clear hW2
    refine wp_region_held_drew (S := fun w' => w'.cell? ⟨w.heap.size, 0, none⟩ = some (.int .i64 at_) ∧ w'.cell? ⟨w.heap.size, 1, none⟩ = some (.int .i64 size) ∧ w'.cell? ⟨w.heap.size + 1, 0, none⟩ = some (.int .i64 tat) ∧ w'.cell? ⟨w.heap.size + 1, 1, none⟩ = some (.int .i64 tsize)) (by kernel_rfl) (HS.out _ (Keeps.refl [] W2).drew) (fun hHeld => ?_)
    try dsimp only at hHeld
    refine wpAnyH_take (i := 0) (v := ?_) rfl (by kernel_rfl) (by kernel_rfl) (by kernel_rfl) (fun _ _ _ h => h) (Or.inl ⟨by rfl, ?_⟩) (by assumption) ?_
    rotate_left
    · intro w hSw; (try dsimp only at hSw); go_simp; (try with_reducible rfl)
    try simp only [Act.put, List.setIfInBounds_toArray, List.set_cons_zero, List.set_cons_succ, List.getElem_toArray, List.getElem_cons_zero, List.getElem_cons_succ]
    refine wpAnyH_ready (rs := [1]) (by kernel_rfl) (by simp) ?_
    refine AllReadyH.cons rfl (fun K hK => ?_) AllReadyH.nil
    go_simp
    (go_at_call 34; refine (HR.out _).mono ?_; rintro e w2 ⟨rfl, k⟩; have hk2 : Keeps [] W2 w2 := k.undrew; clear k)
    go_wp2_with fail
    refine hK.out _ _ ?_ (fun hHeld => ?_)
    · (try dsimp only); exact HS.out _ hk2
    clear hK K
    try simp only [Act.put, List.setIfInBounds_toArray, List.set_cons_zero, List.set_cons_succ, List.getElem_toArray, List.getElem_cons_zero, List.getElem_cons_succ]
    try dsimp only at hHeld
    refine wpAnyH_take (i := 2) (v := ?_) rfl (by kernel_rfl) (by kernel_rfl) (by kernel_rfl) (fun _ _ _ h => h) (Or.inl ⟨by rfl, ?_⟩) (by assumption) ?_
    rotate_left
    · intro w hSw; (try dsimp only at hSw); go_simp; (try with_reducible rfl)
    try simp only [Act.put, List.setIfInBounds_toArray, List.set_cons_zero, List.set_cons_succ, List.getElem_toArray, List.getElem_cons_zero, List.getElem_cons_succ]
    refine wpAnyH_take (i := 3) (v := undef) rfl (by kernel_rfl) (by kernel_rfl) (by kernel_rfl) (fun _ _ _ h => h) (Or.inr ⟨by rfl, rfl⟩) (by assumption) ?_
    try simp only [Act.put, List.setIfInBounds_toArray, List.set_cons_zero, List.set_cons_succ, List.getElem_toArray, List.getElem_cons_zero, List.getElem_cons_succ]
    refine wpAnyH_take (i := 4) (v := undef) rfl (by kernel_rfl) (by kernel_rfl) (by kernel_rfl) (fun _ _ _ h => h) (Or.inr ⟨by rfl, rfl⟩) (by assumption) ?_
    try simp only [Act.put, List.setIfInBounds_toArray, List.set_cons_zero, List.set_cons_succ, List.getElem_toArray, List.getElem_cons_zero, List.getElem_cons_succ]
    refine wpAnyH_take (i := 5) (v := ?_) rfl (by kernel_rfl) (by kernel_rfl) (by kernel_rfl) (fun _ _ _ h => h) (Or.inl ⟨by rfl, ?_⟩) (by assumption) ?_
    rotate_left
    · intro w hSw; (try dsimp only at hSw); go_simp; (try with_reducible rfl)
    try simp only [Act.put, List.setIfInBounds_toArray, List.set_cons_zero, List.set_cons_succ, List.getElem_toArray, List.getElem_cons_zero, List.getElem_cons_succ]
    refine wpAnyH_take (i := 6) (v := ?_) rfl (by kernel_rfl) (by kernel_rfl) (by kernel_rfl) (fun _ _ _ h => h) (Or.inl ⟨by rfl, ?_⟩) (by assumption) ?_
    rotate_left
    · intro w hSw; (try dsimp only at hSw); go_simp; (try with_reducible rfl)
    try simp only [Act.put, List.setIfInBounds_toArray, List.set_cons_zero, List.set_cons_succ, List.getElem_toArray, List.getElem_cons_zero, List.getElem_cons_succ]
    refine wpAnyH_take (i := 7) (v := undef) rfl (by kernel_rfl) (by kernel_rfl) (by kernel_rfl) (fun _ _ _ h => h) (Or.inr ⟨by rfl, rfl⟩) (by assumption) ?_
    try simp only [Act.put, List.setIfInBounds_toArray, List.set_cons_zero, List.set_cons_succ, List.getElem_toArray, List.getElem_cons_zero, List.getElem_cons_succ]
    refine wpAnyH_take (i := 8) (v := undef) rfl (by kernel_rfl) (by kernel_rfl) (by kernel_rfl) (fun _ _ _ h => h) (Or.inr ⟨by rfl, rfl⟩) (by assumption) ?_
    try simp only [Act.put, List.setIfInBounds_toArray, List.set_cons_zero, List.set_cons_succ, List.getElem_toArray, List.getElem_cons_zero, List.getElem_cons_succ]
    refine wpAnyH_take (i := 9) (v := undef) rfl (by kernel_rfl) (by kernel_rfl) (by kernel_rfl) (fun _ _ _ h => h) (Or.inr ⟨by rfl, rfl⟩) (by assumption) ?_
    try simp only [Act.put, List.setIfInBounds_toArray, List.set_cons_zero, List.set_cons_succ, List.getElem_toArray, List.getElem_cons_zero, List.getElem_cons_succ]
    refine wpAnyH_take (i := 10) (v := undef) rfl (by kernel_rfl) (by kernel_rfl) (by kernel_rfl) (fun _ _ _ h => h) (Or.inr ⟨by rfl, rfl⟩) (by assumption) ?_
    try simp only [Act.put, List.setIfInBounds_toArray, List.set_cons_zero, List.set_cons_succ, List.getElem_toArray, List.getElem_cons_zero, List.getElem_cons_succ]
    refine wpAnyH_take (i := 11) (v := undef) rfl (by kernel_rfl) (by kernel_rfl) (by kernel_rfl) (fun _ _ _ h => h) (Or.inr ⟨by rfl, rfl⟩) (by assumption) ?_
    try simp only [Act.put, List.setIfInBounds_toArray, List.set_cons_zero, List.set_cons_succ, List.getElem_toArray, List.getElem_cons_zero, List.getElem_cons_succ]
    refine wpAnyH_take (i := 12) (v := ?_) rfl (by kernel_rfl) (by kernel_rfl) (by kernel_rfl) (fun _ _ _ h => h) (Or.inl ⟨by rfl, ?_⟩) (by assumption) ?_
    rotate_left
    · intro w hSw; (try dsimp only at hSw); go_simp; (try with_reducible rfl)
    try simp only [Act.put, List.setIfInBounds_toArray, List.set_cons_zero, List.set_cons_succ, List.getElem_toArray, List.getElem_cons_zero, List.getElem_cons_succ]
    refine wpAnyH_take (i := 13) (v := ?_) rfl (by kernel_rfl) (by kernel_rfl) (by kernel_rfl) (fun _ _ _ h => h) (Or.inl ⟨by rfl, ?_⟩) (by assumption) ?_
    rotate_left
    · intro w hSw; (try dsimp only at hSw); go_simp; (try with_reducible rfl)
    try simp only [Act.put, List.setIfInBounds_toArray, List.set_cons_zero, List.set_cons_succ, List.getElem_toArray, List.getElem_cons_zero, List.getElem_cons_succ]
    refine wpAnyH_take (i := 14) (v := undef) rfl (by kernel_rfl) (by kernel_rfl) (by kernel_rfl) (fun _ _ _ h => h) (Or.inr ⟨by rfl, rfl⟩) (by assumption) ?_
    try simp only [Act.put, List.setIfInBounds_toArray, List.set_cons_zero, List.set_cons_succ, List.getElem_toArray, List.getElem_cons_zero, List.getElem_cons_succ]
    refine wpAnyH_take (i := 16) (v := undef) rfl (by kernel_rfl) (by kernel_rfl) (by kernel_rfl) (fun _ _ _ h => h) (Or.inr ⟨by rfl, rfl⟩) (by assumption) ?_
    try simp only [Act.put, List.setIfInBounds_toArray, List.set_cons_zero, List.set_cons_succ, List.getElem_toArray, List.getElem_cons_zero, List.getElem_cons_succ]
    refine wpAnyH_take (i := 17) (v := undef) rfl (by kernel_rfl) (by kernel_rfl) (by kernel_rfl) (fun _ _ _ h => h) (Or.inr ⟨by rfl, rfl⟩) (by assumption) ?_
    try simp only [Act.put, List.setIfInBounds_toArray, List.set_cons_zero, List.set_cons_succ, List.getElem_toArray, List.getElem_cons_zero, List.getElem_cons_succ]
    refine wpAnyH_take (i := 15) (v := undef) rfl (by kernel_rfl) (by kernel_rfl) (by kernel_rfl) (fun _ _ _ h => h) (Or.inr ⟨by rfl, rfl⟩) (by assumption) ?_
    try simp only [Act.put, List.setIfInBounds_toArray, List.set_cons_zero, List.set_cons_succ, List.getElem_toArray, List.getElem_cons_zero, List.getElem_cons_succ]
    refine wpAnyH_take (i := 18) (v := undef) rfl (by kernel_rfl) (by kernel_rfl) (by kernel_rfl) (fun _ _ _ h => h) (Or.inr ⟨by rfl, rfl⟩) (by assumption) ?_
    try simp only [Act.put, List.setIfInBounds_toArray, List.set_cons_zero, List.set_cons_succ, List.getElem_toArray, List.getElem_cons_zero, List.getElem_cons_succ]
    refine wpAnyH_take (i := 19) (v := undef) rfl (by kernel_rfl) (by kernel_rfl) (by kernel_rfl) (fun _ _ _ h => h) (Or.inr ⟨by rfl, rfl⟩) (by assumption) ?_
    try simp only [Act.put, List.setIfInBounds_toArray, List.set_cons_zero, List.set_cons_succ, List.getElem_toArray, List.getElem_cons_zero, List.getElem_cons_succ]
    refine wpAnyH_take (i := 20) (v := undef) rfl (by kernel_rfl) (by kernel_rfl) (by kernel_rfl) (fun _ _ _ h => h) (Or.inr ⟨by rfl, rfl⟩) (by assumption) ?_
    try simp only [Act.put, List.setIfInBounds_toArray, List.set_cons_zero, List.set_cons_succ, List.getElem_toArray, List.getElem_cons_zero, List.getElem_cons_succ]
    refine wpAnyH_take (i := 21) (v := undef) rfl (by kernel_rfl) (by kernel_rfl) (by kernel_rfl) (fun _ _ _ h => h) (Or.inr ⟨by rfl, rfl⟩) (by assumption) ?_
    try simp only [Act.put, List.setIfInBounds_toArray, List.set_cons_zero, List.set_cons_succ, List.getElem_toArray, List.getElem_cons_zero, List.getElem_cons_succ]
    refine wpAnyH_take (i := 22) (v := undef) rfl (by kernel_rfl) (by kernel_rfl) (by kernel_rfl) (fun _ _ _ h => h) (Or.inr ⟨by rfl, rfl⟩) (by assumption) ?_
    try simp only [Act.put, List.setIfInBounds_toArray, List.set_cons_zero, List.set_cons_succ, List.getElem_toArray, List.getElem_cons_zero, List.getElem_cons_succ]
    refine wpAnyH_take (i := 23) (v := undef) rfl (by kernel_rfl) (by kernel_rfl) (by kernel_rfl) (fun _ _ _ h => h) (Or.inr ⟨by rfl, rfl⟩) (by assumption) ?_
    try simp only [Act.put, List.setIfInBounds_toArray, List.set_cons_zero, List.set_cons_succ, List.getElem_toArray, List.getElem_cons_zero, List.getElem_cons_succ]
    refine wpAnyH_take (i := 24) (v := undef) rfl (by kernel_rfl) (by kernel_rfl) (by kernel_rfl) (fun _ _ _ h => h) (Or.inr ⟨by rfl, rfl⟩) (by assumption) ?_
    try simp only [Act.put, List.setIfInBounds_toArray, List.set_cons_zero, List.set_cons_succ, List.getElem_toArray, List.getElem_cons_zero, List.getElem_cons_succ]
    refine wpAnyH_take (i := 25) (v := undef) rfl (by kernel_rfl) (by kernel_rfl) (by kernel_rfl) (fun _ _ _ h => h) (Or.inr ⟨by rfl, rfl⟩) (by assumption) ?_
    try simp only [Act.put, List.setIfInBounds_toArray, List.set_cons_zero, List.set_cons_succ, List.getElem_toArray, List.getElem_cons_zero, List.getElem_cons_succ]
    refine wpAnyH_take (i := 26) (v := ?_) rfl (by kernel_rfl) (by kernel_rfl) (by kernel_rfl) (fun _ _ _ h => h) (Or.inl ⟨by rfl, ?_⟩) (by assumption) ?_
    rotate_left
    · intro w hSw; (try dsimp only at hSw); go_simp; (try with_reducible rfl)
    try simp only [Act.put, List.setIfInBounds_toArray, List.set_cons_zero, List.set_cons_succ, List.getElem_toArray, List.getElem_cons_zero, List.getElem_cons_succ]
    refine wpAnyH_take (i := 27) (v := ?_) rfl (by kernel_rfl) (by kernel_rfl) (by kernel_rfl) (fun _ _ _ h => h) (Or.inl ⟨by rfl, ?_⟩) (by assumption) ?_
    rotate_left
    · intro w hSw; (try dsimp only at hSw); go_simp; (try with_reducible rfl)
    try simp only [Act.put, List.setIfInBounds_toArray, List.set_cons_zero, List.set_cons_succ, List.getElem_toArray, List.getElem_cons_zero, List.getElem_cons_succ]
    refine wpAnyH_done (by kernel_rfl) ?_ _
    go_wp2
    go_ret
    exact ⟨rfl, HK.out.trans hk2⟩
  rw [decide_eq_true hA] at HR
  have HL := Lib.hid (fun W => rgLastCell_any at_ size W hA)
  by_cases hB : dqRight tat tsize
  case neg =>
    have HD : Hid (decide (rgFeeds at_ size tat tsize) = false) := Lib.hid (decide_eq_false fun h => hB h.2.1)
    rw [HD.out]
    rw [decide_eq_false hB] at HRt
    clear hA hB
    go_enter Tryz.func40, Tryz.ntmps40
    go_wp2_with fail
    clear hW2
    refine wp_region_held_drew (S := fun w' => w'.cell? ⟨w.heap.size, 0, none⟩ = some (.int .i64 at_) ∧ w'.cell? ⟨w.heap.size, 1, none⟩ = some (.int .i64 size) ∧ w'.cell? ⟨w.heap.size + 1, 0, none⟩ = some (.int .i64 tat) ∧ w'.cell? ⟨w.heap.size + 1, 1, none⟩ = some (.int .i64 tsize)) (by kernel_rfl) (HS.out _ (Keeps.refl [] W2).drew) (fun hHeld => ?_)
    try dsimp only at hHeld
    refine wpAnyH_take (i := 0) (v := ?_) rfl (by kernel_rfl) (by kernel_rfl) (by kernel_rfl) (fun _ _ _ h => h) (Or.inl ⟨by rfl, ?_⟩) (by assumption) ?_
    rotate_left
    · intro w hSw; (try dsimp only at hSw); go_simp; (try with_reducible rfl)
    try simp only [Act.put, List.setIfInBounds_toArray, List.set_cons_zero, List.set_cons_succ, List.getElem_toArray, List.getElem_cons_zero, List.getElem_cons_succ]
    refine wpAnyH_ready (rs := [1]) (by kernel_rfl) (by simp) ?_
    refine AllReadyH.cons rfl (fun K hK => ?_) AllReadyH.nil
    go_simp
    (go_at_call 34; refine (HR.out _).mono ?_; rintro e w2 ⟨rfl, k⟩; have hk2 : Keeps [] W2 w2 := k.undrew; clear k)
    go_wp2_with fail
    refine hK.out _ _ ?_ (fun hHeld => ?_)
    · (try dsimp only); exact HS.out _ hk2
    clear hK K
    try simp only [Act.put, List.setIfInBounds_toArray, List.set_cons_zero, List.set_cons_succ, List.getElem_toArray, List.getElem_cons_zero, List.getElem_cons_succ]
    try dsimp only at hHeld
    refine wpAnyH_take (i := 2) (v := ?_) rfl (by kernel_rfl) (by kernel_rfl) (by kernel_rfl) (fun _ _ _ h => h) (Or.inl ⟨by rfl, ?_⟩) (by assumption) ?_
    rotate_left
    · intro w hSw; (try dsimp only at hSw); go_simp; (try with_reducible rfl)
    try simp only [Act.put, List.setIfInBounds_toArray, List.set_cons_zero, List.set_cons_succ, List.getElem_toArray, List.getElem_cons_zero, List.getElem_cons_succ]
    refine wpAnyH_take (i := 3) (v := ?_) rfl (by kernel_rfl) (by kernel_rfl) (by kernel_rfl) (fun _ _ _ h => h) (Or.inl ⟨by rfl, ?_⟩) (by assumption) ?_
    rotate_left
    · intro w hSw; (try dsimp only at hSw); go_simp; (try with_reducible rfl)
    try simp only [Act.put, List.setIfInBounds_toArray, List.set_cons_zero, List.set_cons_succ, List.getElem_toArray, List.getElem_cons_zero, List.getElem_cons_succ]
    refine wpAnyH_ready (rs := [4]) (by kernel_rfl) (by simp) ?_
    refine AllReadyH.cons rfl (fun K hK => ?_) AllReadyH.nil
    go_simp
    (go_at_call 34; refine (HRt.out _).mono ?_; rintro e w3 ⟨rfl, k⟩; have hk3 : Keeps [] W2 w3 := hk2.trans k; clear k)
    go_wp2_with fail
    refine hK.out _ _ ?_ (fun hHeld => ?_)
    · (try dsimp only); exact HS.out _ hk3
    clear hK K
    try simp only [Act.put, List.setIfInBounds_toArray, List.set_cons_zero, List.set_cons_succ, List.getElem_toArray, List.getElem_cons_zero, List.getElem_cons_succ]
    try dsimp only at hHeld
    refine wpAnyH_take (i := 5) (v := ?_) rfl (by kernel_rfl) (by kernel_rfl) (by kernel_rfl) (fun _ _ _ h => h) (Or.inl ⟨by rfl, ?_⟩) (by assumption) ?_
    rotate_left
    · intro w hSw; (try dsimp only at hSw); go_simp; (try with_reducible rfl)
    try simp only [Act.put, List.setIfInBounds_toArray, List.set_cons_zero, List.set_cons_succ, List.getElem_toArray, List.getElem_cons_zero, List.getElem_cons_succ]
    refine wpAnyH_take (i := 6) (v := ?_) rfl (by kernel_rfl) (by kernel_rfl) (by kernel_rfl) (fun _ _ _ h => h) (Or.inl ⟨by rfl, ?_⟩) (by assumption) ?_
    rotate_left
    · intro w hSw; (try dsimp only at hSw); go_simp; (try with_reducible rfl)
    try simp only [Act.put, List.setIfInBounds_toArray, List.set_cons_zero, List.set_cons_succ, List.getElem_toArray, List.getElem_cons_zero, List.getElem_cons_succ]
    refine wpAnyH_take (i := 7) (v := undef) rfl (by kernel_rfl) (by kernel_rfl) (by kernel_rfl) (fun _ _ _ h => h) (Or.inr ⟨by rfl, rfl⟩) (by assumption) ?_
    try simp only [Act.put, List.setIfInBounds_toArray, List.set_cons_zero, List.set_cons_succ, List.getElem_toArray, List.getElem_cons_zero, List.getElem_cons_succ]
    refine wpAnyH_take (i := 8) (v := undef) rfl (by kernel_rfl) (by kernel_rfl) (by kernel_rfl) (fun _ _ _ h => h) (Or.inr ⟨by rfl, rfl⟩) (by assumption) ?_
    try simp only [Act.put, List.setIfInBounds_toArray, List.set_cons_zero, List.set_cons_succ, List.getElem_toArray, List.getElem_cons_zero, List.getElem_cons_succ]
    refine wpAnyH_take (i := 9) (v := undef) rfl (by kernel_rfl) (by kernel_rfl) (by kernel_rfl) (fun _ _ _ h => h) (Or.inr ⟨by rfl, rfl⟩) (by assumption) ?_
    try simp only [Act.put, List.setIfInBounds_toArray, List.set_cons_zero, List.set_cons_succ, List.getElem_toArray, List.getElem_cons_zero, List.getElem_cons_succ]
    refine wpAnyH_take (i := 10) (v := undef) rfl (by kernel_rfl) (by kernel_rfl) (by kernel_rfl) (fun _ _ _ h => h) (Or.inr ⟨by rfl, rfl⟩) (by assumption) ?_
    try simp only [Act.put, List.setIfInBounds_toArray, List.set_cons_zero, List.set_cons_succ, List.getElem_toArray, List.getElem_cons_zero, List.getElem_cons_succ]
    refine wpAnyH_take (i := 11) (v := undef) rfl (by kernel_rfl) (by kernel_rfl) (by kernel_rfl) (fun _ _ _ h => h) (Or.inr ⟨by rfl, rfl⟩) (by assumption) ?_
    try simp only [Act.put, List.setIfInBounds_toArray, List.set_cons_zero, List.set_cons_succ, List.getElem_toArray, List.getElem_cons_zero, List.getElem_cons_succ]
    refine wpAnyH_take (i := 12) (v := ?_) rfl (by kernel_rfl) (by kernel_rfl) (by kernel_rfl) (fun _ _ _ h => h) (Or.inl ⟨by rfl, ?_⟩) (by assumption) ?_
    rotate_left
    · intro w hSw; (try dsimp only at hSw); go_simp; (try with_reducible rfl)
    try simp only [Act.put, List.setIfInBounds_toArray, List.set_cons_zero, List.set_cons_succ, List.getElem_toArray, List.getElem_cons_zero, List.getElem_cons_succ]
    refine wpAnyH_take (i := 13) (v := ?_) rfl (by kernel_rfl) (by kernel_rfl) (by kernel_rfl) (fun _ _ _ h => h) (Or.inl ⟨by rfl, ?_⟩) (by assumption) ?_
    rotate_left
    · intro w hSw; (try dsimp only at hSw); go_simp; (try with_reducible rfl)
    try simp only [Act.put, List.setIfInBounds_toArray, List.set_cons_zero, List.set_cons_succ, List.getElem_toArray, List.getElem_cons_zero, List.getElem_cons_succ]
    refine wpAnyH_take (i := 14) (v := undef) rfl (by kernel_rfl) (by kernel_rfl) (by kernel_rfl) (fun _ _ _ h => h) (Or.inr ⟨by rfl, rfl⟩) (by assumption) ?_
    try simp only [Act.put, List.setIfInBounds_toArray, List.set_cons_zero, List.set_cons_succ, List.getElem_toArray, List.getElem_cons_zero, List.getElem_cons_succ]
    refine wpAnyH_take (i := 16) (v := undef) rfl (by kernel_rfl) (by kernel_rfl) (by kernel_rfl) (fun _ _ _ h => h) (Or.inr ⟨by rfl, rfl⟩) (by assumption) ?_
    try simp only [Act.put, List.setIfInBounds_toArray, List.set_cons_zero, List.set_cons_succ, List.getElem_toArray, List.getElem_cons_zero, List.getElem_cons_succ]
    refine wpAnyH_take (i := 17) (v := undef) rfl (by kernel_rfl) (by kernel_rfl) (by kernel_rfl) (fun _ _ _ h => h) (Or.inr ⟨by rfl, rfl⟩) (by assumption) ?_
    try simp only [Act.put, List.setIfInBounds_toArray, List.set_cons_zero, List.set_cons_succ, List.getElem_toArray, List.getElem_cons_zero, List.getElem_cons_succ]
    refine wpAnyH_take (i := 15) (v := undef) rfl (by kernel_rfl) (by kernel_rfl) (by kernel_rfl) (fun _ _ _ h => h) (Or.inr ⟨by rfl, rfl⟩) (by assumption) ?_
    try simp only [Act.put, List.setIfInBounds_toArray, List.set_cons_zero, List.set_cons_succ, List.getElem_toArray, List.getElem_cons_zero, List.getElem_cons_succ]
    refine wpAnyH_take (i := 18) (v := undef) rfl (by kernel_rfl) (by kernel_rfl) (by kernel_rfl) (fun _ _ _ h => h) (Or.inr ⟨by rfl, rfl⟩) (by assumption) ?_
    try simp only [Act.put, List.setIfInBounds_toArray, List.set_cons_zero, List.set_cons_succ, List.getElem_toArray, List.getElem_cons_zero, List.getElem_cons_succ]
    refine wpAnyH_take (i := 19) (v := undef) rfl (by kernel_rfl) (by kernel_rfl) (by kernel_rfl) (fun _ _ _ h => h) (Or.inr ⟨by rfl, rfl⟩) (by assumption) ?_
    try simp only [Act.put, List.setIfInBounds_toArray, List.set_cons_zero, List.set_cons_succ, List.getElem_toArray, List.getElem_cons_zero, List.getElem_cons_succ]
    refine wpAnyH_take (i := 20) (v := undef) rfl (by kernel_rfl) (by kernel_rfl) (by kernel_rfl) (fun _ _ _ h => h) (Or.inr ⟨by rfl, rfl⟩) (by assumption) ?_
    try simp only [Act.put, List.setIfInBounds_toArray, List.set_cons_zero, List.set_cons_succ, List.getElem_toArray, List.getElem_cons_zero, List.getElem_cons_succ]
    refine wpAnyH_take (i := 21) (v := undef) rfl (by kernel_rfl) (by kernel_rfl) (by kernel_rfl) (fun _ _ _ h => h) (Or.inr ⟨by rfl, rfl⟩) (by assumption) ?_
    try simp only [Act.put, List.setIfInBounds_toArray, List.set_cons_zero, List.set_cons_succ, List.getElem_toArray, List.getElem_cons_zero, List.getElem_cons_succ]
    refine wpAnyH_take (i := 22) (v := undef) rfl (by kernel_rfl) (by kernel_rfl) (by kernel_rfl) (fun _ _ _ h => h) (Or.inr ⟨by rfl, rfl⟩) (by assumption) ?_
    try simp only [Act.put, List.setIfInBounds_toArray, List.set_cons_zero, List.set_cons_succ, List.getElem_toArray, List.getElem_cons_zero, List.getElem_cons_succ]
    refine wpAnyH_take (i := 23) (v := undef) rfl (by kernel_rfl) (by kernel_rfl) (by kernel_rfl) (fun _ _ _ h => h) (Or.inr ⟨by rfl, rfl⟩) (by assumption) ?_
    try simp only [Act.put, List.setIfInBounds_toArray, List.set_cons_zero, List.set_cons_succ, List.getElem_toArray, List.getElem_cons_zero, List.getElem_cons_succ]
    refine wpAnyH_take (i := 24) (v := undef) rfl (by kernel_rfl) (by kernel_rfl) (by kernel_rfl) (fun _ _ _ h => h) (Or.inr ⟨by rfl, rfl⟩) (by assumption) ?_
    try simp only [Act.put, List.setIfInBounds_toArray, List.set_cons_zero, List.set_cons_succ, List.getElem_toArray, List.getElem_cons_zero, List.getElem_cons_succ]
    refine wpAnyH_take (i := 25) (v := undef) rfl (by kernel_rfl) (by kernel_rfl) (by kernel_rfl) (fun _ _ _ h => h) (Or.inr ⟨by rfl, rfl⟩) (by assumption) ?_
    try simp only [Act.put, List.setIfInBounds_toArray, List.set_cons_zero, List.set_cons_succ, List.getElem_toArray, List.getElem_cons_zero, List.getElem_cons_succ]
    refine wpAnyH_take (i := 26) (v := ?_) rfl (by kernel_rfl) (by kernel_rfl) (by kernel_rfl) (fun _ _ _ h => h) (Or.inl ⟨by rfl, ?_⟩) (by assumption) ?_
    rotate_left
    · intro w hSw; (try dsimp only at hSw); go_simp; (try with_reducible rfl)
    try simp only [Act.put, List.setIfInBounds_toArray, List.set_cons_zero, List.set_cons_succ, List.getElem_toArray, List.getElem_cons_zero, List.getElem_cons_succ]
    refine wpAnyH_take (i := 27) (v := ?_) rfl (by kernel_rfl) (by kernel_rfl) (by kernel_rfl) (fun _ _ _ h => h) (Or.inl ⟨by rfl, ?_⟩) (by assumption) ?_
    rotate_left
    · intro w hSw; (try dsimp only at hSw); go_simp; (try with_reducible rfl)
    try simp only [Act.put, List.setIfInBounds_toArray, List.set_cons_zero, List.set_cons_succ, List.getElem_toArray, List.getElem_cons_zero, List.getElem_cons_succ]
    refine wpAnyH_done (by kernel_rfl) ?_ _
    go_wp2
    go_ret
    exact ⟨rfl, HK.out.trans hk3⟩
  rw [decide_eq_true hB] at HRt
  have HLt := Lib.hid (fun W => rgLastCell_any tat tsize W hB)
  by_cases hC : size = tsize
  case neg =>
    have HD : Hid (decide (rgFeeds at_ size tat tsize) = false) := Lib.hid (decide_eq_false fun h => hC h.2.2.1)
    rw [HD.out]
    have dC : (size == tsize) = false := beq_eq_false_iff_ne.2 hC
    clear hA hB hC
    go_enter Tryz.func40, Tryz.ntmps40
    go_wp2_with fail
    clear hW2
    refine wp_region_held_drew (S := fun w' => w'.cell? ⟨w.heap.size, 0, none⟩ = some (.int .i64 at_) ∧ w'.cell? ⟨w.heap.size, 1, none⟩ = some (.int .i64 size) ∧ w'.cell? ⟨w.heap.size + 1, 0, none⟩ = some (.int .i64 tat) ∧ w'.cell? ⟨w.heap.size + 1, 1, none⟩ = some (.int .i64 tsize)) (by kernel_rfl) (HS.out _ (Keeps.refl [] W2).drew) (fun hHeld => ?_)
    try dsimp only at hHeld
    refine wpAnyH_take (i := 0) (v := ?_) rfl (by kernel_rfl) (by kernel_rfl) (by kernel_rfl) (fun _ _ _ h => h) (Or.inl ⟨by rfl, ?_⟩) (by assumption) ?_
    rotate_left
    · intro w hSw; (try dsimp only at hSw); go_simp; (try with_reducible rfl)
    try simp only [Act.put, List.setIfInBounds_toArray, List.set_cons_zero, List.set_cons_succ, List.getElem_toArray, List.getElem_cons_zero, List.getElem_cons_succ]
    refine wpAnyH_ready (rs := [1]) (by kernel_rfl) (by simp) ?_
    refine AllReadyH.cons rfl (fun K hK => ?_) AllReadyH.nil
    go_simp
    (go_at_call 34; refine (HR.out _).mono ?_; rintro e w2 ⟨rfl, k⟩; have hk2 : Keeps [] W2 w2 := k.undrew; clear k)
    go_wp2_with fail
    refine hK.out _ _ ?_ (fun hHeld => ?_)
    · (try dsimp only); exact HS.out _ hk2
    clear hK K
    try simp only [Act.put, List.setIfInBounds_toArray, List.set_cons_zero, List.set_cons_succ, List.getElem_toArray, List.getElem_cons_zero, List.getElem_cons_succ]
    try dsimp only at hHeld
    refine wpAnyH_take (i := 2) (v := ?_) rfl (by kernel_rfl) (by kernel_rfl) (by kernel_rfl) (fun _ _ _ h => h) (Or.inl ⟨by rfl, ?_⟩) (by assumption) ?_
    rotate_left
    · intro w hSw; (try dsimp only at hSw); go_simp; (try with_reducible rfl)
    try simp only [Act.put, List.setIfInBounds_toArray, List.set_cons_zero, List.set_cons_succ, List.getElem_toArray, List.getElem_cons_zero, List.getElem_cons_succ]
    refine wpAnyH_take (i := 3) (v := ?_) rfl (by kernel_rfl) (by kernel_rfl) (by kernel_rfl) (fun _ _ _ h => h) (Or.inl ⟨by rfl, ?_⟩) (by assumption) ?_
    rotate_left
    · intro w hSw; (try dsimp only at hSw); go_simp; (try with_reducible rfl)
    try simp only [Act.put, List.setIfInBounds_toArray, List.set_cons_zero, List.set_cons_succ, List.getElem_toArray, List.getElem_cons_zero, List.getElem_cons_succ]
    refine wpAnyH_ready (rs := [4]) (by kernel_rfl) (by simp) ?_
    refine AllReadyH.cons rfl (fun K hK => ?_) AllReadyH.nil
    go_simp
    (go_at_call 34; refine (HRt.out _).mono ?_; rintro e w3 ⟨rfl, k⟩; have hk3 : Keeps [] W2 w3 := hk2.trans k; clear k)
    go_wp2_with fail
    refine hK.out _ _ ?_ (fun hHeld => ?_)
    · (try dsimp only); exact HS.out _ hk3
    clear hK K
    try simp only [Act.put, List.setIfInBounds_toArray, List.set_cons_zero, List.set_cons_succ, List.getElem_toArray, List.getElem_cons_zero, List.getElem_cons_succ]
    try dsimp only at hHeld
    refine wpAnyH_take (i := 5) (v := ?_) rfl (by kernel_rfl) (by kernel_rfl) (by kernel_rfl) (fun _ _ _ h => h) (Or.inl ⟨by rfl, ?_⟩) (by assumption) ?_
    rotate_left
    · intro w hSw; (try dsimp only at hSw); go_simp; (try with_reducible rfl)
    try simp only [Act.put, List.setIfInBounds_toArray, List.set_cons_zero, List.set_cons_succ, List.getElem_toArray, List.getElem_cons_zero, List.getElem_cons_succ]
    refine wpAnyH_take (i := 6) (v := ?_) rfl (by kernel_rfl) (by kernel_rfl) (by kernel_rfl) (fun _ _ _ h => h) (Or.inl ⟨by rfl, ?_⟩) (by assumption) ?_
    rotate_left
    · intro w hSw; (try dsimp only at hSw); go_simp; (try with_reducible rfl)
    try simp only [Act.put, List.setIfInBounds_toArray, List.set_cons_zero, List.set_cons_succ, List.getElem_toArray, List.getElem_cons_zero, List.getElem_cons_succ]
    refine wpAnyH_take (i := 7) (v := ?_) rfl (by kernel_rfl) (by kernel_rfl) (by kernel_rfl) (fun _ _ _ h => h) (Or.inl ⟨by rfl, ?_⟩) (by assumption) ?_
    rotate_left
    · intro w hSw; (try dsimp only at hSw); go_simp; (try with_reducible rfl)
    try simp only [Act.put, List.setIfInBounds_toArray, List.set_cons_zero, List.set_cons_succ, List.getElem_toArray, List.getElem_cons_zero, List.getElem_cons_succ]
    refine wpAnyH_take (i := 8) (v := ?_) rfl (by kernel_rfl) (by kernel_rfl) (by kernel_rfl) (fun _ _ _ h => h) (Or.inl ⟨by rfl, ?_⟩) (by assumption) ?_
    rotate_left
    · intro w hSw; (try dsimp only at hSw); go_simp; (try with_reducible rfl)
    try simp only [Act.put, List.setIfInBounds_toArray, List.set_cons_zero, List.set_cons_succ, List.getElem_toArray, List.getElem_cons_zero, List.getElem_cons_succ]
    refine wpAnyH_take (i := 9) (v := ?_) rfl (by kernel_rfl) (by kernel_rfl) (by kernel_rfl) (fun _ _ _ h => h) (Or.inl ⟨by rfl, ?_⟩) (by assumption) ?_
    rotate_left
    · intro w hSw; (try dsimp only at hSw); go_simp; (try with_reducible rfl)
    try simp only [Act.put, List.setIfInBounds_toArray, List.set_cons_zero, List.set_cons_succ, List.getElem_toArray, List.getElem_cons_zero, List.getElem_cons_succ]
    refine wpAnyH_take (i := 10) (v := ?_) rfl (by kernel_rfl) (by kernel_rfl) (by kernel_rfl) (fun _ _ _ h => h) (Or.inl ⟨by rfl, ?_⟩) (by assumption) ?_
    rotate_left
    · intro w hSw; (try dsimp only at hSw); go_simp; (try with_reducible rfl)
    try simp only [Act.put, List.setIfInBounds_toArray, List.set_cons_zero, List.set_cons_succ, List.getElem_toArray, List.getElem_cons_zero, List.getElem_cons_succ]
    refine wpAnyH_take (i := 11) (v := ?_) rfl (by kernel_rfl) (by kernel_rfl) (by kernel_rfl) (fun _ _ _ h => h) (Or.inl ⟨by rfl, ?_⟩) (by assumption) ?_
    rotate_left
    · intro w hSw; (try dsimp only at hSw); go_simp; (try with_reducible rfl)
    try simp only [Act.put, List.setIfInBounds_toArray, List.set_cons_zero, List.set_cons_succ, List.getElem_toArray, List.getElem_cons_zero, List.getElem_cons_succ]
    refine wpAnyH_take (i := 12) (v := ?_) rfl (by kernel_rfl) (by kernel_rfl) (by kernel_rfl) (fun _ _ _ h => h) (Or.inl ⟨by rfl, ?_⟩) (by assumption) ?_
    rotate_left
    · intro w hSw; (try dsimp only at hSw); go_simp; (try with_reducible rfl)
    try simp only [Act.put, List.setIfInBounds_toArray, List.set_cons_zero, List.set_cons_succ, List.getElem_toArray, List.getElem_cons_zero, List.getElem_cons_succ]
    refine wpAnyH_take (i := 13) (v := ?_) rfl (by kernel_rfl) (by kernel_rfl) (by kernel_rfl) (fun _ _ _ h => h) (Or.inl ⟨by rfl, ?_⟩) (by assumption) ?_
    rotate_left
    · intro w hSw; (try dsimp only at hSw); go_simp; (try with_reducible rfl)
    try simp only [Act.put, List.setIfInBounds_toArray, List.set_cons_zero, List.set_cons_succ, List.getElem_toArray, List.getElem_cons_zero, List.getElem_cons_succ]
    refine wpAnyH_take (i := 14) (v := undef) rfl (by kernel_rfl) (by kernel_rfl) (by kernel_rfl) (fun _ _ _ h => h) (Or.inr ⟨by rfl, rfl⟩) (by assumption) ?_
    try simp only [Act.put, List.setIfInBounds_toArray, List.set_cons_zero, List.set_cons_succ, List.getElem_toArray, List.getElem_cons_zero, List.getElem_cons_succ]
    refine wpAnyH_take (i := 16) (v := undef) rfl (by kernel_rfl) (by kernel_rfl) (by kernel_rfl) (fun _ _ _ h => h) (Or.inr ⟨by rfl, rfl⟩) (by assumption) ?_
    try simp only [Act.put, List.setIfInBounds_toArray, List.set_cons_zero, List.set_cons_succ, List.getElem_toArray, List.getElem_cons_zero, List.getElem_cons_succ]
    refine wpAnyH_take (i := 17) (v := undef) rfl (by kernel_rfl) (by kernel_rfl) (by kernel_rfl) (fun _ _ _ h => h) (Or.inr ⟨by rfl, rfl⟩) (by assumption) ?_
    try simp only [Act.put, List.setIfInBounds_toArray, List.set_cons_zero, List.set_cons_succ, List.getElem_toArray, List.getElem_cons_zero, List.getElem_cons_succ]
    refine wpAnyH_take (i := 15) (v := undef) rfl (by kernel_rfl) (by kernel_rfl) (by kernel_rfl) (fun _ _ _ h => h) (Or.inr ⟨by rfl, rfl⟩) (by assumption) ?_
    try simp only [Act.put, List.setIfInBounds_toArray, List.set_cons_zero, List.set_cons_succ, List.getElem_toArray, List.getElem_cons_zero, List.getElem_cons_succ]
    refine wpAnyH_take (i := 18) (v := undef) rfl (by kernel_rfl) (by kernel_rfl) (by kernel_rfl) (fun _ _ _ h => h) (Or.inr ⟨by rfl, rfl⟩) (by assumption) ?_
    try simp only [Act.put, List.setIfInBounds_toArray, List.set_cons_zero, List.set_cons_succ, List.getElem_toArray, List.getElem_cons_zero, List.getElem_cons_succ]
    refine wpAnyH_take (i := 19) (v := undef) rfl (by kernel_rfl) (by kernel_rfl) (by kernel_rfl) (fun _ _ _ h => h) (Or.inr ⟨by rfl, rfl⟩) (by assumption) ?_
    try simp only [Act.put, List.setIfInBounds_toArray, List.set_cons_zero, List.set_cons_succ, List.getElem_toArray, List.getElem_cons_zero, List.getElem_cons_succ]
    refine wpAnyH_take (i := 20) (v := undef) rfl (by kernel_rfl) (by kernel_rfl) (by kernel_rfl) (fun _ _ _ h => h) (Or.inr ⟨by rfl, rfl⟩) (by assumption) ?_
    try simp only [Act.put, List.setIfInBounds_toArray, List.set_cons_zero, List.set_cons_succ, List.getElem_toArray, List.getElem_cons_zero, List.getElem_cons_succ]
    refine wpAnyH_take (i := 21) (v := undef) rfl (by kernel_rfl) (by kernel_rfl) (by kernel_rfl) (fun _ _ _ h => h) (Or.inr ⟨by rfl, rfl⟩) (by assumption) ?_
    try simp only [Act.put, List.setIfInBounds_toArray, List.set_cons_zero, List.set_cons_succ, List.getElem_toArray, List.getElem_cons_zero, List.getElem_cons_succ]
    refine wpAnyH_take (i := 22) (v := undef) rfl (by kernel_rfl) (by kernel_rfl) (by kernel_rfl) (fun _ _ _ h => h) (Or.inr ⟨by rfl, rfl⟩) (by assumption) ?_
    try simp only [Act.put, List.setIfInBounds_toArray, List.set_cons_zero, List.set_cons_succ, List.getElem_toArray, List.getElem_cons_zero, List.getElem_cons_succ]
    refine wpAnyH_take (i := 23) (v := undef) rfl (by kernel_rfl) (by kernel_rfl) (by kernel_rfl) (fun _ _ _ h => h) (Or.inr ⟨by rfl, rfl⟩) (by assumption) ?_
    try simp only [Act.put, List.setIfInBounds_toArray, List.set_cons_zero, List.set_cons_succ, List.getElem_toArray, List.getElem_cons_zero, List.getElem_cons_succ]
    refine wpAnyH_take (i := 24) (v := undef) rfl (by kernel_rfl) (by kernel_rfl) (by kernel_rfl) (fun _ _ _ h => h) (Or.inr ⟨by rfl, rfl⟩) (by assumption) ?_
    try simp only [Act.put, List.setIfInBounds_toArray, List.set_cons_zero, List.set_cons_succ, List.getElem_toArray, List.getElem_cons_zero, List.getElem_cons_succ]
    refine wpAnyH_take (i := 25) (v := undef) rfl (by kernel_rfl) (by kernel_rfl) (by kernel_rfl) (fun _ _ _ h => h) (Or.inr ⟨by rfl, rfl⟩) (by assumption) ?_
    try simp only [Act.put, List.setIfInBounds_toArray, List.set_cons_zero, List.set_cons_succ, List.getElem_toArray, List.getElem_cons_zero, List.getElem_cons_succ]
    refine wpAnyH_take (i := 26) (v := ?_) rfl (by kernel_rfl) (by kernel_rfl) (by kernel_rfl) (fun _ _ _ h => h) (Or.inl ⟨by rfl, ?_⟩) (by assumption) ?_
    rotate_left
    · intro w hSw; (try dsimp only at hSw); go_simp; (try with_reducible rfl)
    try simp only [Act.put, List.setIfInBounds_toArray, List.set_cons_zero, List.set_cons_succ, List.getElem_toArray, List.getElem_cons_zero, List.getElem_cons_succ]
    refine wpAnyH_take (i := 27) (v := ?_) rfl (by kernel_rfl) (by kernel_rfl) (by kernel_rfl) (fun _ _ _ h => h) (Or.inl ⟨by rfl, ?_⟩) (by assumption) ?_
    rotate_left
    · intro w hSw; (try dsimp only at hSw); go_simp; (try with_reducible rfl)
    try simp only [Act.put, List.setIfInBounds_toArray, List.set_cons_zero, List.set_cons_succ, List.getElem_toArray, List.getElem_cons_zero, List.getElem_cons_succ]
    refine wpAnyH_done (by kernel_rfl) ?_ _
    go_wp2
    go_ret
    exact ⟨rfl, HK.out.trans hk3⟩
  have HC := Lib.hid hC
  have hrs : rgFeeds at_ size tat tsize ↔ (at_ + size + 1 < tat ∨ tat + tsize + 1 < at_) := ⟨fun h => h.2.2.2, fun h => ⟨hA, hB, hC, h⟩⟩
  subst hC
  by_cases hD : at_ + size + 1 < tat
  · have HD : Hid (decide (rgFeeds at_ size tat size) = true) := Lib.hid (decide_eq_true (hrs.2 (.inl hD)))
    rw [HD.out]
    have dD : decide (at_ + size + 1 < tat) = true := decide_eq_true hD
    clear hA hB hD hrs
    go_enter Tryz.func40, Tryz.ntmps40
    go_wp2_with fail
    clear hW2
    refine wp_region_held_drew (S := fun w' => w'.cell? ⟨w.heap.size, 0, none⟩ = some (.int .i64 at_) ∧ w'.cell? ⟨w.heap.size, 1, none⟩ = some (.int .i64 size) ∧ w'.cell? ⟨w.heap.size + 1, 0, none⟩ = some (.int .i64 tat) ∧ w'.cell? ⟨w.heap.size + 1, 1, none⟩ = some (.int .i64 size)) (by kernel_rfl) (HS.out _ (Keeps.refl [] W2).drew) (fun hHeld => ?_)
    try dsimp only at hHeld
    refine wpAnyH_take (i := 0) (v := ?_) rfl (by kernel_rfl) (by kernel_rfl) (by kernel_rfl) (fun _ _ _ h => h) (Or.inl ⟨by rfl, ?_⟩) (by assumption) ?_
    rotate_left
    · intro w hSw; (try dsimp only at hSw); go_simp; (try with_reducible rfl)
    try simp only [Act.put, List.setIfInBounds_toArray, List.set_cons_zero, List.set_cons_succ, List.getElem_toArray, List.getElem_cons_zero, List.getElem_cons_succ]
    refine wpAnyH_ready (rs := [1]) (by kernel_rfl) (by simp) ?_
    refine AllReadyH.cons rfl (fun K hK => ?_) AllReadyH.nil
    go_simp
    (go_at_call 34; refine (HR.out _).mono ?_; rintro e w2 ⟨rfl, k⟩; have hk2 : Keeps [] W2 w2 := k.undrew; clear k)
    go_wp2_with fail
    refine hK.out _ _ ?_ (fun hHeld => ?_)
    · (try dsimp only); exact HS.out _ hk2
    clear hK K
    try simp only [Act.put, List.setIfInBounds_toArray, List.set_cons_zero, List.set_cons_succ, List.getElem_toArray, List.getElem_cons_zero, List.getElem_cons_succ]
    try dsimp only at hHeld
    refine wpAnyH_take (i := 2) (v := ?_) rfl (by kernel_rfl) (by kernel_rfl) (by kernel_rfl) (fun _ _ _ h => h) (Or.inl ⟨by rfl, ?_⟩) (by assumption) ?_
    rotate_left
    · intro w hSw; (try dsimp only at hSw); go_simp; (try with_reducible rfl)
    try simp only [Act.put, List.setIfInBounds_toArray, List.set_cons_zero, List.set_cons_succ, List.getElem_toArray, List.getElem_cons_zero, List.getElem_cons_succ]
    refine wpAnyH_take (i := 3) (v := ?_) rfl (by kernel_rfl) (by kernel_rfl) (by kernel_rfl) (fun _ _ _ h => h) (Or.inl ⟨by rfl, ?_⟩) (by assumption) ?_
    rotate_left
    · intro w hSw; (try dsimp only at hSw); go_simp; (try with_reducible rfl)
    try simp only [Act.put, List.setIfInBounds_toArray, List.set_cons_zero, List.set_cons_succ, List.getElem_toArray, List.getElem_cons_zero, List.getElem_cons_succ]
    refine wpAnyH_ready (rs := [4]) (by kernel_rfl) (by simp) ?_
    refine AllReadyH.cons rfl (fun K hK => ?_) AllReadyH.nil
    go_simp
    (go_at_call 34; refine (HRt.out _).mono ?_; rintro e w3 ⟨rfl, k⟩; have hk3 : Keeps [] W2 w3 := hk2.trans k; clear k)
    go_wp2_with fail
    refine hK.out _ _ ?_ (fun hHeld => ?_)
    · (try dsimp only); exact HS.out _ hk3
    clear hK K
    try simp only [Act.put, List.setIfInBounds_toArray, List.set_cons_zero, List.set_cons_succ, List.getElem_toArray, List.getElem_cons_zero, List.getElem_cons_succ]
    try dsimp only at hHeld
    refine wpAnyH_take (i := 5) (v := ?_) rfl (by kernel_rfl) (by kernel_rfl) (by kernel_rfl) (fun _ _ _ h => h) (Or.inl ⟨by rfl, ?_⟩) (by assumption) ?_
    rotate_left
    · intro w hSw; (try dsimp only at hSw); go_simp; (try with_reducible rfl)
    try simp only [Act.put, List.setIfInBounds_toArray, List.set_cons_zero, List.set_cons_succ, List.getElem_toArray, List.getElem_cons_zero, List.getElem_cons_succ]
    refine wpAnyH_take (i := 6) (v := ?_) rfl (by kernel_rfl) (by kernel_rfl) (by kernel_rfl) (fun _ _ _ h => h) (Or.inl ⟨by rfl, ?_⟩) (by assumption) ?_
    rotate_left
    · intro w hSw; (try dsimp only at hSw); go_simp; (try with_reducible rfl)
    try simp only [Act.put, List.setIfInBounds_toArray, List.set_cons_zero, List.set_cons_succ, List.getElem_toArray, List.getElem_cons_zero, List.getElem_cons_succ]
    refine wpAnyH_take (i := 7) (v := ?_) rfl (by kernel_rfl) (by kernel_rfl) (by kernel_rfl) (fun _ _ _ h => h) (Or.inl ⟨by rfl, ?_⟩) (by assumption) ?_
    rotate_left
    · intro w hSw; (try dsimp only at hSw); go_simp; (try with_reducible rfl)
    try simp only [Act.put, List.setIfInBounds_toArray, List.set_cons_zero, List.set_cons_succ, List.getElem_toArray, List.getElem_cons_zero, List.getElem_cons_succ]
    refine wpAnyH_take (i := 8) (v := ?_) rfl (by kernel_rfl) (by kernel_rfl) (by kernel_rfl) (fun _ _ _ h => h) (Or.inl ⟨by rfl, ?_⟩) (by assumption) ?_
    rotate_left
    · intro w hSw; (try dsimp only at hSw); go_simp; (try with_reducible rfl)
    try simp only [Act.put, List.setIfInBounds_toArray, List.set_cons_zero, List.set_cons_succ, List.getElem_toArray, List.getElem_cons_zero, List.getElem_cons_succ]
    refine wpAnyH_take (i := 9) (v := ?_) rfl (by kernel_rfl) (by kernel_rfl) (by kernel_rfl) (fun _ _ _ h => h) (Or.inl ⟨by rfl, ?_⟩) (by assumption) ?_
    rotate_left
    · intro w hSw; (try dsimp only at hSw); go_simp; (try with_reducible rfl)
    try simp only [Act.put, List.setIfInBounds_toArray, List.set_cons_zero, List.set_cons_succ, List.getElem_toArray, List.getElem_cons_zero, List.getElem_cons_succ]
    refine wpAnyH_take (i := 10) (v := ?_) rfl (by kernel_rfl) (by kernel_rfl) (by kernel_rfl) (fun _ _ _ h => h) (Or.inl ⟨by rfl, ?_⟩) (by assumption) ?_
    rotate_left
    · intro w hSw; (try dsimp only at hSw); go_simp; (try with_reducible rfl)
    try simp only [Act.put, List.setIfInBounds_toArray, List.set_cons_zero, List.set_cons_succ, List.getElem_toArray, List.getElem_cons_zero, List.getElem_cons_succ]
    refine wpAnyH_take (i := 11) (v := ?_) rfl (by kernel_rfl) (by kernel_rfl) (by kernel_rfl) (fun _ _ _ h => h) (Or.inl ⟨by rfl, ?_⟩) (by assumption) ?_
    rotate_left
    · intro w hSw; (try dsimp only at hSw); go_simp; (try with_reducible rfl)
    try simp only [Act.put, List.setIfInBounds_toArray, List.set_cons_zero, List.set_cons_succ, List.getElem_toArray, List.getElem_cons_zero, List.getElem_cons_succ]
    refine wpAnyH_take (i := 12) (v := ?_) rfl (by kernel_rfl) (by kernel_rfl) (by kernel_rfl) (fun _ _ _ h => h) (Or.inl ⟨by rfl, ?_⟩) (by assumption) ?_
    rotate_left
    · intro w hSw; (try dsimp only at hSw); go_simp; (try with_reducible rfl)
    try simp only [Act.put, List.setIfInBounds_toArray, List.set_cons_zero, List.set_cons_succ, List.getElem_toArray, List.getElem_cons_zero, List.getElem_cons_succ]
    refine wpAnyH_take (i := 13) (v := ?_) rfl (by kernel_rfl) (by kernel_rfl) (by kernel_rfl) (fun _ _ _ h => h) (Or.inl ⟨by rfl, ?_⟩) (by assumption) ?_
    rotate_left
    · intro w hSw; (try dsimp only at hSw); go_simp; (try with_reducible rfl)
    try simp only [Act.put, List.setIfInBounds_toArray, List.set_cons_zero, List.set_cons_succ, List.getElem_toArray, List.getElem_cons_zero, List.getElem_cons_succ]
    refine wpAnyH_take (i := 14) (v := ?_) rfl (by kernel_rfl) (by kernel_rfl) (by kernel_rfl) (fun _ _ _ h => h) (Or.inl ⟨by rfl, ?_⟩) (by assumption) ?_
    rotate_left
    · intro w hSw; (try dsimp only at hSw); go_simp; (try with_reducible rfl)
    try simp only [Act.put, List.setIfInBounds_toArray, List.set_cons_zero, List.set_cons_succ, List.getElem_toArray, List.getElem_cons_zero, List.getElem_cons_succ]
    refine wpAnyH_take (i := 16) (v := ?_) rfl (by kernel_rfl) (by kernel_rfl) (by kernel_rfl) (fun _ _ _ h => h) (Or.inl ⟨by rfl, ?_⟩) (by assumption) ?_
    rotate_left
    · intro w hSw; (try dsimp only at hSw); go_simp; (try with_reducible rfl)
    try simp only [Act.put, List.setIfInBounds_toArray, List.set_cons_zero, List.set_cons_succ, List.getElem_toArray, List.getElem_cons_zero, List.getElem_cons_succ]
    refine wpAnyH_take (i := 17) (v := ?_) rfl (by kernel_rfl) (by kernel_rfl) (by kernel_rfl) (fun _ _ _ h => h) (Or.inl ⟨by rfl, ?_⟩) (by assumption) ?_
    rotate_left
    · intro w hSw; (try dsimp only at hSw); go_simp; (try with_reducible rfl)
    try simp only [Act.put, List.setIfInBounds_toArray, List.set_cons_zero, List.set_cons_succ, List.getElem_toArray, List.getElem_cons_zero, List.getElem_cons_succ]
    refine wpAnyH_ready (rs := [15]) (by kernel_rfl) (by simp) ?_
    refine AllReadyH.cons rfl (fun K hK => ?_) AllReadyH.nil
    go_simp
    (go_at_call 56; refine (HL.out _).mono ?_; rintro e w4 ⟨rfl, k⟩; have hk4 : Keeps [] W2 w4 := hk3.trans k; clear k)
    go_wp2_with fail
    refine hK.out _ _ ?_ (fun hHeld => ?_)
    · (try dsimp only); exact HS.out _ hk4
    clear hK K
    try simp only [Act.put, List.setIfInBounds_toArray, List.set_cons_zero, List.set_cons_succ, List.getElem_toArray, List.getElem_cons_zero, List.getElem_cons_succ]
    try dsimp only at hHeld
    refine wpAnyH_take (i := 18) (v := ?_) rfl (by kernel_rfl) (by kernel_rfl) (by kernel_rfl) (fun _ _ _ h => h) (Or.inl ⟨by rfl, ?_⟩) (by assumption) ?_
    rotate_left
    · intro w hSw; (try dsimp only at hSw); go_simp; (try with_reducible rfl)
    try simp only [Act.put, List.setIfInBounds_toArray, List.set_cons_zero, List.set_cons_succ, List.getElem_toArray, List.getElem_cons_zero, List.getElem_cons_succ]
    refine wpAnyH_take (i := 19) (v := ?_) rfl (by kernel_rfl) (by kernel_rfl) (by kernel_rfl) (fun _ _ _ h => h) (Or.inl ⟨by rfl, ?_⟩) (by assumption) ?_
    rotate_left
    · intro w hSw; (try dsimp only at hSw); go_simp; (try with_reducible rfl)
    try simp only [Act.put, List.setIfInBounds_toArray, List.set_cons_zero, List.set_cons_succ, List.getElem_toArray, List.getElem_cons_zero, List.getElem_cons_succ]
    refine wpAnyH_take (i := 20) (v := undef) rfl (by kernel_rfl) (by kernel_rfl) (by kernel_rfl) (fun _ _ _ h => h) (Or.inr ⟨by rfl, rfl⟩) (by assumption) ?_
    try simp only [Act.put, List.setIfInBounds_toArray, List.set_cons_zero, List.set_cons_succ, List.getElem_toArray, List.getElem_cons_zero, List.getElem_cons_succ]
    refine wpAnyH_take (i := 21) (v := undef) rfl (by kernel_rfl) (by kernel_rfl) (by kernel_rfl) (fun _ _ _ h => h) (Or.inr ⟨by rfl, rfl⟩) (by assumption) ?_
    try simp only [Act.put, List.setIfInBounds_toArray, List.set_cons_zero, List.set_cons_succ, List.getElem_toArray, List.getElem_cons_zero, List.getElem_cons_succ]
    refine wpAnyH_take (i := 22) (v := undef) rfl (by kernel_rfl) (by kernel_rfl) (by kernel_rfl) (fun _ _ _ h => h) (Or.inr ⟨by rfl, rfl⟩) (by assumption) ?_
    try simp only [Act.put, List.setIfInBounds_toArray, List.set_cons_zero, List.set_cons_succ, List.getElem_toArray, List.getElem_cons_zero, List.getElem_cons_succ]
    refine wpAnyH_take (i := 23) (v := undef) rfl (by kernel_rfl) (by kernel_rfl) (by kernel_rfl) (fun _ _ _ h => h) (Or.inr ⟨by rfl, rfl⟩) (by assumption) ?_
    try simp only [Act.put, List.setIfInBounds_toArray, List.set_cons_zero, List.set_cons_succ, List.getElem_toArray, List.getElem_cons_zero, List.getElem_cons_succ]
    refine wpAnyH_take (i := 24) (v := undef) rfl (by kernel_rfl) (by kernel_rfl) (by kernel_rfl) (fun _ _ _ h => h) (Or.inr ⟨by rfl, rfl⟩) (by assumption) ?_
    try simp only [Act.put, List.setIfInBounds_toArray, List.set_cons_zero, List.set_cons_succ, List.getElem_toArray, List.getElem_cons_zero, List.getElem_cons_succ]
    refine wpAnyH_take (i := 25) (v := ?_) rfl (by kernel_rfl) (by kernel_rfl) (by kernel_rfl) (fun _ _ _ h => h) (Or.inl ⟨by rfl, ?_⟩) (by assumption) ?_
    rotate_left
    · intro w hSw; (try dsimp only at hSw); go_simp; (try with_reducible rfl)
    try simp only [Act.put, List.setIfInBounds_toArray, List.set_cons_zero, List.set_cons_succ, List.getElem_toArray, List.getElem_cons_zero, List.getElem_cons_succ]
    refine wpAnyH_take (i := 26) (v := ?_) rfl (by kernel_rfl) (by kernel_rfl) (by kernel_rfl) (fun _ _ _ h => h) (Or.inl ⟨by rfl, ?_⟩) (by assumption) ?_
    rotate_left
    · intro w hSw; (try dsimp only at hSw); go_simp; (try with_reducible rfl)
    try simp only [Act.put, List.setIfInBounds_toArray, List.set_cons_zero, List.set_cons_succ, List.getElem_toArray, List.getElem_cons_zero, List.getElem_cons_succ]
    refine wpAnyH_take (i := 27) (v := ?_) rfl (by kernel_rfl) (by kernel_rfl) (by kernel_rfl) (fun _ _ _ h => h) (Or.inl ⟨by rfl, ?_⟩) (by assumption) ?_
    rotate_left
    · intro w hSw; (try dsimp only at hSw); go_simp; (try with_reducible rfl)
    try simp only [Act.put, List.setIfInBounds_toArray, List.set_cons_zero, List.set_cons_succ, List.getElem_toArray, List.getElem_cons_zero, List.getElem_cons_succ]
    refine wpAnyH_done (by kernel_rfl) ?_ _
    go_wp2
    go_ret
    exact ⟨rfl, HK.out.trans hk4⟩
  have dD : decide (at_ + size + 1 < tat) = false := decide_eq_false hD
  by_cases hE : tat + size + 1 < at_
  · have HD : Hid (decide (rgFeeds at_ size tat size) = true) := Lib.hid (decide_eq_true (hrs.2 (.inr hE)))
    rw [HD.out]
    have dE : decide (tat + size + 1 < at_) = true := decide_eq_true hE
    clear hA hB hD hE hrs
    go_enter Tryz.func40, Tryz.ntmps40
    go_wp2_with fail
    first
      | (go_region_held3 (fun w' => w'.cell? ⟨w.heap.size, 0, none⟩ = some (.int .i64 at_) ∧ w'.cell? ⟨w.heap.size, 1, none⟩ = some (.int .i64 size) ∧ w'.cell? ⟨w.heap.size + 1, 0, none⟩ = some (.int .i64 tat) ∧ w'.cell? ⟨w.heap.size + 1, 1, none⟩ = some (.int .i64 size))
          (first
            | exact HS.out _ hk5
            | exact HS.out _ hk4
            | exact HS.out _ hk3
            | exact HS.out _ hk2
            | exact ⟨by assumption, by assumption, by assumption, by assumption⟩
            | exact HS.out _ (Keeps.refl [] W2).drew
            | fail)
          (first
            | (have _ := hk4; go_at_call 56; refine (HLt.out _).mono ?_; rintro e w5 ⟨rfl, k⟩; have hk5 : Keeps [] W2 w5 := hk4.trans k; clear k)
            | (have _ := hk3; go_at_call 56; refine (HL.out _).mono ?_; rintro e w4 ⟨rfl, k⟩; have hk4 : Keeps [] W2 w4 := hk3.trans k; clear k)
            | (have _ := hk2; go_at_call 34; refine (HRt.out _).mono ?_; rintro e w3 ⟨rfl, k⟩; have hk3 : Keeps [] W2 w3 := hk2.trans k; clear k)
            | (go_at_call 34; refine (HR.out _).mono ?_; rintro e w2 ⟨rfl, k⟩; have hk2 : Keeps [] W2 w2 := k.undrew; clear k)
            | fail))
      | fail
    all_goals (try go_wp2)
    go_ret
    exact ⟨rfl, HK.out.trans hk5⟩
  · have HD : Hid (decide (rgFeeds at_ size tat size) = false) := Lib.hid (decide_eq_false fun h => by rcases hrs.1 h with h | h; exact hD h; exact hE h)
    rw [HD.out]
    have dE : decide (tat + size + 1 < at_) = false := decide_eq_false hE
    clear hA hB hD hE hrs
    go_enter Tryz.func40, Tryz.ntmps40
    go_wp2_with fail
    first
      | (go_region_held3 (fun w' => w'.cell? ⟨w.heap.size, 0, none⟩ = some (.int .i64 at_) ∧ w'.cell? ⟨w.heap.size, 1, none⟩ = some (.int .i64 size) ∧ w'.cell? ⟨w.heap.size + 1, 0, none⟩ = some (.int .i64 tat) ∧ w'.cell? ⟨w.heap.size + 1, 1, none⟩ = some (.int .i64 size))
          (first
            | exact HS.out _ hk5
            | exact HS.out _ hk4
            | exact HS.out _ hk3
            | exact HS.out _ hk2
            | exact ⟨by assumption, by assumption, by assumption, by assumption⟩
            | exact HS.out _ (Keeps.refl [] W2).drew
            | fail)
          (first
            | (have _ := hk4; go_at_call 56; refine (HLt.out _).mono ?_; rintro e w5 ⟨rfl, k⟩; have hk5 : Keeps [] W2 w5 := hk4.trans k; clear k)
            | (have _ := hk3; go_at_call 56; refine (HL.out _).mono ?_; rintro e w4 ⟨rfl, k⟩; have hk4 : Keeps [] W2 w4 := hk3.trans k; clear k)
            | (have _ := hk2; go_at_call 34; refine (HRt.out _).mono ?_; rintro e w3 ⟨rfl, k⟩; have hk3 : Keeps [] W2 w3 := hk2.trans k; clear k)
            | (go_at_call 34; refine (HR.out _).mono ?_; rintro e w2 ⟨rfl, k⟩; have hk2 : Keeps [] W2 w2 := k.undrew; clear k)
            | fail))
      | fail
    all_goals (try go_wp2)
    go_ret
    exact ⟨rfl, HK.out.trans hk5⟩
end Go.Proofs.YtjbgkaleickknaaGreat

/-
  Contracts: a ring's Push, Pop and Steal are made.
-/
namespace Go.Proofs.YtjbgkaleickknaaGreat
set_option maxRecDepth 100000
set_option linter.unusedSimpArgs false
set_option linter.unusedVariables false
open Go.ChangeShapes Go.WideShapes Go.ChangeAt Go.RowKit

set_option maxHeartbeats 1600000 in
theorem rgAlong1_any (m bf bb bd : Nat) (at_ size kind v target : Int) (fits : Bool) (F : FuncId) (ca : Array Value) (w : World) (hw : Wk w m wk1) (hf : Box w bf #[.bool fits]) (hd : Box w bd #[.int .i64 at_, .int .i64 size]) (hb : Box w bb #[.func (.func F) #[] ca])
    (hcf : ∀ args w, (callFunc F args).run Tryz.prog w = .ok (.enter F args) w)
    (hF : fits = true → Calls Tryz.prog F (#[.agg #[.pointer (some ⟨m, 0, none⟩), .int .i64 at_, .int .i64 size, .int .u64 0, .int .u32 0, .int .u32 0, .int .u32 0, .nilFunc, .nilFunc, .slice none 0 0]] ++ ca) w fun e w2 => e = .returned (.tuple #[]) ∧ GoesO ringM (rgE m) m wk1 [] [] (rgBegin at_ size kind v target true) w w2) :
    Calls Tryz.prog 58 #[.pointer (some ⟨m, 0, none⟩), .pointer (some ⟨bf, 0, none⟩), .pointer (some ⟨bb, 0, none⟩), .pointer (some ⟨bd, 0, none⟩)] w fun e w' => e = .returned (.tuple #[]) ∧ ∃ st2, Wk w' m st2 ∧ st2.under = 1 ∧ MidO ringM (rgE m) m [m] [] (rgBegin at_ size kind v target fits) w w' st2 := by
  have HW := Lib.hid hw
  have hml := hw.lt
  have h0 := hd.cells 0
  have h1 := hd.cells 1
  have h2 := hb.cells 0
  have h3 := hf.cells 0
  cases fits with
  | true =>
    have HE := Lib.hid (hF rfl)
    clear hw hd hb hF hf
    go_enter Tryz.func58, Tryz.ntmps58
    go_wp2_with fail
    refine HE.out.mono ?_
    rintro e2 w3 ⟨rfl, hg⟩
    have HG := Lib.hid hg
    clear hg
    go_wp2
    first | go_end0 | refine bodyPost_ret (results_none rfl _ _ _) rfl ?_
    exact ⟨rfl, GoesO.new HG.out HW.out (rgEnded m) (by simp [ringM, rgBegin])⟩
  | false =>
    have HE := Lib.hid (wBreak m wk1 2 w hw rfl (.inl (by decide)))
    clear hw hd hb hF hf
    go_enter Tryz.func58, Tryz.ntmps58
    go_wp2_with fail
    refine HE.out.mono ?_
    rintro e2 w3 ⟨rfl, l', hw3, ho3, k3⟩
    have HG : Hid (_ ∧ _ ∧ _) := Lib.hid ⟨hw3, ho3, k3⟩
    clear hw3 ho3 k3
    go_wp2
    first | go_end0 | refine bodyPost_ret (results_none rfl _ _ _) rfl ?_
    obtain ⟨hw3, ho3, k3⟩ := HG.out
    have hov : (rgBegin at_ size kind v target false).over = some ⟨2, 0, []⟩ := by simp [rgBegin]
    exact ⟨rfl, _, hw3, rfl, ended_mid hml hw3 ho3 k3 (by simp [ringM, hov]) hov (by simp [ringM, rgHeld, hov]) (rgEnded m)⟩

set_option maxHeartbeats 1600000 in
theorem rgAlong_any (at_ size kind v target : Int) (fits : Bool) (F : FuncId) (ca : Array Value) (w : World) (hcf : ∀ args w, (callFunc F args).run Tryz.prog w = .ok (.enter F args) w)
    (hF : fits = true → ∀ m w1, Wk w1 m wk1 → Keeps [] w w1 → Calls Tryz.prog F (#[.agg #[.pointer (some ⟨m, 0, none⟩), .int .i64 at_, .int .i64 size, .int .u64 0, .int .u32 0, .int .u32 0, .int .u32 0, .nilFunc, .nilFunc, .slice none 0 0]] ++ ca) w1 fun e w2 => e = .returned (.tuple #[]) ∧ GoesO ringM (rgE m) m wk1 [] [] (rgBegin at_ size kind v target true) w1 w2) :
    Calls Tryz.prog 33 #[.agg #[.int .i64 at_, .int .i64 size], .bool fits, .func (.func F) #[] ca] w fun e w' => ∃ (m : Nat) (S : List Nat), e = .returned (.pointer (some ⟨m, 0, none⟩)) ∧ LoneIO ringM (rgE m) m w' S (rgBegin at_ size kind v target fits) ∧ Keeps [] w w' ∧ ∀ k ∈ S, w.heap.size ≤ k := by
  obtain ⟨W1, hW1⟩ : ∃ W1, ((w.alloc (.cells #[.int .i64 at_, .int .i64 size] 33)).alloc (.cells #[.bool fits] 4)).alloc (.cells #[.func (.func F) #[] ca] 88) = W1 := ⟨_, rfl⟩
  have hk1 : Keeps [] w W1 := by rw [← hW1]; exact (((Keeps.refl _ _).alloc _).alloc _).alloc _
  have hbd : Box W1 w.heap.size #[.int .i64 at_, .int .i64 size] := by rw [← hW1]; exact ((Box.new _ _ _).alloc _).alloc _
  have hbf : Box W1 (w.heap.size + 1) #[.bool fits] := by rw [← hW1]; have := (Box.new (w.alloc (.cells #[.int .i64 at_, .int .i64 size] 33)) #[.bool fits] 4).alloc (.cells #[.func (.func F) #[] ca] 88); simpa using this
  have hbb : Box W1 (w.heap.size + 1 + 1) #[.func (.func F) #[] ca] := by rw [← hW1]; have := Box.new ((w.alloc (.cells #[.int .i64 at_, .int .i64 size] 33)).alloc (.cells #[.bool fits] 4)) #[.func (.func F) #[] ca] 88; simpa using this
  have HN := Lib.hid (new_goesO ringM (rgE (W1.heap.size + 1)) (rgBegin at_ size kind v target fits) 58 #[.pointer (some ⟨w.heap.size + 1, 0, none⟩), .pointer (some ⟨w.heap.size + 1 + 1, 0, none⟩), .pointer (some ⟨w.heap.size, 0, none⟩)] W1 (rgE_keeps _) (rgEnded _) (fun _ _ => by kernel_rfl)
    (fun w3 h3 k3 => rgAlong1_any _ _ _ _ at_ size kind v target fits F ca w3 h3 (hbf.keeps k3 (by simp)) (hbd.keeps k3 (by simp)) (hbb.keeps k3 (by simp)) hcf (fun hr => hF hr _ w3 h3 (hk1.trans k3))))
  have HK := Lib.hid hk1
  clear hk1 hbd hbf hbb hF
  go_enter Tryz.func33, Tryz.ntmps33
  go_wp2_with fail
  refine HN.out.mono ?_
  rintro e w4 ⟨rfl, S, hI, k4, hS⟩
  have HP : Hid (_ ∧ _ ∧ _) := Lib.hid ⟨hI, HK.out.trans k4, fun k hk => Nat.le_trans HK.out.size (hS k hk)⟩
  clear hI k4 hS
  go_wp2
  go_ret
  exact ⟨_, S, rfl, HP.out⟩

set_option maxHeartbeats 1600000 in
theorem rgPush_made (at_ size v : Int) (w : World) (hsz : -9223372036854775808 ≤ size) (hv : M.U v) :
    Calls Tryz.prog 17 #[.agg #[.int .i64 at_, .int .i64 size], .int .u64 v] w fun e w' => ∃ (m : Nat) (S : List Nat), e = .returned (.pointer (some ⟨m, 0, none⟩)) ∧ LoneIO ringM (rgE m) m w' S (rgBegin at_ size 1 v 0 (decide (dqRight at_ size))) ∧ Keeps [] w w' ∧ ∀ k ∈ S, w.heap.size ≤ k := by
  obtain ⟨W1, hW1⟩ : ∃ W1, (w.alloc (.cells #[.int .i64 at_, .int .i64 size] 33)).alloc (.cells #[.int .u64 v] 34) = W1 := ⟨_, rfl⟩
  have hk1 : Keeps [] w W1 := by rw [← hW1]; exact ((Keeps.refl _ _).alloc _).alloc _
  have hbd : Box W1 w.heap.size #[.int .i64 at_, .int .i64 size] := by rw [← hW1]; exact (Box.new _ _ _).alloc _
  have hb : Box W1 (w.heap.size + 1) #[.int .u64 v] := by rw [← hW1]; have := Box.new (w.alloc (.cells #[.int .i64 at_, .int .i64 size] 33)) #[.int .u64 v] 34; simpa using this
  have c0 := hbd.cells 0
  have c1 := hbd.cells 1
  have HR := Lib.hid (fun W => rgRight_any at_ size W hsz)
  have HE := Lib.hid (fun W (k : Keeps [] W1 W) => rgAlong_any at_ size 1 v 0 (decide (dqRight at_ size)) 35 #[.pointer (some ⟨w.heap.size + 1, 0, none⟩)] W (fun _ _ => by kernel_rfl) (fun hr m w3 h3 k3 => rgPush1_any m (w.heap.size + 1) at_ size v w3 h3 (hb.keeps (k.trans k3) (by simp)) (of_decide_eq_true hr) hv))
  have HK := Lib.hid hk1
  have HB := Lib.hid hbd
  clear hk1 hb hv hbd
  go_enter Tryz.func17, Tryz.ntmps17
  go_wp2_with fail
  go_region_held3 (fun w' => w'.cell? ⟨w.heap.size, 0, none⟩ = some (.int .i64 at_) ∧ w'.cell? ⟨w.heap.size, 1, none⟩ = some (.int .i64 size))
    (first
      | exact ⟨(HB.out.keeps hk4 (by simp)).cells 0, (HB.out.keeps hk4 (by simp)).cells 1⟩
      | exact ⟨(HB.out.keeps hk2 (by simp)).cells 0, (HB.out.keeps hk2 (by simp)).cells 1⟩
      | exact ⟨by assumption, by assumption⟩
      | fail)
    (first
      | (go_at_call 34; refine (HR.out _).mono ?_; rintro e2 w2 ⟨rfl, k⟩; have hk2 : Keeps [] W1 w2 := k.undrew; clear k)
      | (go_at_call 33; refine (HE.out _ hk2).mono ?_; rintro e4 w4 ⟨m, S, rfl, hI, k4, hS⟩; have hk4 : Keeps [] W1 w4 := (hk2).trans k4; have hz4 : W1.heap.size ≤ (w2).heap.size := (hk2).size)
      | fail)
  all_goals go_wp2
  all_goals go_ret
  all_goals exact ⟨m, S, rfl, hI, HK.out.trans hk4, fun k hk => Nat.le_trans (Nat.le_trans HK.out.size hz4) (hS k hk)⟩

set_option maxHeartbeats 1600000 in
theorem rgPop_made (at_ size : Int) (w : World) (hsz : -9223372036854775808 ≤ size) :
    Calls Tryz.prog 20 #[.agg #[.int .i64 at_, .int .i64 size]] w fun e w' => ∃ (m : Nat) (S : List Nat), e = .returned (.pointer (some ⟨m, 0, none⟩)) ∧ LoneIO ringM (rgE m) m w' S (rgBegin at_ size 2 0 0 (decide (dqRight at_ size))) ∧ Keeps [] w w' ∧ ∀ k ∈ S, w.heap.size ≤ k := by
  obtain ⟨W1, hW1⟩ : ∃ W1, w.alloc (.cells #[.int .i64 at_, .int .i64 size] 33) = W1 := ⟨_, rfl⟩
  have hk1 : Keeps [] w W1 := by rw [← hW1]; exact (Keeps.refl _ _).alloc _
  have hbd : Box W1 w.heap.size #[.int .i64 at_, .int .i64 size] := by rw [← hW1]; exact Box.new _ _ _
  have c0 := hbd.cells 0
  have c1 := hbd.cells 1
  have HR := Lib.hid (fun W => rgRight_any at_ size W hsz)
  have HE := Lib.hid (fun W (k : Keeps [] W1 W) => rgAlong_any at_ size 2 0 0 (decide (dqRight at_ size)) 46 #[] W (fun _ _ => by kernel_rfl) (fun hr m w3 h3 k3 => rgPop1_any m at_ size w3 h3 (of_decide_eq_true hr)))
  have HK := Lib.hid hk1
  have HB := Lib.hid hbd
  clear hk1 hbd
  go_enter Tryz.func20, Tryz.ntmps20
  go_wp2_with fail
  go_region_held3 (fun w' => w'.cell? ⟨w.heap.size, 0, none⟩ = some (.int .i64 at_) ∧ w'.cell? ⟨w.heap.size, 1, none⟩ = some (.int .i64 size))
    (first
      | exact ⟨(HB.out.keeps hk4 (by simp)).cells 0, (HB.out.keeps hk4 (by simp)).cells 1⟩
      | exact ⟨(HB.out.keeps hk2 (by simp)).cells 0, (HB.out.keeps hk2 (by simp)).cells 1⟩
      | exact ⟨by assumption, by assumption⟩
      | fail)
    (first
      | (go_at_call 34; refine (HR.out _).mono ?_; rintro e2 w2 ⟨rfl, k⟩; have hk2 : Keeps [] W1 w2 := k.undrew; clear k)
      | (go_at_call 33; refine (HE.out _ hk2).mono ?_; rintro e4 w4 ⟨m, S, rfl, hI, k4, hS⟩; have hk4 : Keeps [] W1 w4 := (hk2).trans k4; have hz4 : W1.heap.size ≤ (w2).heap.size := (hk2).size)
      | fail)
  all_goals go_wp2
  all_goals go_ret
  all_goals exact ⟨m, S, rfl, hI, HK.out.trans hk4, fun k hk => Nat.le_trans (Nat.le_trans HK.out.size hz4) (hS k hk)⟩

set_option maxHeartbeats 1600000 in
theorem rgSteal_made (at_ size tat tsize : Int) (w : World) (hsz : -9223372036854775808 ≤ size) (htz : -9223372036854775808 ≤ tsize) :
    Calls Tryz.prog 19 #[.agg #[.int .i64 at_, .int .i64 size], .agg #[.int .i64 tat, .int .i64 tsize]] w fun e w' => ∃ (m : Nat) (S : List Nat), e = .returned (.pointer (some ⟨m, 0, none⟩)) ∧ LoneIO ringM (rgE m) m w' S (rgBegin at_ size 3 0 tat (decide (rgFeeds at_ size tat tsize))) ∧ Keeps [] w w' ∧ ∀ k ∈ S, w.heap.size ≤ k := by
  obtain ⟨W1, hW1⟩ : ∃ W1, (w.alloc (.cells #[.int .i64 at_, .int .i64 size] 33)).alloc (.cells #[.int .i64 tat, .int .i64 tsize] 33) = W1 := ⟨_, rfl⟩
  have hk1 : Keeps [] w W1 := by rw [← hW1]; exact ((Keeps.refl _ _).alloc _).alloc _
  have hbd : Box W1 w.heap.size #[.int .i64 at_, .int .i64 size] := by rw [← hW1]; exact (Box.new _ _ _).alloc _
  have hb : Box W1 (w.heap.size + 1) #[.int .i64 tat, .int .i64 tsize] := by rw [← hW1]; have := Box.new (w.alloc (.cells #[.int .i64 at_, .int .i64 size] 33)) #[.int .i64 tat, .int .i64 tsize] 33; simpa using this
  have c0 := hbd.cells 0
  have c1 := hbd.cells 1
  have c2 := hb.cells 0
  have c3 := hb.cells 1
  have HR := Lib.hid (fun W => rgFeeds_any at_ size tat tsize W hsz htz)
  have HE := Lib.hid (fun W (k : Keeps [] W1 W) => rgAlong_any at_ size 3 0 tat (decide (rgFeeds at_ size tat tsize)) 41 #[.pointer (some ⟨w.heap.size + 1, 0, none⟩)] W (fun _ _ => by kernel_rfl) (fun hr m w3 h3 k3 => by
    have hf := of_decide_eq_true hr
    have hb3 := hb.keeps (k.trans k3) (by simp)
    rw [← hf.2.2.1] at hb3
    exact rgSteal1_any m (w.heap.size + 1) at_ size tat w3 h3 hb3 hf.1 (hf.2.2.1 ▸ hf.2.1)))
  have HK := Lib.hid hk1
  have HB := Lib.hid hbd
  have HB2 := Lib.hid hb
  clear hk1 hbd hb
  go_enter Tryz.func19, Tryz.ntmps19
  go_wp2_with fail
  go_region_held3 (fun w' => w'.cell? ⟨w.heap.size, 0, none⟩ = some (.int .i64 at_) ∧ w'.cell? ⟨w.heap.size, 1, none⟩ = some (.int .i64 size) ∧ w'.cell? ⟨w.heap.size + 1, 0, none⟩ = some (.int .i64 tat) ∧ w'.cell? ⟨w.heap.size + 1, 1, none⟩ = some (.int .i64 tsize))
    (first
      | exact ⟨(HB.out.keeps hk4 (by simp)).cells 0, (HB.out.keeps hk4 (by simp)).cells 1, (HB2.out.keeps hk4 (by simp)).cells 0, (HB2.out.keeps hk4 (by simp)).cells 1⟩
      | exact ⟨(HB.out.keeps hk2 (by simp)).cells 0, (HB.out.keeps hk2 (by simp)).cells 1, (HB2.out.keeps hk2 (by simp)).cells 0, (HB2.out.keeps hk2 (by simp)).cells 1⟩
      | exact ⟨by assumption, by assumption, by assumption, by assumption⟩
      | fail)
    (first
      | (go_at_call 40; refine (HR.out _).mono ?_; rintro e2 w2 ⟨rfl, k⟩; have hk2 : Keeps [] W1 w2 := k.undrew; clear k)
      | (go_at_call 33; refine (HE.out _ hk2).mono ?_; rintro e4 w4 ⟨m, S, rfl, hI, k4, hS⟩; have hk4 : Keeps [] W1 w4 := (hk2).trans k4; have hz4 : W1.heap.size ≤ (w2).heap.size := (hk2).size)
      | fail)
  all_goals go_wp2
  all_goals go_ret
  all_goals exact ⟨m, S, rfl, hI, HK.out.trans hk4, fun k hk => Nat.le_trans (Nat.le_trans HK.out.size hz4) (hS k hk)⟩
end Go.Proofs.YtjbgkaleickknaaGreat
