/-
  Contracts: a ring's Right, Push, Pop and Steal.
-/
import Derived.Test.YtekpfhlaohcgeaaGreatRgQ
namespace Go.Proofs.YtekpfhlaohcgeaaGreat
set_option maxRecDepth 100000
set_option linter.unusedSimpArgs false
set_option linter.unusedVariables false
open Go.ChangeShapes Go.WideShapes Go.ChangeAt Go.RowKit

/-- What the test by bits tells of the numbers from 2 to 256. -/
def rgBits (n : Nat) : Bool := decide (n < 2) || ((bits BinOp.and IntKind.i64 (n : Int) ((n : Int) - 1) == 0) == (n == 2 || n == 4 || n == 8 || n == 16 || n == 32 || n == 64 || n == 128 || n == 256))
theorem rgBits_all : (List.range 257).all rgBits = true := by kernel_rfl
theorem rgBits_at (size : Int) (h1 : 2 ≤ size) (h2 : size ≤ 256) : bits BinOp.and IntKind.i64 size (size - 1) = 0 ↔ (size = 2 ∨ size = 4 ∨ size = 8 ∨ size = 16 ∨ size = 32 ∨ size = 64 ∨ size = 128 ∨ size = 256) := by
  obtain ⟨n, rfl⟩ := Int.eq_ofNat_of_zero_le (show 0 ≤ size by omega)
  have h := List.all_eq_true.1 rgBits_all n (List.mem_range.2 (by omega))
  unfold rgBits at h
  rw [Bool.or_eq_true, decide_eq_true_eq] at h
  rcases h with h | h
  · omega
  · rw [beq_iff_eq] at h
    constructor
    · intro h0
      rw [h0] at h
      simp at h
      omega
    · intro h0
      have : (n == 2 || n == 4 || n == 8 || n == 16 || n == 32 || n == 64 || n == 128 || n == 256) = true := by simp; omega
      rw [this] at h
      simpa using h

theorem rgRight_any (at_ size : Int) (w : World) (hs : -9223372036854775808 ≤ size) :
    Calls Tryz.prog 8 #[.agg #[.int .i64 at_, .int .i64 size]] w fun e w' => e = .returned (.bool (decide (dqRight at_ size))) ∧ Keeps [] w w' := by
  obtain ⟨W1, hW1⟩ : ∃ W1, w.alloc (.cells #[.int .i64 at_, .int .i64 size] 23) = W1 := ⟨_, rfl⟩
  have hb : Box W1 w.heap.size #[.int .i64 at_, .int .i64 size] := by rw [← hW1]; exact Box.new _ _ _
  have hk1 : Keeps [] w W1 := by rw [← hW1]; exact (Keeps.refl _ _).alloc _
  have c0 := hb.cells 0
  have c1 := hb.cells 1
  have HK := Lib.hid hk1
  clear hb hk1
  by_cases h1 : size < 2
  · have HD : Hid (decide (dqRight at_ size) = false) := Lib.hid (decide_eq_false fun h => by have := h.1; omega)
    rw [HD.out]
    have d1 : decide ((2 : Int) ≤ size) = false := decide_eq_false (by omega)
    go_enter Tryz.func8, Tryz.ntmps8
    go_wp2
    go_ret
    exact ⟨rfl, HK.out⟩
  have d1 : decide ((2 : Int) ≤ size) = true := decide_eq_true (by omega)
  by_cases h2 : 256 < size
  · have HD : Hid (decide (dqRight at_ size) = false) := Lib.hid (decide_eq_false fun h => by have := h.1; omega)
    rw [HD.out]
    have d2 : decide (size ≤ 256) = false := decide_eq_false (by omega)
    go_enter Tryz.func8, Tryz.ntmps8
    go_wp2
    go_ret
    exact ⟨rfl, HK.out⟩
  have d2 : decide (size ≤ 256) = true := decide_eq_true (by omega)
  have hn1 : 2 ≤ size := by omega
  have hn2 : size ≤ 256 := by omega
  have hbits := rgBits_at size hn1 hn2
  obtain ⟨y, hy⟩ : ∃ y, bits BinOp.and IntKind.i64 size (size - 1) = y := ⟨_, rfl⟩
  rw [hy] at hbits
  by_cases h3 : y = 0
  · have hpw := hbits.1 h3
    have d3 : decide (y = 0) = true := decide_eq_true h3
    by_cases h4 : at_ < 0
    · have HD : Hid (decide (dqRight at_ size) = false) := Lib.hid (decide_eq_false fun h => by have := h.2.1; omega)
      rw [HD.out]
      have d4 : decide (0 ≤ at_) = false := decide_eq_false (by omega)
      clear hbits hpw
      go_enter Tryz.func8, Tryz.ntmps8
      go_wp2
      go_ret
      exact ⟨rfl, HK.out⟩
    have d4 : decide (0 ≤ at_) = true := decide_eq_true (by omega)
    by_cases h5 : at_ < 65536 - size - 1
    · have HD : Hid (decide (dqRight at_ size) = true) := Lib.hid (decide_eq_true ⟨hpw, by omega, h5⟩)
      rw [HD.out]
      have d5 : decide (at_ < 65536 - size - 1) = true := decide_eq_true h5
      clear hbits hpw
      go_enter Tryz.func8, Tryz.ntmps8
      go_wp2
      go_ret
      exact ⟨rfl, HK.out⟩
    · have HD : Hid (decide (dqRight at_ size) = false) := Lib.hid (decide_eq_false fun h => h5 h.2.2)
      rw [HD.out]
      have d5 : decide (at_ < 65536 - size - 1) = false := decide_eq_false h5
      clear hbits hpw
      go_enter Tryz.func8, Tryz.ntmps8
      go_wp2
      go_ret
      exact ⟨rfl, HK.out⟩
  · have HD : Hid (decide (dqRight at_ size) = false) := Lib.hid (decide_eq_false fun h => h3 (hbits.2 h.1))
    rw [HD.out]
    have d3 : decide (y = 0) = false := decide_eq_false h3
    clear hbits
    go_enter Tryz.func8, Tryz.ntmps8
    go_wp2
    go_ret
    exact ⟨rfl, HK.out⟩

/-- A new one that has ended at once. -/
theorem ended_mid {σ : Type} {K : Mach σ} {R : World → List Nat → Value → Value → σ → Prop} {m : Nat} {s0 : σ} {w1 w2 : World} {c v : Int} {l' : Value} (h1 : m < w1.heap.size) (hw : Wk w2 m { WSt.zero with under := 1, over := true, code := c, v := v, l := l' }) (ho : w2.ownsRow w1.heap.size 24 1 l' 0 []) (hk : Keeps [m] w1 w2)
    (hx : K.want s0 = none) (hr : K.res s0 = some ⟨c, v, []⟩) (hh : K.held s0 = []) (hE : ∀ w T nx ov s, K.want s = none → R w T nx ov s) : MidO K R m [m] [] s0 w1 w2 { WSt.zero with under := 1, over := true, code := c, v := v, l := l' } := by
  have hol := fun g hg => ho.lt g hg
  have hf : K.face s0 = ⟨none, some ⟨c, v, []⟩, []⟩ := by simp only [Mach.face, hx, hr, hh]
  refine ⟨.inr rfl, m :: l'.ownBlock.toList, [], ?_, ?_, by simp, by simp, hE _ _ _ _ _ hx, hk.mono (by simp), ?_, by simp⟩
  · rw [hf]
    exact ⟨hw, rfl, rfl, by simp, ⟨rfl, .inl ⟨_, _, rfl, rfl⟩⟩, (fun g hg => by cases hg), by simp, rfl, (fun r hr => by cases hr; exact ⟨rfl, rfl, by simpa [ints] using Sl.of_owns ho, by simp⟩), (fun g hg => ⟨by simp [show l'.ownBlock = some g from hg], by have := (hol g hg).1; omega⟩), (fun _ => rfl), (fun y hy => by cases hy)⟩
  · intro k hk'
    simp at hk'
    rcases hk' with rfl | hk'
    · exact hw.lt
    · exact (hol k hk').2
  · intro k hk'
    simp at hk'
    rcases hk' with rfl | hk'
    · exact .inl (by simp)
    · exact .inr (hol k hk').1
/-- What stands in a new walk while its first function is under way. -/
@[reducible] def wk1 : WSt := { WSt.zero with under := 1 }


/-- What a step function is handed at first. -/
def rgFirst (m : Nat) (at_ size : Int) : Array Value := #[.pointer (some ⟨m, 0, none⟩), .int .i64 at_, .int .i64 size, .int .u64 0, .int .u32 0, .int .u32 0, .int .u32 0, .nilFunc, .nilFunc, .slice none 0 0]
set_option maxHeartbeats 3200000 in
theorem rgPush1_any (m bv : Nat) (at_ size v : Int) (w : World) (hw : Wk w m wk1) (hb : Box w bv #[.int .u64 v]) (hr : dqRight at_ size) (hv : M.U v) :
    Calls Tryz.prog 38 #[.agg #[.pointer (some ⟨m, 0, none⟩), .int .i64 at_, .int .i64 size, .int .u64 0, .int .u32 0, .int .u32 0, .int .u32 0, .nilFunc, .nilFunc, .slice none 0 0], .pointer (some ⟨bv, 0, none⟩)] w fun e w' => e = .returned (.tuple #[]) ∧ GoesO ringM (rgE m) m wk1 [] [] (rgBegin at_ size 1 v 0 true) w w' := by
  have U0 : M.U 0 := ⟨by decide, by decide⟩
  have Z0 : W32 0 := ⟨by decide, by decide⟩
  have h0 := hb.cells 0
  have hlt := hb.lt
  have hml := hw.lt
  obtain ⟨W2, hW2⟩ : ∃ W2, (w.alloc (.cells #[.pointer (some ⟨m, 0, none⟩), .int .i64 at_, .int .i64 size, .int .u64 0, .int .u32 0, .int .u32 0, .int .u32 0, .nilFunc, .nilFunc, .slice none 0 0] 90)).alloc (.cells #[.pointer (some ⟨m, 0, none⟩), .int .i64 at_, .int .i64 size, .int .u64 0, .int .u32 0, .int .u32 0, .int .u32 0, .nilFunc, .nilFunc, .slice none 0 0, .int .u64 v] 93) = W2 := ⟨_, rfl⟩
  have k2 : Keeps [] w W2 := by rw [← hW2]; exact ((Keeps.refl _ _).alloc _).alloc _
  have hp2 : Row W2 (w.heap.size + 1) 93 (rgCells m at_ size 0 0 0 0 .nilFunc .nilFunc (.slice none 0 0) [.int .u64 v]) := by rw [← hW2]; have := Row.new (w.alloc (.cells #[.pointer (some ⟨m, 0, none⟩), .int .i64 at_, .int .i64 size, .int .u64 0, .int .u32 0, .int .u32 0, .int .u32 0, .nilFunc, .nilFunc, .slice none 0 0] 90)) #[.pointer (some ⟨m, 0, none⟩), .int .i64 at_, .int .i64 size, .int .u64 0, .int .u32 0, .int .u32 0, .int .u32 0, .nilFunc, .nilFunc, .slice none 0 0, .int .u64 v] 93; simpa [rgCells] using this
  have hz2 : W2.heap.size = w.heap.size + 2 := by rw [← hW2]; simp
  have f7 := hp2.frozen 7
  have f8 := hp2.frozen 8
  have c7 := hp2.cell (j := 7) rfl
  have c8 := hp2.cell (j := 8) rfl
  obtain ⟨W3, hW3⟩ : ∃ W3, (W2.setCell ⟨w.heap.size + 1, 7, none⟩ (.func (.func 39) #[.pointer (some ⟨w.heap.size + 1, 0, none⟩)] #[])).setCell ⟨w.heap.size + 1, 8, none⟩ (.func (.func 40) #[.pointer (some ⟨w.heap.size + 1, 0, none⟩)] #[]) = W3 := ⟨_, rfl⟩
  have k3 : Keeps [w.heap.size + 1] W2 W3 := by rw [← hW3]; exact ((Keeps.refl [w.heap.size + 1] W2).setCell (fun _ => by simp) _).setCell (fun _ => by simp) _
  have hp3 : Row W3 (w.heap.size + 1) 93 (rgCells m at_ size 0 0 0 0 (.func (.func 39) #[.pointer (some ⟨w.heap.size + 1, 0, none⟩)] #[]) (.func (.func 40) #[.pointer (some ⟨w.heap.size + 1, 0, none⟩)] #[]) (.slice none 0 0) [.int .u64 v]) := by rw [← hW3]; exact (hp2.set 7 _).set 8 _
  have hw3 : Wk W3 m wk1 := (hw.keeps k2 (by simp)).keeps k3 (by simp; omega)
  have HS := Lib.hid (rg_cells_push hp3)
  have HP3 := Lib.hid hp3
  have HW3 := Lib.hid hw3
  have HK3 : Hid (Keeps [w.heap.size + 1] w W3) := Lib.hid (k2.nil.trans k3)
  have hz3 : W3.heap.size = w.heap.size + 2 := by rw [← hW3]; simpa using hz2
  obtain ⟨a0, a1, a2, a3, a4, a5, a6, a7, a8, a9, a10⟩ := HS.out _ [] (Keeps.refl _ _) (by simp)
  have kL : Keeps [] W3 (W3.alloc (.cells #[.int .u64 v] 24)).drew := ((Keeps.refl [] W3).alloc _).drew
  have hL : Sl (W3.alloc (.cells #[.int .u64 v] 24)).drew 1 (.slice (some ⟨W3.heap.size, 0, none⟩) 1 1) [v].length (ints .u64 [v]) := ((Row.new W3 #[.int .u64 v] 24).keeps ((Keeps.refl [] _).drew) (by simp)).sl (n := 1) (cap := 1) rfl
  have HE := Lib.hid (rgHold_any m (w.heap.size + 1) at_ size 0 0 0 0 _ _ _ _ [v] (.slice (some ⟨W3.heap.size, 0, none⟩) 1 1) _ wk1 _ (hw3.keeps kL (by simp)) (hp3.keeps kL (by simp)) (by omega) rfl rfl hL (by simp))
  have HZ3 := Lib.hid (show W3.heap.size = w.heap.size + 2 ∧ W2.heap.size = w.heap.size + 2 from ⟨hz3, hz2⟩)
  have HKL := Lib.hid kL
  have HR := Lib.hid hr
  have HV := Lib.hid hv
  have HML := Lib.hid hml
  clear hb hw k2 hp2 hr hv k3 hp3 hw3 hz2 hz3 kL hL
  go_enter Tryz.func38, Tryz.ntmps38
  go_wp2_with fail
  go_region_held3 (fun w' => w'.cell? ⟨w.heap.size + 1, 10, none⟩ = some (.int .u64 v))
    (first
      | exact (HS.out _ _ hk5 (by have := HML.out; simp; omega)).2.2.2.2.2.2.2.2.2.2
      | assumption
      | exact (HS.out _ _ (((Keeps.refl [] W3).alloc _).drew) (by simp)).2.2.2.2.2.2.2.2.2.2
      | fail)
    (first
      | (go_at_call 41; refine (HE.out).mono ?_; rintro e5 w5 ⟨rfl, t, ov, g, o, b, hw5, ht5, hd5, hgob, hbo, htx, k5⟩; have hk5 : Keeps [m] W3 w5 := HKL.out.nil.trans k5)
      | fail)
  all_goals (
    have hp5 := HP3.out.keeps hk5 (by have := HML.out; simp; omega)
    have HB := Lib.hid (rgBegin_any m (w.heap.size + 1) at_ size 0 0 0 0 _ _ _ _ _ _ w5 hw5 hp5 (by have := HML.out; omega) rfl rfl)
    have HH : Hid (_ ∧ _ ∧ _ ∧ _ ∧ _ ∧ _) := Lib.hid ⟨ht5, hd5, hgob, hbo, htx, hk5⟩
    clear hw5 ht5 hd5 hgob hbo htx k5 hk5 hp5
    go_wp2_with fail
    refine HB.out.mono ?_
    rintro e6 w6 ⟨rfl, hQ⟩
    have HQ := Lib.hid hQ
    clear hQ
    go_wp2
    first | go_end0 | refine bodyPost_ret (results_none rfl _ _ _) rfl ?_
    obtain ⟨ht5, hd5, ⟨g5, o5, b5⟩, hbo, htx, hk5⟩ := HH.out
    obtain ⟨hw6, hp6, k6⟩ := HQ.out
    obtain ⟨z3, z2⟩ := HZ3.out
    have hml := HML.out
    have zL : (W3.alloc (.cells #[.int .u64 v] 24)).drew.heap.size = W3.heap.size + 1 := by simp
    have hd6 := hd5.keeps k6 (by simp; omega) (by simp; omega) (by simp; omega)
    have ht6 := owns_keeps ht5 k6 (fun x hx => by have := (ht5.lt x hx).1; simp; omega)
    have hN : rgBegin at_ size 1 v 0 true = ⟨at_, size, 1, v, 0, 1, 0, 0, 0, 0, 0, [], none⟩ := by simp [rgBegin]
    rw [hN]
    have kk : Keeps [m] w w6 := (((HK3.out.mono (T := [m, w.heap.size + 1]) (by simp)).trans (hk5.mono (by simp))).trans k6).mono (by intro k hk hl; simp at hk; rcases hk with rfl | rfl; simp; omega)
    refine ⟨rfl, kk, t, ov, .inl ⟨_, _, _, _, [w.heap.size + 1, g, o, b], by simp [ringM, rgWant], rfl, .inr ⟨by simp [ringM, rgHeld], by simpa [ringM, rgHeld, ints] using owns_base ht6 (by omega)⟩, hw6, ?_, fun k hk => ?_, fun k hk => ?_⟩⟩
    · exact rgE_mk (u := 0) (n := 0) ⟨HR.out, HV.out, U0, Z0, Z0, .inl ⟨rfl, .inl ⟨by simp, rfl, rfl⟩⟩⟩ (by simp) (by simp [rgFn]) ⟨by simpa [rgLk, rgTr, rgRest, rgTy] using hp6, World.ownsRow_nil _ _ _ _, (fun g hg => by cases hg), by simp, by simp, by simp, by simp, by simp, fun _ => ⟨g, o, b, hd6, by simp, hbo, by omega, by omega, by omega, fun x hx => by cases hx⟩, by simp⟩
    · simp at hk
      rcases hk with rfl | rfl | rfl | rfl
      · exact hp6.lt
      · exact hd6.row.lt
      · exact hd6.wk.lt
      · exact hd6.box.lt
    · simp at hk
      rcases hk with rfl | rfl | rfl | rfl
      · exact ⟨by omega, .inr ⟨by omega, .inr fun h => by have := (ht5.lt _ h).1; omega⟩⟩
      · exact ⟨by omega, .inr ⟨by omega, .inr fun h => (htx _ h).1 rfl⟩⟩
      · exact ⟨by omega, .inr ⟨by omega, .inr fun h => (htx _ h).2.1 rfl⟩⟩
      · exact ⟨by omega, .inr ⟨by omega, .inr fun h => (htx _ h).2.2 rfl⟩⟩)
end Go.Proofs.YtekpfhlaohcgeaaGreat

/-
  Contracts: how a ring's Pop and Steal begin.
-/
namespace Go.Proofs.YtekpfhlaohcgeaaGreat
set_option maxRecDepth 100000
set_option linter.unusedSimpArgs false
set_option linter.unusedVariables false
open Go.ChangeShapes Go.WideShapes Go.ChangeAt Go.RowKit

set_option maxHeartbeats 3200000 in
theorem rgPop1_any (m : Nat) (at_ size : Int) (w : World) (hw : Wk w m wk1) (hr : dqRight at_ size) :
    Calls Tryz.prog 48 #[.agg #[.pointer (some ⟨m, 0, none⟩), .int .i64 at_, .int .i64 size, .int .u64 0, .int .u32 0, .int .u32 0, .int .u32 0, .nilFunc, .nilFunc, .slice none 0 0]] w fun e w' => e = .returned (.tuple #[]) ∧ GoesO ringM (rgE m) m wk1 [] [] (rgBegin at_ size 2 0 0 true) w w' := by
  have U0 : M.U 0 := ⟨by decide, by decide⟩
  have Z0 : W32 0 := ⟨by decide, by decide⟩
  have hml := hw.lt
  obtain ⟨W2, hW2⟩ : ∃ W2, (w.alloc (.cells #[.pointer (some ⟨m, 0, none⟩), .int .i64 at_, .int .i64 size, .int .u64 0, .int .u32 0, .int .u32 0, .int .u32 0, .nilFunc, .nilFunc, .slice none 0 0] 90)).alloc (.cells #[.pointer (some ⟨m, 0, none⟩), .int .i64 at_, .int .i64 size, .int .u64 0, .int .u32 0, .int .u32 0, .int .u32 0, .nilFunc, .nilFunc, .slice none 0 0] 101) = W2 := ⟨_, rfl⟩
  have k2 : Keeps [] w W2 := by rw [← hW2]; exact ((Keeps.refl _ _).alloc _).alloc _
  have hp2 : Row W2 (w.heap.size + 1) 101 (rgCells m at_ size 0 0 0 0 .nilFunc .nilFunc (.slice none 0 0) []) := by rw [← hW2]; have := Row.new (w.alloc (.cells #[.pointer (some ⟨m, 0, none⟩), .int .i64 at_, .int .i64 size, .int .u64 0, .int .u32 0, .int .u32 0, .int .u32 0, .nilFunc, .nilFunc, .slice none 0 0] 90)) #[.pointer (some ⟨m, 0, none⟩), .int .i64 at_, .int .i64 size, .int .u64 0, .int .u32 0, .int .u32 0, .int .u32 0, .nilFunc, .nilFunc, .slice none 0 0] 101; simpa [rgCells] using this
  have hz2 : W2.heap.size = w.heap.size + 2 := by rw [← hW2]; simp
  have f7 := hp2.frozen 7
  have f8 := hp2.frozen 8
  have c7 := hp2.cell (j := 7) rfl
  have c8 := hp2.cell (j := 8) rfl
  obtain ⟨W3, hW3⟩ : ∃ W3, (W2.setCell ⟨w.heap.size + 1, 7, none⟩ (.func (.func 49) #[.pointer (some ⟨w.heap.size + 1, 0, none⟩)] #[])).setCell ⟨w.heap.size + 1, 8, none⟩ (.func (.func 50) #[.pointer (some ⟨w.heap.size + 1, 0, none⟩)] #[]) = W3 := ⟨_, rfl⟩
  have k3 : Keeps [w.heap.size + 1] W2 W3 := by rw [← hW3]; exact ((Keeps.refl [w.heap.size + 1] W2).setCell (fun _ => by simp) _).setCell (fun _ => by simp) _
  have hp3 : Row W3 (w.heap.size + 1) 101 (rgCells m at_ size 0 0 0 0 (.func (.func 49) #[.pointer (some ⟨w.heap.size + 1, 0, none⟩)] #[]) (.func (.func 50) #[.pointer (some ⟨w.heap.size + 1, 0, none⟩)] #[]) (.slice none 0 0) []) := by rw [← hW3]; exact (hp2.set 7 _).set 8 _
  have hw3 : Wk W3 m wk1 := (hw.keeps k2 (by simp)).keeps k3 (by simp; omega)
  have HP3 := Lib.hid hp3
  have HW3 := Lib.hid hw3
  have HK3 : Hid (Keeps [w.heap.size + 1] w W3) := Lib.hid (k2.nil.trans k3)
  have hz3 : W3.heap.size = w.heap.size + 2 := by rw [← hW3]; simpa using hz2
  have HR := Lib.hid hr
  have HML := Lib.hid hml
  have HZ3 := Lib.hid (show W3.heap.size = w.heap.size + 2 ∧ W2.heap.size = w.heap.size + 2 from ⟨hz3, hz2⟩)
  have HE := Lib.hid (rgBegin_any m (w.heap.size + 1) at_ size 0 0 0 0 _ _ _ _ _ _ W3 hw3 hp3 (by omega) rfl rfl)
  clear hw k2 hp2 hr k3 hp3 hw3 hz2 hz3
  go_enter Tryz.func48, Tryz.ntmps48
  go_wp2_with fail
  refine HE.out.mono ?_
  rintro e6 w6 ⟨rfl, hQ⟩
  have HQ := Lib.hid hQ
  clear hQ
  go_wp2
  first | go_end0 | refine bodyPost_ret (results_none rfl _ _ _) rfl ?_
  obtain ⟨hw6, hp6, k6⟩ := HQ.out
  obtain ⟨z3, z2⟩ := HZ3.out
  have hN : rgBegin at_ size 2 0 0 true = ⟨at_, size, 2, 0, 0, 1, 0, 0, 0, 0, 0, [], none⟩ := by simp [rgBegin]
  rw [hN]
  have kk : Keeps [m] w w6 := ((HK3.out.mono (T := [m, w.heap.size + 1]) (by simp)).trans k6).mono (by intro k hk hl; simp at hk; rcases hk with rfl | rfl; simp; omega)
  refine ⟨rfl, kk, .slice none 0 0, .slice none 0 0, .inl ⟨_, _, _, _, [w.heap.size + 1], by simp [ringM, rgWant], rfl, .inl ⟨rfl, by simp [ringM, rgHeld]⟩, hw6, ?_, fun k hk => ?_, fun k hk => ?_⟩⟩
  · exact rgE_mk (u := 0) (n := 0) ⟨HR.out, U0, U0, Z0, Z0, .inr (.inl ⟨rfl, by simp, rfl⟩)⟩ (by simp) (by simp [rgFn]) ⟨by simpa [rgLk, rgTr, rgRest, rgTy] using hp6, World.ownsRow_nil _ _ _ _, (fun g hg => by cases hg), by simp, by simp, by simp, by simp, by simp, by simp, fun _ => rfl⟩
  · simp at hk; subst hk; exact hp6.lt
  · simp at hk; subst hk; exact ⟨by omega, .inr ⟨by omega, .inl rfl⟩⟩

set_option maxHeartbeats 3200000 in
theorem rgSteal1_any (m bt : Nat) (at_ size tat : Int) (w : World) (hw : Wk w m wk1) (hb : Box w bt #[.int .i64 tat, .int .i64 size]) (hr : dqRight at_ size) (htr : dqRight tat size) : 
    Calls Tryz.prog 52 #[.agg #[.pointer (some ⟨m, 0, none⟩), .int .i64 at_, .int .i64 size, .int .u64 0, .int .u32 0, .int .u32 0, .int .u32 0, .nilFunc, .nilFunc, .slice none 0 0], .pointer (some ⟨bt, 0, none⟩)] w fun e w' => e = .returned (.tuple #[]) ∧ GoesO ringM (rgE m) m wk1 [] [] (rgBegin at_ size 3 0 tat true) w w' := by
  have U0 : M.U 0 := ⟨by decide, by decide⟩
  have Z0 : W32 0 := ⟨by decide, by decide⟩
  have hml := hw.lt
  obtain ⟨W2, hW2⟩ : ∃ W2, (w.alloc (.cells #[.pointer (some ⟨m, 0, none⟩), .int .i64 at_, .int .i64 size, .int .u64 0, .int .u32 0, .int .u32 0, .int .u32 0, .nilFunc, .nilFunc, .slice none 0 0] 90)).alloc (.cells #[.pointer (some ⟨m, 0, none⟩), .int .i64 at_, .int .i64 size, .int .u64 0, .int .u32 0, .int .u32 0, .int .u32 0, .nilFunc, .nilFunc, .slice none 0 0, .int .i64 tat, .int .i64 size, .int .u32 0, .int .i64 0] 105) = W2 := ⟨_, rfl⟩
  have k2 : Keeps [] w W2 := by rw [← hW2]; exact ((Keeps.refl _ _).alloc _).alloc _
  have hp2 : Row W2 (w.heap.size + 1) 105 (rgCells m at_ size 0 0 0 0 .nilFunc .nilFunc (.slice none 0 0) [.int .i64 tat, .int .i64 size, .int .u32 0, .int .i64 0]) := by rw [← hW2]; have := Row.new (w.alloc (.cells #[.pointer (some ⟨m, 0, none⟩), .int .i64 at_, .int .i64 size, .int .u64 0, .int .u32 0, .int .u32 0, .int .u32 0, .nilFunc, .nilFunc, .slice none 0 0] 90)) #[.pointer (some ⟨m, 0, none⟩), .int .i64 at_, .int .i64 size, .int .u64 0, .int .u32 0, .int .u32 0, .int .u32 0, .nilFunc, .nilFunc, .slice none 0 0, .int .i64 tat, .int .i64 size, .int .u32 0, .int .i64 0] 105; simpa [rgCells] using this
  have hz2 : W2.heap.size = w.heap.size + 2 := by rw [← hW2]; simp
  have f7 := hp2.frozen 7
  have f8 := hp2.frozen 8
  have c7 := hp2.cell (j := 7) rfl
  have c8 := hp2.cell (j := 8) rfl
  obtain ⟨W3, hW3⟩ : ∃ W3, (W2.setCell ⟨w.heap.size + 1, 7, none⟩ (.func (.func 53) #[.pointer (some ⟨w.heap.size + 1, 0, none⟩)] #[])).setCell ⟨w.heap.size + 1, 8, none⟩ (.func (.func 54) #[.pointer (some ⟨w.heap.size + 1, 0, none⟩)] #[]) = W3 := ⟨_, rfl⟩
  have k3 : Keeps [w.heap.size + 1] W2 W3 := by rw [← hW3]; exact ((Keeps.refl [w.heap.size + 1] W2).setCell (fun _ => by simp) _).setCell (fun _ => by simp) _
  have hp3 : Row W3 (w.heap.size + 1) 105 (rgCells m at_ size 0 0 0 0 (.func (.func 53) #[.pointer (some ⟨w.heap.size + 1, 0, none⟩)] #[]) (.func (.func 54) #[.pointer (some ⟨w.heap.size + 1, 0, none⟩)] #[]) (.slice none 0 0) [.int .i64 tat, .int .i64 size, .int .u32 0, .int .i64 0]) := by rw [← hW3]; exact (hp2.set 7 _).set 8 _
  have hw3 : Wk W3 m wk1 := (hw.keeps k2 (by simp)).keeps k3 (by simp; omega)
  have HP3 := Lib.hid hp3
  have HW3 := Lib.hid hw3
  have HK3 : Hid (Keeps [w.heap.size + 1] w W3) := Lib.hid (k2.nil.trans k3)
  have hz3 : W3.heap.size = w.heap.size + 2 := by rw [← hW3]; simpa using hz2
  have HR := Lib.hid hr
  have HML := Lib.hid hml
  have HZ3 := Lib.hid (show W3.heap.size = w.heap.size + 2 ∧ W2.heap.size = w.heap.size + 2 from ⟨hz3, hz2⟩)
  have t0 := hb.cells 0
  have t1 := hb.cells 1
  have hlt := hb.lt
  have a0 := htr.2.1
  have a1 : tat < 65536 := by have := htr.2.2; have := htr.1; omega
  have HE := Lib.hid (rgHold_any m (w.heap.size + 1) at_ size 0 0 0 0 _ _ _ _ [] (.slice none 0 0) _ wk1 _ hw3 hp3 (by omega) rfl rfl ⟨rfl, .inl ⟨_, _, rfl, rfl⟩⟩ (by simp))
  have HT := Lib.hid htr
  have HTl := Lib.hid (fun W => rgTail_any tat size W a0 a1)
  clear hw hb k2 hp2 hr k3 hp3 hw3 hz2 hz3 htr
  go_enter Tryz.func52, Tryz.ntmps52
  go_wp2_with fail
  refine HE.out.mono ?_
  rintro e5 w5 ⟨rfl, t, ov, g, o, b, hw5, ht5, hd5, hgob, hbo, htx, hk5⟩
  have hp5 := HP3.out.keeps hk5 (by have := HML.out; simp; omega)
  have HS5 := Lib.hid (rg_cells_steal hp5)
  have HP5 := Lib.hid hp5
  have HW5 := Lib.hid hw5
  have HH : Hid (_ ∧ _ ∧ _ ∧ _ ∧ _ ∧ _) := Lib.hid ⟨ht5, hd5, hgob, hbo, htx, hk5⟩
  have HL := Lib.hid (fun W (h : Wk W m { wk1 with tasks := t, outer := ov }) c0 => rgLoad_any m (w.heap.size + 1) (tat + 1) (.func 57) #[.pointer (some ⟨w.heap.size + 1, 0, none⟩)] #[] _ W h c0 rfl rfl)
  obtain ⟨v0, v1, v2, v3, v4, v5, v6, v7, v8, v9, v10, v11, v12, v13⟩ := HS5.out _ [] (Keeps.refl _ _) (by simp)
  clear hw5 ht5 hd5 hgob hbo htx hk5 hp5
  have hkV : Keeps [] w5 w5 := Keeps.refl _ _
  go_wp2_with fail
  go_region_held3 (fun w' => w'.cell? ⟨w.heap.size + 1, 0, none⟩ = some (.pointer (some ⟨m, 0, none⟩)) ∧ w'.cell? ⟨w.heap.size + 1, 10, none⟩ = some (.int .i64 tat) ∧ w'.cell? ⟨w.heap.size + 1, 11, none⟩ = some (.int .i64 size))
    (first
      | exact ⟨(HS5.out _ _ hk4 (by have := HML.out; simp; omega)).1, (HS5.out _ _ hk4 (by have := HML.out; simp; omega)).2.2.2.2.2.2.2.2.2.2.1, (HS5.out _ _ hk4 (by have := HML.out; simp; omega)).2.2.2.2.2.2.2.2.2.2.2.1⟩
      | exact ⟨(HS5.out _ _ hk2 (by simp)).1, (HS5.out _ _ hk2 (by simp)).2.2.2.2.2.2.2.2.2.2.1, (HS5.out _ _ hk2 (by simp)).2.2.2.2.2.2.2.2.2.2.2.1⟩
      | exact ⟨by assumption, by assumption, by assumption⟩
      | fail)
    (first
      | (go_at_call 56; refine (HTl.out _).mono ?_; rintro e2 w2 ⟨rfl, k⟩; have hk2 : Keeps [] w5 w2 := hkV.trans k.undrew; clear k)
      | (go_at_call 55; refine (HL.out _ (HW5.out.keeps hk2 (by simp)) (HS5.out _ _ hk2 (by simp)).1).mono ?_; rintro e4 w6 ⟨rfl, hw6, k4⟩; have hk4 : Keeps [m] w5 w6 := (hk2.mono (by simp)).trans k4; clear k4)
      | fail)
  all_goals (first | go_end0 | refine bodyPost_ret (results_none rfl _ _ _) rfl ?_)
  all_goals (
    obtain ⟨ht5, hd5, ⟨g5, o5, b5⟩, hbo, htx, hk5⟩ := HH.out
    have hml := HML.out
    obtain ⟨z3, z2⟩ := HZ3.out
    have hp6 := HP5.out.keeps hk4 (by have := HML.out; simp; omega)
    have hd6 := hd5.keeps hk4 (by simp; omega) (by simp; omega) (by simp; omega)
    have ht6 := owns_keeps ht5 hk4 (fun x hx => by have := (ht5.lt x hx).1; simp; omega)
    have hN : rgBegin at_ size 3 0 tat true = ⟨at_, size, 3, 0, tat, 1, 0, 0, 0, 0, 0, [], none⟩ := by simp [rgBegin]
    rw [hN]
    have kk : Keeps [m] w w6 := (((HK3.out.mono (T := [m, w.heap.size + 1]) (by simp)).trans (hk5.mono (by simp))).trans (hk4.mono (by simp))).mono (by intro k hk hl; simp at hk; rcases hk with rfl | rfl; simp; omega)
    refine ⟨rfl, kk, t, ov, .inl ⟨_, _, _, _, [w.heap.size + 1, g, o, b], by simp [ringM, rgWant], rfl, .inr ⟨by simp [ringM, rgHeld], by simpa [ringM, rgHeld, ints] using owns_base ht6 (by omega)⟩, hw6, ?_, fun k hk => ?_, fun k hk => ?_⟩⟩
    · exact rgE_mk (u := 0) (n := 0) ⟨HR.out, U0, U0, Z0, Z0, .inr (.inr ⟨rfl, HT.out, .inl ⟨by simp, rfl, rfl⟩⟩)⟩ (by simp) (by simp [rgFn]) ⟨by simpa [rgLk, rgTr, rgRest, rgTy] using hp6, World.ownsRow_nil _ _ _ _, (fun g hg => by cases hg), by simp, by simp, by simp, by simp, by simp, fun _ => ⟨g, o, b, hd6, by simp, hbo, by omega, by omega, by omega, fun x hx => by cases hx⟩, by simp⟩
    · simp at hk
      rcases hk with rfl | rfl | rfl | rfl
      · exact hp6.lt
      · exact hd6.row.lt
      · exact hd6.wk.lt
      · exact hd6.box.lt
    · simp at hk
      rcases hk with rfl | rfl | rfl | rfl
      · exact ⟨by omega, .inr ⟨by omega, .inr fun h => by have := (ht5.lt _ h).1; omega⟩⟩
      · exact ⟨by omega, .inr ⟨by omega, .inr fun h => (htx _ h).1 rfl⟩⟩
      · exact ⟨by omega, .inr ⟨by omega, .inr fun h => (htx _ h).2.1 rfl⟩⟩
      · exact ⟨by omega, .inr ⟨by omega, .inr fun h => (htx _ h).2.2 rfl⟩⟩)
end Go.Proofs.YtekpfhlaohcgeaaGreat
