import Derived.Test.YtjfgpplnlepnoaaGreatSeen
import Derived.Test.YtjfgpplnlepnoaaGreatWord
import Derived.Test.YtjfgpplnlepnoaaGreatLcM
import Derived.Test.YtjfgpplnlepnoaaGreatDraw
import Derived.Test.YtjfgpplnlepnoaaGreatRef7a
import Derived.IntWalk
import Derived.LoopTactic
/-
  Contracts: the document's machine that peeks goes as the machine of a peek.
-/
namespace Go.Proofs.YtjfgpplnlepnoaaGreat
set_option maxRecDepth 100000
set_option linter.unusedSimpArgs false
set_option linter.unusedVariables false
open Go.ChangeShapes Go.WideShapes Go.ChangeAt Go.RowKit

def rkCells (s : LkS) : List Value := [.int .i64 s.kind, .int .i64 s.at_, .int .i64 s.n, .int .i64 s.step, .int .u64 s.x, .bool s.over.isSome, .int .i64 (s.over.getD Rs.zero).code, .int .u64 (s.over.getD Rs.zero).v, .slice none 0 0]
def rkFits (s : LkS) : Prop := (s.kind = 0 ∨ s.kind = 1 ∨ s.kind = 2) ∧ (s.step = 0 ∨ s.step = 1) ∧ 0 ≤ s.at_ ∧ s.at_ < 65536 ∧ 0 ≤ s.n ∧ s.n ≤ 4096 ∧ M.U s.x
def rkJ (p : Nat) (w : World) (S : List Nat) (s : LkS) : Prop :=
  S = [p] ∧ Row w p 105 (rkCells s) ∧ (∀ r, s.over = some r → r.l = []) ∧ rkFits s
set_option maxHeartbeats 1600000 in
theorem rk_want (p : Nat) (s : LkS) (w : World) (S : List Nat) (h : rkJ p w S s) :
    Calls Tryz.prog 100 #[.pointer (some ⟨p, 0, none⟩)] w fun e w' => e = .returned (.tuple #[((lkM.want s).getD zacc).val, .bool (lkM.want s).isSome]) ∧ Keeps [] w w' := by
  obtain ⟨-, hrow, -, hkd, hstp, a0, a1, n0, n1, hx⟩ := h
  have HKp : Hid (∀ W, Keeps [] w W → Row W p 105 (rkCells s)) := Lib.hid fun W hk => hrow.keeps hk (by simp)
  have c0 := hrow.cell (j := 0) rfl
  have c1 := hrow.cell (j := 1) rfl
  have c2 := hrow.cell (j := 2) rfl
  have c3 := hrow.cell (j := 3) rfl
  have c4 := hrow.cell (j := 4) rfl
  have c5 := hrow.cell (j := 5) rfl
  have hlt := hrow.lt
  obtain ⟨kind, at_, n, step, x, over⟩ := s
  simp only at c0 c1 c2 c3 c4 c5 hkd hstp a0 a1 n0 n1 hx
  clear hrow
  cases over with
  | some r =>
    simp only [Option.isSome_some] at c5
    go_enter Tryz.func100, Tryz.ntmps100
    go_wp2
    refine bodyPost_ret (v := .tuple #[zacc.val, .bool false]) (by simp [results, Tryz.results100, go_sem]) rfl ⟨rfl, ?_⟩
    repeat (first | exact Keeps.refl _ _ | refine Keeps.drewN ?_ | refine Keeps.alloc ?_ _ | refine Keeps.drew ?_)
  | none =>
    simp only [Option.isSome_none] at c5
    rcases hstp with rfl | rfl
    · have HX : Hid (Ending.returned (.tuple #[(⟨1, at_, 0, 0⟩ : C.Acc).val, .bool true]) = Ending.returned (.tuple #[((lkM.want ⟨kind, at_, n, 0, x, none⟩).getD zacc).val, .bool (lkM.want ⟨kind, at_, n, 0, x, none⟩).isSome])) := Lib.hid (by simp [lkM, lkWant])
      go_enter Tryz.func100, Tryz.ntmps100
      go_wp2
      refine bodyPost_ret (v := .tuple #[(⟨1, at_, 0, 0⟩ : C.Acc).val, .bool true]) (by simp [results, Tryz.results100, go_sem]) rfl ⟨HX.out, ?_⟩
      repeat (first | exact Keeps.refl _ _ | refine Keeps.drewN ?_ | refine Keeps.alloc ?_ _ | refine Keeps.drew ?_)
    · have wa : IntKind.i64.wrap (at_ + 1) = at_ + 1 := by rw [IntKind.wrap_i64]; omega
      rcases hkd with rfl | rfl | rfl
      · have HX : Hid (Ending.returned (.tuple #[(⟨1, at_ + 1, 0, 0⟩ : C.Acc).val, .bool true]) = Ending.returned (.tuple #[((lkM.want ⟨0, at_, n, 1, x, none⟩).getD zacc).val, .bool (lkM.want ⟨0, at_, n, 1, x, none⟩).isSome])) := Lib.hid (by simp [lkM, lkWant])
        go_enter Tryz.func100, Tryz.ntmps100
        go_wp2
        refine bodyPost_ret (v := .tuple #[(⟨1, at_ + 1, 0, 0⟩ : C.Acc).val, .bool true]) (by simp [results, Tryz.results100, go_sem]) rfl ⟨HX.out, ?_⟩
        repeat (first | exact Keeps.refl _ _ | refine Keeps.drewN ?_ | refine Keeps.alloc ?_ _ | refine Keeps.drew ?_)
      · have HX : Hid (Ending.returned (.tuple #[(⟨1, at_ + 1, 0, 0⟩ : C.Acc).val, .bool true]) = Ending.returned (.tuple #[((lkM.want ⟨1, at_, n, 1, x, none⟩).getD zacc).val, .bool (lkM.want ⟨1, at_, n, 1, x, none⟩).isSome])) := Lib.hid (by simp [lkM, lkWant])
        go_enter Tryz.func100, Tryz.ntmps100
        go_wp2
        refine bodyPost_ret (v := .tuple #[(⟨1, at_ + 1, 0, 0⟩ : C.Acc).val, .bool true]) (by simp [results, Tryz.results100, go_sem]) rfl ⟨HX.out, ?_⟩
        repeat (first | exact Keeps.refl _ _ | refine Keeps.drewN ?_ | refine Keeps.alloc ?_ _ | refine Keeps.drew ?_)
      · have HX : Hid (Ending.returned (.tuple #[(⟨1, at_ + 2 + 2 * n + rgLo x, 0, 0⟩ : C.Acc).val, .bool true]) = Ending.returned (.tuple #[((lkM.want ⟨2, at_, n, 1, x, none⟩).getD zacc).val, .bool (lkM.want ⟨2, at_, n, 1, x, none⟩).isSome])) := Lib.hid (by simp [lkM, lkWant])
        have w1 : IntKind.i64.wrap (at_ + 2) = at_ + 2 := by rw [IntKind.wrap_i64]; omega
        have w2 : IntKind.i64.wrap (2 * n) = 2 * n := by rw [IntKind.wrap_i64]; omega
        have w3 : IntKind.i64.wrap (at_ + 2 + 2 * n) = at_ + 2 + 2 * n := by rw [IntKind.wrap_i64]; omega
        have hl := rgLo_range x
        have HL := Lib.hid (fun W => refLo_any x W hx.nn)
        rw [show x % 4294967296 = rgLo x from rfl] at HL
        obtain ⟨lo, hlo⟩ : ∃ lo, rgLo x = lo := ⟨_, rfl⟩
        rw [hlo] at hl HL HX
        have w4 : IntKind.i64.wrap (at_ + 2 + 2 * n + lo) = at_ + 2 + 2 * n + lo := by rw [IntKind.wrap_i64]; omega
        have w5 : IntKind.i64.wrap lo = lo := by rw [IntKind.wrap_i64]; omega
        clear hlo hx
        go_enter Tryz.func100, Tryz.ntmps100
        go_wp2_with fail
        refine wp_region_mid 19 (by kernel_rfl) (by kernel_rfl) ?_
        simp only [List.take_succ_cons, List.take_zero, List.drop_succ_cons, List.drop_zero]
        repeat still_step
        still_call (stillOf (HL.out _))
        repeat still_step
        refine wpStill_nil ?_
        go_wp2_with fail
        show wpStill _ _ _ _ _ _
        repeat still_step
        refine wpStill_nil ?_
        go_wp2
        refine bodyPost_ret (v := .tuple #[(⟨1, at_ + 2 + 2 * n + lo, 0, 0⟩ : C.Acc).val, .bool true]) (by simp [results, Tryz.results100, go_sem]) rfl ⟨HX.out, ?_⟩
        repeat (first | exact Keeps.refl _ _ | refine Keeps.drewN ?_ | refine Keeps.alloc ?_ _ | refine Keeps.drew ?_)
set_option maxHeartbeats 3200000 in
theorem rk_give (p : Nat) (s : LkS) (w : World) (S : List Nat) (v : Int) (won : Bool) (h : rkJ p w S s) (hv : M.U v) :
    Calls Tryz.prog 114 #[.pointer (some ⟨p, 0, none⟩), .int .u64 v, .bool won] w fun e w' => e = .returned (.tuple #[]) ∧ ∃ S', rkJ p w' S' (lkM.give s v won) ∧ Keeps (if (lkM.res s).isSome then [] else S) w w' ∧ ∀ k ∈ S', k ∈ S ∨ w.heap.size ≤ k := by
  have HJ := Lib.hid h
  obtain ⟨rfl, hrow, -, hfits⟩ := h
  have HFi := Lib.hid hfits
  obtain ⟨hkd, hstp, a0, a1, n0, n1, hx⟩ := hfits
  have HR := Lib.hid hrow
  have HV := Lib.hid hv
  have hlt := hrow.lt
  have c0 := hrow.cell (j := 0) rfl
  have c2 := hrow.cell (j := 2) rfl
  have c3 := hrow.cell (j := 3) rfl
  have c4 := hrow.cell (j := 4) rfl
  have c5 := hrow.cell (j := 5) rfl
  have c6 := hrow.cell (j := 6) rfl
  have c7 := hrow.cell (j := 7) rfl
  have f3 := hrow.frozen 3
  have f4 := hrow.frozen 4
  have f5 := hrow.frozen 5
  have f6 := hrow.frozen 6
  have f7 := hrow.frozen 7
  obtain ⟨kind, at_, n, step, x, over⟩ := s
  simp only at c0 c2 c3 c4 c5 c6 c7 hkd hstp a0 a1 n0 n1 hx
  clear hrow
  cases over with
  | some r =>
    simp only [Option.isSome_some] at c5
    have HG : Hid (lkM.give ⟨kind, at_, n, step, x, some r⟩ v won = ⟨kind, at_, n, step, x, some r⟩) := Lib.hid (by simp [lkM])
    rw [HG.out]
    clear hv hx
    go_enter Tryz.func114, Tryz.ntmps114
    go_wp2
    first | go_end0 | refine bodyPost_ret (results_none rfl _ _ _) rfl ?_ | skip
    exact ⟨rfl, _, HJ.out, Keeps.refl _ _, fun k hk => .inl (by simpa using hk)⟩
  | none =>
    simp only [Option.isSome_none] at c5
    have HLv := Lib.hid (fun W => refLo_any v W hv.nn)
    have HLx := Lib.hid (fun W => refLo_any x W hx.nn)
    rw [show v % 4294967296 = rgLo v from rfl] at HLv
    rw [show x % 4294967296 = rgLo x from rfl] at HLx
    have HA7 := Lib.hid (fun W => rAhead_any v x W hv hx)
    have lv := rgLo_range v
    have lx := rgLo_range x
    have HA1 := Lib.hid (fun W => refAhead_any (rgLo v) (rgLo x) W lv.1 lv.2 lx.1 lx.2)
    have HX := Lib.hid hx
    obtain ⟨lo, hlo⟩ : ∃ lo, rgLo v = lo := ⟨_, rfl⟩
    have HLo := Lib.hid hlo
    rw [hlo] at HLv HA1 lv
    obtain ⟨lox, hlox⟩ : ∃ lo, rgLo x = lo := ⟨_, rfl⟩
    have HLox := Lib.hid hlox
    rw [hlox] at HLx HA1 lx
    obtain ⟨d7, hd7⟩ : ∃ d, dqAhead v x = d := ⟨_, rfl⟩
    have HD7 := Lib.hid hd7
    rw [hd7] at HA7
    obtain ⟨d1, hd1⟩ : ∃ d, M.aheadI lo lox = d := ⟨_, rfl⟩
    have HD1 := Lib.hid hd1
    rw [hd1] at HA1
    have wlo : IntKind.i64.wrap lo = lo := by rw [IntKind.wrap_i64]; omega
    clear hlo hlox hd7 hd1 hv hx
    rcases hstp with rfl | rfl
    · rcases hkd with rfl | rfl | rfl
      · have HG : Hid (lkM.give ⟨0, at_, n, 0, x, none⟩ v won = ⟨0, at_, n, 1, v, none⟩) := Lib.hid (by simp [lkM, lkGive])
        rw [HG.out]
        go_enter Tryz.func114, Tryz.ntmps114
        go_wp2_with fail
        refine (HLv.out _).mono ?_
        rintro e w1 ⟨rfl, rfl⟩
        go_wp2
        first | go_end0 | refine bodyPost_ret (results_none rfl _ _ _) rfl ?_ | skip
        exact ⟨rfl, [p], ⟨rfl, (HR.out.set 4 (.int .u64 v)).set 3 (.int .i64 1), fun r hr => by first | (cases hr; done) | (cases hr; rfl), ⟨HFi.out.1, .inr rfl, a0, a1, n0, n1, HV.out⟩⟩, by repeat (first | exact Keeps.refl _ _ | refine Keeps.set ?_ (by simp) _ _ | refine Keeps.drew ?_ | refine Keeps.alloc ?_ _), fun k hk => .inl (by simpa using hk)⟩
      · have HG : Hid (lkM.give ⟨1, at_, n, 0, x, none⟩ v won = ⟨1, at_, n, 1, v, none⟩) := Lib.hid (by simp [lkM, lkGive])
        rw [HG.out]
        go_enter Tryz.func114, Tryz.ntmps114
        go_wp2_with fail
        refine (HLv.out _).mono ?_
        rintro e w1 ⟨rfl, rfl⟩
        go_wp2
        first | go_end0 | refine bodyPost_ret (results_none rfl _ _ _) rfl ?_ | skip
        exact ⟨rfl, [p], ⟨rfl, (HR.out.set 4 (.int .u64 v)).set 3 (.int .i64 1), fun r hr => by first | (cases hr; done) | (cases hr; rfl), ⟨HFi.out.1, .inr rfl, a0, a1, n0, n1, HV.out⟩⟩, by repeat (first | exact Keeps.refl _ _ | refine Keeps.set ?_ (by simp) _ _ | refine Keeps.drew ?_ | refine Keeps.alloc ?_ _), fun k hk => .inl (by simpa using hk)⟩
      · by_cases hb1 : lo < 1
        · have e1 : decide (lo < 1) = true := decide_eq_true hb1
          have hbad : rgLo v < 1 ∨ n < rgLo v := by rw [HLo.out]; exact .inl hb1
          have HG : Hid (lkM.give ⟨2, at_, n, 0, x, none⟩ v won = ⟨2, at_, n, 1, v, some ⟨9, 0, []⟩⟩) := Lib.hid (by simp [lkM, lkGive, hbad])
          rw [HG.out]
          clear hbad
          go_enter Tryz.func114, Tryz.ntmps114
          go_wp2_with fail
          refine (HLv.out _).mono ?_
          rintro e w1 ⟨rfl, rfl⟩
          go_wp2
          first | go_end0 | refine bodyPost_ret (results_none rfl _ _ _) rfl ?_ | skip
          exact ⟨rfl, [p], ⟨rfl, (((HR.out.set 4 (.int .u64 v)).set 3 (.int .i64 1)).set 5 (.bool true)).set 6 (.int .i64 9), fun r hr => by first | (cases hr; done) | (cases hr; rfl), ⟨HFi.out.1, .inr rfl, a0, a1, n0, n1, HV.out⟩⟩, by repeat (first | exact Keeps.refl _ _ | refine Keeps.set ?_ (by simp) _ _ | refine Keeps.drew ?_ | refine Keeps.alloc ?_ _), fun k hk => .inl (by simpa using hk)⟩
        · have e1 : decide (lo < 1) = false := decide_eq_false hb1
          by_cases hb2 : n < lo
          · have e2 : decide (n < lo) = true := decide_eq_true hb2
            have hbad : rgLo v < 1 ∨ n < rgLo v := by rw [HLo.out]; exact .inr hb2
            have HG : Hid (lkM.give ⟨2, at_, n, 0, x, none⟩ v won = ⟨2, at_, n, 1, v, some ⟨9, 0, []⟩⟩) := Lib.hid (by simp [lkM, lkGive, hbad])
            rw [HG.out]
            clear hbad
            go_enter Tryz.func114, Tryz.ntmps114
            go_wp2_with fail
            refine (HLv.out _).mono ?_
            rintro e w1 ⟨rfl, rfl⟩
            go_wp2
            first | go_end0 | refine bodyPost_ret (results_none rfl _ _ _) rfl ?_ | skip
            exact ⟨rfl, [p], ⟨rfl, (((HR.out.set 4 (.int .u64 v)).set 3 (.int .i64 1)).set 5 (.bool true)).set 6 (.int .i64 9), fun r hr => by first | (cases hr; done) | (cases hr; rfl), ⟨HFi.out.1, .inr rfl, a0, a1, n0, n1, HV.out⟩⟩, by repeat (first | exact Keeps.refl _ _ | refine Keeps.set ?_ (by simp) _ _ | refine Keeps.drew ?_ | refine Keeps.alloc ?_ _), fun k hk => .inl (by simpa using hk)⟩
          · have e2 : decide (n < lo) = false := decide_eq_false hb2
            have hbad : ¬ (rgLo v < 1 ∨ n < rgLo v) := by rw [HLo.out]; omega
            have HG : Hid (lkM.give ⟨2, at_, n, 0, x, none⟩ v won = ⟨2, at_, n, 1, v, none⟩) := Lib.hid (by simp [lkM, lkGive, hbad])
            rw [HG.out]
            clear hbad
            go_enter Tryz.func114, Tryz.ntmps114
            go_wp2_with fail
            refine (HLv.out _).mono ?_
            rintro e w1 ⟨rfl, rfl⟩
            go_wp2
            first | go_end0 | refine bodyPost_ret (results_none rfl _ _ _) rfl ?_ | skip
            exact ⟨rfl, [p], ⟨rfl, (HR.out.set 4 (.int .u64 v)).set 3 (.int .i64 1), fun r hr => by first | (cases hr; done) | (cases hr; rfl), ⟨HFi.out.1, .inr rfl, a0, a1, n0, n1, HV.out⟩⟩, by repeat (first | exact Keeps.refl _ _ | refine Keeps.set ?_ (by simp) _ _ | refine Keeps.drew ?_ | refine Keeps.alloc ?_ _), fun k hk => .inl (by simpa using hk)⟩
    · rcases hkd with rfl | rfl | rfl
      · by_cases hc : 1 ≤ d7
        · have ec : decide (1 ≤ d7) = true := decide_eq_true hc
          have HG : Hid (lkM.give ⟨0, at_, n, 1, x, none⟩ v won = ⟨0, at_, n, 1, x, some ⟨0, 1, []⟩⟩) := Lib.hid (by
            have hi : lkIs 0 x v = true := by simp only [lkIs, HLo.out, HLox.out, HD7.out, HD1.out]; simp <;> omega
            simp [lkM, lkGive, hi, lkV])
          rw [HG.out]
          go_enter Tryz.func114, Tryz.ntmps114
          go_wp2_with fail
          refine (HA7.out _).mono ?_
          rintro e w1 ⟨rfl, rfl⟩
          go_wp2
          first | go_end0 | refine bodyPost_ret (results_none rfl _ _ _) rfl ?_ | skip
          exact ⟨rfl, [p], ⟨rfl, (HR.out.set 5 (.bool true)).set 7 (.int .u64 1), fun r hr => by first | (cases hr; done) | (cases hr; rfl), ⟨HFi.out.1, .inr rfl, a0, a1, n0, n1, HX.out⟩⟩, by repeat (first | exact Keeps.refl _ _ | refine Keeps.set ?_ (by simp) _ _ | refine Keeps.drew ?_ | refine Keeps.alloc ?_ _), fun k hk => .inl (by simpa using hk)⟩
        · have ec : decide (1 ≤ d7) = false := decide_eq_false hc
          have HG : Hid (lkM.give ⟨0, at_, n, 1, x, none⟩ v won = ⟨0, at_, n, 1, x, some ⟨0, 0, []⟩⟩) := Lib.hid (by
            have hi : lkIs 0 x v = false := by simp only [lkIs, HLo.out, HLox.out, HD7.out, HD1.out]; simp <;> omega
            simp [lkM, lkGive, hi, lkV])
          rw [HG.out]
          go_enter Tryz.func114, Tryz.ntmps114
          go_wp2_with fail
          refine (HA7.out _).mono ?_
          rintro e w1 ⟨rfl, rfl⟩
          go_wp2
          first | go_end0 | refine bodyPost_ret (results_none rfl _ _ _) rfl ?_ | skip
          exact ⟨rfl, [p], ⟨rfl, HR.out.set 5 (.bool true), fun r hr => by first | (cases hr; done) | (cases hr; rfl), ⟨HFi.out.1, .inr rfl, a0, a1, n0, n1, HX.out⟩⟩, by repeat (first | exact Keeps.refl _ _ | refine Keeps.set ?_ (by simp) _ _ | refine Keeps.drew ?_ | refine Keeps.alloc ?_ _), fun k hk => .inl (by simpa using hk)⟩
      · by_cases hc : 1 ≤ d1
        · have ec : decide (1 ≤ d1) = true := decide_eq_true hc
          have HG : Hid (lkM.give ⟨1, at_, n, 1, x, none⟩ v won = ⟨1, at_, n, 1, x, some ⟨0, 1, []⟩⟩) := Lib.hid (by
            have hi : lkIs 1 x v = true := by simp only [lkIs, HLo.out, HLox.out, HD7.out, HD1.out]; simp <;> omega
            simp [lkM, lkGive, hi, lkV])
          rw [HG.out]
          go_enter Tryz.func114, Tryz.ntmps114
          go_wp2_with fail
          refine (HA7.out _).mono ?_
          rintro e w1 ⟨rfl, rfl⟩
          have r1 := HR.out.set 5 (.bool true)
          have k1 : Keeps [p] w (w.setCell ⟨p, 5, none⟩ (.bool true)) := (Keeps.refl _ _).set (by simp) _ _
          generalize hW1 : w.setCell ⟨p, 5, none⟩ (.bool true) = W1 at r1 k1 ⊢
          have g0 := r1.cell (j := 0) rfl
          have g4 := r1.cell (j := 4) rfl
          have fr7 := r1.frozen 7
          have g7 := r1.cell (j := 7) rfl
          have fd7 : W1.drew.frozen? ⟨p, 7, none⟩ = false := r1.frozen 7
          have gd7 : W1.drew.cell? ⟨p, 7, none⟩ = some (.int .u64 0) := r1.cell (j := 7) rfl
          have gd0 : W1.drew.cell? ⟨p, 0, none⟩ = some (.int .i64 1) := r1.cell (j := 0) rfl
          have hl1 : p < W1.heap.size := r1.lt
          have HR1 := Lib.hid r1
          have HK1 := Lib.hid k1
          clear r1 k1 hW1
          go_wp2_with fail
          refine wp_region_still_lit (by kernel_rfl) (by kernel_rfl) ?_
          repeat still_step
          still_call (stillOf (HLv.out _))
          repeat still_step
          still_call (stillOf (HLx.out _))
          repeat still_step
          still_call (stillOf (HA1.out _))
          repeat still_step
          refine wpStill_nil ?_
          go_wp2
          first | go_end0 | refine bodyPost_ret (results_none rfl _ _ _) rfl ?_ | skip
          exact ⟨rfl, [p], ⟨rfl, HR1.out.set 7 (.int .u64 1), fun r hr => by first | (cases hr; done) | (cases hr; rfl), ⟨HFi.out.1, .inr rfl, a0, a1, n0, n1, HX.out⟩⟩, by repeat (first | exact HK1.out | refine Keeps.set ?_ (by simp) _ _ | refine Keeps.drew ?_ | refine Keeps.alloc ?_ _), fun k hk => .inl (by simpa using hk)⟩
        · have ec : decide (1 ≤ d1) = false := decide_eq_false hc
          have HG : Hid (lkM.give ⟨1, at_, n, 1, x, none⟩ v won = ⟨1, at_, n, 1, x, some ⟨0, 0, []⟩⟩) := Lib.hid (by
            have hi : lkIs 1 x v = false := by simp only [lkIs, HLo.out, HLox.out, HD7.out, HD1.out]; simp <;> omega
            simp [lkM, lkGive, hi, lkV])
          rw [HG.out]
          go_enter Tryz.func114, Tryz.ntmps114
          go_wp2_with fail
          refine (HA7.out _).mono ?_
          rintro e w1 ⟨rfl, rfl⟩
          have r1 := HR.out.set 5 (.bool true)
          have k1 : Keeps [p] w (w.setCell ⟨p, 5, none⟩ (.bool true)) := (Keeps.refl _ _).set (by simp) _ _
          generalize hW1 : w.setCell ⟨p, 5, none⟩ (.bool true) = W1 at r1 k1 ⊢
          have g0 := r1.cell (j := 0) rfl
          have g4 := r1.cell (j := 4) rfl
          have fr7 := r1.frozen 7
          have g7 := r1.cell (j := 7) rfl
          have fd7 : W1.drew.frozen? ⟨p, 7, none⟩ = false := r1.frozen 7
          have gd7 : W1.drew.cell? ⟨p, 7, none⟩ = some (.int .u64 0) := r1.cell (j := 7) rfl
          have gd0 : W1.drew.cell? ⟨p, 0, none⟩ = some (.int .i64 1) := r1.cell (j := 0) rfl
          have hl1 : p < W1.heap.size := r1.lt
          have HR1 := Lib.hid r1
          have HK1 := Lib.hid k1
          clear r1 k1 hW1
          go_wp2_with fail
          refine wp_region_still_lit (by kernel_rfl) (by kernel_rfl) ?_
          repeat still_step
          still_call (stillOf (HLv.out _))
          repeat still_step
          still_call (stillOf (HLx.out _))
          repeat still_step
          still_call (stillOf (HA1.out _))
          repeat still_step
          refine wpStill_nil ?_
          go_wp2
          first | go_end0 | refine bodyPost_ret (results_none rfl _ _ _) rfl ?_ | skip
          exact ⟨rfl, [p], ⟨rfl, HR1.out, fun r hr => by first | (cases hr; done) | (cases hr; rfl), ⟨HFi.out.1, .inr rfl, a0, a1, n0, n1, HX.out⟩⟩, by repeat (first | exact HK1.out | refine Keeps.set ?_ (by simp) _ _ | refine Keeps.drew ?_ | refine Keeps.alloc ?_ _), fun k hk => .inl (by simpa using hk)⟩
      · by_cases hc : lo ≠ 0
        · have ec : (lo != 0) = true := by simpa using hc
          have HG : Hid (lkM.give ⟨2, at_, n, 1, x, none⟩ v won = ⟨2, at_, n, 1, x, some ⟨0, 1, []⟩⟩) := Lib.hid (by
            have hi : lkIs 2 x v = true := by simp only [lkIs, HLo.out, HLox.out, HD7.out, HD1.out]; simp <;> omega
            simp [lkM, lkGive, hi, lkV])
          rw [HG.out]
          go_enter Tryz.func114, Tryz.ntmps114
          go_wp2_with fail
          refine (HA7.out _).mono ?_
          rintro e w1 ⟨rfl, rfl⟩
          go_wp2_with fail
          refine (HLv.out _).mono ?_
          rintro e w1 ⟨rfl, rfl⟩
          go_wp2
          first | go_end0 | refine bodyPost_ret (results_none rfl _ _ _) rfl ?_ | skip
          exact ⟨rfl, [p], ⟨rfl, (HR.out.set 5 (.bool true)).set 7 (.int .u64 1), fun r hr => by first | (cases hr; done) | (cases hr; rfl), ⟨HFi.out.1, .inr rfl, a0, a1, n0, n1, HX.out⟩⟩, by repeat (first | exact Keeps.refl _ _ | refine Keeps.set ?_ (by simp) _ _ | refine Keeps.drew ?_ | refine Keeps.alloc ?_ _), fun k hk => .inl (by simpa using hk)⟩
        · have ec : (lo != 0) = false := by simpa using hc
          have HG : Hid (lkM.give ⟨2, at_, n, 1, x, none⟩ v won = ⟨2, at_, n, 1, x, some ⟨0, 0, []⟩⟩) := Lib.hid (by
            have hi : lkIs 2 x v = false := by simp only [lkIs, HLo.out, HLox.out, HD7.out, HD1.out]; simp <;> omega
            simp [lkM, lkGive, hi, lkV])
          rw [HG.out]
          go_enter Tryz.func114, Tryz.ntmps114
          go_wp2_with fail
          refine (HA7.out _).mono ?_
          rintro e w1 ⟨rfl, rfl⟩
          go_wp2_with fail
          refine (HLv.out _).mono ?_
          rintro e w1 ⟨rfl, rfl⟩
          go_wp2
          first | go_end0 | refine bodyPost_ret (results_none rfl _ _ _) rfl ?_ | skip
          exact ⟨rfl, [p], ⟨rfl, HR.out.set 5 (.bool true), fun r hr => by first | (cases hr; done) | (cases hr; rfl), ⟨HFi.out.1, .inr rfl, a0, a1, n0, n1, HX.out⟩⟩, by repeat (first | exact Keeps.refl _ _ | refine Keeps.set ?_ (by simp) _ _ | refine Keeps.drew ?_ | refine Keeps.alloc ?_ _), fun k hk => .inl (by simpa using hk)⟩
theorem rkRight_any (kind at_ size : Int) (w : World) :
    Calls Tryz.prog 8 #[.int .i64 kind, .int .i64 at_, .int .i64 size] w fun e w' => e = .returned (.bool (decide (lcRight kind at_ size))) ∧ w = w' := by
  have HR := Lib.hid (fun W => rRight_any at_ size W)
  by_cases h0 : kind = 0
  · subst h0
    have HD : Hid (decide (lcRight 0 at_ size) = decide (dqRight at_ size)) := Lib.hid (by simp [lcRight])
    rw [HD.out]
    go_enter Tryz.func8, Tryz.ntmps8
    go_wp2_with fail
    refine (HR.out _).mono ?_
    rintro e w1 ⟨rfl, rfl⟩
    go_wp2
    go_ret
    exact ⟨rfl, rfl⟩
  by_cases h1 : kind = 1
  · subst h1
    have HD : Hid (decide (lcRight 1 at_ size) = decide (dqRight at_ size)) := Lib.hid (by simp [lcRight])
    rw [HD.out]
    go_enter Tryz.func8, Tryz.ntmps8
    go_wp2_with fail
    refine (HR.out _).mono ?_
    rintro e w1 ⟨rfl, rfl⟩
    go_wp2
    go_ret
    exact ⟨rfl, rfl⟩
  · have HD : Hid (decide (lcRight kind at_ size) = false) := Lib.hid (by simp [lcRight, h0, h1])
    rw [HD.out]
    have e0 : (kind == 0) = false := by simpa using h0
    have e1 : (kind == 1) = false := by simpa using h1
    clear HR
    go_enter Tryz.func8, Tryz.ntmps8
    go_wp2
    go_ret
    exact ⟨rfl, rfl⟩
end Go.Proofs.YtjfgpplnlepnoaaGreat
