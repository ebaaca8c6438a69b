/-
  Contracts: a yard's walks go as their machine.
-/
import Derived.Test.YtamcfobgmpgbeaaDoorIdW
namespace Go.Proofs.YtamcfobgmpgbeaaDoor
set_option maxRecDepth 100000
set_option linter.unusedSimpArgs false
set_option linter.unusedVariables false
open Go.ChangeShapes Go.WideShapes Go.ChangeAt Go.RowKit

/-- Where the look at a word leads: the walk asks for the Cas, or has ended with a code. -/
def Looked (m p : Nat) (e : TypeId) (at_ n who x : Int) (look : Value) (st : WSt) (r : Int × Int × Int) (w w' : World) : Prop :=
  (r.1 = 0 ∧ Wk w' m { st with x := ⟨3, at_, x, r.2.1⟩, nxt := .func (.func 81) #[.pointer (some ⟨p, 0, none⟩)] #[], sub := none, after := .nilFunc } ∧ Row w' p e (tId m at_ n who x look r.2.2) ∧ Keeps [m, p] w w') ∨
  (r.1 ≠ 0 ∧ ∃ l', Wk w' m { st with nxt := .nilFunc, after := .nilFunc, over := true, code := r.1, v := 0, l := l' } ∧ w'.ownsRow w.heap.size 36 1 l' 0 [] ∧ Keeps [m, p] w w')

set_option maxHeartbeats 800000 in
theorem idSleep_any (m p : Nat) (at_ n who x : Int) (look : Value) (v : Int) (e : TypeId) (st : WSt) (w : World) (hw : Wk w m st) (hp : Row w p e (tId m at_ n who x look v)) (hpm : p ≠ m) (ho : st.over = false) (hs : st.sub = none) (hU : M.U x) (h0 : 0 ≤ who) (h1 : who < 16) :
    Calls Tryd.prog 35 #[.pointer (some ⟨p, 0, none⟩)] w fun e' w' => e' = .returned (.tuple #[]) ∧ Looked m p e at_ n who x look st (idMade n 1 who x) w w' := by
  have hm : idMade n 1 who x = (0, ((x.toNat ||| 2 ^ who.toNat : Nat) : Int), 0) := by simp [idMade]
  rw [hm]
  have HE := Lib.hid (idTo_any m p at_ n who x look v ((x.toNat ||| 2 ^ who.toNat : Nat) : Int) 0 e st w.drew hw hp hpm ho hs)
  have HB := Lib.hid (fun W => bit_any who W h0 (by omega))
  have hor := M.or_bit x who.toNat hU (by omega)
  have c3 := hp.cell (j := 3) rfl
  have c4 := hp.cell (j := 4) rfl
  obtain ⟨q, hq⟩ : ∃ q : Int, ((2 ^ who.toNat : Nat) : Int) = q := ⟨_, rfl⟩
  obtain ⟨r, hr⟩ : ∃ r : Int, ((x.toNat ||| 2 ^ who.toNat : Nat) : Int) = r := ⟨_, rfl⟩
  rw [hq, hr] at hor
  rw [hr] at HE ⊢
  rw [hq] at HB
  clear hw hp ho hs hm hq hr
  go_enter Tryd.func35, Tryd.ntmps35
  go_wp2
  refine wp_region_mid 11 (by kernel_rfl) (by kernel_rfl) ?_
  simp only [List.take_succ_cons, List.take_zero, List.drop_succ_cons, List.drop_zero]
  repeat still_step
  still_call (stillOf (HB.out _))
  repeat still_step
  refine wpStill_nil ?_
  go_wp2_with fail
  refine HE.out.mono ?_
  rintro e w1 ⟨rfl, hw, hr, hk⟩
  have HP := Lib.hid (⟨hw, hr, hk⟩ : _ ∧ _ ∧ _)
  clear hw hr hk
  go_wp2
  show wpStill _ _ _ _ _ _
  repeat still_step
  refine wpStill_nil ?_
  go_wp2
  first | go_end0 | refine bodyPost_ret (results_none rfl _ _ _) rfl ?_
  exact ⟨rfl, .inl ⟨rfl, HP.out.1, HP.out.2.1, HP.out.2.2.undrew⟩⟩
set_option maxHeartbeats 800000 in
theorem idLeave_no (m p : Nat) (at_ n who x : Int) (look : Value) (v : Int) (e : TypeId) (st : WSt) (w : World) (hw : Wk w m st) (hp : Row w p e (tId m at_ n who x look v)) (hpm : p ≠ m) (ho : st.over = false) (hs : st.sub = none) (hU : M.U x) (hu : 0 < st.under) (h0 : 0 ≤ who) (h1 : who < 16) (hb : x.toNat.testBit who.toNat = false) :
    Calls Tryd.prog 37 #[.pointer (some ⟨p, 0, none⟩)] w fun e' w' => e' = .returned (.tuple #[]) ∧ Looked m p e at_ n who x look st (idMade n 2 who x) w w' := by
  have hm : idMade n 2 who x = (5, 0, 0) := by simp [idMade, hb]
  rw [hm]
  have HE := Lib.hid (fun W hw => wBreak m st 5 W hw ho (.inl hu))
  have HB := Lib.hid (fun W => bit_any who W h0 (by omega))
  have hand := M.and_bit x who.toNat hU (by omega)
  rw [hb] at hand
  have c0 := hp.cell (j := 0) rfl
  have c3 := hp.cell (j := 3) rfl
  have c4 := hp.cell (j := 4) rfl
  have HW := Lib.hid hw
  obtain ⟨q, hq⟩ : ∃ q : Int, ((2 ^ who.toNat : Nat) : Int) = q := ⟨_, rfl⟩
  rw [hq] at hand HB
  simp only [Bool.false_eq_true, if_false] at hand
  clear hw hp ho hs hm hq hu hb
  go_enter Tryd.func37, Tryd.ntmps37
  go_wp2
  go_quiet ((go_at_call 61; exact qs (HB.out _)))
  go_wp2_with fail
  refine (HE.out _ (HW.out.keeps (Keeps.of_drewN _ _) (by simp))).mono ?_
  rintro e w1 ⟨rfl, l', hw, ho, hk⟩
  have HP := Lib.hid (⟨hw, ho, hk⟩ : _ ∧ _ ∧ _)
  clear hw ho hk
  go_wp2
  first | go_end0 | refine bodyPost_ret (results_none rfl _ _ _) rfl ?_
  exact ⟨rfl, .inr ⟨by decide, _, HP.out.1, owns_base HP.out.2.1 (Nat.le_refl _), HP.out.2.2.undrewN.mono (by simp)⟩⟩
set_option maxHeartbeats 800000 in
theorem idLeave_yes (m p : Nat) (at_ n who x : Int) (look : Value) (v : Int) (e : TypeId) (st : WSt) (w : World) (hw : Wk w m st) (hp : Row w p e (tId m at_ n who x look v)) (hpm : p ≠ m) (ho : st.over = false) (hs : st.sub = none) (hU : M.U x) (hu : 0 < st.under) (h0 : 0 ≤ who) (h1 : who < 16) (hb : x.toNat.testBit who.toNat = true) :
    Calls Tryd.prog 37 #[.pointer (some ⟨p, 0, none⟩)] w fun e' w' => e' = .returned (.tuple #[]) ∧ Looked m p e at_ n who x look st (idMade n 2 who x) w w' := by
  have hm : idMade n 2 who x = (0, x - ((2 ^ who.toNat : Nat) : Int), 0) := by simp [idMade, hb]
  rw [hm]
  have HE := Lib.hid (fun W hw hp => idTo_any m p at_ n who x look v (x - ((2 ^ who.toNat : Nat) : Int)) 0 e st W hw hp hpm ho hs)
  have HB := Lib.hid (fun W => bit_any who W h0 (by omega))
  have hand := M.and_bit x who.toNat hU (by omega)
  have hnot := M.andNot_bit x who.toNat hU (by omega)
  rw [hb] at hand hnot
  have c3 := hp.cell (j := 3) rfl
  have c4 := hp.cell (j := 4) rfl
  have HW := Lib.hid hw
  have HR := Lib.hid hp
  have q0 : 0 < 2 ^ who.toNat := Nat.two_pow_pos _
  obtain ⟨q, hq⟩ : ∃ q : Int, ((2 ^ who.toNat : Nat) : Int) = q := ⟨_, rfl⟩
  have q1 : ¬ q = 0 := by omega
  rw [hq] at hand hnot HB HE ⊢
  simp only [if_true] at hand hnot
  clear hw hp ho hs hm hq hu hb q0
  go_enter Tryd.func37, Tryd.ntmps37
  go_wp2
  go_quiet ((go_at_call 61; exact qs (HB.out _)))
  go_wp2
  refine wp_region_mid 11 (by kernel_rfl) (by kernel_rfl) ?_
  simp only [List.take_succ_cons, List.take_zero, List.drop_succ_cons, List.drop_zero]
  repeat still_step
  still_call (stillOf (HB.out _))
  repeat still_step
  refine wpStill_nil ?_
  go_wp2_with fail
  refine (HE.out _ (HW.out.keeps (Keeps.of_drewN _ nq).drew (by simp)) (HR.out.keeps (Keeps.of_drewN _ nq).drew (by simp))).mono ?_
  rintro e w1 ⟨rfl, hw, hr, hk⟩
  have HP := Lib.hid (⟨hw, hr, hk⟩ : _ ∧ _ ∧ _)
  clear hw hr hk
  go_wp2
  show wpStill _ _ _ _ _ _
  repeat still_step
  refine wpStill_nil ?_
  go_wp2
  first | go_end0 | refine bodyPost_ret (results_none rfl _ _ _) rfl ?_
  exact ⟨rfl, .inl ⟨rfl, HP.out.1, HP.out.2.1, HP.out.2.2.undrew.undrewN⟩⟩
set_option maxHeartbeats 800000 in
theorem idSearch_no (m p : Nat) (at_ n who x : Int) (look : Value) (v : Int) (e : TypeId) (st : WSt) (w : World) (hw : Wk w m st) (hp : Row w p e (tId m at_ n who x look v)) (hpm : p ≠ m) (ho : st.over = false) (hs : st.sub = none) (hU : M.U x) (hu : 0 < st.under) (n0 : 1 ≤ n) (n1 : n ≤ 16) (hb : n ≤ 2 * (x / 4294967296)) :
    Calls Tryd.prog 39 #[.pointer (some ⟨p, 0, none⟩)] w fun e' w' => e' = .returned (.tuple #[]) ∧ Looked m p e at_ n who x look st (idMade n 3 who x) w w' := by
  have hm : idMade n 3 who x = (8, 0, 0) := by simp [idMade, hb]
  rw [hm]
  have HE := Lib.hid (fun W hw => wBreak m st 8 W hw ho (.inl hu))
  have HB := Lib.hid (fun W => searching_any x W hU)
  have c0 := hp.cell (j := 0) rfl
  have c2 := hp.cell (j := 2) rfl
  have c4 := hp.cell (j := 4) rfl
  have HW := Lib.hid hw
  have u1 := hU.lt
  have u0 := hU.nn
  obtain ⟨q, hq⟩ : ∃ q : Int, x / 4294967296 = q := ⟨_, rfl⟩
  have q0 : 0 ≤ q := by omega
  have q1 : q < 4294967296 := by omega
  rw [hq] at HB hb
  have w1 : IntKind.u32.wrap (n + 1) = n + 1 := by rw [IntKind.wrap_u32]; omega
  have hd : decide ((n + 1) / 2 ≤ q) = true := decide_eq_true (by omega)
  clear hw hp ho hs hm hq hu u1 u0
  go_enter Tryd.func39, Tryd.ntmps39
  go_wp2_with fail
  refine (HB.out _).mono ?_
  rintro e w1 ⟨rfl, rfl⟩
  go_wp2_with fail
  refine (HE.out _ HW.out).mono ?_
  rintro e w1 ⟨rfl, l', hw, ho, hk⟩
  have HP := Lib.hid (⟨hw, ho, hk⟩ : _ ∧ _ ∧ _)
  clear hw ho hk
  go_wp2
  first | go_end0 | refine bodyPost_ret (results_none rfl _ _ _) rfl ?_
  exact ⟨rfl, .inr ⟨by decide, _, HP.out.1, HP.out.2.1, HP.out.2.2.mono (by simp)⟩⟩

set_option maxHeartbeats 800000 in
theorem idSearch_yes (m p : Nat) (at_ n who x : Int) (look : Value) (v : Int) (e : TypeId) (st : WSt) (w : World) (hw : Wk w m st) (hp : Row w p e (tId m at_ n who x look v)) (hpm : p ≠ m) (ho : st.over = false) (hs : st.sub = none) (hU : M.U x) (hu : 0 < st.under) (n0 : 1 ≤ n) (n1 : n ≤ 16) (hb : ¬ n ≤ 2 * (x / 4294967296)) :
    Calls Tryd.prog 39 #[.pointer (some ⟨p, 0, none⟩)] w fun e' w' => e' = .returned (.tuple #[]) ∧ Looked m p e at_ n who x look st (idMade n 3 who x) w w' := by
  have hm : idMade n 3 who x = (0, x + 4294967296, 0) := by simp [idMade, hb]
  rw [hm]
  have u1 := hU.lt
  have u0 := hU.nn
  have HE := Lib.hid (fun W hw hp => idTo_any m p at_ n who x look v (x + 4294967296) 0 e st W hw hp hpm ho hs)
  have HB := Lib.hid (fun W => searching_any x W hU)
  have HC := Lib.hid (fun W => recounted_any x (x / 4294967296 + 1) W hU (by omega) (by omega))
  rw [show (x / 4294967296 + 1) * 4294967296 + x % 4294967296 = x + 4294967296 by omega] at HC
  have c0 := hp.cell (j := 0) rfl
  have c2 := hp.cell (j := 2) rfl
  have c4 := hp.cell (j := 4) rfl
  have HW := Lib.hid hw
  have HR := Lib.hid hp
  obtain ⟨q, hq⟩ : ∃ q : Int, x / 4294967296 = q := ⟨_, rfl⟩
  have q0 : 0 ≤ q := by omega
  have q1 : q < 8 := by omega
  rw [hq] at HB hb HC
  have w1 : IntKind.u32.wrap (n + 1) = n + 1 := by rw [IntKind.wrap_u32]; omega
  have w2 : IntKind.u32.wrap (q + 1) = q + 1 := by rw [IntKind.wrap_u32]; omega
  have hd : decide ((n + 1) / 2 ≤ q) = false := decide_eq_false (by omega)
  clear hw hp ho hs hm hq hu u1 u0
  go_enter Tryd.func39, Tryd.ntmps39
  go_wp2_with fail
  refine (HB.out _).mono ?_
  rintro e w1 ⟨rfl, rfl⟩
  go_wp2_with fail
  refine (HC.out _).mono ?_
  rintro e w1 ⟨rfl, rfl⟩
  go_wp2_with fail
  refine (HE.out _ HW.out HR.out).mono ?_
  rintro e w1 ⟨rfl, hw, hr, hk⟩
  have HP := Lib.hid (⟨hw, hr, hk⟩ : _ ∧ _ ∧ _)
  clear hw hr hk
  go_wp2
  first | go_end0 | refine bodyPost_ret (results_none rfl _ _ _) rfl ?_
  exact ⟨rfl, .inl ⟨rfl, HP.out⟩⟩
set_option maxHeartbeats 800000 in
theorem idFound_no (m p : Nat) (at_ n who x : Int) (look : Value) (v : Int) (e : TypeId) (st : WSt) (w : World) (hw : Wk w m st) (hp : Row w p e (tId m at_ n who x look v)) (hpm : p ≠ m) (ho : st.over = false) (hs : st.sub = none) (hU : M.U x) (hu : 0 < st.under) (hb : x / 4294967296 = 0) :
    Calls Tryd.prog 41 #[.pointer (some ⟨p, 0, none⟩)] w fun e' w' => e' = .returned (.tuple #[]) ∧ Looked m p e at_ n who x look st (idMade n 4 who x) w w' := by
  have hm : idMade n 4 who x = (15, 0, 0) := by simp [idMade, hb]
  rw [hm]
  have HE := Lib.hid (fun W hw => wBreak m st 15 W hw ho (.inl hu))
  have HB := Lib.hid (fun W => searching_any x W hU)
  have c0 := hp.cell (j := 0) rfl
  have c4 := hp.cell (j := 4) rfl
  have HW := Lib.hid hw
  rw [hb] at HB
  clear hw hp ho hs hm hu hb
  go_enter Tryd.func41, Tryd.ntmps41
  go_wp2_with fail
  refine (HB.out _).mono ?_
  rintro e w1 ⟨rfl, rfl⟩
  go_wp2_with fail
  refine (HE.out _ HW.out).mono ?_
  rintro e w1 ⟨rfl, l', hw, ho, hk⟩
  have HP := Lib.hid (⟨hw, ho, hk⟩ : _ ∧ _ ∧ _)
  clear hw ho hk
  go_wp2
  first | go_end0 | refine bodyPost_ret (results_none rfl _ _ _) rfl ?_
  exact ⟨rfl, .inr ⟨by decide, _, HP.out.1, HP.out.2.1, HP.out.2.2.mono (by simp)⟩⟩

set_option maxHeartbeats 800000 in
theorem idFound_yes (m p : Nat) (at_ n who x : Int) (look : Value) (v : Int) (e : TypeId) (st : WSt) (w : World) (hw : Wk w m st) (hp : Row w p e (tId m at_ n who x look v)) (hpm : p ≠ m) (ho : st.over = false) (hs : st.sub = none) (hU : M.U x) (hu : 0 < st.under) (hb : ¬ x / 4294967296 = 0) :
    Calls Tryd.prog 41 #[.pointer (some ⟨p, 0, none⟩)] w fun e' w' => e' = .returned (.tuple #[]) ∧ Looked m p e at_ n who x look st (idMade n 4 who x) w w' := by
  have u1 := hU.lt
  have u0 := hU.nn
  have hm : idMade n 4 who x = (0, x - 4294967296, if x / 4294967296 = 1 then 1 else 0) := by simp [idMade, hb]
  rw [hm]
  have HB := Lib.hid (fun W => searching_any x W hU)
  have HC := Lib.hid (fun W => recounted_any x (x / 4294967296 - 1) W hU (by omega) (by omega))
  rw [show (x / 4294967296 - 1) * 4294967296 + x % 4294967296 = x - 4294967296 by omega] at HC
  have c4 := hp.cell (j := 4) rfl
  have HW := Lib.hid hw
  have HR := Lib.hid hp
  by_cases h1 : x / 4294967296 = 1
  · rw [if_pos h1]
    have HE := Lib.hid (fun W hw hp => idTo_any m p at_ n who x look v (x - 4294967296) 1 e st W hw hp hpm ho hs)
    rw [h1] at HB HC
    clear hw hp ho hs hm hu hb u0 u1 h1
    go_enter Tryd.func41, Tryd.ntmps41
    go_wp2_with fail
    refine (HB.out _).mono ?_
    rintro e w1 ⟨rfl, rfl⟩
    go_wp2_with fail
    refine (HC.out _).mono ?_
    rintro e w1 ⟨rfl, rfl⟩
    go_wp2_with fail
    refine (HE.out _ HW.out HR.out).mono ?_
    rintro e w1 ⟨rfl, hw, hr, hk⟩
    have HP := Lib.hid (⟨hw, hr, hk⟩ : _ ∧ _ ∧ _)
    clear hw hr hk
    go_wp2
    first | go_end0 | refine bodyPost_ret (results_none rfl _ _ _) rfl ?_
    exact ⟨rfl, .inl ⟨rfl, HP.out⟩⟩
  · rw [if_neg h1]
    have HE := Lib.hid (fun W hw hp => idTo_any m p at_ n who x look v (x - 4294967296) 0 e st W hw hp hpm ho hs)
    obtain ⟨q, hq⟩ : ∃ q : Int, x / 4294967296 = q := ⟨_, rfl⟩
    have q0 : 0 ≤ q := by omega
    have q1 : q < 4294967296 := by omega
    rw [hq] at HB hb HC h1
    have w2 : IntKind.u32.wrap (q - 1) = q - 1 := by rw [IntKind.wrap_u32]; omega
    clear hw hp ho hs hm hu u0 u1 hq
    go_enter Tryd.func41, Tryd.ntmps41
    go_wp2_with fail
    refine (HB.out _).mono ?_
    rintro e w1 ⟨rfl, rfl⟩
    go_wp2_with fail
    refine (HC.out _).mono ?_
    rintro e w1 ⟨rfl, rfl⟩
    go_wp2_with fail
    refine (HE.out _ HW.out HR.out).mono ?_
    rintro e w1 ⟨rfl, hw, hr, hk⟩
    have HP := Lib.hid (⟨hw, hr, hk⟩ : _ ∧ _ ∧ _)
    clear hw hr hk
    go_wp2
    first | go_end0 | refine bodyPost_ret (results_none rfl _ _ _) rfl ?_
    exact ⟨rfl, .inl ⟨rfl, HP.out⟩⟩

set_option maxHeartbeats 1600000 in
theorem idChoose_none (m p : Nat) (at_ n who x : Int) (look : Value) (v : Int) (e : TypeId) (st : WSt) (w : World) (hw : Wk w m st) (hp : Row w p e (tId m at_ n who x look v)) (hpm : p ≠ m) (ho : st.over = false) (hs : st.sub = none) (hU : M.U x) (hu : 0 < st.under) (n0 : 1 ≤ n) (n1 : n ≤ 16) (hb : M.fieldN x.toNat 0 n.toNat = 0) :
    Calls Tryd.prog 43 #[.pointer (some ⟨p, 0, none⟩)] w fun e' w' => e' = .returned (.tuple #[]) ∧ Looked m p e at_ n who x look st (idMade n 5 who x) w w' := by
  have hm : idMade n 5 who x = (5, 0, 0) := by simp [idMade, hb]
  rw [hm]
  have HE := Lib.hid (fun W hw => wBreak m st 5 W hw ho (.inl hu))
  have HB := Lib.hid (fun W => searching_any x W hU)
  have HI := Lib.hid (fun W => idleOf_any at_ n x W hU n0 n1)
  have HS : Hid (∀ W, Keeps [] w W → W.cell? ⟨p, 0, none⟩ = some (.pointer (some ⟨m, 0, none⟩)) ∧ W.cell? ⟨p, 1, none⟩ = some (.int .i64 at_) ∧ W.cell? ⟨p, 2, none⟩ = some (.int .i64 n) ∧ W.cell? ⟨p, 4, none⟩ = some (.int .u64 x)) :=
    Lib.hid (fun W hk => ⟨(hp.keeps hk (by simp)).cell (j := 0) rfl, (hp.keeps hk (by simp)).cell (j := 1) rfl, (hp.keeps hk (by simp)).cell (j := 2) rfl, (hp.keeps hk (by simp)).cell (j := 4) rfl⟩)
  obtain ⟨c0, c1, c2, c4⟩ := HS.out w (Keeps.refl _ _)
  have HW := Lib.hid hw
  have HR := Lib.hid hp
  have HF : Hid (∀ W, Keeps [] w W → Calls Tryd.prog 63 #[.int .u64 0] W fun e w' => e = .returned (.tuple #[.int .i64 0, .bool false]) ∧ ∃ m, W.drewN m = w') := Lib.hid (fun W _ => (first_zero W).mono fun _ _ ⟨h1, h2⟩ => ⟨h1, 0, h2⟩)
  rw [hb] at HI
  obtain ⟨q, hq⟩ : ∃ q : Int, x / 4294967296 = q := ⟨_, rfl⟩
  rw [hq] at HB
  have hdq : decide (0 < q) = false ∨ decide (0 < q) = true := by by_cases h : 0 < q <;> simp [h]
  clear hw hp ho hs hm hu hq hb
  rcases hdq with hdq | hdq
  all_goals (
    go_enter Tryd.func43, Tryd.ntmps43
    go_wp2
    go_region_held3 (fun w' => w'.cell? ⟨p, 0, none⟩ = some (.pointer (some ⟨m, 0, none⟩)) ∧ w'.cell? ⟨p, 1, none⟩ = some (.int .i64 at_) ∧ w'.cell? ⟨p, 2, none⟩ = some (.int .i64 n) ∧ w'.cell? ⟨p, 4, none⟩ = some (.int .u64 x))
      (first
        | exact HS.out _ hk2.drewN
        | exact HS.out _ hk2
        | exact ⟨by assumption, by assumption, by assumption, by assumption⟩
        | fail)
      (first
        | (go_at_call 28; refine (HI.out _).mono ?_; rintro e2 w2 ⟨rfl, k2⟩; have hk2 : Keeps [] w w2 := k2.undrew; clear k2)
        | (go_at_call 63; refine (HF.out _ hk2).mono ?_; rintro e2 w3 ⟨rfl, n3, rfl⟩)
        | fail)
    obtain ⟨W2, hW2⟩ : ∃ W2, w2.drewN n3 = W2 := ⟨_, rfl⟩
    have k2 : Keeps [] w W2 := by rw [← hW2]; exact hk2.drewN
    rw [hW2]
    clear hW2 hk2
    obtain ⟨c0, c1, c2, c4⟩ := HS.out W2 k2
    have HK := Lib.hid k2
    clear k2
    go_wp2_with fail
    refine (HB.out _).mono ?_
    rintro e w1 ⟨rfl, rfl⟩
    go_wp2_with fail
    refine (HE.out _ (HW.out.keeps HK.out (by simp))).mono ?_
    rintro e w1 ⟨rfl, l', hw, ho, hk⟩
    have HP := Lib.hid (⟨hw, owns_base ho HK.out.size, (HK.out.mono (by simp)).trans hk⟩ : _ ∧ _ ∧ Keeps [m] w _)
    clear hw ho hk
    go_wp2
    first | go_end0 | refine bodyPost_ret (results_none rfl _ _ _) rfl ?_
    exact ⟨rfl, .inr ⟨by decide, _, HP.out.1, HP.out.2.1, HP.out.2.2.mono (by simp)⟩⟩)

set_option maxHeartbeats 1600000 in
theorem idChoose_busy (m p : Nat) (at_ n who x : Int) (look : Value) (v : Int) (e : TypeId) (st : WSt) (w : World) (hw : Wk w m st) (hp : Row w p e (tId m at_ n who x look v)) (hpm : p ≠ m) (ho : st.over = false) (hs : st.sub = none) (hU : M.U x) (hu : 0 < st.under) (n0 : 1 ≤ n) (n1 : n ≤ 16) (hT : Amb w) (hb : 0 < x / 4294967296) (hf : M.fieldN x.toNat 0 n.toNat ≠ 0) :
    Calls Tryd.prog 43 #[.pointer (some ⟨p, 0, none⟩)] w fun e' w' => e' = .returned (.tuple #[]) ∧ Looked m p e at_ n who x look st (idMade n 5 who x) w w' := by
  have hm : idMade n 5 who x = (5, 0, 0) := by simp [idMade, hb]
  rw [hm]
  have HE := Lib.hid (fun W hw => wBreak m st 5 W hw ho (.inl hu))
  have HB := Lib.hid (fun W => searching_any x W hU)
  have HI := Lib.hid (fun W => idleOf_any at_ n x W hU n0 n1)
  have HS : Hid (∀ W, Keeps [] w W → W.cell? ⟨p, 0, none⟩ = some (.pointer (some ⟨m, 0, none⟩)) ∧ W.cell? ⟨p, 1, none⟩ = some (.int .i64 at_) ∧ W.cell? ⟨p, 2, none⟩ = some (.int .i64 n) ∧ W.cell? ⟨p, 4, none⟩ = some (.int .u64 x)) :=
    Lib.hid (fun W hk => ⟨(hp.keeps hk (by simp)).cell (j := 0) rfl, (hp.keeps hk (by simp)).cell (j := 1) rfl, (hp.keeps hk (by simp)).cell (j := 2) rfl, (hp.keeps hk (by simp)).cell (j := 4) rfl⟩)
  obtain ⟨c0, c1, c2, c4⟩ := HS.out w (Keeps.refl _ _)
  have HW := Lib.hid hw
  have HR := Lib.hid hp
  have hfU : M.U ((M.fieldN x.toNat 0 n.toNat : Nat) : Int) := M.U.of _ (Nat.lt_of_lt_of_le (M.fieldN_lt _ _ _) (Nat.pow_le_pow_right (by decide) (by omega)))
  have HF := Lib.hid (fun W (hk : Keeps [] w W) => first_any _ W hfU.nn hfU (by omega) (hT.keeps hk (by simp)).2)
  rw [Int.toNat_natCast] at HF
  obtain ⟨f, hff⟩ : ∃ f : Nat, M.fieldN x.toNat 0 n.toNat = f := ⟨_, rfl⟩
  rw [hff] at HI HF
  obtain ⟨c, hc⟩ : ∃ c : Nat, Lib.ctz 64 f = c := ⟨_, rfl⟩
  rw [hc] at HF
  obtain ⟨q, hq⟩ : ∃ q : Int, x / 4294967296 = q := ⟨_, rfl⟩
  rw [hq] at HB
  have hdq : decide (0 < q) = true := decide_eq_true (by omega)
  clear hw hp ho hs hm hu hq hb hf hff hc hT hfU
  all_goals (
    go_enter Tryd.func43, Tryd.ntmps43
    go_wp2
    go_region_held3 (fun w' => w'.cell? ⟨p, 0, none⟩ = some (.pointer (some ⟨m, 0, none⟩)) ∧ w'.cell? ⟨p, 1, none⟩ = some (.int .i64 at_) ∧ w'.cell? ⟨p, 2, none⟩ = some (.int .i64 n) ∧ w'.cell? ⟨p, 4, none⟩ = some (.int .u64 x))
      (first
        | exact HS.out _ hk2.drewN
        | exact HS.out _ hk2
        | exact ⟨by assumption, by assumption, by assumption, by assumption⟩
        | fail)
      (first
        | (go_at_call 28; refine (HI.out _).mono ?_; rintro e2 w2 ⟨rfl, k2⟩; have hk2 : Keeps [] w w2 := k2.undrew; clear k2)
        | (go_at_call 63; refine (HF.out _ hk2).mono ?_; rintro e2 w3 ⟨rfl, n3, rfl⟩)
        | fail)
    obtain ⟨W2, hW2⟩ : ∃ W2, w2.drewN n3 = W2 := ⟨_, rfl⟩
    have k2 : Keeps [] w W2 := by rw [← hW2]; exact hk2.drewN
    rw [hW2]
    clear hW2 hk2
    obtain ⟨c0, c1, c2, c4⟩ := HS.out W2 k2
    have HK := Lib.hid k2
    clear k2
    go_wp2_with fail
    refine (HB.out _).mono ?_
    rintro e w1 ⟨rfl, rfl⟩
    go_wp2_with fail
    refine (HE.out _ (HW.out.keeps HK.out (by simp))).mono ?_
    rintro e w1 ⟨rfl, l', hw, ho, hk⟩
    have HP := Lib.hid (⟨hw, owns_base ho HK.out.size, (HK.out.mono (by simp)).trans hk⟩ : _ ∧ _ ∧ Keeps [m] w _)
    clear hw ho hk
    go_wp2
    first | go_end0 | refine bodyPost_ret (results_none rfl _ _ _) rfl ?_
    exact ⟨rfl, .inr ⟨by decide, _, HP.out.1, HP.out.2.1, HP.out.2.2.mono (by simp)⟩⟩)

set_option maxHeartbeats 1600000 in
theorem idChoose_yes (m p : Nat) (at_ n who x : Int) (look : Value) (v : Int) (e : TypeId) (st : WSt) (w : World) (hw : Wk w m st) (hp : Row w p e (tId m at_ n who x look v)) (hpm : p ≠ m) (ho : st.over = false) (hs : st.sub = none) (hU : M.U x) (hu : 0 < st.under) (n0 : 1 ≤ n) (n1 : n ≤ 16) (hT : Amb w) (hb : x / 4294967296 = 0) (hf : M.fieldN x.toNat 0 n.toNat ≠ 0) :
    Calls Tryd.prog 43 #[.pointer (some ⟨p, 0, none⟩)] w fun e' w' => e' = .returned (.tuple #[]) ∧ Looked m p e at_ n who x look st (idMade n 5 who x) w w' := by
  have hm : idMade n 5 who x = (0, 4294967296 + x - ((2 ^ Lib.ctz 64 (M.fieldN x.toNat 0 n.toNat) : Nat) : Int), ((Lib.ctz 64 (M.fieldN x.toNat 0 n.toNat) : Nat) : Int)) := by simp [idMade, hb, hf]
  rw [hm]
  obtain ⟨hbit, hlow, hc64, -⟩ := M.drop_low _ hf (Nat.lt_of_lt_of_le (M.fieldN_lt _ _ _) (Nat.pow_le_pow_right (by decide) (by omega)))
  rw [M.fieldN_tb, Nat.zero_add, Bool.and_eq_true, decide_eq_true_eq] at hbit
  obtain ⟨hcn, hbit⟩ := hbit
  have HB := Lib.hid (fun W => searching_any x W hU)
  have HI := Lib.hid (fun W => idleOf_any at_ n x W hU n0 n1)
  have HS : Hid (∀ W, Keeps [] w W → W.cell? ⟨p, 0, none⟩ = some (.pointer (some ⟨m, 0, none⟩)) ∧ W.cell? ⟨p, 1, none⟩ = some (.int .i64 at_) ∧ W.cell? ⟨p, 2, none⟩ = some (.int .i64 n) ∧ W.cell? ⟨p, 4, none⟩ = some (.int .u64 x)) :=
    Lib.hid (fun W hk => ⟨(hp.keeps hk (by simp)).cell (j := 0) rfl, (hp.keeps hk (by simp)).cell (j := 1) rfl, (hp.keeps hk (by simp)).cell (j := 2) rfl, (hp.keeps hk (by simp)).cell (j := 4) rfl⟩)
  obtain ⟨c0, c1, c2, c4⟩ := HS.out w (Keeps.refl _ _)
  have HW := Lib.hid hw
  have HR := Lib.hid hp
  have hfU : M.U ((M.fieldN x.toNat 0 n.toNat : Nat) : Int) := M.U.of _ (Nat.lt_of_lt_of_le (M.fieldN_lt _ _ _) (Nat.pow_le_pow_right (by decide) (by omega)))
  have HF := Lib.hid (fun W (hk : Keeps [] w W) => first_any _ W hfU.nn hfU (by omega) (hT.keeps hk (by simp)).2)
  rw [Int.toNat_natCast] at HF
  obtain ⟨f, hff⟩ : ∃ f : Nat, M.fieldN x.toNat 0 n.toNat = f := ⟨_, rfl⟩
  rw [hff] at HI HF hcn hbit ⊢
  obtain ⟨c, hc⟩ : ∃ c : Nat, Lib.ctz 64 f = c := ⟨_, rfl⟩
  rw [hc] at HF hcn hbit ⊢
  have hle := M.pow_le_of_bit hbit
  have u0 := hU.nn
  have u1 : x < 4294967296 := by omega
  have c16 : (c : Int) < 16 := by omega
  have hnot := M.andNot_bit x c hU (by omega)
  rw [hbit, if_pos rfl] at hnot
  have HBi := Lib.hid (fun W => bit_any (c : Int) W (by omega) (by omega))
  rw [Int.toNat_natCast] at HBi
  obtain ⟨r, hr⟩ : ∃ r : Int, ((2 ^ c : Nat) : Int) = r := ⟨_, rfl⟩
  have r0 : 0 ≤ r := by rw [← hr]; exact Int.natCast_nonneg _
  have r1 : r ≤ x := by omega
  rw [hr] at HBi hnot ⊢
  have HC := Lib.hid (fun W => recounted_any (x - r) 1 W ⟨by omega, by have := hU.lt; omega⟩ (by omega) (by omega))
  rw [show 1 * 4294967296 + (x - r) % 4294967296 = 4294967296 + x - r by omega] at HC
  have HE := Lib.hid (fun W hw hp => idTo_any m p at_ n who x look v (4294967296 + x - r) (c : Int) e st W hw hp hpm ho hs)
  obtain ⟨q, hq⟩ : ∃ q : Int, x / 4294967296 = q := ⟨_, rfl⟩
  rw [hq] at HB
  have hdq : decide (0 < q) = false := decide_eq_false (by omega)
  clear hw hp ho hs hm hu hq hb hf hff hc hT hfU hlow hc64 hbit hle hr
  all_goals (
    go_enter Tryd.func43, Tryd.ntmps43
    go_wp2
    go_region_held3 (fun w' => w'.cell? ⟨p, 0, none⟩ = some (.pointer (some ⟨m, 0, none⟩)) ∧ w'.cell? ⟨p, 1, none⟩ = some (.int .i64 at_) ∧ w'.cell? ⟨p, 2, none⟩ = some (.int .i64 n) ∧ w'.cell? ⟨p, 4, none⟩ = some (.int .u64 x))
      (first
        | exact HS.out _ hk2.drewN
        | exact HS.out _ hk2
        | exact ⟨by assumption, by assumption, by assumption, by assumption⟩
        | fail)
      (first
        | (go_at_call 28; refine (HI.out _).mono ?_; rintro e2 w2 ⟨rfl, k2⟩; have hk2 : Keeps [] w w2 := k2.undrew; clear k2)
        | (go_at_call 63; refine (HF.out _ hk2).mono ?_; rintro e2 w3 ⟨rfl, n3, rfl⟩)
        | fail)
    obtain ⟨W2, hW2⟩ : ∃ W2, w2.drewN n3 = W2 := ⟨_, rfl⟩
    have k2 : Keeps [] w W2 := by rw [← hW2]; exact hk2.drewN
    rw [hW2]
    clear hW2 hk2
    obtain ⟨c0, c1, c2, c4⟩ := HS.out W2 k2
    have HK := Lib.hid k2
    clear k2
    go_wp2_with fail
    refine (HB.out _).mono ?_
    rintro e w1 ⟨rfl, rfl⟩
    go_wp2_with fail
    refine wp_region_mid 11 (by kernel_rfl) (by kernel_rfl) ?_
    simp only [List.take_succ_cons, List.take_zero, List.drop_succ_cons, List.drop_zero]
    repeat still_step
    still_call (stillOf (HBi.out _))
    repeat still_step
    still_call (stillOf (HC.out _))
    repeat still_step
    refine wpStill_nil ?_
    go_wp2_with fail
    refine (HE.out _ (HW.out.keeps HK.out.drew (by simp)) (HR.out.keeps HK.out.drew (by simp))).mono ?_
    rintro e w1 ⟨rfl, hw, hr, hk⟩
    have HP := Lib.hid (⟨hw, hr, (HK.out.drew.mono (by simp)).trans hk⟩ : _ ∧ _ ∧ Keeps [m, p] w _)
    clear hw hr hk
    go_wp2
    show wpStill _ _ _ _ _ _
    repeat still_step
    refine wpStill_nil ?_
    go_wp2
    first | go_end0 | refine bodyPost_ret (results_none rfl _ _ _) rfl ?_
    exact ⟨rfl, .inl ⟨rfl, HP.out⟩⟩)
end Go.Proofs.YtamcfobgmpgbeaaDoor
