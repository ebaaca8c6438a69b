/-
  Contracts: what the walks of a yard do at each of their steps.
-/
import Derived.Test.YtamcfobgmpgbeaaDoorMach
import Derived.Test.YtamcfobgmpgbeaaDoorAcc
import Derived.Test.YtamcfobgmpgbeaaDoorWord
import Derived.Test.YtamcfobgmpgbeaaDoorBits
import Derived.Test.YtamcfobgmpgbeaaDoorIdM
import Derived.Test.YtamcfobgmpgbeaaDoorDraw
import Derived.StillTailTactics
namespace Go.Proofs.YtamcfobgmpgbeaaDoor
set_option maxRecDepth 100000
set_option linter.unusedSimpArgs false
set_option linter.unusedVariables false
open Go.ChangeShapes Go.WideShapes Go.ChangeAt Go.RowKit

/-- What a walk of a yard knows: its walk, the yard, the worker, the word, what is done with that, what is told. -/
def tId (m : Nat) (at_ n who was : Int) (look : Value) (v : Int) : List Value := [.pointer (some ⟨m, 0, none⟩), .int .i64 at_, .int .i64 n, .int .i64 who, .int .u64 was, look, .int .u64 v]

theorem bit_any (who : Int) (w : World) (h0 : 0 ≤ who) (h1 : who < 64) :
    Calls Tryd.prog 61 #[.int .i64 who] w fun e w' => e = .returned (.int .u64 ((2 ^ who.toNat : Nat) : Int)) ∧ w = w' := by
  have hp := M.pow_lt64 (k := who.toNat) (by omega)
  have hq : IntKind.u64.wrap (2 ^ who.toNat) = ((2 ^ who.toNat : Nat) : Int) := by
    have e : (2 : Int) ^ who.toNat = ((2 ^ who.toNat : Nat) : Int) := by rw [Int.natCast_pow]; rfl
    rw [IntKind.wrap_u64, e]
    generalize 2 ^ who.toNat = q at *
    omega
  go_enter Tryd.func61, Tryd.ntmps61
  go_wp2
  go_ret
  exact ⟨ret_int (by rw [Int.natCast_pow]; rfl), rfl⟩
theorem searching_any (u : Int) (w : World) (hu : M.U u) :
    Calls Tryd.prog 26 #[.int .u64 u] w fun e w' => e = .returned (.int .u32 (u / 4294967296)) ∧ w = w' := by
  have H := split_any u w hu.nn hu
  go_enter Tryd.func26, Tryd.ntmps26
  go_wp2_with fail
  refine H.mono ?_
  rintro e w1 ⟨rfl, rfl⟩
  go_wp2
  go_ret
  exact ⟨rfl, rfl⟩
theorem recounted_any (u n : Int) (w : World) (hu : M.U u) (n0 : 0 ≤ n) (n1 : n < 4294967296) :
    Calls Tryd.prog 62 #[.int .u64 u, .int .u32 n] w fun e w' => e = .returned (.int .u64 (n * 4294967296 + u % 4294967296)) ∧ w = w' := by
  have H := split_any u w hu.nn hu
  have HP := Lib.hid (fun W => pair_any n (u % 4294967296) W n0 n1 (by have := hu.nn; omega) (by omega))
  go_enter Tryd.func62, Tryd.ntmps62
  go_wp2_with fail
  refine H.mono ?_
  rintro e w1 ⟨rfl, rfl⟩
  go_wp2_with fail
  refine (HP.out _).mono ?_
  rintro e w1 ⟨rfl, rfl⟩
  go_wp2
  go_ret
  exact ⟨rfl, rfl⟩
theorem idleOf_any (at_ n u : Int) (w : World) (hu : M.U u) (n0 : 1 ≤ n) (n1 : n ≤ 16) :
    Calls Tryd.prog 28 #[.agg #[.int .i64 at_, .int .i64 n], .int .u64 u] w fun e w' => e = .returned (.int .u64 ((M.fieldN u.toNat 0 n.toNat : Nat) : Int)) ∧ Keeps [] w w' := by
  have HF := Lib.hid (fun W => field_ok u 0 n W hu (M.isF_iff.2 ⟨n0, by omega, by omega, by omega⟩))
  go_enter Tryd.func28, Tryd.ntmps28
  go_wp2_with fail
  refine (HF.out _).mono ?_
  rintro e w1 ⟨rfl, m, rfl⟩
  go_wp2
  go_ret
  exact ⟨rfl, ((Keeps.refl _ _).alloc _).drewN⟩

set_option maxHeartbeats 1600000 in
theorem idTo_any (m p : Nat) (at_ n who was : Int) (look : Value) (v u v' : Int) (e : TypeId) (st : WSt) (w : World) (hw : Wk w m st) (hp : Row w p e (tId m at_ n who was look v)) (hpm : p ≠ m) (ho : st.over = false) (hs : st.sub = none) :
    Calls Tryd.prog 60 #[.pointer (some ⟨p, 0, none⟩), .int .u64 u, .int .u64 v'] w fun e' w' => e' = .returned (.tuple #[]) ∧
      Wk w' m { st with x := ⟨3, at_, was, u⟩, nxt := .func (.func 81) #[.pointer (some ⟨p, 0, none⟩)] #[], sub := none, after := .nilFunc } ∧ Row w' p e (tId m at_ n who was look v') ∧ Keeps [m, p] w w' := by
  have HE := Lib.hid (fun W h' => wAsk m st ⟨3, at_, was, u⟩ (.func 81) #[.pointer (some ⟨p, 0, none⟩)] #[] W h' hs ho)
  have f6 := hp.frozen 6
  have h6 := hp.cell (j := 6) rfl
  obtain ⟨W1, hW1⟩ : ∃ W1, w.setCell ⟨p, 6, none⟩ (.int .u64 v') = W1 := ⟨_, rfl⟩
  have r1 : Row W1 p e (tId m at_ n who was look v') := by rw [← hW1]; exact hp.set 6 _
  have k1 : Keeps [m, p] w W1 := by rw [← hW1]; exact (Keeps.refl [m, p] w).setCell (fun _ => by simp) _
  have c0 := r1.cell (j := 0) rfl
  have c1 := r1.cell (j := 1) rfl
  have c4 := r1.cell (j := 4) rfl
  have HR := Lib.hid r1
  have HK := Lib.hid k1
  have HW : Hid (Wk W1 m st) := Lib.hid (by rw [← hW1]; exact hw.keeps ((Keeps.refl [p] w).setCell (fun _ => by simp) _) (by simpa using Ne.symm hpm))
  clear k1 r1 hw hp ho hs
  go_enter Tryd.func60, Tryd.ntmps60
  go_wp2
  go_still_tail 17, (by kernel_rfl)
  change wpList _ _ _ _ _ W1.drew
  go_wp2_with fail
  refine (HE.out W1.drew HW.out).mono ?_
  rintro e w1 ⟨rfl, hw, hk⟩
  have HP := Lib.hid (⟨hw, hk⟩ : _ ∧ _)
  clear hw hk
  go_wp2
  first | go_end0 | refine bodyPost_ret (results_none rfl _ _ _) rfl ?_
  exact ⟨rfl, HP.out.1, HR.out.keeps HP.out.2.undrew (by simpa using hpm), HK.out.trans (HP.out.2.undrew.mono (by simp))⟩

set_option maxHeartbeats 800000 in
theorem idTried_won (m p : Nat) (at_ n who was u : Int) (look : Value) (r : Int) (e : TypeId) (st : WSt) (w : World) (hw : Wk w m st) (hp : Row w p e (tId m at_ n who was look r)) (ho : st.over = false) (hu : 0 < st.under) :
    Calls Tryd.prog 81 #[.pointer (some ⟨p, 0, none⟩), .int .u64 u, .bool true] w fun e w' => e = .returned (.tuple #[]) ∧ ∃ l',
      Wk w' m { st with nxt := .nilFunc, after := .nilFunc, over := true, code := 0, v := r, l := l' } ∧ w'.ownsRow w.heap.size 36 1 l' 0 [] ∧ Keeps [m] w w' := by
  have HE := Lib.hid (fun W h => wEnd m st 0 r (.slice none 0 0) 0 [] W h ho (.inl hu) ⟨rfl, .inl ⟨_, _, rfl, rfl⟩⟩ (fun g hg => by cases hg) (by omega))
  have h0 := hp.cell (j := 0) rfl
  have h6 := hp.cell (j := 6) rfl
  have HW := Lib.hid hw
  clear hw hp ho hu
  go_enter Tryd.func81, Tryd.ntmps81
  go_wp2
  go_still_tail 9, (by kernel_rfl)
  change wpList _ _ _ _ _ w.drew
  go_wp2_with fail
  refine (HE.out w.drew HW.out).mono ?_
  rintro e w1 ⟨rfl, l', hw, ho, hk⟩
  have HP := Lib.hid (⟨hw, ho, hk⟩ : _ ∧ _ ∧ _)
  clear hw ho hk
  go_wp2
  first | go_end0 | refine bodyPost_ret (results_none rfl _ _ _) rfl ?_
  exact ⟨rfl, _, HP.out.1, HP.out.2.1, HP.out.2.2.undrew⟩

theorem idRead_any (F : FuncId) (m p : Nat) (at_ n who h v : Int) (won : Bool) (r : Int) (e : TypeId) (w : World) (Q : World → Prop) (hp : Row w p e (tId m at_ n who h (.func (.func F) #[.pointer (some ⟨p, 0, none⟩)] #[]) r)) (hcf : ∀ args w, (callFunc F args).run Tryd.prog w = .ok (.enter F args) w)
    (hQ : ∀ w1, Row w1 p e (tId m at_ n who v (.func (.func F) #[.pointer (some ⟨p, 0, none⟩)] #[]) r) → Keeps [p] w w1 → Calls Tryd.prog F #[.pointer (some ⟨p, 0, none⟩)] w1 fun e w' => e = .returned (.tuple #[]) ∧ Q w') :
    Calls Tryd.prog 59 #[.pointer (some ⟨p, 0, none⟩), .int .u64 v, .bool won] w fun e w' => e = .returned (.tuple #[]) ∧ Q w' := by
  have h4 := hp.cell (j := 4) rfl
  have h5 := hp.cell (j := 5) rfl
  have f4 := hp.frozen 4
  have HQ := Lib.hid (hQ _ (hp.set 4 (.int .u64 v)) ((Keeps.refl [p] w).setCell (fun _ => by simp) _))
  clear hQ hp
  go_enter Tryd.func59, Tryd.ntmps59
  go_wp2_with fail
  refine HQ.out.mono ?_
  rintro e w1 ⟨rfl, hq⟩
  have HP := Lib.hid hq
  clear hq
  go_wp2
  first | go_end0 | refine bodyPost_ret (results_none rfl _ _ _) rfl ?_
  exact ⟨rfl, HP.out⟩
theorem idTried_not (p : Nat) (v : Int) (w : World) (Q : World → Prop) (hQ : Calls Tryd.prog 59 #[.pointer (some ⟨p, 0, none⟩), .int .u64 v, .bool false] w fun e w' => e = .returned (.tuple #[]) ∧ Q w') :
    Calls Tryd.prog 81 #[.pointer (some ⟨p, 0, none⟩), .int .u64 v, .bool false] w fun e w' => e = .returned (.tuple #[]) ∧ Q w' := by
  have HQ := Lib.hid hQ
  clear hQ
  go_enter Tryd.func81, Tryd.ntmps81
  go_wp2_with fail
  refine HQ.out.mono ?_
  rintro e w1 ⟨rfl, hq⟩
  have HP := Lib.hid hq
  clear hq
  go_wp2
  first | go_end0 | refine bodyPost_ret (results_none rfl _ _ _) rfl ?_
  exact ⟨rfl, HP.out⟩
end Go.Proofs.YtamcfobgmpgbeaaDoor
