/-
  Contracts: what the walks of an arena do at each of their steps.
-/
import Derived.Test.YtoomefclbemnlaaGreatMach
import Derived.Test.YtoomefclbemnlaaGreatAcc
import Derived.Test.YtoomefclbemnlaaGreatWord
import Derived.Test.YtoomefclbemnlaaGreatArM
import Derived.Test.YtoomefclbemnlaaGreatDraw
import Derived.StillTailTactics
namespace Go.Proofs.YtoomefclbemnlaaGreat
set_option maxRecDepth 100000
set_option linter.unusedSimpArgs false
set_option linter.unusedVariables false
open Go.ChangeShapes Go.WideShapes Go.ChangeAt Go.RowKit

/-- What a walk of an arena knows: its walk, the arena, the head, what is done with that, its result. -/
def tnCells (m : Nat) (at_ n h : Int) (look : Value) (v : Int) (rest : List Value) : List Value := [.pointer (some ⟨m, 0, none⟩), .int .i64 at_, .int .i64 n, .int .u64 h, look, .int .i64 0, .int .u64 v, .slice none 0 0] ++ rest

theorem number_any (u : Int) (w : World) (hu : M.U u) :
    Calls Tryz.prog 144 #[.int .u64 u] w fun e w' => e = .returned (.int .u32 (u % 4294967296)) ∧ w = w' := by
  have H := split_any u w hu.nn hu
  go_enter Tryz.func144, Tryz.ntmps144
  go_wp2_with fail
  refine H.mono ?_
  rintro e w1 ⟨rfl, rfl⟩
  go_wp2
  go_ret
  exact ⟨rfl, rfl⟩

set_option maxHeartbeats 800000 in
theorem begin_any (m p : Nat) (at_ n h : Int) (look : Value) (v : Int) (rest : List Value) (e : TypeId) (st : WSt) (w : World) (hw : Wk w m st) (hp : Row w p e (tnCells m at_ n h look v rest)) (ho : st.over = false) (hs : st.sub = none) :
    Calls Tryz.prog 117 #[.pointer (some ⟨p, 0, none⟩)] w fun e w' => e = .returned (.tuple #[]) ∧
      Wk w' m { st with x := ⟨1, at_, 0, 0⟩, nxt := .func (.func 146) #[.pointer (some ⟨p, 0, none⟩)] #[], sub := none, after := .nilFunc } ∧ Keeps [m] w w' := by
  have HE := Lib.hid (fun W h => wAsk m st ⟨1, at_, 0, 0⟩ (.func 146) #[.pointer (some ⟨p, 0, none⟩)] #[] W h hs ho)
  have h0 := hp.cell (j := 0) rfl
  have h1 := hp.cell (j := 1) rfl
  have HW := Lib.hid hw
  clear hw hp ho hs
  go_enter Tryz.func117, Tryz.ntmps117
  go_wp2
  go_still_tail 12, (by kernel_rfl)
  change wpList _ _ _ _ _ w.drew
  go_wp2_with fail
  refine (HE.out w.drew HW.out).mono ?_
  rintro e w1 ⟨rfl, hw, hk⟩
  have HP := Lib.hid (⟨hw, hk⟩ : _ ∧ _)
  clear hw hk
  go_wp2
  first | go_end0 | refine bodyPost_ret (results_none rfl _ _ _) rfl ?_
  exact ⟨rfl, HP.out.1, HP.out.2.undrew⟩

set_option maxHeartbeats 1600000 in
theorem to_any (m p : Nat) (at_ n h node : Int) (look : Value) (v : Int) (rest : List Value) (e : TypeId) (st : WSt) (w : World) (hw : Wk w m st) (hp : Row w p e (tnCells m at_ n h look v rest)) (ho : st.over = false) (hs : st.sub = none) (hU : M.U h) (n0 : 0 ≤ node) (n1 : node < 4294967296) :
    Calls Tryz.prog 163 #[.pointer (some ⟨p, 0, none⟩), .int .u32 node] w fun e w' => e = .returned (.tuple #[]) ∧
      Wk w' m { st with x := ⟨3, at_, h, arNext h node⟩, nxt := .func (.func 167) #[.pointer (some ⟨p, 0, none⟩)] #[], sub := none, after := .nilFunc } ∧ Keeps [m] w w' := by
  have HE := Lib.hid (fun W h' => wAsk m st ⟨3, at_, h, arNext h node⟩ (.func 167) #[.pointer (some ⟨p, 0, none⟩)] #[] W h' hs ho)
  have h0 := hp.cell (j := 0) rfl
  have h1 := hp.cell (j := 1) rfl
  have h3 := hp.cell (j := 3) rfl
  have u0 := hU.nn
  have u1 := hU.lt
  obtain ⟨q, hq⟩ : ∃ q, h / 4294967296 = q := ⟨_, rfl⟩
  have q0 : 0 ≤ q := by omega
  have q1 : q < 4294967296 := by omega
  have hN : arNext h node = (q + 1) % 4294967296 * 4294967296 + node := by unfold arNext; rw [hq]
  rw [hN] at HE ⊢
  have HSp := Lib.hid (split_any h w hU.nn hU)
  rw [hq] at HSp
  have HPa := Lib.hid (fun W => pair_any ((q + 1) % 4294967296) node W (by omega) (by omega) n0 n1)
  have HW := Lib.hid hw
  clear hw hp ho hs hN hq u1
  go_enter Tryz.func163, Tryz.ntmps163
  go_wp2_with fail
  refine HSp.out.mono ?_
  rintro e w1 ⟨rfl, rfl⟩
  go_wp2
  refine wp_region_mid 20 (by kernel_rfl) (by kernel_rfl) ?_
  simp only [List.take_succ_cons, List.take_zero, List.drop_succ_cons, List.drop_zero]
  repeat still_step
  still_call (stillOf (HPa.out _))
  repeat still_step
  refine wpStill_nil ?_
  go_wp2_with fail
  refine (HE.out w.drew HW.out).mono ?_
  rintro e w1 ⟨rfl, hw, hk⟩
  have HP := Lib.hid (⟨hw, hk⟩ : _ ∧ _)
  clear hw hk
  go_wp2
  show wpStill _ _ _ _ _ _
  repeat still_step
  refine wpStill_nil ?_
  go_wp2
  first | go_end0 | refine bodyPost_ret (results_none rfl _ _ _) rfl ?_
  exact ⟨rfl, HP.out.1, HP.out.2.undrew⟩

set_option maxHeartbeats 800000 in
theorem linked_any (m p : Nat) (at_ n h link : Int) (won : Bool) (look : Value) (v : Int) (rest : List Value) (e : TypeId) (st : WSt) (w : World) (hw : Wk w m st) (hp : Row w p e (tnCells m at_ n h look v rest)) (ho : st.over = false) (hs : st.sub = none) (hU : M.U h) (hL : M.U link) :
    Calls Tryz.prog 145 #[.pointer (some ⟨p, 0, none⟩), .int .u64 link, .bool won] w fun e w' => e = .returned (.tuple #[]) ∧
      Wk w' m { st with x := ⟨3, at_, h, arNext h (link % 4294967296)⟩, nxt := .func (.func 167) #[.pointer (some ⟨p, 0, none⟩)] #[], sub := none, after := .nilFunc } ∧ Keeps [m] w w' := by
  have HN := Lib.hid (fun W => number_any link W hL)
  have h0 := hp.cell (j := 0) rfl
  have HE := Lib.hid (to_any m p at_ n h (link % 4294967296) look v rest e st w.drew hw hp ho hs hU (by omega) (by omega))
  clear hw hp ho hs hU hL
  go_enter Tryz.func145, Tryz.ntmps145
  go_wp2
  refine wp_region_mid 5 (by kernel_rfl) (by kernel_rfl) ?_
  simp only [List.take_succ_cons, List.take_zero, List.drop_succ_cons, List.drop_zero]
  repeat still_step
  still_call (stillOf (HN.out _))
  repeat still_step
  refine wpStill_nil ?_
  go_wp2_with fail
  refine HE.out.mono ?_
  rintro e w1 ⟨rfl, hw, hk⟩
  have HP := Lib.hid (⟨hw, hk⟩ : _ ∧ _)
  clear hw hk
  go_wp2
  show wpStill _ _ _ _ _ _
  repeat still_step
  refine wpStill_nil ?_
  go_wp2
  first | go_end0 | refine bodyPost_ret (results_none rfl _ _ _) rfl ?_
  exact ⟨rfl, HP.out.1, HP.out.2.undrew⟩

set_option maxHeartbeats 800000 in
theorem laid_any (m p : Nat) (at_ n h node link : Int) (won : Bool) (look : Value) (v : Int) (e : TypeId) (st : WSt) (w : World) (hw : Wk w m st) (hp : Row w p e (tnCells m at_ n h look v [.int .i64 node])) (ho : st.over = false) (hs : st.sub = none) (hU : M.U h) (n0 : 1 ≤ node) (n1 : node ≤ 4096) :
    Calls Tryz.prog 168 #[.pointer (some ⟨p, 0, none⟩), .int .u64 link, .bool won] w fun e w' => e = .returned (.tuple #[]) ∧
      Wk w' m { st with x := ⟨3, at_, h, arNext h node⟩, nxt := .func (.func 167) #[.pointer (some ⟨p, 0, none⟩)] #[], sub := none, after := .nilFunc } ∧ Keeps [m] w w' := by
  have h0 := hp.cell (j := 0) rfl
  have h8 : w.cell? ⟨p, 8, none⟩ = some (.int .i64 node) := hp.cell (j := 8) rfl
  have HE := Lib.hid (to_any m p at_ n h node look v _ e st w.drew hw hp ho hs hU (by omega) (by omega))
  have hw32 : IntKind.u32.wrap node = node := by show node % 4294967296 = node; omega
  clear hw hp ho hs hU
  go_enter Tryz.func168, Tryz.ntmps168
  go_wp2
  go_still_tail 8, (by kernel_rfl)
  change wpList _ _ _ _ _ w.drew
  go_wp2_with fail
  refine HE.out.mono ?_
  rintro e w1 ⟨rfl, hw, hk⟩
  have HP := Lib.hid (⟨hw, hk⟩ : _ ∧ _)
  clear hw hk
  go_wp2
  first | go_end0 | refine bodyPost_ret (results_none rfl _ _ _) rfl ?_
  exact ⟨rfl, HP.out.1, HP.out.2.undrew⟩

set_option maxHeartbeats 800000 in
/-- None is free, or the head's number is no node's. -/
theorem follow_none (m p : Nat) (at_ n h : Int) (look : Value) (v : Int) (rest : List Value) (e : TypeId) (st : WSt) (w : World) (hw : Wk w m st) (hp : Row w p e (tnCells m at_ n h look v rest)) (ho : st.over = false) (hu : 0 < st.under) (hU : M.U h) (hz : h % 4294967296 = 0) :
    Calls Tryz.prog 116 #[.pointer (some ⟨p, 0, none⟩)] w fun e w' => e = .returned (.tuple #[]) ∧ ∃ l',
      Wk w' m { st with nxt := .nilFunc, after := .nilFunc, over := true, code := 7, v := 0, l := l' } ∧ w'.ownsRow w.heap.size 49 1 l' 0 [] ∧ Keeps [m] w w' := by
  have HN := Lib.hid (fun W => number_any h W hU)
  rw [hz] at HN
  have HE := Lib.hid (wBreak m st 7 w hw ho (.inl hu))
  have h0 := hp.cell (j := 0) rfl
  have h3 := hp.cell (j := 3) rfl
  clear hw hp ho hu hU hz
  go_enter Tryz.func116, Tryz.ntmps116
  go_wp2_with fail
  refine (HN.out w).mono ?_
  rintro e w1 ⟨rfl, rfl⟩
  go_wp2_with fail
  refine HE.out.mono ?_
  rintro e w1 ⟨rfl, l', hw, ho, hk⟩
  have HP := Lib.hid (⟨hw, ho, hk⟩ : _ ∧ _ ∧ _)
  clear hw ho hk
  go_wp2
  first | go_end0 | refine bodyPost_ret (results_none rfl _ _ _) rfl ?_
  exact ⟨rfl, _, HP.out⟩
set_option maxHeartbeats 800000 in
theorem follow_bad (m p : Nat) (at_ n h : Int) (look : Value) (v : Int) (rest : List Value) (e : TypeId) (st : WSt) (w : World) (hw : Wk w m st) (hp : Row w p e (tnCells m at_ n h look v rest)) (ho : st.over = false) (hu : 0 < st.under) (hU : M.U h) (hn : 1 ≤ n) (hz : n < h % 4294967296) :
    Calls Tryz.prog 116 #[.pointer (some ⟨p, 0, none⟩)] w fun e w' => e = .returned (.tuple #[]) ∧ ∃ l',
      Wk w' m { st with nxt := .nilFunc, after := .nilFunc, over := true, code := 9, v := 0, l := l' } ∧ w'.ownsRow w.heap.size 49 1 l' 0 [] ∧ Keeps [m] w w' := by
  have HN := Lib.hid (fun W => number_any h W hU)
  obtain ⟨lo, hlo⟩ : ∃ lo, h % 4294967296 = lo := ⟨_, rfl⟩
  have l1 : lo < 4294967296 := by omega
  rw [hlo] at HN hz
  have l0 : 0 < lo := by omega
  have l2 : ¬ lo = 0 := by omega
  have HE := Lib.hid (wBreak m st 9 w hw ho (.inl hu))
  have h0 := hp.cell (j := 0) rfl
  have h2 := hp.cell (j := 2) rfl
  have h3 := hp.cell (j := 3) rfl
  clear hw hp ho hu hU hlo
  go_enter Tryz.func116, Tryz.ntmps116
  go_wp2_with fail
  refine (HN.out w).mono ?_
  rintro e w1 ⟨rfl, rfl⟩
  go_wp2_with fail
  refine HE.out.mono ?_
  rintro e w1 ⟨rfl, l', hw, ho, hk⟩
  have HP := Lib.hid (⟨hw, ho, hk⟩ : _ ∧ _ ∧ _)
  clear hw ho hk
  go_wp2
  first | go_end0 | refine bodyPost_ret (results_none rfl _ _ _) rfl ?_
  exact ⟨rfl, _, HP.out⟩
set_option maxHeartbeats 800000 in
theorem follow_good (m p : Nat) (at_ n h : Int) (look : Value) (v : Int) (rest : List Value) (e : TypeId) (st : WSt) (w : World) (hw : Wk w m st) (hp : Row w p e (tnCells m at_ n h look v rest)) (hpm : p ≠ m) (ho : st.over = false) (hs : st.sub = none) (hU : M.U h) (hr : arRight at_ n) (hz : 1 ≤ h % 4294967296) (hz2 : h % 4294967296 ≤ n) :
    Calls Tryz.prog 116 #[.pointer (some ⟨p, 0, none⟩)] w fun e' w' => e' = .returned (.tuple #[]) ∧
      Wk w' m { st with x := ⟨1, at_ + h % 4294967296, 0, 0⟩, nxt := .func (.func 145) #[.pointer (some ⟨p, 0, none⟩)] #[], sub := none, after := .nilFunc } ∧ Row w' p e (tnCells m at_ n h look (h % 4294967296) rest) ∧ Keeps [m, p] w w' := by
  have HN := Lib.hid (fun W => number_any h W hU)
  obtain ⟨r1, r2, r3, r4⟩ := hr
  obtain ⟨lo, hlo⟩ : ∃ lo, h % 4294967296 = lo := ⟨_, rfl⟩
  rw [hlo] at HN hz hz2 ⊢
  have l2 : ¬ lo = 0 := by omega
  have l3 : ¬ n < lo := by omega
  have lb : lo ≤ 4096 := by omega
  have ab : at_ < 65536 := by omega
  have HE := Lib.hid (fun W h => wAsk m st ⟨1, at_ + lo, 0, 0⟩ (.func 145) #[.pointer (some ⟨p, 0, none⟩)] #[] W h hs ho)
  have h0 := hp.cell (j := 0) rfl
  have h1 := hp.cell (j := 1) rfl
  have h2 := hp.cell (j := 2) rfl
  have h3 := hp.cell (j := 3) rfl
  have h6 := hp.cell (j := 6) rfl
  have f6 := hp.frozen 6
  obtain ⟨W1, hW1⟩ : ∃ W1, w.setCell ⟨p, 6, none⟩ (.int .u64 lo) = W1 := ⟨_, rfl⟩
  have r1 : Row W1 p e (tnCells m at_ n h look lo rest) := by rw [← hW1]; exact hp.set 6 _
  have k1 : Keeps [m, p] w W1 := by rw [← hW1]; exact (Keeps.refl [m, p] w).setCell (fun _ => by simp) _
  have c0 := r1.cell (j := 0) rfl
  have c1 := r1.cell (j := 1) rfl
  have HR := Lib.hid r1
  have HK := Lib.hid k1
  have HW : Hid (Wk W1 m st) := Lib.hid (by rw [← hW1]; exact hw.keeps ((Keeps.refl [p] w).setCell (fun _ => by simp) _) (by simpa using Ne.symm hpm))
  clear k1 r1
  clear hw hp ho hs hU hlo r4
  go_enter Tryz.func116, Tryz.ntmps116
  go_wp2_with fail
  refine (HN.out w).mono ?_
  rintro e w1 ⟨rfl, rfl⟩
  go_wp2
  go_still_tail 16, (by kernel_rfl)
  change wpList _ _ _ _ _ W1.drew
  go_wp2_with fail
  refine (HE.out W1.drew HW.out).mono ?_
  rintro e w1 ⟨rfl, hw, hk⟩
  have HP := Lib.hid (⟨hw, hk⟩ : _ ∧ _)
  clear hw hk
  go_wp2
  first | go_end0 | refine bodyPost_ret (results_none rfl _ _ _) rfl ?_
  exact ⟨rfl, HP.out.1, HR.out.keeps HP.out.2.undrew (by simpa using hpm), HK.out.trans (HP.out.2.undrew.mono (by simp))⟩

set_option maxHeartbeats 1600000 in
theorem lay_any (m p : Nat) (at_ n h node : Int) (look : Value) (v : Int) (e : TypeId) (st : WSt) (w : World) (hw : Wk w m st) (hp : Row w p e (tnCells m at_ n h look v [.int .i64 node])) (ho : st.over = false) (hs : st.sub = none) (hU : M.U h) (hr : arRight at_ n) (n0 : 1 ≤ node) (n1 : node ≤ n) :
    Calls Tryz.prog 165 #[.pointer (some ⟨p, 0, none⟩)] w fun e w' => e = .returned (.tuple #[]) ∧
      Wk w' m { st with x := ⟨2, at_ + node, h % 4294967296, 0⟩, nxt := .func (.func 168) #[.pointer (some ⟨p, 0, none⟩)] #[], sub := none, after := .nilFunc } ∧ Keeps [m] w w' := by
  have HN := Lib.hid (fun W => number_any h W hU)
  obtain ⟨r1, r2, r3, r4⟩ := hr
  have HE := Lib.hid (fun W h' => wAsk m st ⟨2, at_ + node, h % 4294967296, 0⟩ (.func 168) #[.pointer (some ⟨p, 0, none⟩)] #[] W h' hs ho)
  have lb : node ≤ 4096 := by omega
  have ab : at_ < 65536 := by omega
  have h0 := hp.cell (j := 0) rfl
  have h1 := hp.cell (j := 1) rfl
  have h3 := hp.cell (j := 3) rfl
  have h8 : w.cell? ⟨p, 8, none⟩ = some (.int .i64 node) := hp.cell (j := 8) rfl
  obtain ⟨lo, hlo⟩ : ∃ lo, h % 4294967296 = lo := ⟨_, rfl⟩
  rw [hlo] at HN HE ⊢
  have l0 : 0 ≤ lo := by omega
  have l1 : lo < 4294967296 := by omega
  have HW := Lib.hid hw
  clear hw hp ho hs hU hlo r4
  go_enter Tryz.func165, Tryz.ntmps165
  go_wp2
  refine wp_region_mid 26 (by kernel_rfl) (by kernel_rfl) ?_
  simp only [List.take_succ_cons, List.take_zero, List.drop_succ_cons, List.drop_zero]
  repeat still_step
  still_call (stillOf (HN.out _))
  repeat still_step
  refine wpStill_nil ?_
  go_wp2_with fail
  refine (HE.out w.drew HW.out).mono ?_
  rintro e w1 ⟨rfl, hw, hk⟩
  have HP := Lib.hid (⟨hw, hk⟩ : _ ∧ _)
  clear hw hk
  go_wp2
  show wpStill _ _ _ _ _ _
  repeat still_step
  refine wpStill_nil ?_
  go_wp2
  first | go_end0 | refine bodyPost_ret (results_none rfl _ _ _) rfl ?_
  exact ⟨rfl, HP.out.1, HP.out.2.undrew⟩

/-- A head is told: it is laid down, and looked at. -/
theorem read_any (F : FuncId) (m p : Nat) (at_ n h v : Int) (won : Bool) (r : Int) (rest : List Value) (e : TypeId) (w : World) (Q : World → Prop) (hp : Row w p e (tnCells m at_ n h (.func (.func F) #[.pointer (some ⟨p, 0, none⟩)] #[]) r rest)) (hcf : ∀ args w, (callFunc F args).run Tryz.prog w = .ok (.enter F args) w)
    (hQ : ∀ w1, Row w1 p e (tnCells m at_ n v (.func (.func F) #[.pointer (some ⟨p, 0, none⟩)] #[]) r rest) → Keeps [p] w w1 → Calls Tryz.prog F #[.pointer (some ⟨p, 0, none⟩)] w1 fun e w' => e = .returned (.tuple #[]) ∧ Q w') :
    Calls Tryz.prog 146 #[.pointer (some ⟨p, 0, none⟩), .int .u64 v, .bool won] w fun e w' => e = .returned (.tuple #[]) ∧ Q w' := by
  have h3 := hp.cell (j := 3) rfl
  have h4 := hp.cell (j := 4) rfl
  have f3 := hp.frozen 3
  have HQ := Lib.hid (hQ _ (hp.set 3 (.int .u64 v)) ((Keeps.refl [p] w).setCell (fun _ => by simp) _))
  clear hQ hp
  go_enter Tryz.func146, Tryz.ntmps146
  go_wp2_with fail
  refine HQ.out.mono ?_
  rintro e w1 ⟨rfl, hq⟩
  have HP := Lib.hid hq
  clear hq
  go_wp2
  first | go_end0 | refine bodyPost_ret (results_none rfl _ _ _) rfl ?_
  exact ⟨rfl, HP.out⟩
theorem tried_not (p : Nat) (v : Int) (w : World) (Q : World → Prop) (hQ : Calls Tryz.prog 146 #[.pointer (some ⟨p, 0, none⟩), .int .u64 v, .bool false] w fun e w' => e = .returned (.tuple #[]) ∧ Q w') :
    Calls Tryz.prog 167 #[.pointer (some ⟨p, 0, none⟩), .int .u64 v, .bool false] w fun e w' => e = .returned (.tuple #[]) ∧ Q w' := by
  have HQ := Lib.hid hQ
  clear hQ
  go_enter Tryz.func167, Tryz.ntmps167
  go_wp2_with fail
  refine HQ.out.mono ?_
  rintro e w1 ⟨rfl, hq⟩
  have HP := Lib.hid hq
  clear hq
  go_wp2
  first | go_end0 | refine bodyPost_ret (results_none rfl _ _ _) rfl ?_
  exact ⟨rfl, HP.out⟩
set_option maxHeartbeats 800000 in
theorem tried_won (m p : Nat) (at_ n h v : Int) (look : Value) (r : Int) (rest : List Value) (e : TypeId) (st : WSt) (w : World) (hw : Wk w m st) (hp : Row w p e (tnCells m at_ n h look r rest)) (ho : st.over = false) (hu : 0 < st.under) :
    Calls Tryz.prog 167 #[.pointer (some ⟨p, 0, none⟩), .int .u64 v, .bool true] w fun e w' => e = .returned (.tuple #[]) ∧ ∃ l',
      Wk w' m { st with nxt := .nilFunc, after := .nilFunc, over := true, code := 0, v := r, l := l' } ∧ w'.ownsRow w.heap.size 49 1 l' 0 [] ∧ Keeps [m] w w' := by
  have HE := Lib.hid (fun W h => wEnd m st 0 r (.slice none 0 0) 0 [] W h ho (.inl hu) ⟨rfl, .inl ⟨_, _, rfl, rfl⟩⟩ (fun g hg => by cases hg) (by omega))
  have h0 := hp.cell (j := 0) rfl
  have h5 := hp.cell (j := 5) rfl
  have h6 := hp.cell (j := 6) rfl
  have h7 := hp.cell (j := 7) rfl
  have HW := Lib.hid hw
  clear hw hp ho hu
  go_enter Tryz.func167, Tryz.ntmps167
  go_wp2
  go_still_tail 8, (by kernel_rfl)
  change wpList _ _ _ _ _ w.drew
  go_wp2_with fail
  refine (HE.out w.drew HW.out).mono ?_
  rintro e w1 ⟨rfl, l', hw, ho, hk⟩
  have HP := Lib.hid (⟨hw, ho, hk⟩ : _ ∧ _ ∧ _)
  clear hw ho hk
  go_wp2
  first | go_end0 | refine bodyPost_ret (results_none rfl _ _ _) rfl ?_
  exact ⟨rfl, _, HP.out.1, HP.out.2.1, HP.out.2.2.undrew⟩
end Go.Proofs.YtoomefclbemnlaaGreat
