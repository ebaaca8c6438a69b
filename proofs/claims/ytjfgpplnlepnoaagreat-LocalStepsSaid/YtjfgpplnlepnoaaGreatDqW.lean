import Derived.Test.YtjfgpplnlepnoaaGreatMach4
import Derived.Test.YtjfgpplnlepnoaaGreatAcc
import Derived.Test.YtjfgpplnlepnoaaGreatDqM
import Derived.Test.YtjfgpplnlepnoaaGreatDraw
import Derived.StillTailTactics
/-
  Contracts: what the walks of a deque do at each of their steps.
-/
namespace Go.Proofs.YtjfgpplnlepnoaaGreat
set_option maxRecDepth 100000
set_option linter.unusedSimpArgs false
set_option linter.unusedVariables false
open Go.ChangeShapes Go.WideShapes Go.ChangeAt Go.RowKit

/-- What a walk of a deque knows: its walk, the deque, top, bottom, task. -/
def stCells (m : Nat) (at_ size top bottom task : Int) (rest : List Value) : List Value := [.pointer (some ⟨m, 0, none⟩), .int .i64 at_, .int .i64 size, .int .u64 top, .int .u64 bottom, .int .u64 task] ++ rest

theorem dqAhead_any (b t : Int) (w : World) (hb : M.U b) (ht : M.U t) :
    Calls Tryz.prog 215 #[.int .u64 b, .int .u64 t] w fun e w' => e = .returned (.int .i64 (dqAhead b t)) ∧ w = w' := by
  have b0 := hb.nn
  have b1 := hb.lt
  have t0 := ht.nn
  have t1 := ht.lt
  have hw : IntKind.i64.wrap (IntKind.u64.wrap (b - t)) = dqAhead b t := by
    unfold dqAhead
    simp [IntKind.wrap, IntKind.signed, IntKind.bits]
    split <;> omega
  go_enter Tryz.func215, Tryz.ntmps215
  go_wp2
  go_ret
  exact ⟨rfl, rfl⟩
theorem dqBottom_any (at_ size : Int) (w : World) (h0 : 0 ≤ at_) (h1 : at_ < 65536) :
    Calls Tryz.prog 168 #[.agg #[.int .i64 at_, .int .i64 size]] w fun e w' => e = .returned (.int .i64 (at_ + 1)) ∧ Keeps [] w w' := by
  go_enter Tryz.func168, Tryz.ntmps168
  go_wp2
  go_ret
  exact ⟨rfl, (Keeps.refl _ _).alloc _⟩
theorem dqSlot_any (at_ size n : Int) (w : World) (hr : dqRight at_ size) (hn : M.U n) :
    Calls Tryz.prog 216 #[.agg #[.int .i64 at_, .int .i64 size], .int .u64 n] w fun e w' => e = .returned (.int .i64 (dqSlot at_ size n)) ∧ Keeps [] w w' := by
  obtain ⟨hs, a0, a1⟩ := hr
  have n0 := hn.nn
  have hs0 : 0 < size ∧ size ≤ 256 := by omega
  obtain ⟨q, hq⟩ : ∃ q, n % size = q := ⟨_, rfl⟩
  have q0 : 0 ≤ q := by rw [← hq]; exact Int.emod_nonneg n (by omega)
  have q1 : q < size := by rw [← hq]; exact Int.emod_lt_of_pos n (by omega)
  have HS : Hid (dqSlot at_ size n = at_ + 2 + q) := Lib.hid (by unfold dqSlot; rw [hq])
  rw [HS.out]
  have hw64 : IntKind.u64.wrap size = size := by show size % 18446744073709551616 = size; omega
  clear hs hn
  go_enter Tryz.func216, Tryz.ntmps216
  go_wp2
  go_quiet (fail)
  go_wp2
  go_ret
  exact ⟨rfl, ((Keeps.refl _ _).alloc _).drewN⟩

set_option maxHeartbeats 800000 in
theorem dqLoad_any (m p : Nat) (cell : Int) (fn : Fn) (fi ca : Array Value) (st : WSt) (w : World) (hw : Wk w m st) (h0 : w.cell? ⟨p, 0, none⟩ = some (.pointer (some ⟨m, 0, none⟩))) (ho : st.over = false) (hs : st.sub = none) :
    Calls Tryz.prog 126 #[.pointer (some ⟨p, 0, none⟩), .int .i64 cell, .func fn fi ca] w fun e w' => e = .returned (.tuple #[]) ∧
      Wk w' m { st with x := ⟨1, cell, 0, 0⟩, nxt := .func fn fi ca, sub := none, after := .nilFunc } ∧ Keeps [m] w w' := by
  have HE := Lib.hid (fun W h => wAsk m st ⟨1, cell, 0, 0⟩ fn fi ca W h hs ho)
  have HW := Lib.hid hw
  clear hw ho hs
  go_enter Tryz.func126, Tryz.ntmps126
  go_wp2_with fail
  refine (HE.out w HW.out).mono ?_
  rintro e w1 ⟨rfl, hw, hk⟩
  have HP := Lib.hid (⟨hw, hk⟩ : _ ∧ _)
  clear hw hk
  go_wp2
  first | go_end0 | refine bodyPost_ret (results_none rfl _ _ _) rfl ?_
  exact ⟨rfl, HP.out.1, HP.out.2⟩

set_option maxHeartbeats 800000 in
theorem dqStore_any (m p : Nat) (cell v : Int) (fn : Fn) (fi ca : Array Value) (st : WSt) (w : World) (hw : Wk w m st) (h0 : w.cell? ⟨p, 0, none⟩ = some (.pointer (some ⟨m, 0, none⟩))) (ho : st.over = false) (hs : st.sub = none) :
    Calls Tryz.prog 272 #[.pointer (some ⟨p, 0, none⟩), .int .i64 cell, .int .u64 v, .func fn fi ca] w fun e w' => e = .returned (.tuple #[]) ∧
      Wk w' m { st with x := ⟨2, cell, v, 0⟩, nxt := .func fn fi ca, sub := none, after := .nilFunc } ∧ Keeps [m] w w' := by
  have HE := Lib.hid (fun W h => wAsk m st ⟨2, cell, v, 0⟩ fn fi ca W h hs ho)
  have HW := Lib.hid hw
  clear hw ho hs
  go_enter Tryz.func272, Tryz.ntmps272
  go_wp2_with fail
  refine (HE.out w HW.out).mono ?_
  rintro e w1 ⟨rfl, hw, hk⟩
  have HP := Lib.hid (⟨hw, hk⟩ : _ ∧ _)
  clear hw hk
  go_wp2
  first | go_end0 | refine bodyPost_ret (results_none rfl _ _ _) rfl ?_
  exact ⟨rfl, HP.out.1, HP.out.2⟩

set_option maxHeartbeats 800000 in
theorem dqClaim_any (m p : Nat) (at_ size top bottom task : Int) (rest : List Value) (e : TypeId) (fn : Fn) (fi ca : Array Value) (st : WSt) (w : World) (hw : Wk w m st) (hp : Row w p e (stCells m at_ size top bottom task rest)) (hU : M.U top) (ho : st.over = false) (hs : st.sub = none) :
    Calls Tryz.prog 230 #[.pointer (some ⟨p, 0, none⟩), .func fn fi ca] w fun e w' => e = .returned (.tuple #[]) ∧
      Wk w' m { st with x := ⟨3, at_, top, dqUp top⟩, nxt := .func fn fi ca, sub := none, after := .nilFunc } ∧ Keeps [m] w w' := by
  have u0 := hU.nn
  have hup : IntKind.u64.wrap (top + 1) = dqUp top := by unfold dqUp; rfl
  have HE := Lib.hid (fun W h => wAsk m st ⟨3, at_, top, dqUp top⟩ fn fi ca W h hs ho)
  have h0 := hp.cell (j := 0) rfl
  have h1 := hp.cell (j := 1) rfl
  have h3 := hp.cell (j := 3) rfl
  have HW := Lib.hid hw
  clear hw ho hs hp hU
  go_enter Tryz.func230, Tryz.ntmps230
  go_wp2
  go_still_tail 20, (by kernel_rfl)
  change wpList _ _ _ _ _ w.drew
  go_wp2_with fail
  refine (HE.out w.drew HW.out).mono ?_
  rintro e w1 ⟨rfl, hw, hk⟩
  have HP := Lib.hid (⟨hw, hk⟩ : _ ∧ _)
  clear hw hk
  go_wp2
  first | go_end0 | refine bodyPost_ret (results_none rfl _ _ _) rfl ?_
  exact ⟨rfl, HP.out.1, HP.out.2.undrew⟩

/-- Its six cells. -/
theorem st_cells {m p : Nat} {at_ size top bottom task : Int} {rest : List Value} {e : TypeId} {w : World} (h : Row w p e (stCells m at_ size top bottom task rest)) : ∀ W S, Keeps S w W → p ∉ S →
    W.cell? ⟨p, 0, none⟩ = some (.pointer (some ⟨m, 0, none⟩)) ∧ W.cell? ⟨p, 1, none⟩ = some (.int .i64 at_) ∧ W.cell? ⟨p, 2, none⟩ = some (.int .i64 size) ∧ W.cell? ⟨p, 3, none⟩ = some (.int .u64 top) ∧ W.cell? ⟨p, 4, none⟩ = some (.int .u64 bottom) ∧ W.cell? ⟨p, 5, none⟩ = some (.int .u64 task) := by
  intro W S hk hp
  have h := h.keeps hk hp
  exact ⟨h.cell (j := 0) rfl, h.cell (j := 1) rfl, h.cell (j := 2) rfl, h.cell (j := 3) rfl, h.cell (j := 4) rfl, h.cell (j := 5) rfl⟩

end Go.Proofs.YtjfgpplnlepnoaaGreat

/-
  Contracts: a deque's walk that holds its task, and lets go of it.
-/
namespace Go.Proofs.YtjfgpplnlepnoaaGreat
set_option maxRecDepth 100000
set_option linter.unusedSimpArgs false
set_option linter.unusedVariables false
open Go.ChangeShapes Go.WideShapes Go.ChangeAt Go.RowKit

set_option maxHeartbeats 800000 in
theorem dqLet_any (m p b : Nat) (code v : Int) (q : Option Addr) (n c : Nat) (s : WSt) (w : World) (hw : Wk w m s) (hb : w.cell? ⟨b, 0, none⟩ = some (.pointer (some ⟨p, 0, none⟩))) (hp : w.cell? ⟨p, 0, none⟩ = some (.pointer (some ⟨m, 0, none⟩))) (lb : b < w.heap.size) (lp : p < w.heap.size) :
    Calls Tryz.prog 275 #[.agg #[.int .i64 code, .int .u64 v, .slice q n c], .pointer (some ⟨b, 0, none⟩)] w fun e w' => e = .returned (.tuple #[]) ∧ ∃ t, Wk w' m { s with tasks := t } ∧ w'.ownsRow w.heap.size 26 1 t 0 [] ∧ Keeps [m] w w' := by
  have HE := Lib.hid (fun W (h : Wk W m s) => wHold m s (.slice none 0 0) 0 [] W h ⟨rfl, .inl ⟨_, _, rfl, rfl⟩⟩ (by omega))
  have HW := Lib.hid hw
  clear hw
  go_enter Tryz.func275, Tryz.ntmps275
  go_wp2_with fail
  refine (HE.out _ (HW.out.alloc _)).mono ?_
  rintro e w1 ⟨rfl, t, hw1, ht, k1⟩
  have HP := Lib.hid (⟨hw1, owns_base ht (by simp), ((Keeps.refl [m] w).alloc _).trans k1⟩ : _ ∧ w1.ownsRow w.heap.size 26 1 t 0 [] ∧ Keeps [m] w w1)
  clear hw1 ht k1
  go_wp2
  first | go_end0 | refine bodyPost_ret (results_none rfl _ _ _) rfl ?_
  exact ⟨rfl, t, HP.out⟩
/-- What stands in the walk that lets go of the tasks of the one at m. -/
@[reducible] def dqWatcher (m b : Nat) : WSt := { WSt.zero with sub := some ⟨m, 0, none⟩, after := .func (.func 275) #[] #[.pointer (some ⟨b, 0, none⟩)] }
set_option maxHeartbeats 800000 in
theorem dqHold1_any (m p b o : Nat) (s : WSt) (w : World) (hw : Wk w m s) (hwo : Wk w o { WSt.zero with under := 1 }) (hne : m ≠ o) (hov : s.over = false) (hout : s.outer = .slice none 0 0) (hb : w.cell? ⟨b, 0, none⟩ = some (.pointer (some ⟨p, 0, none⟩))) (hp : w.cell? ⟨p, 0, none⟩ = some (.pointer (some ⟨m, 0, none⟩))) :
    Calls Tryz.prog 274 #[.pointer (some ⟨o, 0, none⟩), .pointer (some ⟨b, 0, none⟩)] w fun e w' => e = .returned (.tuple #[]) ∧ ∃ q, Wk w' o { dqWatcher m b with under := 1 } ∧ Wk w' m { s with outer := q } ∧ w'.ownsRow w.heap.size 30 1 q 1 [.pointer (some ⟨o, 0, none⟩)] ∧ Keeps [m, o] w w' := by
  have HE := Lib.hid (wInto m o s _ (.func 275) #[] #[.pointer (some ⟨b, 0, none⟩)] w hw hwo hne hov hout rfl rfl rfl)
  clear hw hwo hov hout
  go_enter Tryz.func274, Tryz.ntmps274
  go_wp2_with fail
  refine HE.out.mono ?_
  rintro e w1 ⟨rfl, q, h1, h2, h3, h4⟩
  have HP := Lib.hid (⟨h1, h2, h3, h4⟩ : _ ∧ _ ∧ _ ∧ _)
  clear h1 h2 h3 h4
  go_wp2
  first | go_end0 | refine bodyPost_ret (results_none rfl _ _ _) rfl ?_
  exact ⟨rfl, q, HP.out⟩

/-- A walk at o went into the one at m, by the list at g: it lets go of the tasks of that (b: where it finds the record p). -/
structure DqWatch (w : World) (m p g o b : Nat) (ov : Value) : Prop where
  ov_ : ∃ cap, ov = .slice (some ⟨g, 0, none⟩) 1 cap
  row : Row w g 30 [.pointer (some ⟨o, 0, none⟩)]
  wk : Wk w o (dqWatcher m b)
  box : Box w b #[.pointer (some ⟨p, 0, none⟩)]
theorem DqWatch.keeps {w w' : World} {m p g o b : Nat} {ov : Value} {A : List Nat} (h : DqWatch w m p g o b ov) (hk : Keeps A w w') (hg : g ∉ A) (ho : o ∉ A) (hb : b ∉ A) : DqWatch w' m p g o b ov :=
  ⟨h.ov_, h.row.keeps hk hg, h.wk.keeps hk ho, h.box.keeps hk hb⟩
theorem DqWatch.watch {w : World} {m p g o b : Nat} {ov : Value} (h : DqWatch w m p g o b ov) (hp : w.cell? ⟨p, 0, none⟩ = some (.pointer (some ⟨m, 0, none⟩))) (lp : p < w.heap.size) (hgm : g ≠ m) (hom : o ≠ m) (hbm : b ≠ m) (hpm : p ≠ m) (hbo : b ≠ o) (hpo : p ≠ o) : Watch w m g o ov := by
  obtain ⟨cap, hov⟩ := h.ov_
  refine ⟨cap, _, _, 275, #[], #[.pointer (some ⟨b, 0, none⟩)], hov, hgm, hom, h.row, h.wk, rfl, rfl, rfl, rfl, rfl, fun _ _ => by kernel_rfl, fun w1 code v q n c s hw k => ?_⟩
  have hb1 := h.box.keeps k (by simp [hbm, hbo])
  exact dqLet_any m p b code v q n c s w1 hw (hb1.cells 0) ((k.cell (p := ⟨p, 0, none⟩) lp (by simp [hpm, hpo])).trans hp) hb1.lt (Nat.lt_of_lt_of_le lp k.size)

set_option maxHeartbeats 1600000 in
theorem dqHold_any (m p : Nat) (at_ size top bottom task : Int) (rest : List Value) (e : TypeId) (st : WSt) (w : World) (hw : Wk w m st) (hp : Row w p e (stCells m at_ size top bottom task rest)) (hpm : p ≠ m) (ho : st.over = false) (hout : st.outer = .slice none 0 0) :
    Calls Tryz.prog 270 #[.pointer (some ⟨p, 0, none⟩)] w fun e' w' => e' = .returned (.tuple #[]) ∧ ∃ t ov g o b, Wk w' m { st with tasks := t, outer := ov } ∧ w'.ownsRow w.heap.size 26 1 t 1 [.int .u64 task] ∧ DqWatch w' m p g o b ov ∧
      (w.heap.size ≤ g ∧ w.heap.size ≤ o ∧ w.heap.size ≤ b) ∧ b ≠ o ∧ (∀ x, t.ownBlock = some x → x ≠ g ∧ x ≠ o ∧ x ≠ b) ∧ Keeps [m] w w' := by
  have HS := Lib.hid (st_cells hp)
  obtain ⟨h0, h1, h2, h3, h4, h5⟩ := HS.out _ [] (Keeps.refl _ _) (by simp)
  have hplt := hp.lt
  have hmlt := hw.lt
  have HW := Lib.hid hw
  clear hw hp
  go_enter Tryz.func270, Tryz.ntmps270
  go_wp2_with fail
  generalize hW : World.alloc _ _ = W1
  have k1 : Keeps [] w W1 := by rw [← hW]; exact (Keeps.refl _ _).alloc _
  have hb : Box W1 w.heap.size #[.pointer (some ⟨p, 0, none⟩)] := by rw [← hW]; exact Box.new _ _ _
  have HW1 := Lib.hid (HW.out.keeps k1 (by simp))
  obtain ⟨c0, -, -, -, -, c5⟩ := HS.out W1 [] k1 (by simp)
  have cb := hb.cells 0
  have lb := hb.lt
  have lp : p < W1.heap.size := Nat.lt_of_lt_of_le hplt k1.size
  clear hW
  have HT := Lib.hid (fun W S' (k : Keeps S' W1 W) (h1 : w.heap.size ∉ S') (h2 : p ∉ S') => show W.cell? ⟨w.heap.size, 0, none⟩ = some (.pointer (some ⟨p, 0, none⟩)) ∧ W.cell? ⟨p, 0, none⟩ = some (.pointer (some ⟨m, 0, none⟩)) ∧ W.cell? ⟨p, 5, none⟩ = some (.int .u64 task) from ⟨(hb.keeps k h1).cells 0, (k.cell (p := ⟨p, 0, none⟩) lp h2).trans c0, (k.cell (p := ⟨p, 5, none⟩) lp h2).trans c5⟩)
  have HE := Lib.hid (fun W (h : Wk W m st) v hl => wHold m st v 1 [task] W h hl (by omega))
  have kL : Keeps [] W1 (W1.alloc (.cells #[.int .u64 task] 26)).drew := ((Keeps.refl [] W1).alloc _).drew
  have hL : Sl (W1.alloc (.cells #[.int .u64 task] 26)).drew 1 (.slice (some ⟨W1.heap.size, 0, none⟩) 1 1) 1 [.int .u64 task] := ((Row.new W1 #[.int .u64 task] 26).keeps ((Keeps.refl [] _).drew) (by simp)).sl (n := 1) (cap := 1) rfl
  have HE2 := Lib.hid (HE.out _ (HW1.out.keeps kL (by simp)) _ hL)
  clear kL hL
  go_region_held3 (fun w' => w'.cell? ⟨w.heap.size, 0, none⟩ = some (.pointer (some ⟨p, 0, none⟩)) ∧ w'.cell? ⟨p, 0, none⟩ = some (.pointer (some ⟨m, 0, none⟩)) ∧ w'.cell? ⟨p, 5, none⟩ = some (.int .u64 task))
    (first
      | exact ⟨by assumption, by assumption, by assumption⟩
      | exact HT.out _ _ hk3 (by simp; omega) (by simpa using hpm)
      | exact HT.out _ _ (((Keeps.refl [] W1).alloc _).drew) (by simp) (by simp)
      | fail)
    (first
      | (go_at_call 136; refine HE2.out.mono ?_; rintro e2 w3 ⟨rfl, t, hw3, ht3, k3⟩; have hk3 : Keeps [m] W1 w3 := (((Keeps.refl [m] W1).alloc _).drew).trans k3; clear k3)
      | fail)
  all_goals go_wp2_with fail
  have hb3 := hb.keeps hk3 (by simp; omega)
  have hp3 := (hk3.cell (p := ⟨p, 0, none⟩) lp (by simpa using hpm)).trans c0
  have lp3 := Nat.lt_of_lt_of_le lp hk3.size
  have kz := hk3.size
  have z1 := k1.size
  have HN := Lib.hid (wNew 274 #[.pointer (some ⟨w.heap.size, 0, none⟩)] [m] w3 (fun w2 s2 => s2 = { dqWatcher m w.heap.size with under := 1 } ∧ ∃ q B, w3.heap.size + 1 < B ∧ Wk w2 m { st with tasks := t, outer := q } ∧ w2.ownsRow B 30 1 q 1 [.pointer (some ⟨w3.heap.size + 1, 0, none⟩)])
    (by intro k hk; simp at hk; subst hk; exact hw3.lt) (fun _ _ => by kernel_rfl) (fun w4 h4 k4 => (dqHold1_any m p w.heap.size (w3.heap.size + 1) _ w4 (hw3.keeps k4 (by simp)) h4 (by have := hw3.lt; omega) (show st.over = false from ho) (show st.outer = .slice none 0 0 from hout) ((hb3.keeps k4 (by simp)).cells 0) ((k4.cell (p := ⟨p, 0, none⟩) lp3 (by simp)).trans hp3)).mono
      fun e w5 ⟨he, q, a1, a2, a3, a4⟩ => ⟨he, _, a1, rfl, .inl rfl, a4.mono (by simp), rfl, q, w4.heap.size, h4.lt, a2, a3⟩))
  have HT3 := Lib.hid ht3
  have HB3 := Lib.hid hb3
  have HK3 := Lib.hid (k1.nil.trans hk3)
  have HLt := Lib.hid (show W1.heap.size + 1 ≤ (W1.alloc (.cells #[.int .u64 task] 26)).drew.heap.size ∧ m < w3.heap.size by exact ⟨by simp, hw3.lt⟩)
  clear hw3 ht3 hk3 hb3 hb
  refine HN.out.mono ?_
  rintro e3 w5 ⟨rfl, w4, s2, ⟨rfl, q, B, hB, m4, q4⟩, k5, k4, o5⟩
  have HP : Hid (_ ∧ _ ∧ _ ∧ _ ∧ _ ∧ _) := Lib.hid ⟨hB, m4, q4, k5, k4, o5⟩
  clear hB m4 q4 k5 k4 o5
  go_wp2
  first | go_end0 | refine bodyPost_ret (results_none rfl _ _ _) rfl ?_
  obtain ⟨hB, m4, q4, k5, k4, o5⟩ := HP.out
  have hml := HLt.out.2
  have ht := HT3.out
  have htl := fun x hx => ht.lt x hx
  have hs := HLt.out.1
  obtain ⟨qp, qc, rfl⟩ := (Sl.of_owns q4).len
  obtain ⟨g, hg, hgb⟩ : ∃ g, qp = some ⟨g, 0, none⟩ ∧ B ≤ g := by
    rcases q4.2 with ⟨-, h⟩ | ⟨g, cap, cur, h, hb, -⟩
    · cases h
    · cases h; exact ⟨g, rfl, hb⟩
  subst hg
  have hrow := Row.of_owns q4
  have hgl := hrow.lt
  have hgo : g ≠ w3.heap.size + 1 := by omega
  have zz : (W1.alloc (.cells #[.int .u64 task] 26)).drew.heap.size = W1.heap.size + 1 := by simp
  have htb : ∀ x, t.ownBlock = some x → W1.heap.size < x ∧ x < w3.heap.size := fun x hx => by have := htl x hx; omega
  have kk : Keeps [m] w w5 := (((HK3.out.trans k4).mono (T := [w3.heap.size + 1, m]) (by simp)).trans (k5.mono (by simp))).mono (by intro k hk hl; simp at hk; rcases hk with rfl | rfl; omega; simp)
  have ht5 : w5.ownsRow w.heap.size 26 1 t 1 [.int .u64 task] := owns_keeps (owns_keeps (owns_base ht (by omega)) k4 (fun x hx => by have := htb x hx; simp; omega)) k5 (fun x hx => by have := htb x hx; simp; omega)
  exact ⟨rfl, t, .slice (some ⟨g, 0, none⟩) 1 qc, g, w3.heap.size + 1, w.heap.size, m4.keeps k5 (by simp; omega), ht5, ⟨⟨_, rfl⟩, hrow.keeps k5 (by simpa using hgo), o5, (HB3.out.keeps k4 (by simp; omega)).keeps k5 (by simp; omega)⟩, ⟨by omega, by omega, by omega⟩, by omega, fun x hx => (by have := htb x hx; omega), kk⟩
end Go.Proofs.YtjfgpplnlepnoaaGreat

/-
  Contracts: what the functions of a deque's walks do (written by wip/tools/dqgen.py).
-/
namespace Go.Proofs.YtjfgpplnlepnoaaGreat
set_option maxRecDepth 100000
set_option linter.unusedSimpArgs false
set_option linter.unusedVariables false
open Go.ChangeShapes Go.WideShapes Go.ChangeAt Go.RowKit

set_option maxHeartbeats 1600000 in
theorem dqStealBegin (m p : Nat) (at_ size top bottom task : Int) (rest : List Value) (e : TypeId) (st : WSt) (w : World) (hw : Wk w m st) (hp : Row w p e (stCells m at_ size top bottom task rest)) (hpm : p ≠ m) (ho : st.over = false) (hs : st.sub = none)   :
    Calls Tryz.prog 71 #[.pointer (some ⟨p, 0, none⟩)] w fun e' w' => e' = .returned (.tuple #[]) ∧
      Wk w' m { st with x := ⟨1, at_, 0, 0⟩, nxt := .func (.func 127) #[.pointer (some ⟨p, 0, none⟩)] #[], sub := none, after := .nilFunc } ∧ Row w' p e (stCells m at_ size top bottom task rest) ∧ Keeps [m, p] w w' := by
  obtain ⟨W1, hW1⟩ : ∃ W1, w = W1 := ⟨_, rfl⟩
  have hp1 : Row W1 p e (stCells m at_ size top bottom task rest) := by rw [← hW1]; exact hp
  have hk1 : Keeps [p] w W1 := by rw [← hW1]; exact Keeps.refl _ _
  have hkV : Keeps [] W1 W1 := Keeps.refl _ _
  have HW : Hid (Wk W1 m st) := Lib.hid (hw.keeps hk1 (by simpa using Ne.symm hpm))
  have HS := Lib.hid (st_cells hp1)
  have HK1 := Lib.hid hk1
  have HP1 := Lib.hid hp1
  subst hW1
  obtain ⟨h0, h1, h2, h3, h4, h5⟩ := HS.out _ [] (Keeps.refl _ _) (by simp)
  have HE := Lib.hid (fun W (h : Wk W m st) c0 => dqLoad_any m p (at_) (.func 127) #[.pointer (some ⟨p, 0, none⟩)] #[] st W h c0 ho hs)
  clear hw hp ho hs hp1 hk1
  go_enter Tryz.func71, Tryz.ntmps71
  go_wp2
  go_still_tail 11, (by kernel_rfl)
  change wpList _ _ _ _ _ (w).drew
  go_wp2_with fail
  refine (HE.out (w).drew (HW.out.keeps hkV.drew (by simp)) (HS.out _ _ hkV.drew (by simp)).1).mono ?_
  rintro e2 w3 ⟨rfl, hw3, k3⟩
  have HQ := Lib.hid (⟨hw3, hkV.nil.trans k3.undrew⟩ : _ ∧ Keeps [m] w w3)
  clear hw3 k3
  go_wp2
  first | go_end0 | refine bodyPost_ret (results_none rfl _ _ _) rfl ?_
  exact ⟨rfl, HQ.out.1, HP1.out.keeps HQ.out.2 (by simpa using hpm), (HK1.out.mono (by simp)).trans (HQ.out.2.mono (by simp))⟩

set_option maxHeartbeats 1600000 in
theorem dqPopBegin (m p : Nat) (at_ size top bottom task : Int) (rest : List Value) (e : TypeId) (st : WSt) (w : World) (hw : Wk w m st) (hp : Row w p e (stCells m at_ size top bottom task rest)) (hpm : p ≠ m) (ho : st.over = false) (hs : st.sub = none) (a0 : 0 ≤ at_) (a1 : at_ < 65536)  :
    Calls Tryz.prog 266 #[.pointer (some ⟨p, 0, none⟩)] w fun e' w' => e' = .returned (.tuple #[]) ∧
      Wk w' m { st with x := ⟨1, at_ + 1, 0, 0⟩, nxt := .func (.func 269) #[.pointer (some ⟨p, 0, none⟩)] #[], sub := none, after := .nilFunc } ∧ Row w' p e (stCells m at_ size top bottom task rest) ∧ Keeps [m, p] w w' := by
  obtain ⟨W1, hW1⟩ : ∃ W1, w = W1 := ⟨_, rfl⟩
  have hp1 : Row W1 p e (stCells m at_ size top bottom task rest) := by rw [← hW1]; exact hp
  have hk1 : Keeps [p] w W1 := by rw [← hW1]; exact Keeps.refl _ _
  have hkV : Keeps [] W1 W1 := Keeps.refl _ _
  have HW : Hid (Wk W1 m st) := Lib.hid (hw.keeps hk1 (by simpa using Ne.symm hpm))
  have HS := Lib.hid (st_cells hp1)
  have HK1 := Lib.hid hk1
  have HP1 := Lib.hid hp1
  subst hW1
  obtain ⟨h0, h1, h2, h3, h4, h5⟩ := HS.out _ [] (Keeps.refl _ _) (by simp)
  have HE := Lib.hid (fun W (h : Wk W m st) c0 => dqLoad_any m p (at_ + 1) (.func 269) #[.pointer (some ⟨p, 0, none⟩)] #[] st W h c0 ho hs)
  clear hw hp ho hs hp1 hk1
  go_enter Tryz.func266, Tryz.ntmps266
  go_wp2
  go_region_held3 (fun w' => w'.cell? ⟨p, 0, none⟩ = some (.pointer (some ⟨m, 0, none⟩)) ∧ w'.cell? ⟨p, 1, none⟩ = some (.int .i64 at_) ∧ w'.cell? ⟨p, 2, none⟩ = some (.int .i64 size) ∧ w'.cell? ⟨p, 3, none⟩ = some (.int .u64 top) ∧ w'.cell? ⟨p, 4, none⟩ = some (.int .u64 bottom) ∧ w'.cell? ⟨p, 5, none⟩ = some (.int .u64 task))
    (first
      | exact HS.out _ _ hk3 (by simpa using hpm)
      | exact HS.out _ _ hk2 (by simp)
      | exact ⟨by assumption, by assumption, by assumption, by assumption, by assumption, by assumption⟩
      | fail)
    (first
      | (go_at_call 168; refine (dqBottom_any at_ size _ a0 a1).mono ?_; rintro e2 w2 ⟨rfl, k2⟩; have hk2 : Keeps [] w w2 := hkV.trans k2.undrew; clear k2)
      | (go_at_call 126; refine (HE.out _ (HW.out.keeps hk2 (by simp)) (HS.out _ _ hk2 (by simp)).1).mono ?_; rintro e2 w3 ⟨rfl, hw3, k3⟩; have hk3 : Keeps [m] w w3 := (hk2.mono (by simp)).trans k3; clear k3)
      | fail)
  all_goals (first | go_end0 | refine bodyPost_ret (results_none rfl _ _ _) rfl ?_)
  all_goals exact ⟨rfl, hw3, HP1.out.keeps hk3 (by simpa using hpm), (HK1.out.mono (by simp)).trans (hk3.mono (by simp))⟩

set_option maxHeartbeats 1600000 in
theorem dqPushBottom (m p : Nat) (at_ size top bottom task : Int) (rest : List Value) (e : TypeId) (st : WSt) (w : World) (v : Int) (won : Bool) (hw : Wk w m st) (hp : Row w p e (stCells m at_ size top bottom task rest)) (hpm : p ≠ m) (ho : st.over = false) (hs : st.sub = none)   :
    Calls Tryz.prog 271 #[.pointer (some ⟨p, 0, none⟩), .int .u64 v, .bool won] w fun e' w' => e' = .returned (.tuple #[]) ∧
      Wk w' m { st with x := ⟨1, at_, 0, 0⟩, nxt := .func (.func 276) #[.pointer (some ⟨p, 0, none⟩)] #[], sub := none, after := .nilFunc } ∧ Row w' p e (stCells m at_ size top v task rest) ∧ Keeps [m, p] w w' := by
  obtain ⟨W1, hW1⟩ : ∃ W1, w.setCell ⟨p, 4, none⟩ (.int .u64 v) = W1 := ⟨_, rfl⟩
  have hp1 : Row W1 p e (stCells m at_ size top v task rest) := by rw [← hW1]; exact hp.set 4 _
  have hk1 : Keeps [p] w W1 := by rw [← hW1]; exact (Keeps.refl [p] w).setCell (fun _ => by simp) _
  have hkV : Keeps [] W1 W1 := Keeps.refl _ _
  have oc := hp.cell (j := 4) rfl
  have oz := hp.frozen 4
  have HW : Hid (Wk W1 m st) := Lib.hid (hw.keeps hk1 (by simpa using Ne.symm hpm))
  have HS := Lib.hid (st_cells hp1)
  have HK1 := Lib.hid hk1
  have HP1 := Lib.hid hp1
  obtain ⟨h0, h1, h2, h3, h4, h5⟩ := HS.out _ [] (Keeps.refl _ _) (by simp)
  have HE := Lib.hid (fun W (h : Wk W m st) c0 => dqLoad_any m p (at_) (.func 276) #[.pointer (some ⟨p, 0, none⟩)] #[] st W h c0 ho hs)
  clear hw hp ho hs hp1 hk1
  go_enter Tryz.func271, Tryz.ntmps271
  go_wp2
  go_still_tail 11, (by kernel_rfl)
  change wpList _ _ _ _ _ (W1).drew
  go_wp2_with fail
  refine (HE.out (W1).drew (HW.out.keeps hkV.drew (by simp)) (HS.out _ _ hkV.drew (by simp)).1).mono ?_
  rintro e2 w3 ⟨rfl, hw3, k3⟩
  have HQ := Lib.hid (⟨hw3, hkV.nil.trans k3.undrew⟩ : _ ∧ Keeps [m] W1 w3)
  clear hw3 k3
  go_wp2
  first | go_end0 | refine bodyPost_ret (results_none rfl _ _ _) rfl ?_
  exact ⟨rfl, HQ.out.1, HP1.out.keeps HQ.out.2 (by simpa using hpm), (HK1.out.mono (by simp)).trans (HQ.out.2.mono (by simp))⟩

set_option maxHeartbeats 1600000 in
theorem dqStealTop (m p : Nat) (at_ size top bottom task : Int) (rest : List Value) (e : TypeId) (st : WSt) (w : World) (v : Int) (won : Bool) (hw : Wk w m st) (hp : Row w p e (stCells m at_ size top bottom task rest)) (hpm : p ≠ m) (ho : st.over = false) (hs : st.sub = none) (a0 : 0 ≤ at_) (a1 : at_ < 65536)  :
    Calls Tryz.prog 127 #[.pointer (some ⟨p, 0, none⟩), .int .u64 v, .bool won] w fun e' w' => e' = .returned (.tuple #[]) ∧
      Wk w' m { st with x := ⟨1, at_ + 1, 0, 0⟩, nxt := .func (.func 169) #[.pointer (some ⟨p, 0, none⟩)] #[], sub := none, after := .nilFunc } ∧ Row w' p e (stCells m at_ size v bottom task rest) ∧ Keeps [m, p] w w' := by
  obtain ⟨W1, hW1⟩ : ∃ W1, w.setCell ⟨p, 3, none⟩ (.int .u64 v) = W1 := ⟨_, rfl⟩
  have hp1 : Row W1 p e (stCells m at_ size v bottom task rest) := by rw [← hW1]; exact hp.set 3 _
  have hk1 : Keeps [p] w W1 := by rw [← hW1]; exact (Keeps.refl [p] w).setCell (fun _ => by simp) _
  have hkV : Keeps [] W1 W1 := Keeps.refl _ _
  have oc := hp.cell (j := 3) rfl
  have oz := hp.frozen 3
  have HW : Hid (Wk W1 m st) := Lib.hid (hw.keeps hk1 (by simpa using Ne.symm hpm))
  have HS := Lib.hid (st_cells hp1)
  have HK1 := Lib.hid hk1
  have HP1 := Lib.hid hp1
  obtain ⟨h0, h1, h2, h3, h4, h5⟩ := HS.out _ [] (Keeps.refl _ _) (by simp)
  have HE := Lib.hid (fun W (h : Wk W m st) c0 => dqLoad_any m p (at_ + 1) (.func 169) #[.pointer (some ⟨p, 0, none⟩)] #[] st W h c0 ho hs)
  clear hw hp ho hs hp1 hk1
  go_enter Tryz.func127, Tryz.ntmps127
  go_wp2
  go_region_held3 (fun w' => w'.cell? ⟨p, 0, none⟩ = some (.pointer (some ⟨m, 0, none⟩)) ∧ w'.cell? ⟨p, 1, none⟩ = some (.int .i64 at_) ∧ w'.cell? ⟨p, 2, none⟩ = some (.int .i64 size) ∧ w'.cell? ⟨p, 3, none⟩ = some (.int .u64 v) ∧ w'.cell? ⟨p, 4, none⟩ = some (.int .u64 bottom) ∧ w'.cell? ⟨p, 5, none⟩ = some (.int .u64 task))
    (first
      | exact HS.out _ _ hk3 (by simpa using hpm)
      | exact HS.out _ _ hk2 (by simp)
      | exact ⟨by assumption, by assumption, by assumption, by assumption, by assumption, by assumption⟩
      | fail)
    (first
      | (go_at_call 168; refine (dqBottom_any at_ size _ a0 a1).mono ?_; rintro e2 w2 ⟨rfl, k2⟩; have hk2 : Keeps [] W1 w2 := hkV.trans k2.undrew; clear k2)
      | (go_at_call 126; refine (HE.out _ (HW.out.keeps hk2 (by simp)) (HS.out _ _ hk2 (by simp)).1).mono ?_; rintro e2 w3 ⟨rfl, hw3, k3⟩; have hk3 : Keeps [m] W1 w3 := (hk2.mono (by simp)).trans k3; clear k3)
      | fail)
  all_goals (first | go_end0 | refine bodyPost_ret (results_none rfl _ _ _) rfl ?_)
  all_goals exact ⟨rfl, hw3, HP1.out.keeps hk3 (by simpa using hpm), (HK1.out.mono (by simp)).trans (hk3.mono (by simp))⟩

set_option maxHeartbeats 1600000 in
theorem dqPopBottom (m p : Nat) (at_ size top bottom task : Int) (rest : List Value) (e : TypeId) (st : WSt) (w : World) (v : Int) (won : Bool) (hw : Wk w m st) (hp : Row w p e (stCells m at_ size top bottom task rest)) (hpm : p ≠ m) (ho : st.over = false) (hs : st.sub = none) (a0 : 0 ≤ at_) (a1 : at_ < 65536)  :
    Calls Tryz.prog 269 #[.pointer (some ⟨p, 0, none⟩), .int .u64 v, .bool won] w fun e' w' => e' = .returned (.tuple #[]) ∧
      Wk w' m { st with x := ⟨2, at_ + 1, (v - 1) % 18446744073709551616, 0⟩, nxt := .func (.func 273) #[.pointer (some ⟨p, 0, none⟩)] #[], sub := none, after := .nilFunc } ∧ Row w' p e (stCells m at_ size top ((v - 1) % 18446744073709551616) task rest) ∧ Keeps [m, p] w w' := by
  obtain ⟨W1, hW1⟩ : ∃ W1, w.setCell ⟨p, 4, none⟩ (.int .u64 ((v - 1) % 18446744073709551616)) = W1 := ⟨_, rfl⟩
  have hp1 : Row W1 p e (stCells m at_ size top ((v - 1) % 18446744073709551616) task rest) := by rw [← hW1]; exact hp.set 4 _
  have hk1 : Keeps [p] w W1 := by rw [← hW1]; exact (Keeps.refl [p] w).setCell (fun _ => by simp) _
  have hkV : Keeps [] W1 W1 := Keeps.refl _ _
  have oc := hp.cell (j := 4) rfl
  have oz := hp.frozen 4
  have HW : Hid (Wk W1 m st) := Lib.hid (hw.keeps hk1 (by simpa using Ne.symm hpm))
  have HS := Lib.hid (st_cells hp1)
  have HK1 := Lib.hid hk1
  have HP1 := Lib.hid hp1
  obtain ⟨h0, h1, h2, h3, h4, h5⟩ := HS.out _ [] (Keeps.refl _ _) (by simp)
  have HE := Lib.hid (fun W (h : Wk W m st) c0 => dqStore_any m p (at_ + 1) ((v - 1) % 18446744073709551616) (.func 273) #[.pointer (some ⟨p, 0, none⟩)] #[] st W h c0 ho hs)
  have hdn : IntKind.u64.wrap (v - 1) = (v - 1) % 18446744073709551616 := rfl
  clear hw hp ho hs hp1 hk1
  go_enter Tryz.func269, Tryz.ntmps269
  go_wp2
  go_region_held3 (fun w' => w'.cell? ⟨p, 0, none⟩ = some (.pointer (some ⟨m, 0, none⟩)) ∧ w'.cell? ⟨p, 1, none⟩ = some (.int .i64 at_) ∧ w'.cell? ⟨p, 2, none⟩ = some (.int .i64 size) ∧ w'.cell? ⟨p, 3, none⟩ = some (.int .u64 top) ∧ w'.cell? ⟨p, 4, none⟩ = some (.int .u64 ((v - 1) % 18446744073709551616)) ∧ w'.cell? ⟨p, 5, none⟩ = some (.int .u64 task))
    (first
      | exact HS.out _ _ hk3 (by simpa using hpm)
      | exact HS.out _ _ hk2 (by simp)
      | exact ⟨by assumption, by assumption, by assumption, by assumption, by assumption, by assumption⟩
      | fail)
    (first
      | (go_at_call 168; refine (dqBottom_any at_ size _ a0 a1).mono ?_; rintro e2 w2 ⟨rfl, k2⟩; have hk2 : Keeps [] W1 w2 := hkV.trans k2.undrew; clear k2)
      | (go_at_call 272; refine (HE.out _ (HW.out.keeps hk2 (by simp)) (HS.out _ _ hk2 (by simp)).1).mono ?_; rintro e2 w3 ⟨rfl, hw3, k3⟩; have hk3 : Keeps [m] W1 w3 := (hk2.mono (by simp)).trans k3; clear k3)
      | fail)
  all_goals (first | go_end0 | refine bodyPost_ret (results_none rfl _ _ _) rfl ?_)
  all_goals exact ⟨rfl, hw3, HP1.out.keeps hk3 (by simpa using hpm), (HK1.out.mono (by simp)).trans (hk3.mono (by simp))⟩

set_option maxHeartbeats 1600000 in
theorem dqPushRoom (m p : Nat) (at_ size top bottom task : Int) (rest : List Value) (e : TypeId) (st : WSt) (w : World) (v : Int) (won : Bool) (hw : Wk w m st) (hp : Row w p e (stCells m at_ size top bottom task rest)) (hpm : p ≠ m) (ho : st.over = false) (hs : st.sub = none) (hr : dqRight at_ size) (hn : M.U bottom) (u1 : M.U bottom) (u2 : M.U v) (hA : dqAhead bottom v < size) :
    Calls Tryz.prog 276 #[.pointer (some ⟨p, 0, none⟩), .int .u64 v, .bool won] w fun e' w' => e' = .returned (.tuple #[]) ∧
      Wk w' m { st with x := ⟨2, dqSlot at_ size bottom, task, 0⟩, nxt := .func (.func 278) #[.pointer (some ⟨p, 0, none⟩)] #[], sub := none, after := .nilFunc } ∧ Row w' p e (stCells m at_ size top bottom task rest) ∧ Keeps [m, p] w w' := by
  obtain ⟨W1, hW1⟩ : ∃ W1, w = W1 := ⟨_, rfl⟩
  have hp1 : Row W1 p e (stCells m at_ size top bottom task rest) := by rw [← hW1]; exact hp
  have hk1 : Keeps [p] w W1 := by rw [← hW1]; exact Keeps.refl _ _
  have hkV : Keeps [] W1 W1 := Keeps.refl _ _
  have HW : Hid (Wk W1 m st) := Lib.hid (hw.keeps hk1 (by simpa using Ne.symm hpm))
  have HS := Lib.hid (st_cells hp1)
  have HK1 := Lib.hid hk1
  have HP1 := Lib.hid hp1
  subst hW1
  obtain ⟨h0, h1, h2, h3, h4, h5⟩ := HS.out _ [] (Keeps.refl _ _) (by simp)
  have HE := Lib.hid (fun W (h : Wk W m st) c0 => dqStore_any m p (dqSlot at_ size bottom) (task) (.func 278) #[.pointer (some ⟨p, 0, none⟩)] #[] st W h c0 ho hs)
  have hsz : 2 ≤ size ∧ size ≤ 256 := by have := hr.1; omega
  obtain ⟨z0, z1⟩ := hsz
  have dA : decide (size ≤ dqAhead bottom v) = false := decide_eq_false (by omega)
  clear hw hp ho hs hp1 hk1
  go_enter Tryz.func276, Tryz.ntmps276
  go_wp2
  go_quiet ((go_at_call 215; exact qs (dqAhead_any _ _ _ u1 u2)))
  go_wp2_with fail
  generalize hV : World.drewN _ _ = W2
  replace hkV : Keeps [] w W2 := by rw [← hV]; exact (Keeps.refl _ _).drewN
  obtain ⟨c0, c1, c2, c3, c4, c5⟩ := HS.out W2 [] hkV (by simp)
  clear hV
  go_region_held3 (fun w' => w'.cell? ⟨p, 0, none⟩ = some (.pointer (some ⟨m, 0, none⟩)) ∧ w'.cell? ⟨p, 1, none⟩ = some (.int .i64 at_) ∧ w'.cell? ⟨p, 2, none⟩ = some (.int .i64 size) ∧ w'.cell? ⟨p, 3, none⟩ = some (.int .u64 top) ∧ w'.cell? ⟨p, 4, none⟩ = some (.int .u64 bottom) ∧ w'.cell? ⟨p, 5, none⟩ = some (.int .u64 task))
    (first
      | exact HS.out _ _ hk3 (by simpa using hpm)
      | exact HS.out _ _ hk2 (by simp)
      | exact ⟨by assumption, by assumption, by assumption, by assumption, by assumption, by assumption⟩
      | fail)
    (first
      | (go_at_call 216; refine (dqSlot_any at_ size bottom _ hr hn).mono ?_; rintro e2 w2 ⟨rfl, k2⟩; have hk2 : Keeps [] w w2 := hkV.trans k2.undrew; clear k2)
      | (go_at_call 272; refine (HE.out _ (HW.out.keeps hk2 (by simp)) (HS.out _ _ hk2 (by simp)).1).mono ?_; rintro e2 w3 ⟨rfl, hw3, k3⟩; have hk3 : Keeps [m] w w3 := (hk2.mono (by simp)).trans k3; clear k3)
      | fail)
  all_goals (first | go_end0 | refine bodyPost_ret (results_none rfl _ _ _) rfl ?_)
  all_goals exact ⟨rfl, hw3, HP1.out.keeps hk3 (by simpa using hpm), (HK1.out.mono (by simp)).trans (hk3.mono (by simp))⟩

set_option maxHeartbeats 1600000 in
theorem dqPushFull (m p : Nat) (at_ size top bottom task : Int) (rest : List Value) (e : TypeId) (st : WSt) (w : World) (v : Int) (won : Bool) (hw : Wk w m st) (hp : Row w p e (stCells m at_ size top bottom task rest)) (hpm : p ≠ m) (ho : st.over = false) (hs : st.sub = none) (hu : 0 < st.under) (u1 : M.U bottom) (u2 : M.U v) (hr : dqRight at_ size) (hA : size ≤ dqAhead bottom v) :
    Calls Tryz.prog 276 #[.pointer (some ⟨p, 0, none⟩), .int .u64 v, .bool won] w fun e' w' => e' = .returned (.tuple #[]) ∧
      ∃ l', Wk w' m { st with nxt := .nilFunc, after := .nilFunc, over := true, code := 4, v := 0, l := l' } ∧ w'.ownsRow w.heap.size 26 1 l' 0 [] ∧ Keeps [m] w w' := by
  obtain ⟨W1, hW1⟩ : ∃ W1, w = W1 := ⟨_, rfl⟩
  have hp1 : Row W1 p e (stCells m at_ size top bottom task rest) := by rw [← hW1]; exact hp
  have hk1 : Keeps [p] w W1 := by rw [← hW1]; exact Keeps.refl _ _
  have hkV : Keeps [] W1 W1 := Keeps.refl _ _
  have HW : Hid (Wk W1 m st) := Lib.hid (hw.keeps hk1 (by simpa using Ne.symm hpm))
  have HS := Lib.hid (st_cells hp1)
  have HK1 := Lib.hid hk1
  have HP1 := Lib.hid hp1
  subst hW1
  obtain ⟨h0, h1, h2, h3, h4, h5⟩ := HS.out _ [] (Keeps.refl _ _) (by simp)
  have HE := Lib.hid (fun W (h : Wk W m st) => wBreak m st 4 W h ho (.inl hu))
  have hsz : 2 ≤ size ∧ size ≤ 256 := by have := hr.1; omega
  obtain ⟨z0, z1⟩ := hsz
  have dA : decide (size ≤ dqAhead bottom v) = true := decide_eq_true hA
  clear hw hp ho hs hp1 hk1 hu
  go_enter Tryz.func276, Tryz.ntmps276
  go_wp2
  go_quiet ((go_at_call 215; exact qs (dqAhead_any _ _ _ u1 u2)))
  go_wp2_with fail
  generalize hV : World.drewN _ _ = W2
  replace hkV : Keeps [] w W2 := by rw [← hV]; exact (Keeps.refl _ _).drewN
  obtain ⟨c0, c1, c2, c3, c4, c5⟩ := HS.out W2 [] hkV (by simp)
  clear hV
  refine (HE.out W2 (HW.out.keeps hkV (by simp))).mono ?_
  rintro e2 w3 ⟨rfl, l', hw3, ho3, k3⟩
  have HQ := Lib.hid (⟨hw3, owns_base ho3 (by first | exact hkV.size | exact hkV.drew.size), hkV.nil.trans k3⟩ : _ ∧ w3.ownsRow (w).heap.size 26 1 l' 0 [] ∧ Keeps [m] w w3)
  clear hw3 k3 ho3
  go_wp2
  first | go_end0 | refine bodyPost_ret (results_none rfl _ _ _) rfl ?_
  exact ⟨rfl, _, HQ.out.1, HQ.out.2.1, HQ.out.2.2⟩

set_option maxHeartbeats 1600000 in
theorem dqStealSome (m p : Nat) (at_ size top bottom task : Int) (rest : List Value) (e : TypeId) (st : WSt) (w : World) (v : Int) (won : Bool) (hw : Wk w m st) (hp : Row w p e (stCells m at_ size top bottom task rest)) (hpm : p ≠ m) (ho : st.over = false) (hs : st.sub = none) (hr : dqRight at_ size) (hn : M.U top) (u1 : M.U v) (u2 : M.U top) (hA : 1 ≤ dqAhead v top) :
    Calls Tryz.prog 169 #[.pointer (some ⟨p, 0, none⟩), .int .u64 v, .bool won] w fun e' w' => e' = .returned (.tuple #[]) ∧
      Wk w' m { st with x := ⟨1, dqSlot at_ size top, 0, 0⟩, nxt := .func (.func 217) #[.pointer (some ⟨p, 0, none⟩)] #[], sub := none, after := .nilFunc } ∧ Row w' p e (stCells m at_ size top bottom task rest) ∧ Keeps [m, p] w w' := by
  obtain ⟨W1, hW1⟩ : ∃ W1, w = W1 := ⟨_, rfl⟩
  have hp1 : Row W1 p e (stCells m at_ size top bottom task rest) := by rw [← hW1]; exact hp
  have hk1 : Keeps [p] w W1 := by rw [← hW1]; exact Keeps.refl _ _
  have hkV : Keeps [] W1 W1 := Keeps.refl _ _
  have HW : Hid (Wk W1 m st) := Lib.hid (hw.keeps hk1 (by simpa using Ne.symm hpm))
  have HS := Lib.hid (st_cells hp1)
  have HK1 := Lib.hid hk1
  have HP1 := Lib.hid hp1
  subst hW1
  obtain ⟨h0, h1, h2, h3, h4, h5⟩ := HS.out _ [] (Keeps.refl _ _) (by simp)
  have HE := Lib.hid (fun W (h : Wk W m st) c0 => dqLoad_any m p (dqSlot at_ size top) (.func 217) #[.pointer (some ⟨p, 0, none⟩)] #[] st W h c0 ho hs)
  have dA : decide (dqAhead v top < 1) = false := decide_eq_false (by omega)
  clear hw hp ho hs hp1 hk1
  go_enter Tryz.func169, Tryz.ntmps169
  go_wp2_with fail
  refine (dqAhead_any _ _ _ u1 u2).mono ?_
  rintro e1 w1 ⟨rfl, rfl⟩
  go_wp2
  go_region_held3 (fun w' => w'.cell? ⟨p, 0, none⟩ = some (.pointer (some ⟨m, 0, none⟩)) ∧ w'.cell? ⟨p, 1, none⟩ = some (.int .i64 at_) ∧ w'.cell? ⟨p, 2, none⟩ = some (.int .i64 size) ∧ w'.cell? ⟨p, 3, none⟩ = some (.int .u64 top) ∧ w'.cell? ⟨p, 4, none⟩ = some (.int .u64 bottom) ∧ w'.cell? ⟨p, 5, none⟩ = some (.int .u64 task))
    (first
      | exact HS.out _ _ hk3 (by simpa using hpm)
      | exact HS.out _ _ hk2 (by simp)
      | exact ⟨by assumption, by assumption, by assumption, by assumption, by assumption, by assumption⟩
      | fail)
    (first
      | (go_at_call 216; refine (dqSlot_any at_ size top _ hr hn).mono ?_; rintro e2 w2 ⟨rfl, k2⟩; have hk2 : Keeps [] w w2 := hkV.trans k2.undrew; clear k2)
      | (go_at_call 126; refine (HE.out _ (HW.out.keeps hk2 (by simp)) (HS.out _ _ hk2 (by simp)).1).mono ?_; rintro e2 w3 ⟨rfl, hw3, k3⟩; have hk3 : Keeps [m] w w3 := (hk2.mono (by simp)).trans k3; clear k3)
      | fail)
  all_goals (first | go_end0 | refine bodyPost_ret (results_none rfl _ _ _) rfl ?_)
  all_goals exact ⟨rfl, hw3, HP1.out.keeps hk3 (by simpa using hpm), (HK1.out.mono (by simp)).trans (hk3.mono (by simp))⟩

set_option maxHeartbeats 1600000 in
theorem dqStealNone (m p : Nat) (at_ size top bottom task : Int) (rest : List Value) (e : TypeId) (st : WSt) (w : World) (v : Int) (won : Bool) (hw : Wk w m st) (hp : Row w p e (stCells m at_ size top bottom task rest)) (hpm : p ≠ m) (ho : st.over = false) (hs : st.sub = none) (hu : 0 < st.under) (u1 : M.U v) (u2 : M.U top) (hA : dqAhead v top < 1) :
    Calls Tryz.prog 169 #[.pointer (some ⟨p, 0, none⟩), .int .u64 v, .bool won] w fun e' w' => e' = .returned (.tuple #[]) ∧
      ∃ l', Wk w' m { st with nxt := .nilFunc, after := .nilFunc, over := true, code := 5, v := 0, l := l' } ∧ w'.ownsRow w.heap.size 26 1 l' 0 [] ∧ Keeps [m] w w' := by
  obtain ⟨W1, hW1⟩ : ∃ W1, w = W1 := ⟨_, rfl⟩
  have hp1 : Row W1 p e (stCells m at_ size top bottom task rest) := by rw [← hW1]; exact hp
  have hk1 : Keeps [p] w W1 := by rw [← hW1]; exact Keeps.refl _ _
  have hkV : Keeps [] W1 W1 := Keeps.refl _ _
  have HW : Hid (Wk W1 m st) := Lib.hid (hw.keeps hk1 (by simpa using Ne.symm hpm))
  have HS := Lib.hid (st_cells hp1)
  have HK1 := Lib.hid hk1
  have HP1 := Lib.hid hp1
  subst hW1
  obtain ⟨h0, h1, h2, h3, h4, h5⟩ := HS.out _ [] (Keeps.refl _ _) (by simp)
  have HE := Lib.hid (fun W (h : Wk W m st) => wBreak m st 5 W h ho (.inl hu))
  have dA : decide (dqAhead v top < 1) = true := decide_eq_true hA
  clear hw hp ho hs hp1 hk1 hu
  go_enter Tryz.func169, Tryz.ntmps169
  go_wp2_with fail
  refine (dqAhead_any _ _ _ u1 u2).mono ?_
  rintro e1 w1 ⟨rfl, rfl⟩
  go_wp2_with fail
  refine (HE.out w (HW.out.keeps hkV (by simp))).mono ?_
  rintro e2 w3 ⟨rfl, l', hw3, ho3, k3⟩
  have HQ := Lib.hid (⟨hw3, owns_base ho3 (by first | exact hkV.size | exact hkV.drew.size), hkV.nil.trans k3⟩ : _ ∧ w3.ownsRow (w).heap.size 26 1 l' 0 [] ∧ Keeps [m] w w3)
  clear hw3 k3 ho3
  go_wp2
  first | go_end0 | refine bodyPost_ret (results_none rfl _ _ _) rfl ?_
  exact ⟨rfl, _, HQ.out.1, HQ.out.2.1, HQ.out.2.2⟩

set_option maxHeartbeats 1600000 in
theorem dqPopLowered (m p : Nat) (at_ size top bottom task : Int) (rest : List Value) (e : TypeId) (st : WSt) (w : World) (v : Int) (won : Bool) (hw : Wk w m st) (hp : Row w p e (stCells m at_ size top bottom task rest)) (hpm : p ≠ m) (ho : st.over = false) (hs : st.sub = none)   :
    Calls Tryz.prog 273 #[.pointer (some ⟨p, 0, none⟩), .int .u64 v, .bool won] w fun e' w' => e' = .returned (.tuple #[]) ∧
      Wk w' m { st with x := ⟨1, at_, 0, 0⟩, nxt := .func (.func 277) #[.pointer (some ⟨p, 0, none⟩)] #[], sub := none, after := .nilFunc } ∧ Row w' p e (stCells m at_ size top bottom task rest) ∧ Keeps [m, p] w w' := by
  obtain ⟨W1, hW1⟩ : ∃ W1, w = W1 := ⟨_, rfl⟩
  have hp1 : Row W1 p e (stCells m at_ size top bottom task rest) := by rw [← hW1]; exact hp
  have hk1 : Keeps [p] w W1 := by rw [← hW1]; exact Keeps.refl _ _
  have hkV : Keeps [] W1 W1 := Keeps.refl _ _
  have HW : Hid (Wk W1 m st) := Lib.hid (hw.keeps hk1 (by simpa using Ne.symm hpm))
  have HS := Lib.hid (st_cells hp1)
  have HK1 := Lib.hid hk1
  have HP1 := Lib.hid hp1
  subst hW1
  obtain ⟨h0, h1, h2, h3, h4, h5⟩ := HS.out _ [] (Keeps.refl _ _) (by simp)
  have HE := Lib.hid (fun W (h : Wk W m st) c0 => dqLoad_any m p (at_) (.func 277) #[.pointer (some ⟨p, 0, none⟩)] #[] st W h c0 ho hs)
  clear hw hp ho hs hp1 hk1
  go_enter Tryz.func273, Tryz.ntmps273
  go_wp2
  go_still_tail 11, (by kernel_rfl)
  change wpList _ _ _ _ _ (w).drew
  go_wp2_with fail
  refine (HE.out (w).drew (HW.out.keeps hkV.drew (by simp)) (HS.out _ _ hkV.drew (by simp)).1).mono ?_
  rintro e2 w3 ⟨rfl, hw3, k3⟩
  have HQ := Lib.hid (⟨hw3, hkV.nil.trans k3.undrew⟩ : _ ∧ Keeps [m] w w3)
  clear hw3 k3
  go_wp2
  first | go_end0 | refine bodyPost_ret (results_none rfl _ _ _) rfl ?_
  exact ⟨rfl, HQ.out.1, HP1.out.keeps HQ.out.2 (by simpa using hpm), (HK1.out.mono (by simp)).trans (HQ.out.2.mono (by simp))⟩

set_option maxHeartbeats 1600000 in
theorem dqPushLaid (m p : Nat) (at_ size top bottom task : Int) (rest : List Value) (e : TypeId) (st : WSt) (w : World) (v : Int) (won : Bool) (hw : Wk w m st) (hp : Row w p e (stCells m at_ size top bottom task rest)) (hpm : p ≠ m) (ho : st.over = false) (hs : st.sub = none) (a0 : 0 ≤ at_) (a1 : at_ < 65536)  :
    Calls Tryz.prog 278 #[.pointer (some ⟨p, 0, none⟩), .int .u64 v, .bool won] w fun e' w' => e' = .returned (.tuple #[]) ∧
      Wk w' m { st with x := ⟨2, at_ + 1, dqUp bottom, 0⟩, nxt := .func (.func 281) #[.pointer (some ⟨p, 0, none⟩)] #[], sub := none, after := .nilFunc } ∧ Row w' p e (stCells m at_ size top bottom task rest) ∧ Keeps [m, p] w w' := by
  obtain ⟨W1, hW1⟩ : ∃ W1, w = W1 := ⟨_, rfl⟩
  have hp1 : Row W1 p e (stCells m at_ size top bottom task rest) := by rw [← hW1]; exact hp
  have hk1 : Keeps [p] w W1 := by rw [← hW1]; exact Keeps.refl _ _
  have hkV : Keeps [] W1 W1 := Keeps.refl _ _
  have HW : Hid (Wk W1 m st) := Lib.hid (hw.keeps hk1 (by simpa using Ne.symm hpm))
  have HS := Lib.hid (st_cells hp1)
  have HK1 := Lib.hid hk1
  have HP1 := Lib.hid hp1
  subst hW1
  obtain ⟨h0, h1, h2, h3, h4, h5⟩ := HS.out _ [] (Keeps.refl _ _) (by simp)
  have HE := Lib.hid (fun W (h : Wk W m st) c0 => dqStore_any m p (at_ + 1) (dqUp bottom) (.func 281) #[.pointer (some ⟨p, 0, none⟩)] #[] st W h c0 ho hs)
  have hup : IntKind.u64.wrap (bottom + 1) = dqUp bottom := rfl
  clear hw hp ho hs hp1 hk1
  go_enter Tryz.func278, Tryz.ntmps278
  go_wp2
  go_region_held3 (fun w' => w'.cell? ⟨p, 0, none⟩ = some (.pointer (some ⟨m, 0, none⟩)) ∧ w'.cell? ⟨p, 1, none⟩ = some (.int .i64 at_) ∧ w'.cell? ⟨p, 2, none⟩ = some (.int .i64 size) ∧ w'.cell? ⟨p, 3, none⟩ = some (.int .u64 top) ∧ w'.cell? ⟨p, 4, none⟩ = some (.int .u64 bottom) ∧ w'.cell? ⟨p, 5, none⟩ = some (.int .u64 task))
    (first
      | exact HS.out _ _ hk3 (by simpa using hpm)
      | exact HS.out _ _ hk2 (by simp)
      | exact ⟨by assumption, by assumption, by assumption, by assumption, by assumption, by assumption⟩
      | fail)
    (first
      | (go_at_call 168; refine (dqBottom_any at_ size _ a0 a1).mono ?_; rintro e2 w2 ⟨rfl, k2⟩; have hk2 : Keeps [] w w2 := hkV.trans k2.undrew; clear k2)
      | (go_at_call 272; refine (HE.out _ (HW.out.keeps hk2 (by simp)) (HS.out _ _ hk2 (by simp)).1).mono ?_; rintro e2 w3 ⟨rfl, hw3, k3⟩; have hk3 : Keeps [m] w w3 := (hk2.mono (by simp)).trans k3; clear k3)
      | fail)
  all_goals (first | go_end0 | refine bodyPost_ret (results_none rfl _ _ _) rfl ?_)
  all_goals exact ⟨rfl, hw3, HP1.out.keeps hk3 (by simpa using hpm), (HK1.out.mono (by simp)).trans (hk3.mono (by simp))⟩

set_option maxHeartbeats 1600000 in
theorem dqRestore (m p : Nat) (at_ size top bottom task : Int) (rest : List Value) (e : TypeId) (st : WSt) (w : World) (hw : Wk w m st) (hp : Row w p e (stCells m at_ size top bottom task rest)) (hpm : p ≠ m) (ho : st.over = false) (hs : st.sub = none) (a0 : 0 ≤ at_) (a1 : at_ < 65536)  :
    Calls Tryz.prog 279 #[.pointer (some ⟨p, 0, none⟩)] w fun e' w' => e' = .returned (.tuple #[]) ∧
      Wk w' m { st with x := ⟨2, at_ + 1, dqUp bottom, 0⟩, nxt := .func (.func 282) #[.pointer (some ⟨p, 0, none⟩)] #[], sub := none, after := .nilFunc } ∧ Row w' p e (stCells m at_ size top bottom task rest) ∧ Keeps [m, p] w w' := by
  obtain ⟨W1, hW1⟩ : ∃ W1, w = W1 := ⟨_, rfl⟩
  have hp1 : Row W1 p e (stCells m at_ size top bottom task rest) := by rw [← hW1]; exact hp
  have hk1 : Keeps [p] w W1 := by rw [← hW1]; exact Keeps.refl _ _
  have hkV : Keeps [] W1 W1 := Keeps.refl _ _
  have HW : Hid (Wk W1 m st) := Lib.hid (hw.keeps hk1 (by simpa using Ne.symm hpm))
  have HS := Lib.hid (st_cells hp1)
  have HK1 := Lib.hid hk1
  have HP1 := Lib.hid hp1
  subst hW1
  obtain ⟨h0, h1, h2, h3, h4, h5⟩ := HS.out _ [] (Keeps.refl _ _) (by simp)
  have HE := Lib.hid (fun W (h : Wk W m st) c0 => dqStore_any m p (at_ + 1) (dqUp bottom) (.func 282) #[.pointer (some ⟨p, 0, none⟩)] #[] st W h c0 ho hs)
  have hup : IntKind.u64.wrap (bottom + 1) = dqUp bottom := rfl
  clear hw hp ho hs hp1 hk1
  go_enter Tryz.func279, Tryz.ntmps279
  go_wp2
  go_region_held3 (fun w' => w'.cell? ⟨p, 0, none⟩ = some (.pointer (some ⟨m, 0, none⟩)) ∧ w'.cell? ⟨p, 1, none⟩ = some (.int .i64 at_) ∧ w'.cell? ⟨p, 2, none⟩ = some (.int .i64 size) ∧ w'.cell? ⟨p, 3, none⟩ = some (.int .u64 top) ∧ w'.cell? ⟨p, 4, none⟩ = some (.int .u64 bottom) ∧ w'.cell? ⟨p, 5, none⟩ = some (.int .u64 task))
    (first
      | exact HS.out _ _ hk3 (by simpa using hpm)
      | exact HS.out _ _ hk2 (by simp)
      | exact ⟨by assumption, by assumption, by assumption, by assumption, by assumption, by assumption⟩
      | fail)
    (first
      | (go_at_call 168; refine (dqBottom_any at_ size _ a0 a1).mono ?_; rintro e2 w2 ⟨rfl, k2⟩; have hk2 : Keeps [] w w2 := hkV.trans k2.undrew; clear k2)
      | (go_at_call 272; refine (HE.out _ (HW.out.keeps hk2 (by simp)) (HS.out _ _ hk2 (by simp)).1).mono ?_; rintro e2 w3 ⟨rfl, hw3, k3⟩; have hk3 : Keeps [m] w w3 := (hk2.mono (by simp)).trans k3; clear k3)
      | fail)
  all_goals (first | go_end0 | refine bodyPost_ret (results_none rfl _ _ _) rfl ?_)
  all_goals exact ⟨rfl, hw3, HP1.out.keeps hk3 (by simpa using hpm), (HK1.out.mono (by simp)).trans (hk3.mono (by simp))⟩

set_option maxHeartbeats 1600000 in
theorem dqStealTask (m p : Nat) (at_ size top bottom task : Int) (rest : List Value) (e : TypeId) (st : WSt) (w : World) (v : Int) (won : Bool) (hw : Wk w m st) (hp : Row w p e (stCells m at_ size top bottom task rest)) (hpm : p ≠ m) (ho : st.over = false) (hs : st.sub = none)  (hU : M.U top) :
    Calls Tryz.prog 217 #[.pointer (some ⟨p, 0, none⟩), .int .u64 v, .bool won] w fun e' w' => e' = .returned (.tuple #[]) ∧
      Wk w' m { st with x := ⟨3, at_, top, dqUp top⟩, nxt := .func (.func 231) #[.pointer (some ⟨p, 0, none⟩)] #[], sub := none, after := .nilFunc } ∧ Row w' p e (stCells m at_ size top bottom v rest) ∧ Keeps [m, p] w w' := by
  obtain ⟨W1, hW1⟩ : ∃ W1, w.setCell ⟨p, 5, none⟩ (.int .u64 v) = W1 := ⟨_, rfl⟩
  have hp1 : Row W1 p e (stCells m at_ size top bottom v rest) := by rw [← hW1]; exact hp.set 5 _
  have hk1 : Keeps [p] w W1 := by rw [← hW1]; exact (Keeps.refl [p] w).setCell (fun _ => by simp) _
  have hkV : Keeps [] W1 W1 := Keeps.refl _ _
  have oc := hp.cell (j := 5) rfl
  have oz := hp.frozen 5
  have HW : Hid (Wk W1 m st) := Lib.hid (hw.keeps hk1 (by simpa using Ne.symm hpm))
  have HS := Lib.hid (st_cells hp1)
  have HK1 := Lib.hid hk1
  have HP1 := Lib.hid hp1
  obtain ⟨h0, h1, h2, h3, h4, h5⟩ := HS.out _ [] (Keeps.refl _ _) (by simp)
  have HE := Lib.hid (fun W (h : Wk W m st) (h' : Row W p e (stCells m at_ size top bottom v rest)) => dqClaim_any m p at_ size top bottom v rest e (.func 231) #[.pointer (some ⟨p, 0, none⟩)] #[] st W h h' hU ho hs)
  clear hw hp ho hs hp1 hk1
  go_enter Tryz.func217, Tryz.ntmps217
  go_wp2_with fail
  refine (HE.out W1 (HW.out.keeps hkV (by simp)) (HP1.out.keeps hkV (by simp))).mono ?_
  rintro e2 w3 ⟨rfl, hw3, k3⟩
  have HQ := Lib.hid (⟨hw3, hkV.nil.trans k3⟩ : _ ∧ Keeps [m] W1 w3)
  clear hw3 k3
  go_wp2
  first | go_end0 | refine bodyPost_ret (results_none rfl _ _ _) rfl ?_
  exact ⟨rfl, HQ.out.1, HP1.out.keeps HQ.out.2 (by simpa using hpm), (HK1.out.mono (by simp)).trans (HQ.out.2.mono (by simp))⟩

set_option maxHeartbeats 1600000 in
theorem dqPopSlot (m p : Nat) (at_ size top bottom task : Int) (rest : List Value) (e : TypeId) (st : WSt) (w : World) (v : Int) (won : Bool) (hw : Wk w m st) (hp : Row w p e (stCells m at_ size top bottom task rest)) (hpm : p ≠ m) (ho : st.over = false) (hs : st.sub = none) (hr : dqRight at_ size) (hn : M.U bottom) (u1 : M.U bottom) (u2 : M.U v) (hA : 0 ≤ dqAhead bottom v) :
    Calls Tryz.prog 277 #[.pointer (some ⟨p, 0, none⟩), .int .u64 v, .bool won] w fun e' w' => e' = .returned (.tuple #[]) ∧
      Wk w' m { st with x := ⟨1, dqSlot at_ size bottom, 0, 0⟩, nxt := .func (.func 280) #[.pointer (some ⟨p, 0, none⟩)] #[], sub := none, after := .nilFunc } ∧ Row w' p e (stCells m at_ size v bottom task rest) ∧ Keeps [m, p] w w' := by
  obtain ⟨W1, hW1⟩ : ∃ W1, w.setCell ⟨p, 3, none⟩ (.int .u64 v) = W1 := ⟨_, rfl⟩
  have hp1 : Row W1 p e (stCells m at_ size v bottom task rest) := by rw [← hW1]; exact hp.set 3 _
  have hk1 : Keeps [p] w W1 := by rw [← hW1]; exact (Keeps.refl [p] w).setCell (fun _ => by simp) _
  have hkV : Keeps [] W1 W1 := Keeps.refl _ _
  have oc := hp.cell (j := 3) rfl
  have oz := hp.frozen 3
  have HW : Hid (Wk W1 m st) := Lib.hid (hw.keeps hk1 (by simpa using Ne.symm hpm))
  have HS := Lib.hid (st_cells hp1)
  have HK1 := Lib.hid hk1
  have HP1 := Lib.hid hp1
  obtain ⟨h0, h1, h2, h3, h4, h5⟩ := HS.out _ [] (Keeps.refl _ _) (by simp)
  have HE := Lib.hid (fun W (h : Wk W m st) c0 => dqLoad_any m p (dqSlot at_ size bottom) (.func 280) #[.pointer (some ⟨p, 0, none⟩)] #[] st W h c0 ho hs)
  have dA : decide (dqAhead bottom v < 0) = false := decide_eq_false (by omega)
  clear hw hp ho hs hp1 hk1
  go_enter Tryz.func277, Tryz.ntmps277
  go_wp2
  go_quiet ((go_at_call 215; exact qs (dqAhead_any _ _ _ u1 u2)))
  go_wp2_with fail
  generalize hV : World.drewN _ _ = W2
  replace hkV : Keeps [] W1 W2 := by rw [← hV]; exact (Keeps.refl _ _).drewN
  obtain ⟨c0, c1, c2, c3, c4, c5⟩ := HS.out W2 [] hkV (by simp)
  clear hV
  go_region_held3 (fun w' => w'.cell? ⟨p, 0, none⟩ = some (.pointer (some ⟨m, 0, none⟩)) ∧ w'.cell? ⟨p, 1, none⟩ = some (.int .i64 at_) ∧ w'.cell? ⟨p, 2, none⟩ = some (.int .i64 size) ∧ w'.cell? ⟨p, 3, none⟩ = some (.int .u64 v) ∧ w'.cell? ⟨p, 4, none⟩ = some (.int .u64 bottom) ∧ w'.cell? ⟨p, 5, none⟩ = some (.int .u64 task))
    (first
      | exact HS.out _ _ hk3 (by simpa using hpm)
      | exact HS.out _ _ hk2 (by simp)
      | exact ⟨by assumption, by assumption, by assumption, by assumption, by assumption, by assumption⟩
      | fail)
    (first
      | (go_at_call 216; refine (dqSlot_any at_ size bottom _ hr hn).mono ?_; rintro e2 w2 ⟨rfl, k2⟩; have hk2 : Keeps [] W1 w2 := hkV.trans k2.undrew; clear k2)
      | (go_at_call 126; refine (HE.out _ (HW.out.keeps hk2 (by simp)) (HS.out _ _ hk2 (by simp)).1).mono ?_; rintro e2 w3 ⟨rfl, hw3, k3⟩; have hk3 : Keeps [m] W1 w3 := (hk2.mono (by simp)).trans k3; clear k3)
      | fail)
  all_goals (first | go_end0 | refine bodyPost_ret (results_none rfl _ _ _) rfl ?_)
  all_goals exact ⟨rfl, hw3, HP1.out.keeps hk3 (by simpa using hpm), (HK1.out.mono (by simp)).trans (hk3.mono (by simp))⟩

set_option maxHeartbeats 1600000 in
theorem dqPopClaim (m p : Nat) (at_ size top bottom task : Int) (rest : List Value) (e : TypeId) (st : WSt) (w : World) (v : Int) (won : Bool) (hw : Wk w m st) (hp : Row w p e (stCells m at_ size top bottom task rest)) (hpm : p ≠ m) (ho : st.over = false) (hs : st.sub = none)  (hU : M.U top) (u1 : M.U bottom) (u2 : M.U top) (hA : dqAhead bottom top ≤ 0) :
    Calls Tryz.prog 280 #[.pointer (some ⟨p, 0, none⟩), .int .u64 v, .bool won] w fun e' w' => e' = .returned (.tuple #[]) ∧
      Wk w' m { st with x := ⟨3, at_, top, dqUp top⟩, nxt := .func (.func 283) #[.pointer (some ⟨p, 0, none⟩)] #[], sub := none, after := .nilFunc } ∧ Row w' p e (stCells m at_ size top bottom v rest) ∧ Keeps [m, p] w w' := by
  obtain ⟨W1, hW1⟩ : ∃ W1, w.setCell ⟨p, 5, none⟩ (.int .u64 v) = W1 := ⟨_, rfl⟩
  have hp1 : Row W1 p e (stCells m at_ size top bottom v rest) := by rw [← hW1]; exact hp.set 5 _
  have hk1 : Keeps [p] w W1 := by rw [← hW1]; exact (Keeps.refl [p] w).setCell (fun _ => by simp) _
  have hkV : Keeps [] W1 W1 := Keeps.refl _ _
  have oc := hp.cell (j := 5) rfl
  have oz := hp.frozen 5
  have HW : Hid (Wk W1 m st) := Lib.hid (hw.keeps hk1 (by simpa using Ne.symm hpm))
  have HS := Lib.hid (st_cells hp1)
  have HK1 := Lib.hid hk1
  have HP1 := Lib.hid hp1
  obtain ⟨h0, h1, h2, h3, h4, h5⟩ := HS.out _ [] (Keeps.refl _ _) (by simp)
  have HE := Lib.hid (fun W (h : Wk W m st) (h' : Row W p e (stCells m at_ size top bottom v rest)) => dqClaim_any m p at_ size top bottom v rest e (.func 283) #[.pointer (some ⟨p, 0, none⟩)] #[] st W h h' hU ho hs)
  have dA : decide (0 < dqAhead bottom top) = false := decide_eq_false (by omega)
  clear hw hp ho hs hp1 hk1
  go_enter Tryz.func280, Tryz.ntmps280
  go_wp2
  go_quiet ((go_at_call 215; exact qs (dqAhead_any _ _ _ u1 u2)))
  go_wp2_with fail
  generalize hV : World.drewN _ _ = W2
  replace hkV : Keeps [] W1 W2 := by rw [← hV]; exact (Keeps.refl _ _).drewN
  obtain ⟨c0, c1, c2, c3, c4, c5⟩ := HS.out W2 [] hkV (by simp)
  clear hV
  refine (HE.out W2 (HW.out.keeps hkV (by simp)) (HP1.out.keeps hkV (by simp))).mono ?_
  rintro e2 w3 ⟨rfl, hw3, k3⟩
  have HQ := Lib.hid (⟨hw3, hkV.nil.trans k3⟩ : _ ∧ Keeps [m] W1 w3)
  clear hw3 k3
  go_wp2
  first | go_end0 | refine bodyPost_ret (results_none rfl _ _ _) rfl ?_
  exact ⟨rfl, HQ.out.1, HP1.out.keeps HQ.out.2 (by simpa using hpm), (HK1.out.mono (by simp)).trans (HQ.out.2.mono (by simp))⟩

set_option maxHeartbeats 1600000 in
theorem dqPopSome (m p : Nat) (at_ size top bottom task : Int) (rest : List Value) (e : TypeId) (st : WSt) (w : World) (v : Int) (won : Bool) (hw : Wk w m st) (hp : Row w p e (stCells m at_ size top bottom task rest)) (hpm : p ≠ m) (ho : st.over = false) (hs : st.sub = none) (hu : 0 < st.under) (u1 : M.U bottom) (u2 : M.U top) (hA : 0 < dqAhead bottom top) :
    Calls Tryz.prog 280 #[.pointer (some ⟨p, 0, none⟩), .int .u64 v, .bool won] w fun e' w' => e' = .returned (.tuple #[]) ∧
      ∃ l', Wk w' m { st with nxt := .nilFunc, after := .nilFunc, over := true, code := 0, v := v, l := l' } ∧ w'.ownsRow w.heap.size 26 1 l' 0 [] ∧ Keeps [m, p] w w' := by
  obtain ⟨W1, hW1⟩ : ∃ W1, w.setCell ⟨p, 5, none⟩ (.int .u64 v) = W1 := ⟨_, rfl⟩
  have hp1 : Row W1 p e (stCells m at_ size top bottom v rest) := by rw [← hW1]; exact hp.set 5 _
  have hk1 : Keeps [p] w W1 := by rw [← hW1]; exact (Keeps.refl [p] w).setCell (fun _ => by simp) _
  have hkV : Keeps [] W1 W1 := Keeps.refl _ _
  have oc := hp.cell (j := 5) rfl
  have oz := hp.frozen 5
  have HW : Hid (Wk W1 m st) := Lib.hid (hw.keeps hk1 (by simpa using Ne.symm hpm))
  have HS := Lib.hid (st_cells hp1)
  have HK1 := Lib.hid hk1
  have HP1 := Lib.hid hp1
  obtain ⟨h0, h1, h2, h3, h4, h5⟩ := HS.out _ [] (Keeps.refl _ _) (by simp)
  have HE := Lib.hid (fun W (h : Wk W m st) => wEnd m st 0 v (.slice none 0 0) 0 [] W h ho (.inl hu) ⟨rfl, .inl ⟨_, _, rfl, rfl⟩⟩ (fun g hg => by cases hg) (by omega))
  have dA : decide (0 < dqAhead bottom top) = true := decide_eq_true hA
  clear hw hp ho hs hp1 hk1 hu
  go_enter Tryz.func280, Tryz.ntmps280
  go_wp2
  go_quiet ((go_at_call 215; exact qs (dqAhead_any _ _ _ u1 u2)))
  go_wp2_with fail
  generalize hV : World.drewN _ _ = W2
  replace hkV : Keeps [] W1 W2 := by rw [← hV]; exact (Keeps.refl _ _).drewN
  obtain ⟨c0, c1, c2, c3, c4, c5⟩ := HS.out W2 [] hkV (by simp)
  clear hV
  go_still_tail 11, (by kernel_rfl)
  change wpList _ _ _ _ _ (W2).drew
  go_wp2_with fail
  refine (HE.out (W2).drew (HW.out.keeps hkV.drew (by simp))).mono ?_
  rintro e2 w3 ⟨rfl, l', hw3, ho3, k3⟩
  have HQ := Lib.hid (⟨hw3, owns_base ho3 (by first | exact hkV.size | exact hkV.drew.size), hkV.nil.trans k3.undrew⟩ : _ ∧ w3.ownsRow (W1).heap.size 26 1 l' 0 [] ∧ Keeps [m] W1 w3)
  clear hw3 k3 ho3
  go_wp2
  first | go_end0 | refine bodyPost_ret (results_none rfl _ _ _) rfl ?_
  exact ⟨rfl, _, HQ.out.1, owns_base HQ.out.2.1 HK1.out.size, (HK1.out.mono (by simp)).trans (HQ.out.2.2.mono (by simp))⟩

set_option maxHeartbeats 1600000 in
theorem dqPushFinish (m p : Nat) (at_ size top bottom task : Int) (rest : List Value) (e : TypeId) (st : WSt) (w : World) (v : Int) (won : Bool) (hw : Wk w m st) (hp : Row w p e (stCells m at_ size top bottom task rest)) (hpm : p ≠ m) (ho : st.over = false) (hs : st.sub = none) (hu : 0 < st.under)  :
    Calls Tryz.prog 281 #[.pointer (some ⟨p, 0, none⟩), .int .u64 v, .bool won] w fun e' w' => e' = .returned (.tuple #[]) ∧
      ∃ l', Wk w' m { st with nxt := .nilFunc, after := .nilFunc, over := true, code := 0, v := 0, l := l' } ∧ w'.ownsRow w.heap.size 26 1 l' 0 [] ∧ Keeps [m] w w' := by
  obtain ⟨W1, hW1⟩ : ∃ W1, w = W1 := ⟨_, rfl⟩
  have hp1 : Row W1 p e (stCells m at_ size top bottom task rest) := by rw [← hW1]; exact hp
  have hk1 : Keeps [p] w W1 := by rw [← hW1]; exact Keeps.refl _ _
  have hkV : Keeps [] W1 W1 := Keeps.refl _ _
  have HW : Hid (Wk W1 m st) := Lib.hid (hw.keeps hk1 (by simpa using Ne.symm hpm))
  have HS := Lib.hid (st_cells hp1)
  have HK1 := Lib.hid hk1
  have HP1 := Lib.hid hp1
  subst hW1
  obtain ⟨h0, h1, h2, h3, h4, h5⟩ := HS.out _ [] (Keeps.refl _ _) (by simp)
  have HE := Lib.hid (fun W (h : Wk W m st) => wEnd m st 0 0 (.slice none 0 0) 0 [] W h ho (.inl hu) ⟨rfl, .inl ⟨_, _, rfl, rfl⟩⟩ (fun g hg => by cases hg) (by omega))
  clear hw hp ho hs hp1 hk1 hu
  go_enter Tryz.func281, Tryz.ntmps281
  go_wp2_with fail
  refine (HE.out w (HW.out.keeps hkV (by simp))).mono ?_
  rintro e2 w3 ⟨rfl, l', hw3, ho3, k3⟩
  have HQ := Lib.hid (⟨hw3, owns_base ho3 (by first | exact hkV.size | exact hkV.drew.size), hkV.nil.trans k3⟩ : _ ∧ w3.ownsRow (w).heap.size 26 1 l' 0 [] ∧ Keeps [m] w w3)
  clear hw3 k3 ho3
  go_wp2
  first | go_end0 | refine bodyPost_ret (results_none rfl _ _ _) rfl ?_
  exact ⟨rfl, _, HQ.out.1, HQ.out.2.1, HQ.out.2.2⟩
end Go.Proofs.YtjfgpplnlepnoaaGreat

/-
  Contracts: the other functions of a deque's walks: how a pop and a steal end, and how they begin.
-/
namespace Go.Proofs.YtjfgpplnlepnoaaGreat
set_option maxRecDepth 100000
set_option linter.unusedSimpArgs false
set_option linter.unusedVariables false
open Go.ChangeShapes Go.WideShapes Go.ChangeAt Go.RowKit

set_option maxHeartbeats 800000 in
theorem dqPopFinish (m p : Nat) (at_ size top bottom task code rv : Int) (v : Int) (won : Bool) (e : TypeId) (st : WSt) (w : World) (hw : Wk w m st) (hp : Row w p e (stCells m at_ size top bottom task [.int .i64 code, .int .u64 rv, .slice none 0 0])) (ho : st.over = false) (hu : 0 < st.under) :
    Calls Tryz.prog 282 #[.pointer (some ⟨p, 0, none⟩), .int .u64 v, .bool won] w fun e' w' => e' = .returned (.tuple #[]) ∧ ∃ l', Wk w' m { st with nxt := .nilFunc, after := .nilFunc, over := true, code := code, v := rv, l := l' } ∧ w'.ownsRow w.heap.size 26 1 l' 0 [] ∧ Keeps [m] w w' := by
  have HE := Lib.hid (fun W (h : Wk W m st) => wEnd m st code rv (.slice none 0 0) 0 [] W h ho (.inl hu) ⟨rfl, .inl ⟨_, _, rfl, rfl⟩⟩ (fun g hg => by cases hg) (by omega))
  have h0 := hp.cell (j := 0) rfl
  have h6 := hp.cell (j := 6) rfl
  have h7 := hp.cell (j := 7) rfl
  have h8 := hp.cell (j := 8) rfl
  have HW := Lib.hid hw
  clear hw hp ho hu
  go_enter Tryz.func282, Tryz.ntmps282
  go_wp2
  go_still_tail 9, (by kernel_rfl)
  change wpList _ _ _ _ _ w.drew
  go_wp2_with fail
  refine (HE.out w.drew (HW.out.keeps ((Keeps.refl [] w).drew) (by simp))).mono ?_
  rintro e2 w3 ⟨rfl, l', hw3, ho3, k3⟩
  have HQ := Lib.hid (⟨hw3, ho3, k3.undrew⟩ : _ ∧ w3.ownsRow w.heap.size 26 1 l' 0 [] ∧ Keeps [m] w w3)
  clear hw3 k3 ho3
  go_wp2
  first | go_end0 | refine bodyPost_ret (results_none rfl _ _ _) rfl ?_
  exact ⟨rfl, _, HQ.out⟩

set_option maxHeartbeats 800000 in
theorem dqStealWon (m p : Nat) (at_ size top bottom task : Int) (rest : List Value) (v : Int) (e : TypeId) (st : WSt) (w : World) (hw : Wk w m st) (hp : Row w p e (stCells m at_ size top bottom task rest)) (ho : st.over = false) (hu : 0 < st.under) :
    Calls Tryz.prog 231 #[.pointer (some ⟨p, 0, none⟩), .int .u64 v, .bool true] w fun e' w' => e' = .returned (.tuple #[]) ∧ ∃ l', Wk w' m { st with nxt := .nilFunc, after := .nilFunc, over := true, code := 0, v := task, l := l' } ∧ w'.ownsRow w.heap.size 26 1 l' 0 [] ∧ Keeps [m] w w' := by
  have HE := Lib.hid (fun W (h : Wk W m st) => wEnd m st 0 task (.slice none 0 0) 0 [] W h ho (.inl hu) ⟨rfl, .inl ⟨_, _, rfl, rfl⟩⟩ (fun g hg => by cases hg) (by omega))
  have h0 := hp.cell (j := 0) rfl
  have h5 := hp.cell (j := 5) rfl
  have HW := Lib.hid hw
  clear hw hp ho hu
  go_enter Tryz.func231, Tryz.ntmps231
  go_wp2
  go_still_tail 11, (by kernel_rfl)
  change wpList _ _ _ _ _ w.drew
  go_wp2_with fail
  refine (HE.out w.drew (HW.out.keeps ((Keeps.refl [] w).drew) (by simp))).mono ?_
  rintro e2 w3 ⟨rfl, l', hw3, ho3, k3⟩
  have HQ := Lib.hid (⟨hw3, ho3, k3.undrew⟩ : _ ∧ w3.ownsRow w.heap.size 26 1 l' 0 [] ∧ Keeps [m] w w3)
  clear hw3 k3 ho3
  go_wp2
  first | go_end0 | refine bodyPost_ret (results_none rfl _ _ _) rfl ?_
  exact ⟨rfl, _, HQ.out⟩
set_option maxHeartbeats 800000 in
theorem dqStealLost (m p : Nat) (at_ size top bottom task : Int) (rest : List Value) (v : Int) (e : TypeId) (st : WSt) (w : World) (hw : Wk w m st) (hp : Row w p e (stCells m at_ size top bottom task rest)) (ho : st.over = false) (hu : 0 < st.under) :
    Calls Tryz.prog 231 #[.pointer (some ⟨p, 0, none⟩), .int .u64 v, .bool false] w fun e' w' => e' = .returned (.tuple #[]) ∧ ∃ l', Wk w' m { st with nxt := .nilFunc, after := .nilFunc, over := true, code := 6, v := 0, l := l' } ∧ w'.ownsRow w.heap.size 26 1 l' 0 [] ∧ Keeps [m] w w' := by
  have HE := Lib.hid (wBreak m st 6 w hw ho (.inl hu))
  have h0 := hp.cell (j := 0) rfl
  clear hw hp ho hu
  go_enter Tryz.func231, Tryz.ntmps231
  go_wp2_with fail
  refine HE.out.mono ?_
  rintro e2 w3 ⟨rfl, l', hw3, ho3, k3⟩
  have HQ := Lib.hid (⟨hw3, ho3, k3⟩ : _ ∧ w3.ownsRow w.heap.size 26 1 l' 0 [] ∧ Keeps [m] w w3)
  clear hw3 k3 ho3
  go_wp2
  first | go_end0 | refine bodyPost_ret (results_none rfl _ _ _) rfl ?_
  exact ⟨rfl, _, HQ.out⟩

set_option maxHeartbeats 1600000 in
/-- The bottom is behind the top. -/
theorem dqPopBack (m p : Nat) (at_ size top bottom task : Int) (rest : List Value) (e : TypeId) (st : WSt) (w : World) (v : Int) (won : Bool) (hw : Wk w m st) (hp : Row w p e (stCells m at_ size top bottom task rest)) (hpm : p ≠ m) (ho : st.over = false) (hs : st.sub = none) (a0 : 0 ≤ at_) (a1 : at_ < 65536) (u1 : M.U bottom) (u2 : M.U v) (hA : dqAhead bottom v < 0) :
    Calls Tryz.prog 277 #[.pointer (some ⟨p, 0, none⟩), .int .u64 v, .bool won] w fun e' w' => e' = .returned (.tuple #[]) ∧
      Wk w' m { st with x := ⟨2, at_ + 1, dqUp bottom, 0⟩, nxt := .func (.func 282) #[.pointer (some ⟨p, 0, none⟩)] #[], sub := none, after := .nilFunc } ∧ Row w' p e (stCells m at_ size v bottom task rest) ∧ Keeps [m, p] w w' := by
  obtain ⟨W1, hW1⟩ : ∃ W1, w.setCell ⟨p, 3, none⟩ (.int .u64 v) = W1 := ⟨_, rfl⟩
  have hp1 : Row W1 p e (stCells m at_ size v bottom task rest) := by rw [← hW1]; exact hp.set 3 _
  have hk1 : Keeps [p] w W1 := by rw [← hW1]; exact (Keeps.refl [p] w).setCell (fun _ => by simp) _
  have oc := hp.cell (j := 3) rfl
  have oz := hp.frozen 3
  have HW : Hid (Wk W1 m st) := Lib.hid (hw.keeps hk1 (by simpa using Ne.symm hpm))
  have HS := Lib.hid (st_cells hp1)
  have HK1 := Lib.hid hk1
  have HP1 := Lib.hid hp1
  obtain ⟨h0, h1, h2, h3, h4, h5⟩ := HS.out _ [] (Keeps.refl _ _) (by simp)
  have HE := Lib.hid (fun W (h : Wk W m st) (h' : Row W p e (stCells m at_ size v bottom task rest)) => dqRestore m p at_ size v bottom task rest e st W h h' hpm ho hs a0 a1)
  have dA : decide (dqAhead bottom v < 0) = true := decide_eq_true hA
  clear hw hp ho hs hp1 hk1
  go_enter Tryz.func277, Tryz.ntmps277
  go_wp2
  go_quiet ((go_at_call 215; exact qs (dqAhead_any _ _ _ u1 u2)))
  go_wp2_with fail
  generalize hV : World.drewN _ _ = W2
  have hkV : Keeps [] W1 W2 := by rw [← hV]; exact (Keeps.refl _ _).drewN
  clear hV
  refine (HE.out W2 (HW.out.keeps hkV (by simp)) (HP1.out.keeps hkV (by simp))).mono ?_
  rintro e2 w3 ⟨rfl, hw3, hp3, k3⟩
  have HQ := Lib.hid (⟨hw3, hp3, HK1.out.mono (by simp) |>.trans (hkV.nil.trans k3)⟩ : _ ∧ _ ∧ Keeps [m, p] w w3)
  clear hw3 k3 hp3
  go_wp2
  first | go_end0 | refine bodyPost_ret (results_none rfl _ _ _) rfl ?_
  exact ⟨rfl, HQ.out⟩

set_option maxHeartbeats 1600000 in
theorem dqPopLost (m p : Nat) (at_ size top bottom task : Int) (rest : List Value) (e : TypeId) (st : WSt) (w : World) (v : Int) (hw : Wk w m st) (hp : Row w p e (stCells m at_ size top bottom task rest)) (hpm : p ≠ m) (ho : st.over = false) (hs : st.sub = none) (a0 : 0 ≤ at_) (a1 : at_ < 65536) :
    Calls Tryz.prog 283 #[.pointer (some ⟨p, 0, none⟩), .int .u64 v, .bool false] w fun e' w' => e' = .returned (.tuple #[]) ∧
      Wk w' m { st with x := ⟨2, at_ + 1, dqUp bottom, 0⟩, nxt := .func (.func 282) #[.pointer (some ⟨p, 0, none⟩)] #[], sub := none, after := .nilFunc } ∧ Row w' p e (stCells m at_ size top bottom task rest) ∧ Keeps [m, p] w w' := by
  have HE := Lib.hid (dqRestore m p at_ size top bottom task rest e st w hw hp hpm ho hs a0 a1)
  clear hw hp ho hs
  go_enter Tryz.func283, Tryz.ntmps283
  go_wp2_with fail
  refine HE.out.mono ?_
  rintro e2 w3 ⟨rfl, hw3, hp3, k3⟩
  have HQ := Lib.hid (⟨hw3, hp3, k3⟩ : _ ∧ _ ∧ Keeps [m, p] w w3)
  clear hw3 k3 hp3
  go_wp2
  first | go_end0 | refine bodyPost_ret (results_none rfl _ _ _) rfl ?_
  exact ⟨rfl, HQ.out⟩

set_option maxHeartbeats 1600000 in
theorem dqPopWon (m p : Nat) (at_ size top bottom task c0 v0 : Int) (e : TypeId) (st : WSt) (w : World) (v : Int) (hw : Wk w m st) (hp : Row w p e (stCells m at_ size top bottom task [.int .i64 c0, .int .u64 v0, .slice none 0 0])) (hpm : p ≠ m) (ho : st.over = false) (hs : st.sub = none) (hout : st.outer = .slice none 0 0) (a0 : 0 ≤ at_) (a1 : at_ < 65536) :
    Calls Tryz.prog 283 #[.pointer (some ⟨p, 0, none⟩), .int .u64 v, .bool true] w fun e' w' => e' = .returned (.tuple #[]) ∧ ∃ t ov g o b,
      Wk w' m { st with tasks := t, outer := ov, x := ⟨2, at_ + 1, dqUp bottom, 0⟩, nxt := .func (.func 282) #[.pointer (some ⟨p, 0, none⟩)] #[], sub := none, after := .nilFunc } ∧ Row w' p e (stCells m at_ size top bottom task [.int .i64 0, .int .u64 task, .slice none 0 0]) ∧
      w'.ownsRow w.heap.size 26 1 t 1 [.int .u64 task] ∧ DqWatch w' m p g o b ov ∧ (w.heap.size ≤ g ∧ w.heap.size ≤ o ∧ w.heap.size ≤ b) ∧ b ≠ o ∧ (∀ x, t.ownBlock = some x → x ≠ g ∧ x ≠ o ∧ x ≠ b) ∧ Keeps [m, p] w w' := by
  have HE := Lib.hid (dqHold_any m p at_ size top bottom task _ e st w hw hp hpm ho hout)
  have HP := Lib.hid hp
  have hplt := hp.lt
  have hmlt := hw.lt
  have HR := Lib.hid (fun t ov W h h' => dqRestore m p at_ size top bottom task [.int .i64 0, .int .u64 task, .slice none 0 0] e { st with tasks := t, outer := ov } W h h' hpm ho hs a0 a1)
  clear hw hp ho hs hout
  go_enter Tryz.func283, Tryz.ntmps283
  go_wp2_with fail
  refine HE.out.mono ?_
  rintro e2 w3 ⟨rfl, t, ov, g, o, b, hw3, ht3, hd3, ⟨g3, o3, b3⟩, hbo, htx, k3⟩
  have hp3 := HP.out.keeps k3 (by simpa using hpm)
  have q5 := hp3.cell (j := 5) rfl
  have q6 := hp3.cell (j := 6) rfl
  have q7 := hp3.cell (j := 7) rfl
  have q8 := hp3.cell (j := 8) rfl
  have f6 := hp3.frozen 6
  have f7 := hp3.frozen 7
  have f8 := hp3.frozen 8
  have HH : Hid (_ ∧ _ ∧ _ ∧ _ ∧ _) := Lib.hid ⟨hw3, ht3, hd3, htx, k3⟩
  have HP3 := Lib.hid hp3
  clear hw3 ht3 hd3 htx k3 hp3
  obtain ⟨W4, hW4⟩ : ∃ W4, ((w3.setCell ⟨p, 6, none⟩ (.int .i64 0)).setCell ⟨p, 7, none⟩ (.int .u64 task)).setCell ⟨p, 8, none⟩ (.slice none 0 0) = W4 := ⟨_, rfl⟩
  have k4 : Keeps [p] w3 W4 := by rw [← hW4]; exact (((Keeps.refl [p] w3).setCell (fun _ => by simp) _).setCell (fun _ => by simp) _).setCell (fun _ => by simp) _
  have hp4 : Row W4 p e (stCells m at_ size top bottom task [.int .i64 0, .int .u64 task, .slice none 0 0]) := by rw [← hW4]; exact ((HP3.out.set 6 _).set 7 _).set 8 _
  have HW4 : Hid (Wk W4 m { st with tasks := t, outer := ov }) := Lib.hid (HH.out.1.keeps k4 (by simpa using Ne.symm hpm))
  have HP4 := Lib.hid hp4
  have HK4 := Lib.hid k4
  clear k4 hp4
  go_wp2_with fail
  refine (HR.out t ov W4 HW4.out HP4.out).mono ?_
  rintro e3 w5 ⟨rfl, hw5, hp5, k5⟩
  have HQ : Hid (_ ∧ _ ∧ _) := Lib.hid ⟨hw5, hp5, k5⟩
  clear hw5 hp5 k5
  go_wp2
  first | go_end0 | refine bodyPost_ret (results_none rfl _ _ _) rfl ?_
  obtain ⟨hw3, ht3, hd3, htx, k3⟩ := HH.out
  obtain ⟨hw5, hp5, k5⟩ := HQ.out
  have k35 : Keeps [m, p] w3 w5 := (HK4.out.mono (by simp)).trans k5
  have kk : Keeps [m, p] w w5 := (k3.mono (by simp)).trans k35
  have htl := fun x hx => ht3.lt x hx
  exact ⟨rfl, t, ov, g, o, b, hw5, hp5, owns_keeps ht3 k35 (fun x hx => by have := htl x hx; simp; omega), hd3.keeps k35 (by simp; omega) (by simp; omega) (by simp; omega), ⟨g3, o3, b3⟩, hbo, htx, kk⟩

set_option maxHeartbeats 1600000 in
theorem dqPushBegin (m p : Nat) (at_ size top bottom task : Int) (rest : List Value) (e : TypeId) (st : WSt) (w : World) (hw : Wk w m st) (hp : Row w p e (stCells m at_ size top bottom task rest)) (hpm : p ≠ m) (ho : st.over = false) (hs : st.sub = none) (hout : st.outer = .slice none 0 0) (a0 : 0 ≤ at_) (a1 : at_ < 65536) :
    Calls Tryz.prog 268 #[.pointer (some ⟨p, 0, none⟩)] w fun e' w' => e' = .returned (.tuple #[]) ∧ ∃ t ov g o b,
      Wk w' m { st with tasks := t, outer := ov, x := ⟨1, at_ + 1, 0, 0⟩, nxt := .func (.func 271) #[.pointer (some ⟨p, 0, none⟩)] #[], sub := none, after := .nilFunc } ∧ Row w' p e (stCells m at_ size top bottom task rest) ∧
      w'.ownsRow w.heap.size 26 1 t 1 [.int .u64 task] ∧ DqWatch w' m p g o b ov ∧ (w.heap.size ≤ g ∧ w.heap.size ≤ o ∧ w.heap.size ≤ b) ∧ b ≠ o ∧ (∀ x, t.ownBlock = some x → x ≠ g ∧ x ≠ o ∧ x ≠ b) ∧ Keeps [m] w w' := by
  have HE := Lib.hid (dqHold_any m p at_ size top bottom task _ e st w hw hp hpm ho hout)
  have HP := Lib.hid hp
  have hplt := hp.lt
  have hmlt := hw.lt
  have HOV := Lib.hid (show st.over = false ∧ st.sub = none from ⟨ho, hs⟩)
  clear hw hp ho hs hout
  go_enter Tryz.func268, Tryz.ntmps268
  go_wp2_with fail
  refine HE.out.mono ?_
  rintro e2 w3 ⟨rfl, t, ov, g, o, b, hw3, ht3, hd3, ⟨g3, o3, b3⟩, hbo, htx, k3⟩
  have hp3 := HP.out.keeps k3 (by simpa using hpm)
  have HS := Lib.hid (st_cells hp3)
  obtain ⟨h0, h1, h2, h3, h4, h5⟩ := HS.out _ [] (Keeps.refl _ _) (by simp)
  have HL := Lib.hid (fun W (h : Wk W m { st with tasks := t, outer := ov }) c0 => dqLoad_any m p (at_ + 1) (.func 271) #[.pointer (some ⟨p, 0, none⟩)] #[] _ W h c0 HOV.out.1 HOV.out.2)
  have HW3 := Lib.hid hw3
  have HH : Hid (_ ∧ _ ∧ _ ∧ _) := Lib.hid ⟨ht3, hd3, htx, k3⟩
  have HP3 := Lib.hid hp3
  clear hw3 ht3 hd3 htx k3 hp3
  go_wp2
  go_region_held3 (fun w' => w'.cell? ⟨p, 0, none⟩ = some (.pointer (some ⟨m, 0, none⟩)) ∧ w'.cell? ⟨p, 1, none⟩ = some (.int .i64 at_) ∧ w'.cell? ⟨p, 2, none⟩ = some (.int .i64 size) ∧ w'.cell? ⟨p, 3, none⟩ = some (.int .u64 top) ∧ w'.cell? ⟨p, 4, none⟩ = some (.int .u64 bottom) ∧ w'.cell? ⟨p, 5, none⟩ = some (.int .u64 task))
    (first
      | exact HS.out _ _ hk6 (by simpa using hpm)
      | exact HS.out _ _ hk5 (by simp)
      | exact ⟨by assumption, by assumption, by assumption, by assumption, by assumption, by assumption⟩
      | fail)
    (first
      | (go_at_call 168; refine (dqBottom_any at_ size _ a0 a1).mono ?_; rintro e4 w5 ⟨rfl, k5⟩; have hk5 : Keeps [] w3 w5 := k5.undrew; clear k5)
      | (go_at_call 126; refine (HL.out _ (HW3.out.keeps hk5 (by simp)) (HS.out _ _ hk5 (by simp)).1).mono ?_; rintro e5 w6 ⟨rfl, hw6, k6⟩; have hk6 : Keeps [m] w3 w6 := (hk5.mono (by simp)).trans k6; clear k6)
      | fail)
  all_goals (first | go_end0 | refine bodyPost_ret (results_none rfl _ _ _) rfl ?_)
  all_goals (
    obtain ⟨ht3, hd3, htx, k3⟩ := HH.out
    have htl := fun x hx => ht3.lt x hx
    exact ⟨rfl, t, ov, g, o, b, hw6, HP3.out.keeps hk6 (by simpa using hpm), owns_keeps ht3 hk6 (fun x hx => by have := htl x hx; simp; omega), hd3.keeps hk6 (by simp; omega) (by simp; omega) (by simp; omega), ⟨g3, o3, b3⟩, hbo, htx, k3.trans hk6⟩)
end Go.Proofs.YtjfgpplnlepnoaaGreat
