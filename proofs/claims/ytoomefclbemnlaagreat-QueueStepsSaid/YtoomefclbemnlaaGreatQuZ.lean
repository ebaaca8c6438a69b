/-
  Contracts: what the functions of a queue's Put do that go into the arena, or come from there.
-/
import Derived.Test.YtoomefclbemnlaaGreatQuX
import Derived.Test.YtoomefclbemnlaaGreatOnce
import Derived.Test.YtoomefclbemnlaaGreatFresh
import Derived.IntWalk
namespace Go.Proofs.YtoomefclbemnlaaGreat
set_option maxRecDepth 100000
set_option linter.unusedSimpArgs false
set_option linter.unusedVariables false
open Go.ChangeShapes Go.WideShapes Go.ChangeAt Go.RowKit

set_option maxHeartbeats 1600000 in
theorem quLink (m p : Nat) (at_ n ec en nd nx : Int) (lk ac tv : Value) (dn cd : Int) (nb no nl nc : Nat) (e : TypeId) (s : WSt) (w : World) (node : Int) (hw : Wk w m s) (hp : Row w p e (quPCells m at_ n ec en nd nx lk ac tv (.slice (some ⟨nb, no, none⟩) nl nc) dn cd)) (hpm : p ≠ m) (ho : s.over = false) (hs : s.sub = none)
    (hr : quRight at_ n) (hU : M.U nx) (hz : quNode nx = 0) (i0 : 0 ≤ nd) (i1 : nd ≤ 4294967296) (n0 : 0 ≤ node) (n1 : node < 4294967296) (kn : 0 < nl) (nl0 : nl ≤ 1000000) (x0 : w.cell? ⟨nb, no, none⟩ = some (.int .i64 node)) (lx : nb < w.heap.size) (mx : m ≠ nb) :
    Calls Tryz.prog 33 #[.pointer (some ⟨p, 0, none⟩)] w fun e' w' => e' = .returned (.tuple #[]) ∧ QuAsks m p e s w ⟨3, quNext at_ n nd, nx, arNext nx node⟩ 69 (quPCells m at_ n ec en nd nx lk ac tv (.slice (some ⟨nb, no, none⟩) nl nc) dn cd) w' := by
  obtain ⟨h0, h1, h2, h3, h4, h5, h6, h7, h8, h9, h10, h11, h12⟩ := quP_cells hp _ [] (Keeps.refl _ _) (by simp)
  have HS := Lib.hid (quP_cells hp)
  have HX := Lib.hid (fun W S (kS : Keeps S w W) (hpS : p ∉ S) (hx : nb ∉ S) => show W.cell? ⟨p, 0, none⟩ = some (.pointer (some ⟨m, 0, none⟩)) ∧ W.cell? ⟨p, 1, none⟩ = some (.int .i64 at_) ∧ W.cell? ⟨p, 2, none⟩ = some (.int .i64 n) ∧ W.cell? ⟨p, 5, none⟩ = some (.int .i64 nd) ∧ W.cell? ⟨p, 6, none⟩ = some (.int .u64 nx) ∧ W.cell? ⟨p, 10, none⟩ = some (.slice (some ⟨nb, no, none⟩) nl nc) ∧ W.cell? ⟨nb, no, none⟩ = some (.int .i64 node) from by
    obtain ⟨q0, q1, q2, q3, q4, q5, q6, q7, q8, q9, q10, -⟩ := HS.out W S kS hpS
    exact ⟨q0, q1, q2, q5, q6, q10, (kS.cell lx hx).trans x0⟩)
  have HW := Lib.hid hw
  have HP1 := Lib.hid hp
  have HN := Lib.hid (fun W => nodeOf_any nx W hU)
  have q1 : (quNode nx != 0) = false := by simpa using hz
  have HE := Lib.hid (fun W (h : Wk W m s) (hl : p < W.heap.size) c0 => quRaise_any m p (quNext at_ n nd) nx node (.func 69) #[.pointer (some ⟨p, 0, none⟩)] #[] s W h hpm hl c0 ho hs hU n0 n1)
  clear hp hw ho hs hU hz
  go_enter Tryz.func33, Tryz.ntmps33
  go_wp2_with (go_at_call 66; refine (HN.out _).mono ?_; rintro e1 w1 ⟨rfl, rfl⟩)
  go_region_held3 (fun w' => w'.cell? ⟨p, 0, none⟩ = some (.pointer (some ⟨m, 0, none⟩)) ∧ w'.cell? ⟨p, 1, none⟩ = some (.int .i64 at_) ∧ w'.cell? ⟨p, 2, none⟩ = some (.int .i64 n) ∧ w'.cell? ⟨p, 5, none⟩ = some (.int .i64 nd) ∧ w'.cell? ⟨p, 6, none⟩ = some (.int .u64 nx) ∧ w'.cell? ⟨p, 10, none⟩ = some (.slice (some ⟨nb, no, none⟩) nl nc) ∧ w'.cell? ⟨nb, no, none⟩ = some (.int .i64 node))
    (first
      | exact HX.out _ _ hk3 (by simpa using hpm) (by simpa using Ne.symm mx)
      | exact HX.out _ _ hk2 (by simp) (by simp)
      | exact ⟨by assumption, by assumption, by assumption, by assumption, by assumption, by assumption, by assumption⟩
      | fail)
    (first
      | (go_at_call 50; refine (quNext_any at_ n nd _ hr i0 i1).mono ?_; rintro e2 w2 ⟨rfl, k2⟩; have hk2 : Keeps [] w w2 := k2.undrew; clear k2)
      | (go_at_call 68; refine (HE.out _ (HW.out.keeps hk2 (by simp)) (Nat.lt_of_lt_of_le HP1.out.lt hk2.size) (HS.out _ _ hk2 (by simp)).1).mono ?_; rintro e2 w3 ⟨rfl, hw3, k3⟩; have hk3 : Keeps [m] w w3 := (hk2.mono (by simp)).trans k3; clear k3)
      | fail)
  all_goals (first | go_end0 | refine bodyPost_ret (results_none rfl _ _ _) rfl ?_)
  all_goals exact ⟨rfl, hw3, HP1.out.keeps hk3 (by simpa using hpm), hk3.mono (by simp)⟩

set_option maxHeartbeats 1600000 in
theorem quLinked (m p : Nat) (at_ n ec en nd nx : Int) (lk ac tv : Value) (dn cd : Int) (nb no nl nc j : Nat) (e : TypeId) (s : WSt) (w : World) (v : Int) (node : Int) (hw : Wk w m s) (hp : Row w p e (quPCells m at_ n ec en nd nx lk ac tv (.slice (some ⟨nb, no, none⟩) nl nc) dn cd)) (hpm : p ≠ m) (ho : s.over = false) (hs : s.sub = none)
    (hU : M.U en) (a0 : 0 ≤ at_) (a1 : at_ < 65536) (n0 : 0 ≤ node) (n1 : node < 4294967296) (kn : nl = j + 1) (nl0 : nl ≤ 1000000) (x0 : w.cell? ⟨nb, no + j, none⟩ = some (.int .i64 node)) (lx : nb < w.heap.size) (mx : m ≠ nb) :
    Calls Tryz.prog 69 #[.pointer (some ⟨p, 0, none⟩), .int .u64 v, .bool true] w fun e' w' => e' = .returned (.tuple #[]) ∧ ∃ t, w'.ownsRow w.heap.size 49 1 t 0 [] ∧
      QuAsks m p e { s with tasks := t } w ⟨3, at_ + 1, en, arNext en node⟩ 108 (quPCells m at_ n ec en nd nx lk ac tv (.slice (some ⟨nb, no, none⟩) nl nc) dn cd) w' := by
  obtain ⟨h0, h1, h2, h3, h4, h5, h6, h7, h8, h9, h10, h11, h12⟩ := quP_cells hp _ [] (Keeps.refl _ _) (by simp)
  have HS := Lib.hid (quP_cells hp)
  have HX := Lib.hid (fun W S (kS : Keeps S w W) (hpS : p ∉ S) (hx : nb ∉ S) => show W.cell? ⟨p, 0, none⟩ = some (.pointer (some ⟨m, 0, none⟩)) ∧ W.cell? ⟨p, 1, none⟩ = some (.int .i64 at_) ∧ W.cell? ⟨p, 2, none⟩ = some (.int .i64 n) ∧ W.cell? ⟨p, 4, none⟩ = some (.int .u64 en) ∧ W.cell? ⟨p, 10, none⟩ = some (.slice (some ⟨nb, no, none⟩) nl nc) ∧ W.cell? ⟨nb, no + j, none⟩ = some (.int .i64 node) from by
    obtain ⟨q0, q1, q2, q3, q4, q5, q6, q7, q8, q9, q10, -⟩ := HS.out W S kS hpS
    exact ⟨q0, q1, q2, q4, q10, (kS.cell lx hx).trans x0⟩)
  have HH := Lib.hid (wHold m s (.slice none 0 0) 0 [] w hw ⟨rfl, .inl ⟨_, _, rfl, rfl⟩⟩ (by omega))
  have HP1 := Lib.hid hp
  have HE := Lib.hid (fun t W (h : Wk W m { s with tasks := t }) (hl : p < W.heap.size) c0 => quRaise_any m p (at_ + 1) en node (.func 108) #[.pointer (some ⟨p, 0, none⟩)] #[] { s with tasks := t } W h hpm hl c0 ho hs hU n0 n1)
  have q1 : IntKind.i64.wrap ((nl : Int) - 1) = (j : Int) := by rw [kn]; rw [show ((j + 1 : Nat) : Int) - 1 = (j : Int) by omega]; exact IntWalk.i64_in _ (by omega)
  have q2 : j < nl := by omega
  have HML := Lib.hid hw.lt
  clear hp hw ho hs hU kn
  go_enter Tryz.func69, Tryz.ntmps69
  go_wp2_with fail
  refine HH.out.mono ?_
  rintro e1 w1 ⟨rfl, t, hw1, ht, k1⟩
  have HW := Lib.hid hw1
  have HT := Lib.hid ht
  have HK1 := Lib.hid k1
  obtain ⟨c0, c1, c2, c4, c10, cx⟩ := HX.out w1 _ k1 (by simpa using hpm) (by simpa using Ne.symm mx)
  have hkV : Keeps [] w1 w1 := Keeps.refl _ _
  clear hw1 ht k1
  go_wp2_with fail
  go_region_held3 (fun w' => w'.cell? ⟨p, 0, none⟩ = some (.pointer (some ⟨m, 0, none⟩)) ∧ w'.cell? ⟨p, 1, none⟩ = some (.int .i64 at_) ∧ w'.cell? ⟨p, 2, none⟩ = some (.int .i64 n) ∧ w'.cell? ⟨p, 4, none⟩ = some (.int .u64 en) ∧ w'.cell? ⟨p, 10, none⟩ = some (.slice (some ⟨nb, no, none⟩) nl nc) ∧ w'.cell? ⟨nb, no + j, none⟩ = some (.int .i64 node))
    (first
      | exact HX.out _ _ (HK1.out.trans hk3) (by simpa using hpm) (by simpa using Ne.symm mx)
      | exact HX.out _ _ (HK1.out.trans hk2.nil) (by simpa using hpm) (by simpa using Ne.symm mx)
      | exact ⟨by assumption, by assumption, by assumption, by assumption, by assumption, by assumption⟩
      | fail)
    (first
      | (go_at_call 31; refine (quTail_any at_ n _ a0 a1).mono ?_; rintro e2 w2 ⟨rfl, k2⟩; have hk2 : Keeps [] w1 w2 := k2.undrew; clear k2)
      | (go_at_call 68; refine (HE.out t _ (HW.out.keeps hk2 (by simp)) (Nat.lt_of_lt_of_le (Nat.lt_of_lt_of_le HP1.out.lt HK1.out.size) hk2.size) (HX.out _ _ (HK1.out.trans hk2.nil) (by simpa using hpm) (by simpa using Ne.symm mx)).1).mono ?_; rintro e2 w3 ⟨rfl, hw3, k3⟩; have hk3 : Keeps [m] w1 w3 := (hk2.mono (by simp)).trans k3; clear k3)
      | fail)
  all_goals (first | go_end0 | refine bodyPost_ret (results_none rfl _ _ _) rfl ?_)
  all_goals exact ⟨rfl, t, owns_keeps HT.out hk3 (fun g hg => by have := (HT.out.lt g hg).1; have := HW.out.lt; have := (HP1.out.lt); simp; intro h; subst h; have := HML.out; omega), hw3, HP1.out.keeps (HK1.out.trans hk3) (by simpa using hpm), (HK1.out.trans hk3).mono (by simp)⟩

/-- It goes into a walk of the arena in state t. -/
def QuInto (m p : Nat) (e : TypeId) (s : WSt) (w : World) (t : ArS) (F : FuncId) (cs : List Value) (w' : World) : Prop :=
  ∃ b S2, Wk w' m { s with nxt := .nilFunc, sub := some ⟨b, 0, none⟩, after := .func (.func F) #[.pointer (some ⟨p, 0, none⟩)] #[] } ∧ InOwn arenaM (arE b) m b w' S2 t ∧ (∀ k ∈ S2, w.heap.size ≤ k) ∧ Row w' p e cs ∧ Keeps [m, p] w w'
theorem QuInto.from {m p : Nat} {e : TypeId} {s : WSt} {w w1 w' : World} {t : ArS} {F : FuncId} {cs : List Value} (h : QuInto m p e s w1 t F cs w') (hk : Keeps [m, p] w w1) : QuInto m p e s w t F cs w' := by
  obtain ⟨b, S2, h1, h2, h3, h4, h5⟩ := h
  exact ⟨b, S2, h1, h2, fun k hk' => Nat.le_trans hk.size (h3 k hk'), h4, hk.trans h5⟩
theorem QuInto.cells {m p : Nat} {at_ n ec en nd nx : Int} {lk ac : Value} {rest : List Value} {e : TypeId} {s : WSt} {w w' : World} {t : ArS} {F : FuncId} (h : QuInto m p e s w t F (quSCells m at_ n ec en nd nx lk ac rest) w') :
    w'.cell? ⟨p, 0, none⟩ = some (.pointer (some ⟨m, 0, none⟩)) ∧ w'.cell? ⟨p, 1, none⟩ = some (.int .i64 at_) ∧ w'.cell? ⟨p, 2, none⟩ = some (.int .i64 n) ∧ w'.cell? ⟨p, 4, none⟩ = some (.int .u64 en) ∧ w'.cell? ⟨p, 5, none⟩ = some (.int .i64 nd) := by
  obtain ⟨b, S2, -, -, -, h4, -⟩ := h
  obtain ⟨q0, q1, q2, q3, q4, q5, -⟩ := quS_cells h4 _ [] (Keeps.refl _ _) (by simp)
  exact ⟨q0, q1, q2, q4, q5⟩
/-- A new walk of the arena, into which the one at m goes. -/
theorem quGoIn (m p b : Nat) (e : TypeId) (s : WSt) (w W1 W2 W : World) (U : List Nat) (t : ArS) (F : FuncId) (cs : List Value) (hw : Wk w m s) (hp : Row w p e cs) (hpm : p ≠ m) (ho : s.over = false) (hs : s.sub = none) (hout : ∃ q i c, s.outer = .slice q i c) (ht : t.over = none)
    (k1 : Keeps [] w W1) (hI : LoneI arenaM (arE b) b W2 U t) (k2 : Keeps [] W1 W2) (hU : ∀ k ∈ U, W1.heap.size ≤ k) (kW : Keeps [] W2 W) :
    Calls Tryz.prog 72 #[.pointer (some ⟨m, 0, none⟩), .pointer (some ⟨b, 0, none⟩), .func (.func F) #[.pointer (some ⟨p, 0, none⟩)] #[]] W fun e' w' => e' = .returned (.tuple #[]) ∧ QuInto m p e s w t F cs w' := by
  have hk : Keeps [] w W := (k1.trans k2).trans kW
  have hIW := (arRuns b).frame hI kW (by simp)
  have hmlt := hw.lt
  have hplt := hp.lt
  refine (into_made arenaM (arE b) m b U t s (.func F) #[.pointer (some ⟨p, 0, none⟩)] #[] W hIW ht ⟨arWant t, by simp [arenaM, ht]⟩ (arE_keeps b) (hw.keeps hk (by simp)) (fun h => by have := hU m h; have := k1.size; omega) ho hs hout).mono ?_
  rintro e' w' ⟨rfl, h1, ⟨g, h2, h3⟩, h4⟩
  have hnew : ∀ k ∈ m :: U, k < w.heap.size → k = m := fun k hk' hl => by
    rcases List.mem_cons.1 hk' with h | h
    · exact h
    · have := hU k h; have := k1.size; omega
  have hall : Keeps [m] w w' := (hk.nil.trans h4).mono (fun k hk' hl => by rw [hnew k hk' hl]; simp)
  refine ⟨rfl, b, g :: U, h1, h2, fun k hk' => ?_, hp.keeps hall (by simpa using hpm), hall.mono (by simp)⟩
  rcases List.mem_cons.1 hk' with rfl | h
  · exact Nat.le_trans hk.size h3
  · exact Nat.le_trans k1.size (hU k h)

set_option maxHeartbeats 1600000 in
theorem quTakeNode (m p : Nat) (at_ n ec en nd nx : Int) (lk ac tv nv : Value) (dn cd : Int) (e : TypeId) (s : WSt) (w : World) (hw : Wk w m s) (hp : Row w p e (quPCells m at_ n ec en nd nx lk ac tv nv dn cd)) (hpm : p ≠ m) (ho : s.over = false) (hs : s.sub = none) (hout : ∃ q i c, s.outer = .slice q i c) (hr : quRight at_ n) :
    Calls Tryz.prog 35 #[.pointer (some ⟨p, 0, none⟩)] w fun e' w' => e' = .returned (.tuple #[]) ∧ QuInto m p e s w (arTake (at_ + 2) n) 75 (quPCells m at_ n ec en nd nx lk ac tv nv dn cd) w' := by
  have hov : (arTake (at_ + 2) n).over = none := by simp [arTake, hr.ar]
  obtain ⟨h0, h1, h2, h3, h4, h5, h6, h7, h8, h9, h10, h11, h12⟩ := quP_cells hp _ [] (Keeps.refl _ _) (by simp)
  have HX := Lib.hid (fun W S (kS : Keeps S w W) (hpS : p ∉ S) => show W.cell? ⟨p, 0, none⟩ = some (.pointer (some ⟨m, 0, none⟩)) ∧ W.cell? ⟨p, 1, none⟩ = some (.int .i64 at_) ∧ W.cell? ⟨p, 2, none⟩ = some (.int .i64 n) from by
    obtain ⟨q0, q1, q2, -⟩ := quP_cells hp W S kS hpS
    exact ⟨q0, q1, q2⟩)
  have HE := Lib.hid (fun W1 W2 W U b k1 hI k2 hU kW => quGoIn m p b e s w W1 W2 W U (arTake (at_ + 2) n) 75 _ hw hp hpm ho hs hout hov k1 hI k2 hU kW)
  clear hp hw ho hs hov
  go_enter Tryz.func35, Tryz.ntmps35
  go_wp2
  go_region_held3 (fun w' => w'.cell? ⟨p, 0, none⟩ = some (.pointer (some ⟨m, 0, none⟩)) ∧ w'.cell? ⟨p, 1, none⟩ = some (.int .i64 at_) ∧ w'.cell? ⟨p, 2, none⟩ = some (.int .i64 n))
    (first
      | exact ⟨hkC.1, hkC.2.1, hkC.2.2.1⟩
      | exact HX.out _ _ hkB (by simp)
      | exact HX.out _ _ hkA (by simp)
      | exact ⟨by assumption, by assumption, by assumption⟩
      | fail)
    (first
      | (go_at_call 6; refine (quArena_any at_ n _ hr).mono ?_; rintro e2 w2 ⟨rfl, k2⟩; have hkA : Keeps [] w w2 := k2.undrew; clear k2)
      | (go_at_call 74; refine (take_made (at_ + 2) n _).mono ?_; rintro e3 w3 ⟨b, U, rfl, hI, k3, hU⟩; have hkB : Keeps [] w w3 := hkA.trans k3)
      | (go_at_call 72; refine (HE.out _ _ _ _ _ hkA hI k3 hU (Keeps.refl _ _)).mono ?_; rintro e4 w4 ⟨rfl, hQ⟩; have hkC := hQ.cells)
      | fail)
  all_goals (first | go_end0 | refine bodyPost_ret (results_none rfl _ _ _) rfl ?_)
  all_goals exact ⟨rfl, hQ⟩

set_option maxHeartbeats 1600000 in
theorem quTookBad (m p : Nat) (at_ n ec en nd nx : Int) (lk ac tv nv : Value) (dn cd : Int) (e : TypeId) (w : World) (code rv : Int) (rq : Option Addr) (rn rc : Nat) (Q : World → Prop) (hp : Row w p e (quPCells m at_ n ec en nd nx lk ac tv nv dn cd)) (hc : code ≠ 0)
    (hF : ∀ W, Keeps [p] w W → Row W p e (quPCells m at_ n ec en nd nx lk ac tv nv dn code) → Calls Tryz.prog 118 #[.pointer (some ⟨p, 0, none⟩)] W fun e' w' => e' = .returned (.tuple #[]) ∧ Q w') :
    Calls Tryz.prog 75 #[.pointer (some ⟨p, 0, none⟩), .agg #[.int .i64 code, .int .u64 rv, .slice rq rn rc]] w fun e' w' => e' = .returned (.tuple #[]) ∧ Q w' := by
  obtain ⟨W1, hW1⟩ : ∃ W1, w.alloc (.cells #[.int .i64 code, .int .u64 rv, .slice rq rn rc] 56) = W1 := ⟨_, rfl⟩
  have hb : Box W1 w.heap.size #[.int .i64 code, .int .u64 rv, .slice rq rn rc] := by rw [← hW1]; exact Box.new _ _ _
  have k1 : Keeps [] w W1 := by rw [← hW1]; exact (Keeps.refl _ _).alloc _
  have hp1 := hp.keeps k1 (by simp)
  obtain ⟨h0, h1, h2, h3, h4, h5, h6, h7, h8, h9, h10, h11, h12⟩ := quP_cells hp1 _ [] (Keeps.refl _ _) (by simp)
  have f12 := hp1.frozen 12
  have c0 := hb.cells 0
  have c1 := hb.cells 1
  have q1 : (code != 0) = true := by simpa using hc
  have HF := Lib.hid (hF _ ((k1.nil (S := [p])).setCell (p := ⟨p, 12, none⟩) (fun _ => by simp) (.int .i64 code)) (hp1.set 12 _))
  clear hp hp1 hF hc hb k1
  go_enter Tryz.func75, Tryz.ntmps75
  go_wp2_with fail
  refine HF.out.mono ?_
  rintro e3 w3 ⟨rfl, hq⟩
  have HQ := Lib.hid hq
  clear hq
  go_wp2
  first | go_end0 | refine bodyPost_ret (results_none rfl _ _ _) rfl ?_
  exact ⟨rfl, HQ.out⟩

set_option maxHeartbeats 1600000 in
/-- A node was taken: it goes on with the next one, or fills them. -/
theorem quTook (more : Bool) (m p : Nat) (at_ n ec en nd nx : Int) (lk ac : Value) (nv : Value) (dn cd : Int) (e : TypeId) (w : World) (rv : Int) (rq : Option Addr) (rn rc : Nat) (tp : Option Addr) (tl tc : Nat) (nl : Nat) (nodes : List Int) (Q : World → Prop) (hp : Row w p e (quPCells m at_ n ec en nd nx lk ac (.slice tp tl tc) nv dn cd))
    (hown : w.ownsRow 0 3 1 nv nl (ints .i64 nodes)) (hnp : ∀ g, nv.ownBlock = some g → g ≠ p) (hl : nl ≤ 100000) (htl : tl ≤ 100000) (r0 : 0 ≤ rv) (r1 : rv < 4294967296) (hm : decide (nl + 1 < tl) = more)
    (hF : ∀ W nv', Keeps (p :: nv.ownBlock.toList) w W → Row W p e (quPCells m at_ n ec en nd nx lk ac (.slice tp tl tc) nv' dn cd) → W.ownsRow 0 3 1 nv' (nl + 1) (ints .i64 (nodes ++ [rv])) → (∀ g, nv'.ownBlock = some g → nv.ownBlock = some g ∨ w.heap.size ≤ g) →
      Calls Tryz.prog (if more then 35 else 119) #[.pointer (some ⟨p, 0, none⟩)] W fun e' w' => e' = .returned (.tuple #[]) ∧ Q w') :
    Calls Tryz.prog 75 #[.pointer (some ⟨p, 0, none⟩), .agg #[.int .i64 0, .int .u64 rv, .slice rq rn rc]] w fun e' w' => e' = .returned (.tuple #[]) ∧ Q w' := by
  obtain ⟨W1, hW1⟩ : ∃ W1, w.alloc (.cells #[.int .i64 0, .int .u64 rv, .slice rq rn rc] 56) = W1 := ⟨_, rfl⟩
  have hb : Box W1 w.heap.size #[.int .i64 0, .int .u64 rv, .slice rq rn rc] := by rw [← hW1]; exact Box.new _ _ _
  have k1 : Keeps [] w W1 := by rw [← hW1]; exact (Keeps.refl _ _).alloc _
  have hp1 := hp.keeps k1 (by simp)
  obtain ⟨nq, nc, hnv⟩ := (Sl.of_owns hown).len
  subst hnv
  have hown1 : W1.ownsRow 0 3 1 (.slice nq nl nc) nl (ints .i64 nodes) := owns_keeps hown k1 (by simp)
  obtain ⟨h0, h1, h2, h3, h4, h5, h6, h7, h8, h9, h10, h11, h12⟩ := quP_cells hp1 _ [] (Keeps.refl _ _) (by simp)
  have f10 := hp1.frozen 10
  have c0 := hb.cells 0
  have c1 := hb.cells 1
  have q1 : ((0 : Int) != 0) = false := by simp
  have yw : IntKind.i64.wrap rv = rv := IntWalk.i64_in _ (by omega)
  have hplt := hp1.lt
  have hpno : p ∉ (Value.slice nq nl nc).ownBlock.toList := fun h => hnp p (by simpa using h) rfl
  have hvA : (W1.alloc (.cells #[.int .i64 rv] 3)).drew.cell? ⟨p, 10, none⟩ = some (.slice nq nl nc) := (((Keeps.refl [] W1).alloc (.cells #[.int .i64 rv] 3)).cell (p := ⟨p, 10, none⟩) hplt (by simp)).trans h10
  have hfA : (W1.alloc (.cells #[.int .i64 rv] 3)).drew.frozen? ⟨p, 10, none⟩ = false := (((Keeps.refl [] W1).alloc (.cells #[.int .i64 rv] 3)).frozen (p := ⟨p, 10, none⟩) hplt (by simp)).trans f10
  have hLit : ∀ j u, [Value.int .i64 rv][j]? = some u → (W1.alloc (.cells #[.int .i64 rv] 3)).drew.cell? ⟨W1.heap.size, j, none⟩ = some u := fun j u hu => by
    show (W1.alloc (.cells #[.int .i64 rv] 3)).cell? ⟨W1.heap.size, j, none⟩ = some u
    rw [World.cell?_alloc_at _ _ _ _ rfl, ← Array.getElem?_toList]; exact hu
  have HOwnA : Hid ((W1.alloc (.cells #[.int .i64 rv] 3)).drew.ownsRow 0 3 1 (.slice nq nl nc) nl (ints .i64 nodes)) := Lib.hid (owns_keeps hown1 (((Keeps.refl [] W1).alloc (.cells #[.int .i64 rv] 3)).drew) (by simp))
  have HP1 := Lib.hid hp1
  have HK1 := Lib.hid k1
  have HF := Lib.hid hF
  have HI : Hid (ints .i64 (nodes ++ [rv]) = ints .i64 nodes ++ [.int .i64 rv]) := Lib.hid (by simp [ints])
  clear hp hp1 hF hb k1 hown hown1
  go_enter Tryz.func75, Tryz.ntmps75
  go_wp2_with fail
  go_region_law (first | (refine step_append_fresh (by rfl) _ _ 78 (by rfl) 0 3 _ 1 8 Tryz.underlying78 elemInt' _ nl (ints .i64 nodes) (by rfl) HOwnA.out _ [.int .i64 rv] (by rfl) rfl (by simp [Value.oneCell']) (fun j u hu => hLit j u hu) (by omega) (Nat.zero_le _) ?_; intro v10 w10 own10 k10 f10' ne10; have hv10 := (k10.cell (p := ⟨p, 10, none⟩) (by simp; omega) hpno).trans hvA; have hf10 := (k10.frozen (p := ⟨p, 10, none⟩) (by simp; omega) hpno).trans hfA; obtain ⟨p10, c10, rfl⟩ := (Sl.of_owns own10).len))
  all_goals
    have kA : Keeps (Value.slice nq nl nc).ownBlock.toList w w10 := ((HK1.out.trans (((Keeps.refl [] W1).alloc (.cells #[.int .i64 rv] 3)).drew)).nil).trans k10
    have hpA := ((HP1.out.keeps (((Keeps.refl [] W1).alloc (.cells #[.int .i64 rv] 3)).drew) (by simp)).keeps k10 hpno).set 10 (.slice p10 (nl + 1) c10)
    have hpnew : ∀ g, (Value.slice p10 (nl + 1) c10).ownBlock = some g → g ≠ p := fun g hg => by
      rcases f10' g hg with h | h
      · exact hnp g h
      · have : g ≥ (W1.alloc (.cells #[.int .i64 rv] 3)).drew.heap.size := h
        simp at this
        omega
    obtain ⟨W5, hW5⟩ : ∃ W5, w10.setCell ⟨p, 10, none⟩ (.slice p10 (nl + 1) c10) = W5 := ⟨_, rfl⟩
    rw [hW5] at hpA
    have k5 : Keeps [p] w10 W5 := by rw [← hW5]; exact (Keeps.refl _ _).set (by simp) _ _
    have own5 : W5.ownsRow 0 3 1 (.slice p10 (nl + 1) c10) (nl + 1) (ints .i64 (nodes ++ [rv])) := by
      rw [HI.out]
      exact owns_keeps own10 k5 (fun g hg => by simpa using hpnew g hg)
    obtain ⟨d0, d1, d2, d3, d4, d5, d6, d7, d8, d9, d10, d11, d12⟩ := quP_cells hpA _ [] (Keeps.refl _ _) (by simp)
    have hk1z := HK1.out.size
    have hF5 := Lib.hid (fun W (k : Keeps [] W5 W) => HF.out W (.slice p10 (nl + 1) c10) (((kA.mono (T := p :: (Value.slice nq nl nc).ownBlock.toList) (fun x hx _ => List.mem_cons_of_mem _ hx)).trans (k5.mono (fun x hx _ => by simp at hx; subst hx; simp))).trans (k.mono (by simp))) (hpA.keeps k (by simp)) (owns_keeps own5 k (by simp))
      (fun g hg => (f10' g hg).imp_right fun h => by have : g ≥ (W1.alloc (.cells #[.int .i64 rv] 3)).drew.heap.size := h; simp at this; omega))
    clear own10 k10 f10' ne10 hv10 hf10 hvA hfA hLit kA hpA own5 k5 h9 h10 hk1z
    cases more
    · have hm' : decide (((nl : Nat) : Int) + 1 < (tl : Int)) = false := by
        have := of_decide_eq_false hm
        exact decide_eq_false (by omega)
      clear hm
      go_wp2
      go_region
      go_wp2_with fail
      refine (hF5.out _ ((Keeps.refl [] _).drew)).mono ?_
      rintro e3 w3 ⟨rfl, hq⟩
      have HQ := Lib.hid hq
      clear hq
      go_wp2
      first | go_end0 | refine bodyPost_ret (results_none rfl _ _ _) rfl ?_
      exact ⟨rfl, HQ.out⟩
    · have hm' : decide (((nl : Nat) : Int) + 1 < (tl : Int)) = true := by
        have := of_decide_eq_true hm
        exact decide_eq_true (by omega)
      clear hm
      go_wp2
      go_region
      go_wp2_with fail
      refine (hF5.out _ ((Keeps.refl [] _).drew)).mono ?_
      rintro e3 w3 ⟨rfl, hq⟩
      have HQ := Lib.hid hq
      clear hq
      go_wp2
      first | go_end0 | refine bodyPost_ret (results_none rfl _ _ _) rfl ?_
      exact ⟨rfl, HQ.out⟩
end Go.Proofs.YtoomefclbemnlaaGreat
