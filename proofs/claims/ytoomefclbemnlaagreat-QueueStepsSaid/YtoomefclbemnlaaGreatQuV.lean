/-
  Contracts: what the functions of a queue's walks share (written in part by wip/tools/qugen.py).
-/
import Derived.Test.YtoomefclbemnlaaGreatQuW
import Derived.Deep.RegionHeld3
namespace Go.Proofs.YtoomefclbemnlaaGreat
set_option maxRecDepth 100000
set_option linter.unusedSimpArgs false
set_option linter.unusedVariables false
open Go.ChangeShapes Go.WideShapes Go.ChangeAt Go.RowKit

/-- What a walk of a queue knows. -/
def quSCells (m : Nat) (at_ n ec en nd nx : Int) (lk ac : Value) (rest : List Value) : List Value := [.pointer (some ⟨m, 0, none⟩), .int .i64 at_, .int .i64 n, .int .i64 ec, .int .u64 en, .int .i64 nd, .int .u64 nx, lk, ac] ++ rest
@[reducible] def quPCells (m : Nat) (at_ n ec en nd nx : Int) (lk ac tv nv : Value) (dn cd : Int) : List Value := quSCells m at_ n ec en nd nx lk ac [tv, nv, .int .i64 dn, .int .i64 cd]
@[reducible] def quTCells (m : Nat) (at_ n ec en nd nx : Int) (lk ac : Value) (tl tk : Int) : List Value := quSCells m at_ n ec en nd nx lk ac [.int .u64 tl, .int .u64 tk]
theorem quS_cells {m p : Nat} {at_ n ec en nd nx : Int} {lk ac : Value} {rest : List Value} {e : TypeId} {w : World} (h : Row w p e (quSCells m at_ n ec en nd nx lk ac rest)) : ∀ W S, Keeps S w W → p ∉ S →
    W.cell? ⟨p, 0, none⟩ = some (.pointer (some ⟨m, 0, none⟩)) ∧ W.cell? ⟨p, 1, none⟩ = some (.int .i64 (at_)) ∧ W.cell? ⟨p, 2, none⟩ = some (.int .i64 (n)) ∧ W.cell? ⟨p, 3, none⟩ = some (.int .i64 (ec)) ∧ W.cell? ⟨p, 4, none⟩ = some (.int .u64 (en)) ∧ W.cell? ⟨p, 5, none⟩ = some (.int .i64 (nd)) ∧ W.cell? ⟨p, 6, none⟩ = some (.int .u64 (nx)) ∧ W.cell? ⟨p, 7, none⟩ = some (lk) ∧ W.cell? ⟨p, 8, none⟩ = some (ac) := by
  intro W S hk hp
  have h := h.keeps hk hp
  exact ⟨h.cell (j := 0) rfl, h.cell (j := 1) rfl, h.cell (j := 2) rfl, h.cell (j := 3) rfl, h.cell (j := 4) rfl, h.cell (j := 5) rfl, h.cell (j := 6) rfl, h.cell (j := 7) rfl, h.cell (j := 8) rfl⟩
theorem quP_cells {m p : Nat} {at_ n ec en nd nx : Int} {lk ac tv nv : Value} {dn cd : Int} {e : TypeId} {w : World} (h : Row w p e (quPCells m at_ n ec en nd nx lk ac tv nv dn cd)) : ∀ W S, Keeps S w W → p ∉ S →
    W.cell? ⟨p, 0, none⟩ = some (.pointer (some ⟨m, 0, none⟩)) ∧ W.cell? ⟨p, 1, none⟩ = some (.int .i64 (at_)) ∧ W.cell? ⟨p, 2, none⟩ = some (.int .i64 (n)) ∧ W.cell? ⟨p, 3, none⟩ = some (.int .i64 (ec)) ∧ W.cell? ⟨p, 4, none⟩ = some (.int .u64 (en)) ∧ W.cell? ⟨p, 5, none⟩ = some (.int .i64 (nd)) ∧ W.cell? ⟨p, 6, none⟩ = some (.int .u64 (nx)) ∧ W.cell? ⟨p, 7, none⟩ = some (lk) ∧ W.cell? ⟨p, 8, none⟩ = some (ac) ∧ W.cell? ⟨p, 9, none⟩ = some (tv) ∧ W.cell? ⟨p, 10, none⟩ = some (nv) ∧ W.cell? ⟨p, 11, none⟩ = some (.int .i64 (dn)) ∧ W.cell? ⟨p, 12, none⟩ = some (.int .i64 (cd)) := by
  intro W S hk hp
  have h := h.keeps hk hp
  exact ⟨h.cell (j := 0) rfl, h.cell (j := 1) rfl, h.cell (j := 2) rfl, h.cell (j := 3) rfl, h.cell (j := 4) rfl, h.cell (j := 5) rfl, h.cell (j := 6) rfl, h.cell (j := 7) rfl, h.cell (j := 8) rfl, h.cell (j := 9) rfl, h.cell (j := 10) rfl, h.cell (j := 11) rfl, h.cell (j := 12) rfl⟩
theorem quT_cells {m p : Nat} {at_ n ec en nd nx : Int} {lk ac : Value} {tl tk : Int} {e : TypeId} {w : World} (h : Row w p e (quTCells m at_ n ec en nd nx lk ac tl tk)) : ∀ W S, Keeps S w W → p ∉ S →
    W.cell? ⟨p, 0, none⟩ = some (.pointer (some ⟨m, 0, none⟩)) ∧ W.cell? ⟨p, 1, none⟩ = some (.int .i64 (at_)) ∧ W.cell? ⟨p, 2, none⟩ = some (.int .i64 (n)) ∧ W.cell? ⟨p, 3, none⟩ = some (.int .i64 (ec)) ∧ W.cell? ⟨p, 4, none⟩ = some (.int .u64 (en)) ∧ W.cell? ⟨p, 5, none⟩ = some (.int .i64 (nd)) ∧ W.cell? ⟨p, 6, none⟩ = some (.int .u64 (nx)) ∧ W.cell? ⟨p, 7, none⟩ = some (lk) ∧ W.cell? ⟨p, 8, none⟩ = some (ac) ∧ W.cell? ⟨p, 9, none⟩ = some (.int .u64 (tl)) ∧ W.cell? ⟨p, 10, none⟩ = some (.int .u64 (tk)) := by
  intro W S hk hp
  have h := h.keeps hk hp
  exact ⟨h.cell (j := 0) rfl, h.cell (j := 1) rfl, h.cell (j := 2) rfl, h.cell (j := 3) rfl, h.cell (j := 4) rfl, h.cell (j := 5) rfl, h.cell (j := 6) rfl, h.cell (j := 7) rfl, h.cell (j := 8) rfl, h.cell (j := 9) rfl, h.cell (j := 10) rfl⟩
/-- It asks for x; what it knows stands so. -/
def QuAsks (m p : Nat) (e : TypeId) (s : WSt) (w : World) (x : C.Acc) (F : FuncId) (cs : List Value) (w' : World) : Prop :=
  Wk w' m { s with x := x, nxt := .func (.func F) #[.pointer (some ⟨p, 0, none⟩)] #[], sub := none, after := .nilFunc } ∧ Row w' p e cs ∧ Keeps [m, p] w w'
/-- It has ended so. -/
def QuEnds (m p : Nat) (s : WSt) (w : World) (c v : Int) (w' : World) : Prop :=
  ∃ l', Wk w' m { s with nxt := .nilFunc, after := .nilFunc, over := true, code := c, v := v, l := l' } ∧ w'.ownsRow w.heap.size 49 1 l' 0 [] ∧ Keeps [m, p] w w' ∧ w'.cell? ⟨p, 0, none⟩ = some (.pointer (some ⟨m, 0, none⟩))
theorem QuAsks.from {m p : Nat} {e : TypeId} {s : WSt} {w w1 w' : World} {x : C.Acc} {F : FuncId} {cs : List Value} (h : QuAsks m p e s w1 x F cs w') (hk : Keeps [m, p] w w1) : QuAsks m p e s w x F cs w' := ⟨h.1, h.2.1, hk.trans h.2.2⟩
theorem QuEnds.from {m p : Nat} {s : WSt} {w w1 w' : World} {c v : Int} (h : QuEnds m p s w1 c v w') (hk : Keeps [m, p] w w1) : QuEnds m p s w c v w' := by
  obtain ⟨l', a, b, d, f⟩ := h
  exact ⟨l', a, owns_base b hk.size, hk.trans d, f⟩

set_option maxHeartbeats 1600000 in
theorem quBegin (m p : Nat) (at_ n ec en nd nx : Int) (lk ac : Value) (rest : List Value) (e : TypeId) (s : WSt) (w : World) (hw : Wk w m s) (hp : Row w p e (quSCells m at_ n ec en nd nx lk ac rest)) (hpm : p ≠ m) (ho : s.over = false) (hs : s.sub = none) :
    Calls Tryz.prog 45 #[.pointer (some ⟨p, 0, none⟩)] w fun e' w' => e' = .returned (.tuple #[]) ∧ QuAsks m p e s w ⟨1, ec, 0, 0⟩ 89 (quSCells m at_ n ec en nd nx lk ac rest) w' := by
  have hplt := hp.lt
  have hp1 := hp
  have hk1 : Keeps [p] w w := Keeps.refl _ _
  have hkV : Keeps [] w w := Keeps.refl _ _
  have HW : Hid (Wk w m s) := Lib.hid (hw.keeps hk1 (by simpa using Ne.symm hpm))
  have HS := Lib.hid (quS_cells hp1)
  have HK1 := Lib.hid hk1
  have HP1 := Lib.hid hp1
  obtain ⟨h0, h1, h2, h3, h4, h5, h6, h7, h8⟩ := HS.out _ [] (Keeps.refl _ _) (by simp)
  have HE := Lib.hid (fun W (h : Wk W m s) (hl : p < W.heap.size) c0 => quLoad_any m p ec (.func 89) #[.pointer (some ⟨p, 0, none⟩)] #[] s W h c0 ho hs)
  clear hw hp ho hs hp1 hk1
  go_enter Tryz.func45, Tryz.ntmps45
  go_wp2_with (first | (go_at_call 64; refine (HE.out _ HW.out HP1.out.lt (HS.out _ [] (Keeps.refl [] _) (by simp)).1).mono ?_; rintro e2 w3 ⟨rfl, hw3, hk3⟩))
  all_goals (first | go_end0 | refine bodyPost_ret (results_none rfl _ _ _) rfl ?_)
  all_goals exact ⟨rfl, hw3, HP1.out.keeps hk3 (by simpa using hpm), (HK1.out.mono (by simp)).trans (hk3.mono (by simp))⟩


set_option maxHeartbeats 1600000 in
theorem quAnew (m p : Nat) (at_ n ec en nd nx : Int) (lk ac : Value) (rest : List Value) (e : TypeId) (s : WSt) (w : World) (v : Int) (won : Bool) (hw : Wk w m s) (hp : Row w p e (quSCells m at_ n ec en nd nx lk ac rest)) (hpm : p ≠ m) (ho : s.over = false) (hs : s.sub = none) :
    Calls Tryz.prog 106 #[.pointer (some ⟨p, 0, none⟩), .int .u64 v, .bool won] w fun e' w' => e' = .returned (.tuple #[]) ∧ QuAsks m p e s w ⟨1, ec, 0, 0⟩ 89 (quSCells m at_ n ec en nd nx lk ac rest) w' := by
  have hplt := hp.lt
  have hp1 := hp
  have hk1 : Keeps [p] w w := Keeps.refl _ _
  have hkV : Keeps [] w w := Keeps.refl _ _
  have HW : Hid (Wk w m s) := Lib.hid (hw.keeps hk1 (by simpa using Ne.symm hpm))
  have HS := Lib.hid (quS_cells hp1)
  have HK1 := Lib.hid hk1
  have HP1 := Lib.hid hp1
  obtain ⟨h0, h1, h2, h3, h4, h5, h6, h7, h8⟩ := HS.out _ [] (Keeps.refl _ _) (by simp)
  have HE := Lib.hid (fun _ : Unit => quBegin m p at_ n ec en nd nx lk ac rest e s w hw hp hpm ho hs)
  clear hw hp ho hs hp1 hk1
  go_enter Tryz.func106, Tryz.ntmps106
  go_wp2_with (first | (go_at_call 45; refine (HE.out ()).mono ?_; rintro e2 w3 ⟨rfl, hw3, hp3, hk3⟩))
  all_goals (first | go_end0 | refine bodyPost_ret (results_none rfl _ _ _) rfl ?_)
  exact ⟨rfl, hw3, hp3, hk3⟩


set_option maxHeartbeats 1600000 in
theorem quLoadNext (m p : Nat) (at_ n ec en nd nx : Int) (lk ac : Value) (rest : List Value) (e : TypeId) (s : WSt) (w : World) (hw : Wk w m s) (hp : Row w p e (quSCells m at_ n ec en nd nx lk ac rest)) (hpm : p ≠ m) (ho : s.over = false) (hs : s.sub = none) (hr : quRight at_ n) (i0 : 0 ≤ nd) (i1 : nd ≤ 4294967296) :
    Calls Tryz.prog 32 #[.pointer (some ⟨p, 0, none⟩)] w fun e' w' => e' = .returned (.tuple #[]) ∧ QuAsks m p e s w ⟨1, quNext at_ n nd, 0, 0⟩ 65 (quSCells m at_ n ec en nd nx lk ac rest) w' := by
  have hplt := hp.lt
  have hp1 := hp
  have hk1 : Keeps [p] w w := Keeps.refl _ _
  have hkV : Keeps [] w w := Keeps.refl _ _
  have HW : Hid (Wk w m s) := Lib.hid (hw.keeps hk1 (by simpa using Ne.symm hpm))
  have HS := Lib.hid (quS_cells hp1)
  have HK1 := Lib.hid hk1
  have HP1 := Lib.hid hp1
  obtain ⟨h0, h1, h2, h3, h4, h5, h6, h7, h8⟩ := HS.out _ [] (Keeps.refl _ _) (by simp)
  have HE := Lib.hid (fun W (h : Wk W m s) (hl : p < W.heap.size) c0 => quLoad_any m p (quNext at_ n nd) (.func 65) #[.pointer (some ⟨p, 0, none⟩)] #[] s W h c0 ho hs)
  clear hw hp ho hs hp1 hk1
  go_enter Tryz.func32, Tryz.ntmps32
  go_wp2
  go_region_held3 (fun w' => w'.cell? ⟨p, 0, none⟩ = some (.pointer (some ⟨m, 0, none⟩)) ∧ w'.cell? ⟨p, 1, none⟩ = some (.int .i64 (at_)) ∧ w'.cell? ⟨p, 2, none⟩ = some (.int .i64 (n)) ∧ w'.cell? ⟨p, 3, none⟩ = some (.int .i64 (ec)) ∧ w'.cell? ⟨p, 4, none⟩ = some (.int .u64 (en)) ∧ w'.cell? ⟨p, 5, none⟩ = some (.int .i64 (nd)) ∧ w'.cell? ⟨p, 6, none⟩ = some (.int .u64 (nx)) ∧ w'.cell? ⟨p, 7, none⟩ = some (lk) ∧ w'.cell? ⟨p, 8, none⟩ = some (ac))
    (first
      | exact HS.out _ _ hk3 (by simpa using hpm)
      | exact HS.out _ _ hk2 (by simp)
      | exact ⟨by assumption, by assumption, by assumption, by assumption, by assumption, by assumption, by assumption, by assumption, by assumption⟩
      | fail)
    (first
      | (go_at_call 50; refine (quNext_any at_ n nd _ hr i0 i1).mono ?_; rintro e2 w2 ⟨rfl, k2⟩; have hk2 : Keeps [] w w2 := hkV.trans k2.undrew; clear k2)
      | (go_at_call 64; refine (HE.out _ (HW.out.keeps hk2 (by simp)) (Nat.lt_of_lt_of_le HP1.out.lt hk2.size) (HS.out _ _ hk2 (by simp)).1).mono ?_; rintro e2 w3 ⟨rfl, hw3, k3⟩; have hk3 : Keeps [m] w w3 := (hk2.mono (by simp)).trans k3; clear k3)
      | fail)
  all_goals (first | go_end0 | refine bodyPost_ret (results_none rfl _ _ _) rfl ?_)
  all_goals exact ⟨rfl, hw3, HP1.out.keeps hk3 (by simpa using hpm), (HK1.out.mono (by simp)).trans (hk3.mono (by simp))⟩


set_option maxHeartbeats 1600000 in
theorem quReadNext (m p : Nat) (at_ n ec en nd nx : Int) (lk ac : Value) (rest : List Value) (e : TypeId) (s : WSt) (w : World) (v : Int) (won : Bool) (hw : Wk w m s) (hp : Row w p e (quSCells m at_ n ec en nd nx lk ac rest)) (hpm : p ≠ m) (ho : s.over = false) (hs : s.sub = none) :
    Calls Tryz.prog 65 #[.pointer (some ⟨p, 0, none⟩), .int .u64 v, .bool won] w fun e' w' => e' = .returned (.tuple #[]) ∧ QuAsks m p e s w ⟨1, ec, 0, 0⟩ 104 (quSCells m at_ n ec en nd v lk ac rest) w' := by
  have hplt := hp.lt
  have oc6 := hp.cell (j := 6) rfl
  have oz6 := hp.frozen 6
  obtain ⟨W1, hW1⟩ : ∃ W1, w.setCell ⟨p, 6, none⟩ (.int .u64 (v)) = W1 := ⟨_, rfl⟩
  have hp1 : Row W1 p e (quSCells m at_ n ec en nd v lk ac rest) := by rw [← hW1]; exact (hp).set 6 _
  have hk1 : Keeps [p] w W1 := by rw [← hW1]; exact (Keeps.refl [p] w).setCell (fun _ => by simp) _
  have hkV : Keeps [] W1 W1 := Keeps.refl _ _
  have HW : Hid (Wk W1 m s) := Lib.hid (hw.keeps hk1 (by simpa using Ne.symm hpm))
  have HS := Lib.hid (quS_cells hp1)
  have HK1 := Lib.hid hk1
  have HP1 := Lib.hid hp1
  have HS0 := Lib.hid (quS_cells hp)
  obtain ⟨h0, h1, h2, h3, h4, h5, h6, h7, h8⟩ := HS.out _ [] (Keeps.refl _ _) (by simp)
  have HE := Lib.hid (fun W (h : Wk W m s) (hl : p < W.heap.size) c0 => quLoad_any m p ec (.func 104) #[.pointer (some ⟨p, 0, none⟩)] #[] s W h c0 ho hs)
  clear hw hp ho hs hp1 hk1
  go_enter Tryz.func65, Tryz.ntmps65
  go_wp2_with (first | (go_at_call 64; refine (HE.out _ HW.out HP1.out.lt (HS.out _ [] (Keeps.refl [] _) (by simp)).1).mono ?_; rintro e2 w3 ⟨rfl, hw3, hk3⟩))
  all_goals (first | go_end0 | refine bodyPost_ret (results_none rfl _ _ _) rfl ?_)
  all_goals exact ⟨rfl, hw3, HP1.out.keeps hk3 (by simpa using hpm), (HK1.out.mono (by simp)).trans (hk3.mono (by simp))⟩


set_option maxHeartbeats 800000 in
theorem quBrokenNo (m p : Nat) (at_ n ec en nd nx : Int) (lk ac : Value) (rest : List Value) (e : TypeId) (w : World) (node : Int) (hp : Row w p e (quSCells m at_ n ec en nd nx lk ac rest)) (hn : 1 ≤ node ∧ node ≤ n) :
    Calls Tryz.prog 87 #[.pointer (some ⟨p, 0, none⟩), .int .i64 node] w fun e' w' => e' = .returned (.bool false) ∧ Keeps [] w w' := by
  have HH := Lib.hid (fun W => quHas_any at_ n node W)
  rw [decide_eq_true hn] at HH
  obtain ⟨h0, h1, h2, h3, h4, h5, h6, h7, h8⟩ := quS_cells hp _ [] (Keeps.refl _ _) (by simp)
  clear hp hn
  go_enter Tryz.func87, Tryz.ntmps87
  go_wp2_with fail
  refine (HH.out _).mono ?_
  rintro e1 w1 ⟨rfl, k1⟩
  have HK := Lib.hid k1
  clear k1
  go_wp2
  go_ret
  exact ⟨rfl, HK.out⟩
set_option maxHeartbeats 800000 in
theorem quBrokenYes (m p : Nat) (at_ n ec en nd nx : Int) (lk ac : Value) (rest : List Value) (e : TypeId) (s : WSt) (w : World) (node : Int) (hw : Wk w m s) (hp : Row w p e (quSCells m at_ n ec en nd nx lk ac rest)) (hpm : p ≠ m) (ho : s.over = false) (hu : 0 < s.under) (hn : ¬ (1 ≤ node ∧ node ≤ n)) :
    Calls Tryz.prog 87 #[.pointer (some ⟨p, 0, none⟩), .int .i64 node] w fun e' w' => e' = .returned (.bool true) ∧ QuEnds m p s w 9 0 w' := by
  have HH := Lib.hid (fun W => quHas_any at_ n node W)
  rw [decide_eq_false hn] at HH
  have HC := Lib.hid (quS_cells hp)
  obtain ⟨h0, h1, h2, h3, h4, h5, h6, h7, h8⟩ := HC.out _ [] (Keeps.refl _ _) (by simp)
  have HB := Lib.hid (fun W (h : Wk W m s) => wBreak m s 9 W h ho (.inl hu))
  have HW := Lib.hid hw
  have hplt := hp.lt
  have hc0 := h0
  clear hp hn hw ho hu
  go_enter Tryz.func87, Tryz.ntmps87
  go_wp2_with fail
  refine (HH.out _).mono ?_
  rintro e1 w1 ⟨rfl, k1⟩
  obtain ⟨c0, -⟩ := HC.out _ [] k1 (by simp)
  have HK := Lib.hid k1
  clear k1
  go_wp2_with fail
  refine (HB.out _ (HW.out.keeps HK.out (by simp))).mono ?_
  rintro e2 w2 ⟨rfl, l', hw2, ho2, k2⟩
  have HP : Hid (_ ∧ _ ∧ _) := Lib.hid ⟨hw2, owns_base ho2 HK.out.size, HK.out.nil.trans k2⟩
  clear hw2 ho2 k2
  go_wp2
  go_ret
  exact ⟨rfl, l', HP.out.1, HP.out.2.1, HP.out.2.2.mono (by simp), (HP.out.2.2.cell (p := ⟨p, 0, none⟩) hplt (by simpa using hpm)).trans hc0⟩

set_option maxHeartbeats 1600000 in
theorem quReadEnd (F : FuncId) (m p : Nat) (at_ n ec en nd nx : Int) (ac : Value) (rest : List Value) (e : TypeId) (w : World) (v : Int) (won : Bool) (Q : World → Prop) (hp : Row w p e (quSCells m at_ n ec en nd nx (.func (.func F) #[.pointer (some ⟨p, 0, none⟩)] #[]) ac rest)) (hU : M.U v) (hn : ¬ quWrong n v)
    (hcf : ∀ args w, (callFunc F args).run Tryz.prog w = .ok (.enter F args) w)
    (hF : ∀ W1, Keeps [p] w W1 → Row W1 p e (quSCells m at_ n ec v (quNode v) nx (.func (.func F) #[.pointer (some ⟨p, 0, none⟩)] #[]) ac rest) → Calls Tryz.prog F #[.pointer (some ⟨p, 0, none⟩)] W1 fun e' w' => e' = .returned (.tuple #[]) ∧ Q w') :
    Calls Tryz.prog 89 #[.pointer (some ⟨p, 0, none⟩), .int .u64 v, .bool won] w fun e' w' => e' = .returned (.tuple #[]) ∧ Q w' := by
  have oc4 := hp.cell (j := 4) rfl
  have oz4 := hp.frozen 4
  have oc5 := hp.cell (j := 5) rfl
  have oz5 := hp.frozen 5
  obtain ⟨W1, hW1⟩ : ∃ W1, (w.setCell ⟨p, 4, none⟩ (.int .u64 v)).setCell ⟨p, 5, none⟩ (.int .i64 (quNode v)) = W1 := ⟨_, rfl⟩
  have hp1 : Row W1 p e (quSCells m at_ n ec v (quNode v) nx (.func (.func F) #[.pointer (some ⟨p, 0, none⟩)] #[]) ac rest) := by rw [← hW1]; exact (hp.set 4 _).set 5 _
  have hk1 : Keeps [p] w W1 := by rw [← hW1]; exact ((Keeps.refl [p] w).setCell (fun _ => by simp) _).setCell (fun _ => by simp) _
  have HN := Lib.hid (fun W => nodeOf_any v W hU)
  have hn' : 1 ≤ quNode v ∧ quNode v ≤ n := by unfold quWrong at hn; omega
  have HB := Lib.hid (fun W h => quBrokenNo m p at_ n ec v (quNode v) nx (.func (.func F) #[.pointer (some ⟨p, 0, none⟩)] #[]) ac rest e W (quNode v) h hn')
  have HS := Lib.hid (quS_cells hp1)
  obtain ⟨h0, h1, h2, h3, h4, h5, h6, h7, h8⟩ := HS.out _ [] (Keeps.refl _ _) (by simp)
  have HP1 := Lib.hid hp1
  have HK1 := Lib.hid hk1
  have HF := Lib.hid hF
  clear hp hp1 hk1 hF hn hn' hU
  go_enter Tryz.func89, Tryz.ntmps89
  go_wp2_with (go_at_call 66; refine (HN.out _).mono ?_; rintro e1 w1 ⟨rfl, rfl⟩)
  refine (HB.out _ HP1.out).mono ?_
  rintro e2 w2 ⟨rfl, k2⟩
  obtain ⟨c0, c1, c2, c3, c4, c5, c6, c7, c8⟩ := HS.out _ [] k2 (by simp)
  have HK2 := Lib.hid k2
  clear k2
  go_wp2_with fail
  refine (HF.out w2 (HK1.out.trans (HK2.out.mono (by simp))) (HP1.out.keeps HK2.out (by simp))).mono ?_
  rintro e3 w3 ⟨rfl, hq⟩
  have HQ := Lib.hid hq
  clear hq
  go_wp2
  first | go_end0 | refine bodyPost_ret (results_none rfl _ _ _) rfl ?_
  exact ⟨rfl, HQ.out⟩
set_option maxHeartbeats 1600000 in
theorem quReadEndBad (m p : Nat) (at_ n ec en nd nx : Int) (lk ac : Value) (rest : List Value) (e : TypeId) (s : WSt) (w : World) (v : Int) (won : Bool) (hw : Wk w m s) (hp : Row w p e (quSCells m at_ n ec en nd nx lk ac rest)) (hpm : p ≠ m) (ho : s.over = false) (hu : 0 < s.under) (hU : M.U v) (hn : quWrong n v) :
    Calls Tryz.prog 89 #[.pointer (some ⟨p, 0, none⟩), .int .u64 v, .bool won] w fun e' w' => e' = .returned (.tuple #[]) ∧ QuEnds m p s w 9 0 w' := by
  have oc4 := hp.cell (j := 4) rfl
  have oz4 := hp.frozen 4
  have oc5 := hp.cell (j := 5) rfl
  have oz5 := hp.frozen 5
  obtain ⟨W1, hW1⟩ : ∃ W1, (w.setCell ⟨p, 4, none⟩ (.int .u64 v)).setCell ⟨p, 5, none⟩ (.int .i64 (quNode v)) = W1 := ⟨_, rfl⟩
  have hp1 : Row W1 p e (quSCells m at_ n ec v (quNode v) nx lk ac rest) := by rw [← hW1]; exact (hp.set 4 _).set 5 _
  have hk1 : Keeps [p] w W1 := by rw [← hW1]; exact ((Keeps.refl [p] w).setCell (fun _ => by simp) _).setCell (fun _ => by simp) _
  have HN := Lib.hid (fun W => nodeOf_any v W hU)
  have hn' : ¬ (1 ≤ quNode v ∧ quNode v ≤ n) := by unfold quWrong at hn; omega
  have hw1 := hw.keeps hk1 (by simpa using Ne.symm hpm)
  have HB := Lib.hid (quBrokenYes m p at_ n ec v (quNode v) nx lk ac rest e s W1 (quNode v) hw1 hp1 hpm ho hu hn')
  have HS := Lib.hid (quS_cells hp1)
  obtain ⟨h0, h1, h2, h3, h4, h5, h6, h7, h8⟩ := HS.out _ [] (Keeps.refl _ _) (by simp)
  have HK1 := Lib.hid hk1
  clear hp hp1 hk1 hn hn' hU hw hw1 ho hu
  go_enter Tryz.func89, Tryz.ntmps89
  go_wp2_with (go_at_call 66; refine (HN.out _).mono ?_; rintro e1 w1 ⟨rfl, rfl⟩)
  refine HB.out.mono ?_
  rintro e2 w2 ⟨rfl, hE⟩
  have HE := Lib.hid hE
  clear hE
  go_wp2
  first | go_end0 | refine bodyPost_ret (results_none rfl _ _ _) rfl ?_
  exact ⟨rfl, HE.out.from (HK1.out.mono (by simp))⟩

set_option maxHeartbeats 1600000 in
theorem quReadAgainNew (m p : Nat) (at_ n ec en nd nx : Int) (lk ac : Value) (rest : List Value) (e : TypeId) (w : World) (v : Int) (won : Bool) (Q : World → Prop) (hp : Row w p e (quSCells m at_ n ec en nd nx lk ac rest)) (hne : v ≠ en)
    (hF : Calls Tryz.prog 89 #[.pointer (some ⟨p, 0, none⟩), .int .u64 v, .bool won] w fun e' w' => e' = .returned (.tuple #[]) ∧ Q w') :
    Calls Tryz.prog 104 #[.pointer (some ⟨p, 0, none⟩), .int .u64 v, .bool won] w fun e' w' => e' = .returned (.tuple #[]) ∧ Q w' := by
  obtain ⟨h0, h1, h2, h3, h4, h5, h6, h7, h8⟩ := quS_cells hp _ [] (Keeps.refl _ _) (by simp)
  have hb : (v != en) = true := by simpa using hne
  have HF := Lib.hid hF
  clear hp hF hne
  go_enter Tryz.func104, Tryz.ntmps104
  go_wp2_with fail
  refine HF.out.mono ?_
  rintro e3 w3 ⟨rfl, hq⟩
  have HQ := Lib.hid hq
  clear hq
  go_wp2
  first | go_end0 | refine bodyPost_ret (results_none rfl _ _ _) rfl ?_
  exact ⟨rfl, HQ.out⟩
set_option maxHeartbeats 1600000 in
theorem quReadAgainSame (F : FuncId) (m p : Nat) (at_ n ec en nd nx : Int) (lk : Value) (rest : List Value) (e : TypeId) (w : World) (won : Bool) (Q : World → Prop) (hp : Row w p e (quSCells m at_ n ec en nd nx lk (.func (.func F) #[.pointer (some ⟨p, 0, none⟩)] #[]) rest))
    (hcf : ∀ args w, (callFunc F args).run Tryz.prog w = .ok (.enter F args) w)
    (hF : Calls Tryz.prog F #[.pointer (some ⟨p, 0, none⟩)] w fun e' w' => e' = .returned (.tuple #[]) ∧ Q w') :
    Calls Tryz.prog 104 #[.pointer (some ⟨p, 0, none⟩), .int .u64 en, .bool won] w fun e' w' => e' = .returned (.tuple #[]) ∧ Q w' := by
  obtain ⟨h0, h1, h2, h3, h4, h5, h6, h7, h8⟩ := quS_cells hp _ [] (Keeps.refl _ _) (by simp)
  have hb : (en != en) = false := by simp
  have HF := Lib.hid hF
  clear hp hF
  go_enter Tryz.func104, Tryz.ntmps104
  go_wp2_with fail
  refine HF.out.mono ?_
  rintro e3 w3 ⟨rfl, hq⟩
  have HQ := Lib.hid hq
  clear hq
  go_wp2
  first | go_end0 | refine bodyPost_ret (results_none rfl _ _ _) rfl ?_
  exact ⟨rfl, HQ.out⟩

set_option maxHeartbeats 1600000 in
theorem quMoveTail (m p : Nat) (at_ n ec en nd nx : Int) (lk ac : Value) (rest : List Value) (e : TypeId) (s : WSt) (w : World) (t : Int) (hw : Wk w m s) (hp : Row w p e (quSCells m at_ n ec en nd nx lk ac rest)) (hpm : p ≠ m) (ho : s.over = false) (hs : s.sub = none) (hU : M.U nx) (hT : M.U t) (hn : ¬ quWrong n nx) (a0 : 0 ≤ at_) (a1 : at_ < 65536) :
    Calls Tryz.prog 67 #[.pointer (some ⟨p, 0, none⟩), .int .u64 t] w fun e' w' => e' = .returned (.tuple #[]) ∧ QuAsks m p e s w ⟨3, at_ + 1, t, arNext t (quNode nx)⟩ 106 (quSCells m at_ n ec en nd nx lk ac rest) w' := by
  have HN := Lib.hid (fun W => nodeOf_any nx W hU)
  have hn' : 1 ≤ quNode nx ∧ quNode nx ≤ n := by unfold quWrong at hn; omega
  have HB := Lib.hid (fun W h => quBrokenNo m p at_ n ec en nd nx lk ac rest e W (quNode nx) h hn')
  have HE := Lib.hid (fun W (h : Wk W m s) (hl : p < W.heap.size) c0 => quRaise_any m p (at_ + 1) t (quNode nx) (.func 106) #[.pointer (some ⟨p, 0, none⟩)] #[] s W h hpm hl c0 ho hs hT (quNode_nn nx).1 (quNode_nn nx).2)
  have HS := Lib.hid (quS_cells hp)
  have HP1 := Lib.hid hp
  have HW := Lib.hid hw
  obtain ⟨h0, h1, h2, h3, h4, h5, h6, h7, h8⟩ := HS.out _ [] (Keeps.refl _ _) (by simp)
  clear hp hw hn hn' hU hT ho hs
  go_enter Tryz.func67, Tryz.ntmps67
  go_wp2_with (go_at_call 66; refine (HN.out _).mono ?_; rintro e1 w1 ⟨rfl, rfl⟩)
  refine (HB.out _ HP1.out).mono ?_
  rintro e2 w2 ⟨rfl, k2⟩
  obtain ⟨c0, c1, c2, c3, c4, c5, c6, c7, c8⟩ := HS.out _ [] k2 (by simp)
  have HK2 := Lib.hid k2
  clear k2
  go_wp2_with fail
  refine (quTail_any at_ n _ a0 a1).mono ?_
  rintro e3 w3 ⟨rfl, k3⟩
  have HK3 := Lib.hid (HK2.out.trans k3)
  clear k3
  go_wp2_with fail
  refine (HE.out _ (HW.out.keeps HK3.out (by simp)) (Nat.lt_of_lt_of_le HP1.out.lt HK3.out.size) (HS.out _ _ HK3.out (by simp)).1).mono ?_
  rintro e4 w4 ⟨rfl, hw4, k4⟩
  have HP : Hid (_ ∧ _) := Lib.hid ⟨hw4, HK3.out.nil.trans k4⟩
  clear hw4 k4
  go_wp2
  first | go_end0 | refine bodyPost_ret (results_none rfl _ _ _) rfl ?_
  exact ⟨rfl, HP.out.1, HP1.out.keeps HP.out.2 (by simpa using hpm), HP.out.2.mono (by simp)⟩
set_option maxHeartbeats 1600000 in
theorem quMoveTailBad (m p : Nat) (at_ n ec en nd nx : Int) (lk ac : Value) (rest : List Value) (e : TypeId) (s : WSt) (w : World) (t : Int) (hw : Wk w m s) (hp : Row w p e (quSCells m at_ n ec en nd nx lk ac rest)) (hpm : p ≠ m) (ho : s.over = false) (hu : 0 < s.under) (hU : M.U nx) (hn : quWrong n nx) :
    Calls Tryz.prog 67 #[.pointer (some ⟨p, 0, none⟩), .int .u64 t] w fun e' w' => e' = .returned (.tuple #[]) ∧ QuEnds m p s w 9 0 w' := by
  have HN := Lib.hid (fun W => nodeOf_any nx W hU)
  have hn' : ¬ (1 ≤ quNode nx ∧ quNode nx ≤ n) := by unfold quWrong at hn; omega
  have HB := Lib.hid (quBrokenYes m p at_ n ec en nd nx lk ac rest e s w (quNode nx) hw hp hpm ho hu hn')
  obtain ⟨h0, h1, h2, h3, h4, h5, h6, h7, h8⟩ := quS_cells hp _ [] (Keeps.refl _ _) (by simp)
  clear hp hw hn hn' hU ho hu
  go_enter Tryz.func67, Tryz.ntmps67
  go_wp2_with (go_at_call 66; refine (HN.out _).mono ?_; rintro e1 w1 ⟨rfl, rfl⟩)
  refine HB.out.mono ?_
  rintro e2 w2 ⟨rfl, hE⟩
  have HE := Lib.hid hE
  clear hE
  go_wp2
  first | go_end0 | refine bodyPost_ret (results_none rfl _ _ _) rfl ?_
  exact ⟨rfl, HE.out⟩
end Go.Proofs.YtoomefclbemnlaaGreat
