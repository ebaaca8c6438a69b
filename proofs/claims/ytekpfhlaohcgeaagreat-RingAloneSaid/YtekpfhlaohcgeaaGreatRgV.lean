/-
  Contracts: how the head and the tail of a ring are read, and what is done then: what all walks of a ring share.
-/
import Derived.Test.YtekpfhlaohcgeaaGreatRgW
import Derived.Deep.RegionLaw
import Derived.Laws.OwnMore
namespace Go.Proofs.YtekpfhlaohcgeaaGreat
set_option maxRecDepth 100000
set_option linter.unusedSimpArgs false
set_option linter.unusedVariables false
open Go.ChangeShapes Go.WideShapes Go.ChangeAt Go.RowKit

set_option maxHeartbeats 1600000 in
theorem rgBegin_any (m p : Nat) (at_ size hd st fi tl : Int) (lk tr tk : Value) (rest : List Value) (e : TypeId) (s : WSt) (w : World) (hw : Wk w m s) (hp : Row w p e (rgCells m at_ size hd st fi tl lk tr tk rest)) (hpm : p ≠ m) (ho : s.over = false) (hs : s.sub = none) :
    Calls Tryz.prog 42 #[.pointer (some ⟨p, 0, none⟩)] w fun e' w' => e' = .returned (.tuple #[]) ∧
      RgAsks m p e s w ⟨1, at_, 0, 0⟩ 89 (rgCells m at_ size hd st fi tl lk tr tk rest) w' := by
  have HE := Lib.hid (fun W (h : Wk W m s) c0 => rgLoad_any m p at_ (.func 89) #[.pointer (some ⟨p, 0, none⟩)] #[] s W h c0 ho hs)
  have HP := Lib.hid hp
  have HC := Lib.hid (rg_cells hp)
  obtain ⟨h0, h1, -⟩ := HC.out _ [] (Keeps.refl _ _) (by simp)
  have HW := Lib.hid hw
  clear hw ho hs hp
  go_enter Tryz.func42, Tryz.ntmps42
  go_wp2_with fail
  refine (HE.out w HW.out h0).mono ?_
  rintro e2 w3 ⟨rfl, hw3, k3⟩
  have HQ := Lib.hid (⟨hw3, k3⟩ : _ ∧ Keeps [m] w w3)
  clear hw3 k3
  go_wp2
  first | go_end0 | refine bodyPost_ret (results_none rfl _ _ _) rfl ?_
  exact ⟨rfl, HQ.out.1, HP.out.keeps HQ.out.2 (by simpa using hpm), HQ.out.2.mono (by simp)⟩

set_option maxHeartbeats 1600000 in
theorem rgReadHead_any (m p : Nat) (at_ size hd st fi tl v : Int) (won : Bool) (lk tr tk : Value) (rest : List Value) (e : TypeId) (s : WSt) (w : World) (hw : Wk w m s) (hp : Row w p e (rgCells m at_ size hd st fi tl lk tr tk rest)) (hpm : p ≠ m) (ho : s.over = false) (hs : s.sub = none) (a0 : 0 ≤ at_) (a1 : at_ < 65536) (hv : M.U v) :
    Calls Tryz.prog 89 #[.pointer (some ⟨p, 0, none⟩), .int .u64 v, .bool won] w fun e' w' => e' = .returned (.tuple #[]) ∧
      RgAsks m p e s w ⟨1, at_ + 1, 0, 0⟩ 118 (rgCells m at_ size v (rgHi v) (rgLo v) tl lk tr tk rest) w' := by
  have HE := Lib.hid (fun W (h : Wk W m s) c0 => rgLoad_any m p (at_ + 1) (.func 118) #[.pointer (some ⟨p, 0, none⟩)] #[] s W h c0 ho hs)
  have HSp : Hid (∀ W, Calls Tryz.prog 59 #[.int .u64 v] W fun e w' => e = .returned (.tuple #[.int .u32 (rgHi v), .int .u32 (rgLo v)]) ∧ W = w') := Lib.hid (fun W => split_any v W hv.nn hv)
  have HTl := Lib.hid (fun W => rgTail_any at_ size W a0 a1)
  have HP := Lib.hid hp
  have HC := Lib.hid (rg_cells hp)
  obtain ⟨h0, h1, h2, h3, h4, h5, -⟩ := HC.out _ [] (Keeps.refl _ _) (by simp)
  have f3 := hp.frozen 3
  have f4 := hp.frozen 4
  have f5 := hp.frozen 5
  have HW := Lib.hid hw
  obtain ⟨W4, hW4⟩ : ∃ W4, ((w.setCell ⟨p, 3, none⟩ (.int .u64 v)).setCell ⟨p, 4, none⟩ (.int .u32 (rgHi v))).setCell ⟨p, 5, none⟩ (.int .u32 (rgLo v)) = W4 := ⟨_, rfl⟩
  have k4 : Keeps [p] w W4 := by rw [← hW4]; exact (((Keeps.refl [p] w).setCell (fun _ => by simp) _).setCell (fun _ => by simp) _).setCell (fun _ => by simp) _
  have hp4 : Row W4 p e (rgCells m at_ size v (rgHi v) (rgLo v) tl lk tr tk rest) := by rw [← hW4]; exact ((hp.set 3 _).set 4 _).set 5 _
  have HW4 : Hid (Wk W4 m s) := Lib.hid (hw.keeps k4 (by simpa using Ne.symm hpm))
  have HP4 := Lib.hid hp4
  have HC4 := Lib.hid (rg_cells hp4)
  have HK4 := Lib.hid k4
  obtain ⟨g0, g1, g2, -⟩ := HC4.out _ [] (Keeps.refl _ _) (by simp)
  clear hw ho hs hp k4 hp4 HC
  go_enter Tryz.func89, Tryz.ntmps89
  go_wp2_with (go_at_call 59; refine (HSp.out _).mono ?_; rintro e1 w1 ⟨rfl, rfl⟩)
  refine (HTl.out W4).mono ?_
  rintro e2 w5 ⟨rfl, k5⟩
  have HQ5 := Lib.hid k5
  obtain ⟨q0, -⟩ := HC4.out w5 _ k5 (by simp)
  clear k5
  go_wp2_with fail
  refine (HE.out w5 (HW4.out.keeps HQ5.out (by simp)) q0).mono ?_
  rintro e3 w6 ⟨rfl, hw6, k6⟩
  have HQ := Lib.hid (⟨hw6, k6⟩ : _ ∧ Keeps [m] w5 w6)
  clear hw6 k6
  go_wp2
  first | go_end0 | refine bodyPost_ret (results_none rfl _ _ _) rfl ?_
  exact ⟨rfl, HQ.out.1, (HP4.out.keeps HQ5.out (by simp)).keeps HQ.out.2 (by simpa using hpm), ((HK4.out.mono (by simp)).trans (HQ5.out.mono (by simp))).trans (HQ.out.2.mono (by simp))⟩

set_option maxHeartbeats 1600000 in
theorem rgReadTail_any (m p : Nat) (at_ size hd st fi tl v : Int) (won : Bool) (F : FuncId) (tr tk : Value) (rest : List Value) (e : TypeId) (w : World) (Q : World → Prop) (hp : Row w p e (rgCells m at_ size hd st fi tl (.func (.func F) #[.pointer (some ⟨p, 0, none⟩)] #[]) tr tk rest)) (hv : M.U v)
    (hcf : ∀ args w, (callFunc F args).run Tryz.prog w = .ok (.enter F args) w)
    (hF : ∀ W1, Keeps [p] w W1 → Row W1 p e (rgCells m at_ size hd st fi (rgLo v) (.func (.func F) #[.pointer (some ⟨p, 0, none⟩)] #[]) tr tk rest) → Calls Tryz.prog F #[.pointer (some ⟨p, 0, none⟩)] W1 fun e' w' => e' = .returned (.tuple #[]) ∧ Q w') :
    Calls Tryz.prog 118 #[.pointer (some ⟨p, 0, none⟩), .int .u64 v, .bool won] w fun e' w' => e' = .returned (.tuple #[]) ∧ Q w' := by
  have HSp : Hid (∀ W, Calls Tryz.prog 59 #[.int .u64 v] W fun e w' => e = .returned (.tuple #[.int .u32 (rgHi v), .int .u32 (rgLo v)]) ∧ W = w') := Lib.hid (fun W => split_any v W hv.nn hv)
  have HC := Lib.hid (rg_cells hp)
  obtain ⟨h0, h1, h2, h3, h4, h5, h6, h7, -⟩ := HC.out _ [] (Keeps.refl _ _) (by simp)
  have f6 := hp.frozen 6
  obtain ⟨W4, hW4⟩ : ∃ W4, w.setCell ⟨p, 6, none⟩ (.int .u32 (rgLo v)) = W4 := ⟨_, rfl⟩
  have k4 : Keeps [p] w W4 := by rw [← hW4]; exact (Keeps.refl [p] w).setCell (fun _ => by simp) _
  have hp4 : Row W4 p e (rgCells m at_ size hd st fi (rgLo v) (.func (.func F) #[.pointer (some ⟨p, 0, none⟩)] #[]) tr tk rest) := by rw [← hW4]; exact hp.set 6 _
  have HC4 := Lib.hid (rg_cells hp4)
  have HF := Lib.hid (hF W4 k4 hp4)
  obtain ⟨-, -, -, -, -, -, -, g7, -⟩ := HC4.out _ [] (Keeps.refl _ _) (by simp)
  clear hp k4 hp4 HC hF
  go_enter Tryz.func118, Tryz.ntmps118
  go_wp2_with (go_at_call 59; refine (HSp.out _).mono ?_; rintro e1 w1 ⟨rfl, rfl⟩)
  refine HF.out.mono ?_
  rintro e2 w5 ⟨rfl, hQ⟩
  have HQ := Lib.hid hQ
  clear hQ
  go_wp2
  first | go_end0 | refine bodyPost_ret (results_none rfl _ _ _) rfl ?_
  exact ⟨rfl, HQ.out⟩

set_option maxHeartbeats 1600000 in
/-- The head was turned. -/
theorem rgTriedWon_any (m p : Nat) (at_ size hd st fi tl v : Int) (F : FuncId) (lk tk : Value) (rest : List Value) (e : TypeId) (w : World) (Q : World → Prop) (hp : Row w p e (rgCells m at_ size hd st fi tl lk (.func (.func F) #[.pointer (some ⟨p, 0, none⟩)] #[]) tk rest))
    (hcf : ∀ args w, (callFunc F args).run Tryz.prog w = .ok (.enter F args) w)
    (hF : Calls Tryz.prog F #[.pointer (some ⟨p, 0, none⟩)] w fun e' w' => e' = .returned (.tuple #[]) ∧ Q w') :
    Calls Tryz.prog 112 #[.pointer (some ⟨p, 0, none⟩), .int .u64 v, .bool true] w fun e' w' => e' = .returned (.tuple #[]) ∧ Q w' := by
  have h8 := hp.cell (j := 8) rfl
  have HF := Lib.hid hF
  clear hp hF
  go_enter Tryz.func112, Tryz.ntmps112
  go_wp2_with fail
  refine HF.out.mono ?_
  rintro e2 w5 ⟨rfl, hQ⟩
  have HQ := Lib.hid hQ
  clear hQ
  go_wp2
  first | go_end0 | refine bodyPost_ret (results_none rfl _ _ _) rfl ?_
  exact ⟨rfl, HQ.out⟩
set_option maxHeartbeats 1600000 in
theorem rgTriedLost_any (m p : Nat) (at_ size hd st fi tl v : Int) (lk tr tk : Value) (rest : List Value) (e : TypeId) (s : WSt) (w : World) (hw : Wk w m s) (hp : Row w p e (rgCells m at_ size hd st fi tl lk tr tk rest)) (hpm : p ≠ m) (ho : s.over = false) (hs : s.sub = none) (a0 : 0 ≤ at_) (a1 : at_ < 65536) (hv : M.U v) :
    Calls Tryz.prog 112 #[.pointer (some ⟨p, 0, none⟩), .int .u64 v, .bool false] w fun e' w' => e' = .returned (.tuple #[]) ∧
      RgAsks m p e s w ⟨1, at_ + 1, 0, 0⟩ 118 (rgCells m at_ size v (rgHi v) (rgLo v) tl lk tr tk rest) w' := by
  have HF := Lib.hid (rgReadHead_any m p at_ size hd st fi tl v false lk tr tk rest e s w hw hp hpm ho hs a0 a1 hv)
  clear hw hp ho hs
  go_enter Tryz.func112, Tryz.ntmps112
  go_wp2_with fail
  refine HF.out.mono ?_
  rintro e2 w5 ⟨rfl, hQ⟩
  have HQ := Lib.hid hQ
  clear hQ
  go_wp2
  first | go_end0 | refine bodyPost_ret (results_none rfl _ _ _) rfl ?_
  exact ⟨rfl, HQ.out⟩

theorem rgBehind_any (m p n c : Nat) (at_ size hd st fi tl : Int) (lk tr : Value) (q : Option Addr) (rest : List Value) (e : TypeId) (w : World) (hp : Row w p e (rgCells m at_ size hd st fi tl lk tr (.slice q n c) rest)) (hn : n < 4294967296) :
    Calls Tryz.prog 83 #[.pointer (some ⟨p, 0, none⟩)] w fun e' w' => e' = .returned (.int .u32 (rgAdd fi (n : Int))) ∧ Keeps [] w w' := by
  have h5 := hp.cell (j := 5) rfl
  have h9 := hp.cell (j := 9) rfl
  have hu : IntKind.u32.wrap (n : Int) = (n : Int) := by show (n : Int) % 4294967296 = n; omega
  have ha : IntKind.u32.wrap (fi + (n : Int)) = rgAdd fi n := rfl
  clear hp
  go_enter Tryz.func83, Tryz.ntmps83
  go_wp2
  go_quiet (fail)
  go_wp2
  go_ret
  exact ⟨rfl, (Keeps.refl _ _).drewN⟩

/-- It has taken: its list, what it holds, and how it goes on. -/
def RgTook (m p : Nat) (e : TypeId) (B : Nat) (w : World) (tk : Value) (us hs : List Int) (st' : Value → WSt) (cs : Value → List Value) (w' : World) : Prop :=
  ∃ t tk', Wk w' m (st' t) ∧ Row w' p e (cs tk') ∧ w'.ownsRow B 24 1 tk' us.length (ints .u64 us) ∧ (∀ g, tk'.ownBlock = some g → (tk.ownBlock = some g ∨ w.heap.size ≤ g) ∧ g ≠ p ∧ g ≠ m ∧ t.ownBlock ≠ some g) ∧
    w'.ownsRow w.heap.size 24 1 t hs.length (ints .u64 hs) ∧ Keeps ([m, p] ++ tk.ownBlock.toList) w w'
set_option maxHeartbeats 3200000 in
/-- It takes what it loaded, and holds this, too. -/
theorem rgTake_any (m p : Nat) (at_ size hd st fi tl v : Int) (lk tr tk : Value) (rest : List Value) (took os : List Int) (ot : Value) (B Bo : Nat) (e : TypeId) (s : WSt) (w : World) (hw : Wk w m s) (hp : Row w p e (rgCells m at_ size hd st fi tl lk tr tk rest)) (hpm : p ≠ m)
    (ht : w.ownsRow B 24 1 tk took.length (ints .u64 took)) (htp : ∀ g, tk.ownBlock = some g → g ≠ p ∧ g ≠ m) (htl : took.length ≤ 1000) (hot : w.ownsRow Bo 24 1 ot os.length (ints .u64 os)) (hol : os.length ≤ 10) (hop : ∀ g, ot.ownBlock = some g → g ≠ p ∧ g ≠ m ∧ tk.ownBlock ≠ some g) (hB : B ≤ w.heap.size) (hBo : Bo ≤ w.heap.size) :
    Calls Tryz.prog 113 #[.pointer (some ⟨p, 0, none⟩), .int .u64 v, ot] w fun e' w' => e' = .returned (.tuple #[]) ∧ ∃ t tk', Wk w' m { s with tasks := t } ∧ Row w' p e (rgCells m at_ size hd st fi tl lk tr tk' rest) ∧
      w'.ownsRow B 24 1 tk' (took.length + 1) (ints .u64 (took ++ [v])) ∧ (∀ g, tk'.ownBlock = some g → (tk.ownBlock = some g ∨ w.heap.size ≤ g) ∧ g ≠ p ∧ g ≠ m ∧ t.ownBlock ≠ some g) ∧
      w'.ownsRow w.heap.size 24 1 t (os.length + (took.length + 1)) (ints .u64 (os ++ (took ++ [v]))) ∧ Keeps ([m, p] ++ tk.ownBlock.toList ++ ot.ownBlock.toList) w w' := by
  have HP := Lib.hid hp
  have HC := Lib.hid (rg_cells hp)
  obtain ⟨h0, h1, h2, h3, h4, h5, h6, h7, h8, h9⟩ := HC.out _ [] (Keeps.refl _ _) (by simp)
  have f9 := hp.frozen 9
  have HW := Lib.hid hw
  have HT := Lib.hid ht
  have HO := Lib.hid hot
  clear hw hp ht hot
  go_enter Tryz.func113, Tryz.ntmps113
  go_wp2_with (at_builtin; refine append_fresh rfl _ _ 39 rfl B 24 _ 1 8 Tryz.underlying39 elemWd _ _ _ rfl HT.out #[.int .u64 v] rfl rfl (by simp [Value.oneCell']) ?c2 ?c3 ?_)
  case c2 => omega
  case c3 => exact hB
  intro v' w9 own9 k9 f9 _
  obtain ⟨pv, cv, rfl⟩ := (Sl.of_owns own9).len
  have hpk : p ∉ tk.ownBlock.toList := fun h => (htp p ((ownBlock_toList _ _).1 h)).1 rfl
  have hmk : m ∉ tk.ownBlock.toList := fun h => (htp m ((ownBlock_toList _ _).1 h)).2 rfl
  have hp9 := HP.out.keeps k9 hpk
  have g9 := hp9.cell (j := 9) rfl
  have q9 := hp9.frozen 9
  obtain ⟨W, hW⟩ : ∃ W, w9.setCell ⟨p, 9, none⟩ (.slice pv (took.length + 1) cv) = W := ⟨_, rfl⟩
  have kW : Keeps [p] w9 W := by rw [← hW]; exact (Keeps.refl [p] w9).setCell (fun _ => by simp) _
  have hpW : Row W p e (rgCells m at_ size hd st fi tl lk tr (.slice pv (took.length + 1) cv) rest) := by rw [← hW]; exact hp9.set 9 _
  have HNew := Lib.hid (show ∀ g, (Value.slice pv (took.length + 1) cv).ownBlock = some g → g ≠ p ∧ g ≠ m ∧ (tk.ownBlock = some g ∨ w.heap.size ≤ g) from fun g hg => by
    rcases f9 g hg with h | h
    · exact ⟨(htp g h).1, (htp g h).2, .inl h⟩
    · have := HP.out.lt
      have := HW.out.lt
      exact ⟨by omega, by omega, .inr h⟩)
  have HTW : Hid (W.ownsRow B 24 1 (.slice pv (took.length + 1) cv) (took.length + 1) (ints .u64 (took ++ [v]))) := Lib.hid (by simpa [ints] using owns_keeps own9 kW (fun g hg => by simpa using (HNew.out g hg).1))
  have HOW := Lib.hid (owns_keeps (owns_keeps HO.out k9 (fun g hg h => (hop g hg).2.2 ((ownBlock_toList _ _).1 h))) kW (fun g hg => by simpa using (hop g hg).1))
  have HWW := Lib.hid ((HW.out.keeps k9 hmk).keeps kW (by simpa using Ne.symm hpm))
  have HPW := Lib.hid hpW
  have HK := Lib.hid ((k9.mono (T := [m, p] ++ tk.ownBlock.toList ++ ot.ownBlock.toList) (fun k hk _ => by simp only [List.mem_append]; exact .inl (.inr hk))).trans (kW.mono (by simp)))
  have c0 := hpW.cell (j := 0) rfl
  have c9 := hpW.cell (j := 9) rfl
  have zW := HK.out.size
  have HTl := Lib.hid htl
  clear own9 k9 f9 hp9 kW hpW
  have HE := Lib.hid (fun W2 (h : Wk W2 m s) v n us hl hn => wHold m s v n us W2 h hl hn)
  have hBoW : Bo ≤ W.heap.size := Nat.le_trans hBo zW
  have hpo : p ∉ ot.ownBlock.toList := fun h => (hop p ((ownBlock_toList _ _).1 h)).1 rfl
  have hmo : m ∉ ot.ownBlock.toList := fun h => (hop m ((ownBlock_toList _ _).1 h)).2.1 rfl
  have hsum : ints .u64 os ++ ints .u64 (took ++ [v]) = ints .u64 (os ++ (took ++ [v])) := by simp [ints]
  have HSm := Lib.hid hsum
  have htl1 : (took ++ [v]).length = took.length + 1 := by simp
  go_wp2_with fail
  clear hW
  go_region_law (first
    | (refine step_append_sl (by rfl) _ _ 39 (by rfl) Bo 24 _ 1 8 Tryz.underlying39 elemWd ot os.length (ints .u64 os) (by rfl) (World.ownsRow.drew HOW.out) (.slice pv (took.length + 1) cv) (took.length + 1) (ints .u64 (took ++ [v])) (by rfl) (Sl.of_owns (World.ownsRow.drew HTW.out)) (ints_one .u64 _) (by omega) hBoW ?_; intro v10 w10 own10 k10 f10 ne10; have hk10 : Keeps ot.ownBlock.toList W w10 := k10.undrew; have d0 := (hk10.cell (p := ⟨p, 0, none⟩) HPW.out.lt hpo).trans c0; have hs10 : Sl w10 1 v10 (os.length + (took.length + 1)) (ints .u64 (os ++ (took ++ [v]))) := (by rw [← HSm.out]; exact Sl.of_owns own10))
    | (go_simp; go_at_call 85; refine (HE.out w10 (HWW.out.keeps hk10 hmo) v10 (os.length + (took.length + 1)) (os ++ (took ++ [v])) hs10 (by omega)).mono ?_; rintro e11 w11 ⟨rfl, t, hw11, ht11, k11⟩))
  all_goals (first | go_end0 | refine bodyPost_ret (results_none rfl _ _ _) rfl ?_)
  all_goals (
    have z10 := hk10.size
    have hot : ∀ g, (Value.slice pv (took.length + 1) cv).ownBlock = some g → g ∉ ot.ownBlock.toList := fun g hg h => by
      have h1 := (ownBlock_toList _ _).1 h
      rcases (HNew.out g hg).2.2 with h2 | h2
      · exact (hop g h1).2.2 h2
      · have := (HO.out.lt g h1).2; omega
    refine ⟨rfl, t, .slice pv (took.length + 1) cv, hw11, (HPW.out.keeps hk10 hpo).keeps k11 (by simpa using hpm), owns_keeps (owns_keeps HTW.out hk10 hot) k11 (fun g hg => by simpa using (HNew.out g hg).2.1), fun g hg => ?_, owns_base ht11 (by omega), ?_⟩
    · obtain ⟨n1, n2, n3⟩ := HNew.out g hg
      exact ⟨n3, n1, n2, fun h => by have := (ht11.lt g h).1; have := (HTW.out.lt g hg).2; omega⟩
    · exact (HK.out.trans (hk10.mono fun k hk _ => List.mem_append_right _ hk)).trans (k11.mono (by simp)))
end Go.Proofs.YtekpfhlaohcgeaaGreat
