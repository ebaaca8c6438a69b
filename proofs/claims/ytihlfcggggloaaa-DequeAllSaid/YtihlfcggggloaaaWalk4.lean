/-
  Contracts: a walk that went into another one, and goes on when that has ended.
-/
import Derived.Test.YtihlfcggggloaaaWalk3
import Derived.Test.YtihlfcggggloaaaFresh
import Derived.Test.YtihlfcggggloaaaDraw
import Derived.LaidEql
namespace Go.Proofs.Ytihlfcggggloaaa
set_option maxRecDepth 100000
open Go.ChangeShapes Go.WideShapes Go.ChangeAt Go.RowKit

theorem run_ne_pointers {P : Program} {w : World} {t e : TypeId} {z a b : Nat} {ta tb : TypeId} {xs ys : List Value} (ht : P.underlying t = some (.pointer e)) (hi : (P.info? e).map (·.size) = some z) (hz : z ≠ 0) (hne : a ≠ b) (ha : Row w a ta xs) (hb : Row w b tb ys) :
    (binOp .neq t (.pointer (some ⟨a, 0, none⟩)) (.pointer (some ⟨b, 0, none⟩))).run P w = .ok (.bool true) w := by
  obtain ⟨j, hj, rfl⟩ := Option.map_eq_some_iff.1 hi
  obtain ⟨ca, h1, -⟩ := ha
  obtain ⟨cb, h2, -⟩ := hb
  have h : ∀ d : Nat, (Op.equalIn (d + 1) t (.pointer (some ⟨a, 0, none⟩)) (.pointer (some ⟨b, 0, none⟩))).run P w = .ok false w := fun d => by
    simp [Op.equalIn, run_underlying ht, sizeOf, typeInfo, hj, hz, run_sameAddr_other w (a := ⟨a, 0, none⟩) (b := ⟨b, 0, none⟩) (by simp [hne]) h1 h2]
  simp only [binOp]
  simp [Op.equal, Op.maxDepth, h 9999]
theorem run_ne_pointer_same {P : Program} {w : World} {t e : TypeId} {z : Nat} (a : Addr) (ht : P.underlying t = some (.pointer e)) (hi : (P.info? e).map (·.size) = some z) (hz : z ≠ 0) :
    (binOp .neq t (.pointer (some a)) (.pointer (some a))).run P w = .ok (.bool false) w := by
  obtain ⟨j, hj, rfl⟩ := Option.map_eq_some_iff.1 hi
  have h : ∀ d : Nat, (Op.equalIn (d + 1) t (.pointer (some a)) (.pointer (some a))).run P w = .ok true w := fun d => by
    simp [Op.equalIn, run_underlying ht, sizeOf, typeInfo, hj, hz, run_sameAddr_same w a]
  simp only [binOp]
  simp [Op.equal, Op.maxDepth, h 9999]

theorem afterIsThere (fn : Fn) (fi ca : Array Value) (w : World) : (binOp .eql 97 (.func fn fi ca) .nilFunc).run Try.prog w = .ok (.bool false) w := by kernel_rfl
theorem walkPtrs {w : World} {a b : Nat} {s t : WSt} (hne : a ≠ b) (ha : Wk w a s) (hb : Wk w b t) : (binOp .neq 46 (.pointer (some ⟨a, 0, none⟩)) (.pointer (some ⟨b, 0, none⟩))).run Try.prog w = .ok (.bool true) w :=
  run_ne_pointers Try.underlying46 (e := 99) (z := 14) (by kernel_rfl) (by decide) hne ha hb
theorem walkPtr (w : World) (a : Addr) : (binOp .neq 46 (.pointer (some a)) (.pointer (some a))).run Try.prog w = .ok (.bool false) w :=
  run_ne_pointer_same a Try.underlying46 (e := 99) (z := 14) (by kernel_rfl) (by decide)

set_option maxHeartbeats 800000 in
theorem wLeadsNot (m o : Nat) (s so : WSt) (w : World) (hm : Wk w m s) (ho : Wk w o so) (hne : m ≠ o) (hout : so.outer = .slice none 0 0) :
    Calls Try.prog 90 #[.pointer (some ⟨m, 0, none⟩), .pointer (some ⟨o, 0, none⟩)] w fun e w' => e = .returned (.bool false) ∧ w = w' := by
  have h8 := ho.at.2.2.2.2.2.2.2.2.1
  rw [hout] at h8
  have hq := walkPtrs hne hm ho
  clear hm ho hout
  go_enter Try.func90, Try.ntmps90
  go_wp2
  go_ret
  exact ⟨rfl, rfl⟩

theorem Wk.outerAt {w : World} {m : Nat} {s : WSt} (h : Wk w m s) (q : Value) : Wk (w.setCell ⟨m, 8, none⟩ q) m { s with outer := q } := Row.set h 8 _
theorem Wk.intoSub {w : World} {o : Nat} {s : WSt} (h : Wk w o s) (m : Addr) (f : Value) : Wk ((w.setCell ⟨o, 6, none⟩ (.pointer (some m))).setCell ⟨o, 7, none⟩ f) o { s with sub := some m, after := f } := (Row.set h 6 _).set 7 _
theorem elemWalk : Elem Try.prog 46 (.pointer none) 1 8 := ⟨by kernel_rfl, rfl, by decide, by decide⟩

set_option maxHeartbeats 1600000 in
/-- A new walk goes into one that goes on, and into which nobody went. -/
theorem wInto (m o : Nat) (s so : WSt) (fn : Fn) (fi ca : Array Value) (w : World) (hm : Wk w m s) (ho : Wk w o so) (hne : m ≠ o)
    (sOver : s.over = false) (sOuter : s.outer = .slice none 0 0) (oOver : so.over = false) (oSub : so.sub = none) (oOuter : so.outer = .slice none 0 0) :
    Calls Try.prog 69 #[.pointer (some ⟨o, 0, none⟩), .pointer (some ⟨m, 0, none⟩), .func fn fi ca] w fun e w' => e = .returned (.tuple #[]) ∧ ∃ q,
      Wk w' o { so with nxt := .nilFunc, sub := some ⟨m, 0, none⟩, after := .func fn fi ca } ∧ Wk w' m { s with outer := q } ∧ w'.ownsRow w.heap.size 46 1 q 1 [.pointer (some ⟨o, 0, none⟩)] ∧ Keeps [m, o] w w' := by
  have h10 := ho.at.2.2.2.2.2.2.2.2.2.2.1
  rw [oOver] at h10
  have hlt := hm.lt
  have hlto := ho.lt
  have HL := Lib.hid (fun W (hW : Wk W o so) => wLeave o so W hW oSub)
  have HR := Lib.hid (fun W (hW : Wk W m s) => wResultNot m s W hW sOver)
  have HD := Lib.hid (fun W h1 h2 => wLeadsNot m o s { so with nxt := .nilFunc, sub := none, after := .nilFunc } W h1 h2 hne oOuter)
  have HM := Lib.hid hm
  have HO := Lib.hid ho
  have HSO := Lib.hid sOuter
  have hfn := afterIsThere
  clear hm ho sOver sOuter oOver oSub oOuter
  go_enter Try.func69, Try.ntmps69
  go_wp2_with fail
  refine (HL.out _ (HO.out.alloc _)).mono ?_
  rintro e w1 ⟨rfl, ho1, k1⟩
  have hb := ((Box.new w #[.func fn fi ca] 97).keeps k1 (by simp; omega)).cells 0
  have hm1 := (HM.out.alloc (.cells #[.func fn fi ca] 97)).keeps k1 (by simpa using hne)
  have K1 := Lib.hid (((Keeps.refl [o] w).alloc (.cells #[.func fn fi ca] 97)).trans k1)
  have hb1 : w.heap.size < w1.heap.size := Nat.lt_of_lt_of_le (by simp) k1.size
  clear k1
  go_wp2_with fail
  refine (HR.out _ hm1).mono ?_
  rintro e w3 ⟨rfl, k3⟩
  have hb3 := (k3.cell (p := ⟨w.heap.size, 0, none⟩) hb1 (by simp)).trans hb
  have hm3 := hm1.keeps k3 (by simp)
  have ho3 := ho1.keeps k3 (by simp)
  have HK := Lib.hid (K1.out.trans (k3.mono (by simp)))
  have hz3 := k3.size
  clear hb k3 hm1 ho1
  have HM3 := Lib.hid hm3
  have HO3 := Lib.hid ho3
  clear hm3 ho3
  have hz1 : w.heap.size < w3.heap.size := Nat.lt_of_lt_of_le hb1 hz3
  go_wp2_with fail
  refine (HD.out _ (HM3.out.alloc _) (HO3.out.alloc _)).mono ?_
  rintro e w5 ⟨rfl, rfl⟩
  obtain ⟨W4, hW4⟩ : ∃ W, w3.alloc (.cells #[.int .i64 0, .int .u64 0, .slice none 0 0] 50) = W := ⟨_, rfl⟩
  have hk4 : Keeps [] w3 W4 := by rw [← hW4]; exact (Keeps.refl _ _).alloc _
  have hb4 := (hk4.cell (p := ⟨w.heap.size, 0, none⟩) hz1 (by simp)).trans hb3
  have hm4 := HM3.out.keeps hk4 (by simp)
  have ho4 := HO3.out.keeps hk4 (by simp)
  have f6 := ho4.fr 6
  have f7 := ho4.fr 7
  obtain ⟨-, -, -, -, -, -, a6, a7, -⟩ := ho4.at
  have HK4 := Lib.hid (HK.out.trans (hk4.mono (by simp)))
  have ho5 := ho4.intoSub ⟨m, 0, none⟩ (.func fn fi ca)
  obtain ⟨W5, hW5⟩ : ∃ W, (W4.setCell ⟨o, 6, none⟩ (.pointer (some ⟨m, 0, none⟩))).setCell ⟨o, 7, none⟩ (.func fn fi ca) = W := ⟨_, rfl⟩
  rw [hW5] at ho5
  have hk5 : Keeps [o] W4 W5 := by rw [← hW5]; exact ((Keeps.refl _ _).set (by simp) _ _).set (by simp) _ _
  obtain ⟨W6, hW6⟩ : ∃ W, W5.drew = W := ⟨_, rfl⟩
  have hk5 : Keeps [o] W4 W6 := by rw [← hW6]; exact hk5.drew
  have ho5 : Wk W6 o { so with nxt := .nilFunc, sub := some ⟨m, 0, none⟩, after := .func fn fi ca } := by rw [← hW6]; exact ho5.keeps ((Keeps.refl [] _).drew) (by simp)
  have hm5 := hm4.keeps hk5 (by simpa using hne)
  have h8 := hm5.at.2.2.2.2.2.2.2.2.1
  rw [HSO.out] at h8
  have f8 := hm5.fr 8
  have HM4 := Lib.hid hm4
  have HO4 := Lib.hid ho4
  have HM5 := Lib.hid hm5
  have HO5 := Lib.hid ho5
  have HK5 := Lib.hid (HK4.out.trans (hk5.mono (by simp)))
  clear hm4 ho4 hm5 ho5 hk5 hk4 hb3
  go_wp2_with fail
  go_region
  go_wp2_with (at_builtin; refine append_fresh rfl _ _ 68 rfl w.heap.size 46 _ 1 8 Try.underlying68 elemWalk _ 0 [] rfl (World.ownsRow_nil _ _ _ _) #[.pointer (some ⟨o, 0, none⟩)] rfl rfl (by simp [Value.oneCell']) ?c2 ?c3 ?_)
  case c2 => simp
  case c3 => exact HK5.out.size
  intro q w6 hq k6 hn6 _
  obtain ⟨qp, qc, rfl⟩ := (Sl.of_owns hq).len
  have HM6 := Lib.hid (HM5.out.keeps k6 (by simp [Value.ownBlock]))
  have HO6 := Lib.hid (HO5.out.keeps k6 (by simp [Value.ownBlock]))
  have HK6 := Lib.hid (HK5.out.trans (k6.mono (by simp [Value.ownBlock])))
  have f8' := HM6.out.fr 8
  have a8' := HM6.out.at.2.2.2.2.2.2.2.2.1
  have HQ := Lib.hid hq
  have HN := Lib.hid hn6
  have HS := Lib.hid HK5.out.size
  clear hq k6 hn6
  go_wp2
  first | go_end0 | refine bodyPost_ret (results_none rfl _ _ _) rfl ?_
  have kq : Keeps [m] w6 (w6.setCell ⟨m, 8, none⟩ (.slice qp 1 qc)) := (Keeps.refl _ _).set (by simp) _ _
  refine ⟨rfl, _, HO6.out.keeps kq (by simpa using Ne.symm hne), HM6.out.outerAt _, ?_, (HK6.out.mono (by simp)).trans (kq.mono (by simp))⟩
  have hl := HQ.out
  refine owns_keeps (by simpa using hl) kq (fun g hg => ?_)
  have := hl.lt g hg
  simp
  omega

theorem indexNone (fn : Fn) (fi ca : Array Value) (w : World) :
    Calls Try.prog 96 #[.slice none 0 0, .func fn fi ca] w fun e w' => e = .returned (.int .i64 (-1)) ∧ w = w' := by
  go_enter Try.func96, Try.ntmps96
  go_wp2
  refine wp_loop_rounds 1 ?_
  rw [rounds_succ]
  go_wp2
  go_ret
  exact ⟨rfl, rfl⟩
theorem deleteNone (fn : Fn) (fi ca : Array Value) (w : World) :
    Calls Try.prog 84 #[.slice none 0 0, .func fn fi ca] w fun e w' => e = .returned (.slice none 0 0) ∧ w = w' := by
  have HI := Lib.hid (fun fn fi ca W => indexNone fn fi ca W)
  go_enter Try.func84, Try.ntmps84
  go_wp2_with fail
  refine (HI.out _ _ _ _).mono ?_
  rintro e w1 ⟨rfl, rfl⟩
  go_wp2
  go_ret
  exact ⟨rfl, rfl⟩

theorem stillOf' {P : Program} {f : FuncId} {args : Array Value} {w : World} {v : Value} (h : Calls P f args w fun e w' => e = .returned v ∧ w = w') : Calls P f args w fun e w' => e = .returned v ∧ w' = w :=
  h.mono fun _ _ ⟨a, b⟩ => ⟨a, b.symm⟩

set_option maxHeartbeats 1600000 in
/-- It leaves one that has nobody in its list any more. -/
theorem wLeaveSub (m o : Nat) (s so : WSt) (w : World) (hm : Wk w m s) (ho : Wk w o so) (hne : m ≠ o) (hsub : so.sub = some ⟨m, 0, none⟩) (hout : s.outer = .slice none 0 0) :
    Calls Try.prog 62 #[.pointer (some ⟨o, 0, none⟩)] w fun e w' => e = .returned (.tuple #[]) ∧ Wk w' o { so with nxt := .nilFunc, sub := none, after := .nilFunc } ∧ Wk w' m s ∧ Keeps [m, o] w w' := by
  obtain ⟨-, -, -, -, -, h5, h6, h7, -, -, -, -, -, -⟩ := ho.at
  have f5 := ho.fr 5
  have f6 := ho.fr 6
  have f7 := ho.fr 7
  have hlt := hm.lt
  have hlto := ho.lt
  have h8 := hm.at.2.2.2.2.2.2.2.2.1
  have f8 := hm.fr 8
  rw [hsub] at h6
  rw [hout] at h8
  have HM := Lib.hid hm
  have HO := Lib.hid ho
  have HOUT := Lib.hid hout
  have HSUB := Lib.hid hsub
  clear hm ho hsub hout
  go_enter Try.func62, Try.ntmps62
  go_wp2_with fail
  refine wp_region_mid 15 (by kernel_rfl) (by kernel_rfl) ?_
  simp only [List.take_succ_cons, List.take_zero, List.drop_succ_cons, List.drop_zero]
  repeat still_step
  still_call (stillOf' (deleteNone _ _ _ _))
  repeat still_step
  refine wpStill_nil ?_
  go_wp2
  show wpStill _ _ _ _ _ _
  refine wpStill_nil ?_
  generalize hW : World.drew _ = W2
  have k2 : Keeps [m, o] w W2 := by rw [← hW]; exact ((((Keeps.refl [m, o] w).set (by simp) _ _).alloc _).drew)
  have hm2 : Wk W2 m s := by
    rw [← hW]
    have := (HM.out.outerAt (.slice none 0 0)).keeps (((Keeps.refl [] _).alloc (.cells #[.pointer (some ⟨o, 0, none⟩)] 46)).drew) (by simp)
    rw [show ({ s with outer := .slice none 0 0 } : WSt) = s by rw [← HOUT.out]] at this
    exact this
  have ho2 : Wk W2 o so := by
    rw [← hW]
    exact HO.out.keeps ((((Keeps.refl [m] w).set (by simp) _ _).alloc _).drew) (by simpa using Ne.symm hne)
  have hbx : W2.cell? ⟨w.heap.size, 0, none⟩ = some (.pointer (some ⟨o, 0, none⟩)) := by
    rw [← hW]
    have := ((Box.new (w.setCell ⟨m, 8, none⟩ (.slice none 0 0)) #[.pointer (some ⟨o, 0, none⟩)] 46).keeps ((Keeps.refl [] _).drew) (by simp)).cells 0
    simpa using this
  clear hW
  have g5 := ho2.fr 5
  have g6 := ho2.fr 6
  have g7 := ho2.fr 7
  obtain ⟨-, -, -, -, -, b5, b6, b7, -, -, -, -, -, -⟩ := ho2.at
  rw [HSUB.out] at b6
  have HM2 := Lib.hid hm2
  have HO2 := Lib.hid ho2
  have HK2 := Lib.hid k2
  clear hm2 ho2 k2 h5 h6 h7 f5 f6 f7 h8 f8
  go_wp2
  go_region
  go_end0
  have k3 : Keeps [o] W2 (((W2.setCell ⟨o, 5, none⟩ .nilFunc).setCell ⟨o, 6, none⟩ (.pointer none)).setCell ⟨o, 7, none⟩ .nilFunc) := (((Keeps.refl [o] W2).set (.head _) _ _).set (.head _) _ _).set (.head _) _ _
  exact ⟨rfl, HO2.out.left.keeps ((Keeps.refl [] _).drew) (by simp), HM2.out.keeps k3.drew (by simpa using hne), HK2.out.trans (k3.drew.mono (by simp))⟩

end Go.Proofs.Ytihlfcggggloaaa
