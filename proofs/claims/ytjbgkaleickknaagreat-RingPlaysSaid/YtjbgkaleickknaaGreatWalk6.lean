import Derived.Test.YtjbgkaleickknaaGreatWalk
import Derived.Test.YtjbgkaleickknaaGreatFresh
import Derived.Test.YtjbgkaleickknaaGreatDraw
import Derived.LaidEql
/-
  Contracts: a walk that went into another one, and goes on when that has ended.
-/
namespace Go.Proofs.YtjbgkaleickknaaGreat
set_option maxRecDepth 100000
set_option linter.unusedSimpArgs false
set_option linter.unusedVariables false
open Go.ChangeShapes Go.WideShapes Go.ChangeAt Go.RowKit

theorem run_ne_pointers {P : Program} {w : World} {t e : TypeId} {z a b : Nat} {ta tb : TypeId} {xs ys : List Value} (ht : P.underlying t = some (.pointer e)) (hi : (P.info? e).map (·.size) = some z) (hz : z ≠ 0) (hne : a ≠ b) (ha : Row w a ta xs) (hb : Row w b tb ys) :
    (binOp .neq t (.pointer (some ⟨a, 0, none⟩)) (.pointer (some ⟨b, 0, none⟩))).run P w = .ok (.bool true) w := by
  obtain ⟨j, hj, rfl⟩ := Option.map_eq_some_iff.1 hi
  obtain ⟨ca, h1, -⟩ := ha
  obtain ⟨cb, h2, -⟩ := hb
  have h : ∀ d : Nat, (Op.equalIn (d + 1) t (.pointer (some ⟨a, 0, none⟩)) (.pointer (some ⟨b, 0, none⟩))).run P w = .ok false w := fun d => by
    simp [Op.equalIn, run_underlying ht, sizeOf, typeInfo, hj, hz, run_sameAddr_other w (a := ⟨a, 0, none⟩) (b := ⟨b, 0, none⟩) (by simp [hne]) h1 h2]
  simp only [binOp]
  simp [Op.equal, Op.maxDepth, h 9999]
theorem run_ne_pointer_same {P : Program} {w : World} {t e : TypeId} {z : Nat} (a : Addr) (ht : P.underlying t = some (.pointer e)) (hi : (P.info? e).map (·.size) = some z) (hz : z ≠ 0) :
    (binOp .neq t (.pointer (some a)) (.pointer (some a))).run P w = .ok (.bool false) w := by
  obtain ⟨j, hj, rfl⟩ := Option.map_eq_some_iff.1 hi
  have h : ∀ d : Nat, (Op.equalIn (d + 1) t (.pointer (some a)) (.pointer (some a))).run P w = .ok true w := fun d => by
    simp [Op.equalIn, run_underlying ht, sizeOf, typeInfo, hj, hz, run_sameAddr_same w a]
  simp only [binOp]
  simp [Op.equal, Op.maxDepth, h 9999]

theorem afterIsThere (fn : Fn) (fi ca : Array Value) (w : World) : (binOp .eql 103 (.func fn fi ca) .nilFunc).run Tryz.prog w = .ok (.bool false) w := by kernel_rfl
theorem walkPtrs {w : World} {a b : Nat} {s t : WSt} (hne : a ≠ b) (ha : Wk w a s) (hb : Wk w b t) : (binOp .neq 44 (.pointer (some ⟨a, 0, none⟩)) (.pointer (some ⟨b, 0, none⟩))).run Tryz.prog w = .ok (.bool true) w :=
  run_ne_pointers Tryz.underlying44 (e := 105) (z := 14) (by kernel_rfl) (by decide) hne ha hb
theorem walkPtr (w : World) (a : Addr) : (binOp .neq 44 (.pointer (some a)) (.pointer (some a))).run Tryz.prog w = .ok (.bool false) w :=
  run_ne_pointer_same a Tryz.underlying44 (e := 105) (z := 14) (by kernel_rfl) (by decide)

set_option maxHeartbeats 800000 in
theorem wLeadsNot (m o : Nat) (s so : WSt) (w : World) (hm : Wk w m s) (ho : Wk w o so) (hne : m ≠ o) (hout : so.outer = .slice none 0 0) :
    Calls Tryz.prog 89 #[.pointer (some ⟨m, 0, none⟩), .pointer (some ⟨o, 0, none⟩)] w fun e w' => e = .returned (.bool false) ∧ w = w' := by
  have h8 := ho.at.2.2.2.2.2.2.2.2.1
  rw [hout] at h8
  have hq := walkPtrs hne hm ho
  clear hm ho hout
  go_enter Tryz.func89, Tryz.ntmps89
  go_wp2
  go_ret
  exact ⟨rfl, rfl⟩

theorem Wk.outerAt {w : World} {m : Nat} {s : WSt} (h : Wk w m s) (q : Value) : Wk (w.setCell ⟨m, 8, none⟩ q) m { s with outer := q } := Row.set h 8 _
theorem Wk.intoSub {w : World} {o : Nat} {s : WSt} (h : Wk w o s) (m : Addr) (f : Value) : Wk ((w.setCell ⟨o, 6, none⟩ (.pointer (some m))).setCell ⟨o, 7, none⟩ f) o { s with sub := some m, after := f } := (Row.set h 6 _).set 7 _
theorem elemWalk : Elem Tryz.prog 44 (.pointer none) 1 8 := ⟨by kernel_rfl, rfl, by decide, by decide⟩

set_option maxHeartbeats 1600000 in
/-- A new walk goes into one that goes on, and into which nobody went. -/
theorem wInto (m o : Nat) (s so : WSt) (fn : Fn) (fi ca : Array Value) (w : World) (hm : Wk w m s) (ho : Wk w o so) (hne : m ≠ o)
    (sOver : s.over = false) (sOuter : s.outer = .slice none 0 0) (oOver : so.over = false) (oSub : so.sub = none) (oOuter : so.outer = .slice none 0 0) :
    Calls Tryz.prog 67 #[.pointer (some ⟨o, 0, none⟩), .pointer (some ⟨m, 0, none⟩), .func fn fi ca] w fun e w' => e = .returned (.tuple #[]) ∧ ∃ q,
      Wk w' o { so with nxt := .nilFunc, sub := some ⟨m, 0, none⟩, after := .func fn fi ca } ∧ Wk w' m { s with outer := q } ∧ w'.ownsRow w.heap.size 44 1 q 1 [.pointer (some ⟨o, 0, none⟩)] ∧ Keeps [m, o] w w' := by
  have h10 := ho.at.2.2.2.2.2.2.2.2.2.2.1
  rw [oOver] at h10
  have hlt := hm.lt
  have hlto := ho.lt
  have HL := Lib.hid (fun W (hW : Wk W o so) => wLeave o so W hW oSub)
  have HR := Lib.hid (fun W (hW : Wk W m s) => wResultNot m s W hW sOver)
  have HD := Lib.hid (fun W h1 h2 => wLeadsNot m o s { so with nxt := .nilFunc, sub := none, after := .nilFunc } W h1 h2 hne oOuter)
  have HM := Lib.hid hm
  have HO := Lib.hid ho
  have HSO := Lib.hid sOuter
  have hfn := afterIsThere
  clear hm ho sOver sOuter oOver oSub oOuter
  go_enter Tryz.func67, Tryz.ntmps67
  go_wp2_with fail
  refine (HL.out _ (HO.out.alloc _)).mono ?_
  rintro e w1 ⟨rfl, ho1, k1⟩
  have hb := ((Box.new w #[.func fn fi ca] 103).keeps k1 (by simp; omega)).cells 0
  have hm1 := (HM.out.alloc (.cells #[.func fn fi ca] 103)).keeps k1 (by simpa using hne)
  have K1 := Lib.hid (((Keeps.refl [o] w).alloc (.cells #[.func fn fi ca] 103)).trans k1)
  have hb1 : w.heap.size < w1.heap.size := Nat.lt_of_lt_of_le (by simp) k1.size
  clear k1
  go_wp2_with fail
  refine (HR.out _ hm1).mono ?_
  rintro e w3 ⟨rfl, k3⟩
  have hb3 := (k3.cell (p := ⟨w.heap.size, 0, none⟩) hb1 (by simp)).trans hb
  have hm3 := hm1.keeps k3 (by simp)
  have ho3 := ho1.keeps k3 (by simp)
  have HK := Lib.hid (K1.out.trans (k3.mono (by simp)))
  have hz3 := k3.size
  clear hb k3 hm1 ho1
  have HM3 := Lib.hid hm3
  have HO3 := Lib.hid ho3
  clear hm3 ho3
  have hz1 : w.heap.size < w3.heap.size := Nat.lt_of_lt_of_le hb1 hz3
  go_wp2_with fail
  refine (HD.out _ (HM3.out.alloc _) (HO3.out.alloc _)).mono ?_
  rintro e w5 ⟨rfl, rfl⟩
  obtain ⟨W4, hW4⟩ : ∃ W, w3.alloc (.cells #[.int .i64 0, .int .u64 0, .slice none 0 0] 48) = W := ⟨_, rfl⟩
  have hk4 : Keeps [] w3 W4 := by rw [← hW4]; exact (Keeps.refl _ _).alloc _
  have hb4 := (hk4.cell (p := ⟨w.heap.size, 0, none⟩) hz1 (by simp)).trans hb3
  have hm4 := HM3.out.keeps hk4 (by simp)
  have ho4 := HO3.out.keeps hk4 (by simp)
  have f6 := ho4.fr 6
  have f7 := ho4.fr 7
  obtain ⟨-, -, -, -, -, -, a6, a7, -⟩ := ho4.at
  have HK4 := Lib.hid (HK.out.trans (hk4.mono (by simp)))
  have ho5 := ho4.intoSub ⟨m, 0, none⟩ (.func fn fi ca)
  obtain ⟨W5, hW5⟩ : ∃ W, (W4.setCell ⟨o, 6, none⟩ (.pointer (some ⟨m, 0, none⟩))).setCell ⟨o, 7, none⟩ (.func fn fi ca) = W := ⟨_, rfl⟩
  rw [hW5] at ho5
  have hk5 : Keeps [o] W4 W5 := by rw [← hW5]; exact ((Keeps.refl _ _).set (by simp) _ _).set (by simp) _ _
  obtain ⟨W6, hW6⟩ : ∃ W, W5.drew = W := ⟨_, rfl⟩
  have hk5 : Keeps [o] W4 W6 := by rw [← hW6]; exact hk5.drew
  have ho5 : Wk W6 o { so with nxt := .nilFunc, sub := some ⟨m, 0, none⟩, after := .func fn fi ca } := by rw [← hW6]; exact ho5.keeps ((Keeps.refl [] _).drew) (by simp)
  have hm5 := hm4.keeps hk5 (by simpa using hne)
  have h8 := hm5.at.2.2.2.2.2.2.2.2.1
  rw [HSO.out] at h8
  have f8 := hm5.fr 8
  have HM4 := Lib.hid hm4
  have HO4 := Lib.hid ho4
  have HM5 := Lib.hid hm5
  have HO5 := Lib.hid ho5
  have HK5 := Lib.hid (HK4.out.trans (hk5.mono (by simp)))
  clear hm4 ho4 hm5 ho5 hk5 hk4 hb3
  go_wp2_with fail
  go_region
  go_wp2_with (at_builtin; refine append_fresh rfl _ _ 63 rfl w.heap.size 44 _ 1 8 Tryz.underlying63 elemWalk _ 0 [] rfl (World.ownsRow_nil _ _ _ _) #[.pointer (some ⟨o, 0, none⟩)] rfl rfl (by simp [Value.oneCell']) ?c2 ?c3 ?_)
  case c2 => simp
  case c3 => exact HK5.out.size
  intro q w6 hq k6 hn6 _
  obtain ⟨qp, qc, rfl⟩ := (Sl.of_owns hq).len
  have HM6 := Lib.hid (HM5.out.keeps k6 (by simp [Value.ownBlock]))
  have HO6 := Lib.hid (HO5.out.keeps k6 (by simp [Value.ownBlock]))
  have HK6 := Lib.hid (HK5.out.trans (k6.mono (by simp [Value.ownBlock])))
  have f8' := HM6.out.fr 8
  have a8' := HM6.out.at.2.2.2.2.2.2.2.2.1
  have HQ := Lib.hid hq
  have HN := Lib.hid hn6
  have HS := Lib.hid HK5.out.size
  clear hq k6 hn6
  go_wp2
  first | go_end0 | refine bodyPost_ret (results_none rfl _ _ _) rfl ?_
  have kq : Keeps [m] w6 (w6.setCell ⟨m, 8, none⟩ (.slice qp 1 qc)) := (Keeps.refl _ _).set (by simp) _ _
  refine ⟨rfl, _, HO6.out.keeps kq (by simpa using Ne.symm hne), HM6.out.outerAt _, ?_, (HK6.out.mono (by simp)).trans (kq.mono (by simp))⟩
  have hl := HQ.out
  refine owns_keeps (by simpa using hl) kq (fun g hg => ?_)
  have := hl.lt g hg
  simp
  omega

theorem indexNone (fn : Fn) (fi ca : Array Value) (w : World) :
    Calls Tryz.prog 107 #[.slice none 0 0, .func fn fi ca] w fun e w' => e = .returned (.int .i64 (-1)) ∧ w = w' := by
  go_enter Tryz.func107, Tryz.ntmps107
  go_wp2
  refine wp_loop_rounds 1 ?_
  rw [rounds_succ]
  go_wp2
  go_ret
  exact ⟨rfl, rfl⟩
theorem deleteNone (fn : Fn) (fi ca : Array Value) (w : World) :
    Calls Tryz.prog 102 #[.slice none 0 0, .func fn fi ca] w fun e w' => e = .returned (.slice none 0 0) ∧ w = w' := by
  have HI := Lib.hid (fun fn fi ca W => indexNone fn fi ca W)
  go_enter Tryz.func102, Tryz.ntmps102
  go_wp2_with fail
  refine (HI.out _ _ _ _).mono ?_
  rintro e w1 ⟨rfl, rfl⟩
  go_wp2
  go_ret
  exact ⟨rfl, rfl⟩

theorem stillOf' {P : Program} {f : FuncId} {args : Array Value} {w : World} {v : Value} (h : Calls P f args w fun e w' => e = .returned v ∧ w = w') : Calls P f args w fun e w' => e = .returned v ∧ w' = w :=
  h.mono fun _ _ ⟨a, b⟩ => ⟨a, b.symm⟩

set_option maxHeartbeats 1600000 in
/-- It leaves one that has nobody in its list any more. -/
theorem wLeaveSub (m o : Nat) (s so : WSt) (w : World) (hm : Wk w m s) (ho : Wk w o so) (hne : m ≠ o) (hsub : so.sub = some ⟨m, 0, none⟩) (hout : s.outer = .slice none 0 0) :
    Calls Tryz.prog 77 #[.pointer (some ⟨o, 0, none⟩)] w fun e w' => e = .returned (.tuple #[]) ∧ Wk w' o { so with nxt := .nilFunc, sub := none, after := .nilFunc } ∧ Wk w' m s ∧ Keeps [m, o] w w' := by
  obtain ⟨-, -, -, -, -, h5, h6, h7, -, -, -, -, -, -⟩ := ho.at
  have f5 := ho.fr 5
  have f6 := ho.fr 6
  have f7 := ho.fr 7
  have hlt := hm.lt
  have hlto := ho.lt
  have h8 := hm.at.2.2.2.2.2.2.2.2.1
  have f8 := hm.fr 8
  rw [hsub] at h6
  rw [hout] at h8
  have HM := Lib.hid hm
  have HO := Lib.hid ho
  have HOUT := Lib.hid hout
  have HSUB := Lib.hid hsub
  clear hm ho hsub hout
  go_enter Tryz.func77, Tryz.ntmps77
  go_wp2_with fail
  refine wp_region_mid 15 (by kernel_rfl) (by kernel_rfl) ?_
  simp only [List.take_succ_cons, List.take_zero, List.drop_succ_cons, List.drop_zero]
  repeat still_step
  still_call (stillOf' (deleteNone _ _ _ _))
  repeat still_step
  refine wpStill_nil ?_
  go_wp2
  show wpStill _ _ _ _ _ _
  refine wpStill_nil ?_
  generalize hW : World.drew _ = W2
  have k2 : Keeps [m, o] w W2 := by rw [← hW]; exact ((((Keeps.refl [m, o] w).set (by simp) _ _).alloc _).drew)
  have hm2 : Wk W2 m s := by
    rw [← hW]
    have := (HM.out.outerAt (.slice none 0 0)).keeps (((Keeps.refl [] _).alloc (.cells #[.pointer (some ⟨o, 0, none⟩)] 44)).drew) (by simp)
    rw [show ({ s with outer := .slice none 0 0 } : WSt) = s by rw [← HOUT.out]] at this
    exact this
  have ho2 : Wk W2 o so := by
    rw [← hW]
    exact HO.out.keeps ((((Keeps.refl [m] w).set (by simp) _ _).alloc _).drew) (by simpa using Ne.symm hne)
  have hbx : W2.cell? ⟨w.heap.size, 0, none⟩ = some (.pointer (some ⟨o, 0, none⟩)) := by
    rw [← hW]
    have := ((Box.new (w.setCell ⟨m, 8, none⟩ (.slice none 0 0)) #[.pointer (some ⟨o, 0, none⟩)] 44).keeps ((Keeps.refl [] _).drew) (by simp)).cells 0
    simpa using this
  clear hW
  have g5 := ho2.fr 5
  have g6 := ho2.fr 6
  have g7 := ho2.fr 7
  obtain ⟨-, -, -, -, -, b5, b6, b7, -, -, -, -, -, -⟩ := ho2.at
  rw [HSUB.out] at b6
  have HM2 := Lib.hid hm2
  have HO2 := Lib.hid ho2
  have HK2 := Lib.hid k2
  clear hm2 ho2 k2 h5 h6 h7 f5 f6 f7 h8 f8
  go_wp2
  go_region
  go_end0
  have k3 : Keeps [o] W2 (((W2.setCell ⟨o, 5, none⟩ .nilFunc).setCell ⟨o, 6, none⟩ (.pointer none)).setCell ⟨o, 7, none⟩ .nilFunc) := (((Keeps.refl [o] W2).set (.head _) _ _).set (.head _) _ _).set (.head _) _ _
  exact ⟨rfl, HO2.out.left.keeps ((Keeps.refl [] _).drew) (by simp), HM2.out.keeps k3.drew (by simpa using hne), HK2.out.trans (k3.drew.mono (by simp))⟩

end Go.Proofs.YtjbgkaleickknaaGreat

/-
  Contracts: a walk that went into another one goes on behind it.
-/
namespace Go.Proofs.YtjbgkaleickknaaGreat
set_option maxRecDepth 100000
set_option linter.unusedSimpArgs false
set_option linter.unusedVariables false
open Go.ChangeShapes Go.WideShapes Go.ChangeAt Go.RowKit

set_option maxHeartbeats 1600000 in
/-- It goes on behind one that has ended: what it does then is F. -/
theorem wBack1 (m b0 b1 : Nat) (s : WSt) (F : FuncId) (fi ca : Array Value) (n : Nat) (us : List Int) (w : World) (Q : World → Prop) (hcf : ∀ args w, (callFunc F args).run Tryz.prog w = .ok (.enter F args) w)
    (hm : Wk w m s) (h0 : w.cell? ⟨b0, 0, none⟩ = some (.func (.func F) fi ca)) (h1 : w.cell? ⟨b1, 0, none⟩ = some (.pointer (some ⟨m, 0, none⟩))) (l0 : b0 < w.heap.size) (l1 : b1 < w.heap.size) (hl : Sl w 1 s.l n (ints .u64 us)) (hn : n ≤ 10000000)
    (hF : ∀ w1 q c, Keeps [] w w1 → Sl w1 1 (.slice q n c) n (ints .u64 us) → Calls Tryz.prog F (fi.push (.agg #[.int .i64 s.code, .int .u64 s.v, .slice q n c]) ++ ca) w1 fun e w' => e = .returned (.tuple #[]) ∧ Q w')
    (hQ : ∀ w', Q w' → w'.cell? ⟨b0, 0, none⟩ = some (.func (.func F) fi ca) ∧ w'.cell? ⟨b1, 0, none⟩ = some (.pointer (some ⟨m, 0, none⟩)) ∧ w'.cell? ⟨m, 11, none⟩ = some (.int .i64 s.code) ∧ w'.cell? ⟨m, 12, none⟩ = some (.int .u64 s.v) ∧ w'.cell? ⟨m, 13, none⟩ = some s.l) :
    Calls Tryz.prog 110 #[.pointer (some ⟨b0, 0, none⟩), .pointer (some ⟨b1, 0, none⟩)] w fun e w' => e = .returned (.tuple #[]) ∧ Q w' := by
  have HC := Lib.hid (fun W h => wCopied s.code s.v s.l n us W h hn)
  obtain ⟨-, -, -, -, -, -, -, -, -, -, -, a11, a12, a13⟩ := hm.at
  have hlm := hm.lt
  have HF := Lib.hid hF
  have HQ := Lib.hid hQ
  have HL := Lib.hid hl
  obtain ⟨lp, lc, hls⟩ := hl.len
  rw [hls] at HC HQ HL a13
  clear hF hm hl hQ hls
  go_enter Tryz.func110, Tryz.ntmps110
  go_wp2_with fail
  go_region_held3 (fun w' => w'.cell? ⟨b0, 0, none⟩ = some (.func (.func F) fi ca) ∧ w'.cell? ⟨b1, 0, none⟩ = some (.pointer (some ⟨m, 0, none⟩)) ∧ w'.cell? ⟨m, 11, none⟩ = some (.int .i64 s.code) ∧ w'.cell? ⟨m, 12, none⟩ = some (.int .u64 s.v) ∧ w'.cell? ⟨m, 13, none⟩ = some (.slice lp n lc))
    (first
      | exact ⟨by assumption, by assumption, by assumption, by assumption, by assumption⟩
      | exact HQ.out _ hq
      | fail)
    (first
      | (go_at_call 54; refine (HC.out _ (HL.out.keeps ((Keeps.refl [] _).drew) (by simp))).mono ?_; rintro e w2 ⟨l', rfl, hol, k2⟩; obtain ⟨lq, lc', rfl⟩ := (Sl.of_owns hol).len; have hl2 := Lib.hid (Sl.of_owns hol); clear hol; have hk2 : Keeps [] w w2 := k2.undrew; have a2 := (hk2.cell (p := ⟨b0, 0, none⟩) l0 (by simp)).trans h0; have c2 := (hk2.cell (p := ⟨b1, 0, none⟩) l1 (by simp)).trans h1; have d2 := (hk2.cell (p := ⟨m, 11, none⟩) hlm (by simp)).trans a11; have e2 := (hk2.cell (p := ⟨m, 12, none⟩) hlm (by simp)).trans a12; have f2 := (hk2.cell (p := ⟨m, 13, none⟩) hlm (by simp)).trans a13; clear k2)
      | (refine (HF.out _ _ _ hk2 hl2.out).mono ?_; rintro e w3 ⟨rfl, hq⟩)
      | fail)
  first | go_end0 | refine bodyPost_ret (results_none rfl _ _ _) rfl ?_
  exact ⟨rfl, hq⟩

set_option maxHeartbeats 1600000 in
theorem wBack (m o : Nat) (s so : WSt) (F : FuncId) (fi ca : Array Value) (n : Nat) (us : List Int) (Sx : List Nat) (w : World) (R : World → WSt → Prop) (hm : Wk w m s) (ho : Wk w o so) (hne : m ≠ o)
    (hsub : so.sub = some ⟨m, 0, none⟩) (hout : s.outer = .slice none 0 0) (hov : so.over = false) (haf : so.after = .func (.func F) fi ca) (hu : so.under = 0) (hcf : ∀ args w, (callFunc F args).run Tryz.prog w = .ok (.enter F args) w)
    (hl : Sl w 1 s.l n (ints .u64 us)) (hn : n ≤ 10000000) (hlb : ∀ g, s.l.ownBlock = some g → g ≠ m ∧ g ≠ o) (hSx : ∀ k ∈ Sx, k < w.heap.size)
    (hF : ∀ w1 q c, Wk w1 o { so with nxt := .nilFunc, sub := none, after := .nilFunc, under := 1 } → Wk w1 m s → Keeps [m, o] w w1 → Sl w1 1 (.slice q n c) n (ints .u64 us) → Calls Tryz.prog F (fi.push (.agg #[.int .i64 s.code, .int .u64 s.v, .slice q n c]) ++ ca) w1 fun e w2 => e = .returned (.tuple #[]) ∧
      ∃ so2, Wk w2 o so2 ∧ so2.under = 1 ∧ (so2.over = false ∨ so2.outer = .slice none 0 0) ∧ Keeps Sx w1 w2 ∧ (∃ s2, Wk w2 m s2 ∧ s2.code = s.code ∧ s2.v = s.v ∧ s2.l = s.l) ∧ R w2 so2) :
    Calls Tryz.prog 106 #[.pointer (some ⟨o, 0, none⟩), .pointer (some ⟨m, 0, none⟩)] w fun e w' => e = .returned (.tuple #[]) ∧ ∃ w2 so2, R w2 so2 ∧ Keeps [o] w2 w' ∧ Wk w' o { so2 with under := 0 } := by
  have hq := fun W => walkPtr W ⟨m, 0, none⟩
  obtain ⟨-, -, -, -, -, -, h6, h7, -, -, h10, -, -, -⟩ := ho.at
  rw [hsub] at h6
  rw [haf] at h7
  rw [hov] at h10
  have hlto := ho.lt
  have hltm := hm.lt
  have HM := Lib.hid hm
  have HO := Lib.hid ho
  have HL := Lib.hid (fun W h1 h2 => wLeaveSub m o s so W h1 h2 hne hsub hout)
  have HH : Hid (_ ∧ _ ∧ _ ∧ _) := Lib.hid ⟨hl, hn, hlb, hSx⟩
  have HF := Lib.hid hF
  have HCF := Lib.hid hcf
  have HU := Lib.hid hu
  clear hm ho hsub hout hov haf hu hcf hl hn hlb hSx hF
  go_enter Tryz.func106, Tryz.ntmps106
  go_wp2_with fail
  go_quiet (fail)
  go_wp2_with fail
  generalize hW : World.alloc _ _ = W1
  have k1 : Keeps [] w W1 := by rw [← hW]; exact (((Keeps.refl _ _).alloc _).drewN).alloc _
  have b0 : Box W1 w.heap.size #[.pointer (some ⟨m, 0, none⟩)] := by rw [← hW]; exact ((Box.new w #[.pointer (some ⟨m, 0, none⟩)] 44).keeps ((Keeps.refl [] _).drewN) (by simp)).alloc _
  have b1 : Box W1 (w.heap.size + 1) #[.func (.func F) fi ca] := by rw [← hW]; have := Box.new ((w.alloc (.cells #[.pointer (some ⟨m, 0, none⟩)] 44)).drewN nq) #[.func (.func F) fi ca] 103; simpa [World.drewN] using this
  clear hW
  refine (HL.out W1 (HM.out.keeps k1 (by simp)) (HO.out.keeps k1 (by simp))).mono ?_
  rintro e w2 ⟨rfl, ho2, hm2, k2⟩
  have c0 := b0.keeps k2 (by simp; omega)
  have c1 := b1.keeps k2 (by simp; omega)
  have hk2 : Keeps [m, o] w w2 := (k1.mono (by simp)).trans k2
  have D := wDo o _ 110 #[.pointer (some ⟨w.heap.size + 1, 0, none⟩), .pointer (some ⟨w.heap.size, 0, none⟩)] w2 R ho2 (by show 0 ≤ so.under; rw [HU.out]; exact Int.le_refl 0) (by show so.under ≤ 1000; rw [HU.out]; decide) (fun _ _ => by kernel_rfl) (fun w3 h3 k3 =>
    have hm3 := hm2.keeps k3 (by simpa using hne)
    have e1 := (c1.keeps k3 (by simp; omega))
    have e0 := (c0.keeps k3 (by simp; omega))
    have hk3 : Keeps [m, o] w w3 := hk2.trans (k3.mono (by simp))
    (wBack1 m (w.heap.size + 1) w.heap.size s F fi ca n us w3 (fun w' => ∃ so2, Wk w' o so2 ∧ so2.under = 1 ∧ (so2.over = false ∨ so2.outer = .slice none 0 0) ∧ (∃ w4, Keeps [] w3 w4 ∧ Keeps Sx w4 w') ∧ (∃ s2, Wk w' m s2 ∧ s2.code = s.code ∧ s2.v = s.v ∧ s2.l = s.l) ∧ R w' so2) HCF.out hm3 (e1.cells 0) (e0.cells 0) e1.lt e0.lt
      (HH.out.1.but hk3 (fun g hg => by have := HH.out.2.2.1 g hg; simp [this.1, this.2])) HH.out.2.1
      (fun w4 q c k4 hq4 => ((HF.out w4 q c (by have := h3.keeps k4 (by simp); simpa [HU.out] using this) (hm3.keeps k4 (by simp)) (hk3.trans (k4.mono (by simp))) hq4).mono fun e w5 ⟨he, so2, a, b, c, d, f, g⟩ => ⟨he, so2, a, b, c, ⟨w4, k4, d⟩, f, g⟩))
      (fun w' ⟨so2, a, b, c, ⟨w4, k4, d⟩, ⟨s2, f1, f2, f3, f4⟩, g⟩ => by
        have n0 : w.heap.size ∉ Sx := fun h => by have := HH.out.2.2.2 _ h; omega
        have n1 : w.heap.size + 1 ∉ Sx := fun h => by have := HH.out.2.2.2 _ h; omega
        refine ⟨((e1.keeps k4 (by simp)).keeps d n1).cells 0, ((e0.keeps k4 (by simp)).keeps d n0).cells 0, ?_⟩
        obtain ⟨-, -, -, -, -, -, -, -, -, -, -, x1, x2, x3⟩ := f1.at
        rw [f2] at x1
        rw [f3] at x2
        rw [f4] at x3
        exact ⟨x1, x2, x3⟩)).mono fun e w5 ⟨he, so2, a, b, c, _, _, g⟩ => ⟨he, so2, a, by simpa [HU.out] using b, by rcases c with c | c; exact .inl c; exact .inr (.inr c), g⟩)
  have HD := Lib.hid D
  have HC1 := Lib.hid (c1.cells 0)
  clear D b0 b1 k1 k2 ho2 hm2 c0 c1
  go_wp2_with fail
  refine HD.out.mono ?_
  rintro e w5 ⟨rfl, w4, so2, hR, k4, w5k⟩
  have HP := Lib.hid (show R w4 so2 ∧ Keeps [o] w4 w5 ∧ Wk w5 o { so2 with under := 0 } from ⟨hR, k4, by simpa [HU.out] using w5k⟩)
  clear hR k4 w5k
  go_wp2
  first | go_end0 | refine bodyPost_ret (results_none rfl _ _ _) rfl ?_
  exact ⟨rfl, _, _, HP.out⟩
end Go.Proofs.YtjbgkaleickknaaGreat

/-
  Contracts: what has ended tells the one that went into it; Give, where that may happen.
-/
namespace Go.Proofs.YtjbgkaleickknaaGreat
set_option maxRecDepth 100000
set_option linter.unusedSimpArgs false
set_option linter.unusedVariables false
open Go.ChangeShapes Go.WideShapes Go.ChangeAt Go.RowKit

set_option maxHeartbeats 1600000 in
theorem wTellOne (m o g cap : Nat) (ty : TypeId) (s so : WSt) (F : FuncId) (fi ca : Array Value) (n : Nat) (us : List Int) (Sx : List Nat) (w : World) (R : World → WSt → Prop) (hm : Wk w m s) (ho : Wk w o so) (hne : m ≠ o)
    (hs : s.over = true) (hu0 : s.under = 0) (hout : s.outer = .slice (some ⟨g, 0, none⟩) 1 cap) (hg : Row w g ty [.pointer (some ⟨o, 0, none⟩)]) (hgm : g ≠ m)
    (hsub : so.sub = some ⟨m, 0, none⟩) (hov : so.over = false) (haf : so.after = .func (.func F) fi ca) (hu : so.under = 0) (hcf : ∀ args w, (callFunc F args).run Tryz.prog w = .ok (.enter F args) w)
    (hl : Sl w 1 s.l n (ints .u64 us)) (hn : n ≤ 10000000) (hlb : ∀ g, s.l.ownBlock = some g → g ≠ m ∧ g ≠ o) (hSx : ∀ k ∈ Sx, k < w.heap.size)
    (hF : ∀ w1 q c, Wk w1 o { so with nxt := .nilFunc, sub := none, after := .nilFunc, under := 1 } → Wk w1 m { s with outer := .slice none 0 0 } → Keeps [m, o] w w1 → Sl w1 1 (.slice q n c) n (ints .u64 us) → Calls Tryz.prog F (fi.push (.agg #[.int .i64 s.code, .int .u64 s.v, .slice q n c]) ++ ca) w1 fun e w2 => e = .returned (.tuple #[]) ∧
      ∃ so2, Wk w2 o so2 ∧ so2.under = 1 ∧ (so2.over = false ∨ so2.outer = .slice none 0 0) ∧ Keeps Sx w1 w2 ∧ (∃ s2, Wk w2 m s2 ∧ s2.code = s.code ∧ s2.v = s.v ∧ s2.l = s.l) ∧ R w2 so2) :
    Calls Tryz.prog 101 #[.pointer (some ⟨m, 0, none⟩)] w fun e w' => e = .returned (.tuple #[]) ∧ ∃ w2 so2, R w2 so2 ∧ Keeps [o] w2 w' ∧ Wk w' o { so2 with under := 0 } := by
  obtain ⟨-, -, -, -, -, -, -, -, h8, h9, h10, -, -, -⟩ := hm.at
  have f8 := hm.fr 8
  rw [hs] at h10
  rw [hu0] at h9
  rw [hout] at h8
  have W1 : Keeps [m] w (w.setCell ⟨m, 8, none⟩ (.slice none 0 0)) := (Keeps.refl _ _).set (by simp) _ _
  have hB := Lib.hid (wBack m o { s with outer := .slice none 0 0 } so F fi ca n us Sx (w.setCell ⟨m, 8, none⟩ (.slice none 0 0)) R (hm.outerAt _) (ho.keeps W1 (by simpa using Ne.symm hne)) hne hsub rfl hov haf hu hcf
    (hl.but W1 (fun g hg => by have := hlb g hg; simp [this.1])) hn hlb (by simpa using hSx) (fun w1 q c a b k d => hF w1 q c a b ((W1.mono (by simp)).trans k) d))
  have hg0 : (w.setCell ⟨m, 8, none⟩ (.slice none 0 0)).cell? ⟨g, 0, none⟩ = some (.pointer (some ⟨o, 0, none⟩)) := (hg.keeps W1 (by simpa using hgm)).cell (j := 0) rfl
  clear hs hu0 hout hm ho hsub hov haf hu hcf hl hn hlb hSx hF W1 hg
  go_enter Tryz.func101, Tryz.ntmps101
  go_wp2
  refine wp_loop_rounds 2 ?_
  rw [rounds_succ]
  go_wp2_with fail
  refine hB.out.mono ?_
  rintro e w1 ⟨rfl, w2, so2, hR, k2, w2k⟩
  have HP : Hid (_ ∧ _ ∧ _) := Lib.hid ⟨hR, k2, w2k⟩
  clear hR k2 w2k
  go_wp2
  rw [rounds_succ]
  go_wp2
  first | go_end0 | refine bodyPost_ret (results_none rfl _ _ _) rfl ?_
  exact ⟨rfl, _, _, HP.out⟩

set_option maxHeartbeats 800000 in
/-- A function that is done for a walk, and what is told behind it. -/
theorem wDoT (m : Nat) (s : WSt) (F : FuncId) (ca : Array Value) (w : World) (R : World → WSt → Prop) (R' : World → Prop) (h : Wk w m s) (hu : 0 ≤ s.under) (hu1 : s.under ≤ 1000) (hcf : ∀ args w, (callFunc F args).run Tryz.prog w = .ok (.enter F args) w)
    (hF : ∀ w1, Wk w1 m { s with under := s.under + 1 } → Keeps [m] w w1 → Calls Tryz.prog F ca w1 fun e w2 => e = .returned (.tuple #[]) ∧ ∃ s2, Wk w2 m s2 ∧ s2.under = s.under + 1 ∧ R w2 s2)
    (hT : ∀ w2 s2 w3, R w2 s2 → Keeps [m] w2 w3 → Wk w3 m { s2 with under := s.under } → Calls Tryz.prog 101 #[.pointer (some ⟨m, 0, none⟩)] w3 fun e w4 => e = .returned (.tuple #[]) ∧ R' w4) :
    Calls Tryz.prog 78 #[.pointer (some ⟨m, 0, none⟩), .func (.func F) #[] ca] w fun e w' => e = .returned (.tuple #[]) ∧ R' w' := by
  have HF := Lib.hid hF
  have HT := Lib.hid hT
  have HCF := Lib.hid hcf
  obtain ⟨-, -, -, -, -, -, -, -, -, h9, -, -, -, -⟩ := h.at
  have f9 := h.fr 9
  have HW := Lib.hid h
  obtain ⟨u, hsu⟩ : ∃ u, s.under = u := ⟨_, rfl⟩
  rw [hsu] at h9 hu hu1
  have HU := Lib.hid hsu
  clear hF hT hcf h hsu
  go_enter Tryz.func78, Tryz.ntmps78
  go_wp2_with fail
  have w1 := HW.out.underAt (u + 1)
  have C := HF.out _ (by rw [HU.out]; exact w1) ((Keeps.refl [m] w).set (by simp) _ _)
  refine (wTry F ca _ _ HCF.out C).mono ?_
  clear C w1
  rintro e w2 ⟨rfl, s2, w2k, u2, hR⟩
  obtain ⟨-, -, -, -, -, -, -, -, -, b9, -, -, -, -⟩ := w2k.at
  have g9 := w2k.fr 9
  rw [u2, HU.out] at b9
  have HW2 := Lib.hid w2k
  have HR := Lib.hid hR
  clear w2k u2 hR h9 f9
  go_wp2_with fail
  have w3 := HW2.out.underAt u
  refine (HT.out w2 s2 _ HR.out ((Keeps.refl [m] w2).set (by simp) _ _) (by rw [HU.out]; exact w3)).mono ?_
  rintro e w4 ⟨rfl, hR'⟩
  have HR' := Lib.hid hR'
  clear hR' w3
  go_wp2
  go_end0
  exact ⟨rfl, HR'.out⟩

set_option maxHeartbeats 1600000 in
theorem wGiveT (m : Nat) (s : WSt) (F : FuncId) (fi ca : Array Value) (v : Int) (won : Bool) (w : World) (R : World → WSt → Prop) (R' : World → Prop) (h : Wk w m s) (hs : s.sub = none) (hn : s.nxt = .func (.func F) fi ca) (hu : s.under = 0)
    (hcf : ∀ args w, (callFunc F args).run Tryz.prog w = .ok (.enter F args) w)
    (hF : ∀ w1, Wk w1 m { s with nxt := .nilFunc, sub := none, after := .nilFunc, under := 1 } → Keeps [m] w w1 → Calls Tryz.prog F (fi ++ (#[.int .u64 v, .bool won] ++ ca)) w1 fun e w2 => e = .returned (.tuple #[]) ∧ ∃ s2, Wk w2 m s2 ∧ s2.under = 1 ∧ R w2 s2)
    (hT : ∀ w2 s2 w3, R w2 s2 → Keeps [m] w2 w3 → Wk w3 m { s2 with under := 0 } → Calls Tryz.prog 101 #[.pointer (some ⟨m, 0, none⟩)] w3 fun e w4 => e = .returned (.tuple #[]) ∧ R' w4) :
    Calls Tryz.prog 53 #[.pointer (some ⟨m, 0, none⟩), .int .u64 v, .bool won] w fun e w' => e = .returned (.tuple #[]) ∧ R' w' := by
  have HA := Lib.hid (fun W h => wAsker m s W h hs (.func F) fi ca hn)
  have HL := Lib.hid (fun W h => wLeave m s W h hs)
  have HF := Lib.hid hF
  have HT := Lib.hid hT
  have HCF := Lib.hid hcf
  have HU := Lib.hid hu
  have HW := Lib.hid h
  have hlt := h.lt
  have h5 := h.at.2.2.2.2.2.1
  rw [hn] at h5
  clear hF hT hcf hu h hs hn
  go_enter Tryz.func53, Tryz.ntmps53
  go_wp2_with fail
  refine (HA.out _ ((HW.out.alloc _).alloc _)).mono ?_
  rintro e w0 ⟨rfl, rfl⟩
  go_wp2_with fail
  generalize hW : World.alloc _ _ = W1
  have k1 : Keeps [] w W1 := by rw [← hW]; exact (((Keeps.refl _ _).alloc _).alloc _).alloc _
  have w1 : Wk W1 m s := HW.out.keeps k1 (by simp)
  have b0 : Box W1 w.heap.size #[.int .u64 v] := by rw [← hW]; exact ((Box.new _ _ _).alloc _).alloc _
  have b1 : Box W1 (w.heap.size + 1) #[.bool won] := by rw [← hW]; have := (Box.new (w.alloc (.cells #[.int .u64 v] 34)) #[.bool won] 4).alloc (.cells #[.func (.func F) fi ca] 94); simpa using this
  have b2 : Box W1 (w.heap.size + 2) #[.func (.func F) fi ca] := by rw [← hW]; have := (Box.new ((w.alloc (.cells #[.int .u64 v] 34)).alloc (.cells #[.bool won] 4)) #[.func (.func F) fi ca] 94); simpa using this
  clear hW
  refine (HL.out _ w1).mono ?_
  rintro e w2 ⟨rfl, w2k, k2⟩
  have HK := Lib.hid (k1.nil.trans k2)
  have HC0 := Lib.hid (b0.keeps k2 (by simp; omega))
  have HC1 := Lib.hid (b1.keeps k2 (by simp; omega))
  have HC2 := Lib.hid (b2.keeps k2 (by simp; omega))
  have HW2 := Lib.hid w2k
  clear k1 k2 w1 b0 b1 b2 w2k h5
  have D := wDoT m _ 79 #[.pointer (some ⟨w.heap.size + 2, 0, none⟩), .pointer (some ⟨w.heap.size, 0, none⟩), .pointer (some ⟨w.heap.size + 1, 0, none⟩)] w2 R R' HW2.out (by show 0 ≤ s.under; rw [HU.out]; exact Int.le_refl 0) (by show s.under ≤ 1000; rw [HU.out]; decide) (fun _ _ => by kernel_rfl) (fun w3 h3 k3 => wGive1 F fi ca v won _ _ _ w3 _ (fun _ _ h => h.1) HCF.out ((HC2.out.keeps k3 (by simp; omega)).cells 0) ((HC0.out.keeps k3 (by simp; omega)).cells 0) ((HC1.out.keeps k3 (by simp; omega)).cells 0)
    ((HF.out w3 (by have := h3; simpa [HU.out] using this) (HK.out.trans k3)).mono fun e w4 ⟨he, s2, a, b, d⟩ => ⟨he, s2, a, by simpa [HU.out] using b, d⟩))
    (fun w4 s2 w5 hR k h => HT.out w4 s2 w5 hR k (by simpa [HU.out] using h))
  have HD := Lib.hid D
  clear D
  go_wp2_with fail
  refine HD.out.mono ?_
  rintro e w5 ⟨rfl, hR⟩
  have HP := Lib.hid hR
  clear hR
  go_wp2
  first | go_end0 | refine bodyPost_ret (results_none rfl _ _ _) rfl ?_
  exact ⟨rfl, HP.out⟩
end Go.Proofs.YtjbgkaleickknaaGreat
