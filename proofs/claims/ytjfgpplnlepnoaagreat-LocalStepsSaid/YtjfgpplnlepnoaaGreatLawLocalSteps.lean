/-
  The law LocalSteps of the statements holds for every input: the call returns true, and the arguments read as before.
-/
import Derived.Test.YtjfgpplnlepnoaaGreatLcB
import Derived.Test.YtjfgpplnlepnoaaGreatLcT
import Derived.Test.YtjfgpplnlepnoaaGreatLike
import Derived.Test.YtjfgpplnlepnoaaGreatTold
import Derived.Test.YtjfgpplnlepnoaaGreatOpenA
import Derived.Test.YtjfgpplnlepnoaaGreatLook
import Derived.Test.YtjfgpplnlepnoaaGreatOpen
import Derived.Test.YtjfgpplnlepnoaaGreatAcc
import Derived.Test.YtjfgpplnlepnoaaGreatMem3
import Derived.Test.YtjfgpplnlepnoaaGreatRows
import Derived.WalkKit
import Derived.ProofKit
import Derived.OpenShut
import Derived.ShutString
import Derived.ChangeOld
import Derived.Below
import Derived.Test.YtjfgpplnlepnoaaGreatOpen
namespace Go.Proofs.YtjfgpplnlepnoaaGreat.localSteps
open Go.ChangeShapes Go.WideShapes Go.ChangeAt Go.RowKit
open Go.ChangeMaps (open_string shut_string)
set_option linter.unusedVariables false
set_option linter.unusedSimpArgs false

theorem own : ownKnob Tryz.prog.godebug = none := by kernel_rfl
theorem laidOut : laidOutB Tryz.prog = true := by kernel_rfl

def lsSt (kind at_ size k2 at2 size2 qa qn v : Int) (j : Nat) : LcS := ([lcRow 1 kind at_ size v, lcRow 2 kind at_ size v, lcSteal kind at_ size k2 at2 size2, lcPeek kind at_ size, lcLine qa qn] : List LcS).getD j lcNo
set_option maxHeartbeats 12800000 in
set_option maxRecDepth 200000 in
theorem walk (kind at_ size k2 at2 size2 qa qn v : Int) (p : Option Addr) (nt c : Nat) (ts : List (Int × Bool)) (w : World) (hwk : (Lit.int .i64 kind).wf = true) (hwa : (Lit.int .i64 at_).wf = true) (hws : (Lit.int .i64 size).wf = true) (hwk2 : (Lit.int .i64 k2).wf = true) (hwa2 : (Lit.int .i64 at2).wf = true) (hws2 : (Lit.int .i64 size2).wf = true)
    (hwqa : (Lit.int .i64 qa).wf = true) (hwqn : (Lit.int .i64 qn).wf = true) (hwv : (Lit.int .u64 v).wf = true) (hsl : Sl w 2 (.slice p nt c) nt (tolds ts)) (hl : ts.length = nt) (hn : nt ≤ maxLen) (hu : ∀ t ∈ ts, M.U t.1) :
    Calls Tryz.prog 3 #[.agg #[.int .i64 kind, .int .i64 at_, .int .i64 size], .agg #[.int .i64 k2, .int .i64 at2, .int .i64 size2], .agg #[.int .i64 qa, .int .i64 qn], .int .u64 v, .slice p nt c] w fun e w' => e = .returned (.bool true) ∧ Below w.heap.size w w' := by
  subst hl
  unfold maxLen at hn
  have HT := Lib.hid hsl
  have HU := Lib.hid hu
  have HTS : Hid (ts.length ≠ 0 → ∀ g, (Value.slice p ts.length c).ownBlock = some g → g < w.heap.size) := Lib.hid fun h0 g hg => by
    obtain ⟨b, off, cc, he, hb, -⟩ := hsl.some (by omega)
    rw [he] at hg; simp [Value.ownBlock] at hg; omega
  have bs := bounds_i64 hws
  have bs2 := bounds_i64 hws2
  have HV : Hid (M.U v) := Lib.hid (M.U.wf hwv)
  clear hsl hu hwk hwa hws hwk2 hwa2 hws2 hwqa hwqn hwv
  obtain ⟨ab, hab⟩ : ∃ ab, w.heap.size = ab := ⟨_, rfl⟩
  obtain ⟨W0, hW0⟩ : ∃ W0, ((w.alloc (.cells #[.int .i64 kind, .int .i64 at_, .int .i64 size] 23)).alloc (.cells #[.int .i64 k2, .int .i64 at2, .int .i64 size2] 23)).alloc (.cells #[.int .i64 qa, .int .i64 qn] 25) = W0 := ⟨_, rfl⟩
  have HB0 : Hid (Box W0 ab #[.int .i64 kind, .int .i64 at_, .int .i64 size] ∧ Box W0 (ab + 1) #[.int .i64 k2, .int .i64 at2, .int .i64 size2] ∧ Box W0 (ab + 2) #[.int .i64 qa, .int .i64 qn]) := Lib.hid (by
    rw [← hW0, ← hab]
    have a1 := Box.new w #[.int .i64 kind, .int .i64 at_, .int .i64 size] 23
    have a2 := Box.new (w.alloc (.cells #[.int .i64 kind, .int .i64 at_, .int .i64 size] 23)) #[.int .i64 k2, .int .i64 at2, .int .i64 size2] 23
    have a3 := Box.new ((w.alloc (.cells #[.int .i64 kind, .int .i64 at_, .int .i64 size] 23)).alloc (.cells #[.int .i64 k2, .int .i64 at2, .int .i64 size2] 23)) #[.int .i64 qa, .int .i64 qn] 25
    exact ⟨(a1.alloc _).alloc _, by simpa using a2.alloc _, by simpa using a3⟩)
  have HK0 : Hid (Keeps [] w W0) := Lib.hid (by rw [← hW0]; exact (((Keeps.refl _ _).alloc _).alloc _).alloc _)
  have HAB := Lib.hid hab
  have hW0' := hW0
  go_enter Tryz.func3, Tryz.ntmps3
  go_wp2_with fail
  clear hW0 hW0'
  refine (awake13 W0).mono ?_
  rintro e w1 ⟨rfl, k1⟩
  have kk1 : Keeps [] W0 w1 := ⟨k1.os, k1.tape, k1.output, k1.size, fun k hk _ => k1.block k hk⟩
  have HKw := Lib.hid (HK0.out.trans kk1)
  have HB1 := Lib.hid (show _ ∧ _ ∧ _ from ⟨HB0.out.1.keeps kk1 (by simp), HB0.out.2.1.keeps kk1 (by simp), HB0.out.2.2.keeps kk1 (by simp)⟩)
  clear k1 kk1 HK0 HB0 hab
  by_cases h1 : 100 < ts.length
  · have d1 : decide ((100 : Int) < ts.length) = true := decide_eq_true (by omega)
    go_wp2
    go_ret
    exact ⟨rfl, HKw.out.end⟩
  have d1 : decide ((100 : Int) < ts.length) = false := decide_eq_false (by omega)
  have HS : Hid (∀ W, Keeps [] w1 W → W.cell? ⟨ab, 0, none⟩ = some (.int .i64 kind) ∧ W.cell? ⟨ab, 1, none⟩ = some (.int .i64 at_) ∧ W.cell? ⟨ab, 2, none⟩ = some (.int .i64 size) ∧
      W.cell? ⟨ab + 1, 0, none⟩ = some (.int .i64 k2) ∧ W.cell? ⟨ab + 1, 1, none⟩ = some (.int .i64 at2) ∧ W.cell? ⟨ab + 1, 2, none⟩ = some (.int .i64 size2) ∧
      W.cell? ⟨ab + 2, 0, none⟩ = some (.int .i64 qa) ∧ W.cell? ⟨ab + 2, 1, none⟩ = some (.int .i64 qn)) := Lib.hid fun W hk => by
    have q0 := HB1.out.1.keeps hk (by simp)
    have q1 := HB1.out.2.1.keeps hk (by simp)
    have q2 := HB1.out.2.2.keeps hk (by simp)
    exact ⟨q0.cells 0, q0.cells 1, q0.cells 2, q1.cells 0, q1.cells 1, q1.cells 2, q2.cells 0, q2.cells 1⟩
  have hbl : ab + 2 < w1.heap.size := HB1.out.2.2.lt
  obtain ⟨c0, c1, c2, x0, x1, x2, y0, y1⟩ := HS.out w1 (Keeps.refl _ _)
  obtain ⟨d, hd⟩ : ∃ d, decide (lcRight kind at_ size) = d := ⟨_, rfl⟩
  have HR := Lib.hid (fun W => lcRight_any kind at_ size W bs.1)
  have HRR := Lib.hid (fun W => rkRight_any kind at_ size W)
  rw [hd] at HR HRR
  have hdd : (d == d) = true := by simp
  have hdn : (d != d) = false := by simp
  have hk0 : Keeps [] w1 w1 := Keeps.refl _ _
  clear hd
  go_wp2_with fail
  go_region_held3 (fun w' => w'.cell? ⟨ab, 0, none⟩ = some (.int .i64 kind) ∧ w'.cell? ⟨ab, 1, none⟩ = some (.int .i64 at_) ∧ w'.cell? ⟨ab, 2, none⟩ = some (.int .i64 size))
    (first
      | exact ⟨(HS.out _ hk2).1, (HS.out _ hk2).2.1, (HS.out _ hk2).2.2.1⟩
      | exact ⟨(HS.out _ hk0.drew).1, (HS.out _ hk0.drew).2.1, (HS.out _ hk0.drew).2.2.1⟩
      | fail)
    (first
      | (go_at_call 7; refine (HR.out _).mono ?_; rintro e w2 ⟨rfl, k2⟩; have hk2 : Keeps [] w1 w2 := k2.undrew; clear k2)
      | (go_at_call 8; refine (HRR.out _).mono ?_; rintro e w' ⟨rfl, rfl⟩)
      | fail)
  have HK2 := Lib.hid hk2
  have HS2 : Hid (∀ W, Keeps [] w2 W → W.cell? ⟨ab, 0, none⟩ = some (.int .i64 kind) ∧ W.cell? ⟨ab, 1, none⟩ = some (.int .i64 at_) ∧ W.cell? ⟨ab, 2, none⟩ = some (.int .i64 size) ∧
      W.cell? ⟨ab + 1, 0, none⟩ = some (.int .i64 k2) ∧ W.cell? ⟨ab + 1, 1, none⟩ = some (.int .i64 at2) ∧ W.cell? ⟨ab + 1, 2, none⟩ = some (.int .i64 size2) ∧
      W.cell? ⟨ab + 2, 0, none⟩ = some (.int .i64 qa) ∧ W.cell? ⟨ab + 2, 1, none⟩ = some (.int .i64 qn)) := Lib.hid fun W hk => HS.out W (HK2.out.trans hk)
  have hs12 := hk2.size
  clear c0 c1 c2 x0 x1 x2 y0 y1 hk0 hk2 HR HRR
  obtain ⟨c0, c1, c2, x0, x1, x2, y0, y1⟩ := HS2.out w2 (Keeps.refl _ _)
  have hkz : Keeps [] w2 w2 := Keeps.refl _ _
  have HP1 := Lib.hid (fun W => lcPush_made kind at_ size v W bs.1 HV.out)
  have HP2 := Lib.hid (fun W => lcPop_made kind at_ size W bs.1)
  have HP3 := Lib.hid (fun W => lcSteal_made kind at_ size k2 at2 size2 W bs.1 bs2.1)
  have HP4 := Lib.hid (fun W => lcPeek_made kind at_ size W bs.1)
  have HP5 := Lib.hid (fun W => lcLine_made qa qn W)
  go_wp2
  go_region_held3 (fun w' => w'.cell? ⟨ab, 0, none⟩ = some (.int .i64 kind) ∧ w'.cell? ⟨ab, 1, none⟩ = some (.int .i64 at_) ∧ w'.cell? ⟨ab, 2, none⟩ = some (.int .i64 size) ∧
      w'.cell? ⟨ab + 1, 0, none⟩ = some (.int .i64 k2) ∧ w'.cell? ⟨ab + 1, 1, none⟩ = some (.int .i64 at2) ∧ w'.cell? ⟨ab + 1, 2, none⟩ = some (.int .i64 size2) ∧
      w'.cell? ⟨ab + 2, 0, none⟩ = some (.int .i64 qa) ∧ w'.cell? ⟨ab + 2, 1, none⟩ = some (.int .i64 qn))
    (first
      | exact HS2.out _ (hke.alloc _)
      | exact HS2.out _ hke
      | exact HS2.out _ hkd
      | exact HS2.out _ hkc
      | exact HS2.out _ hkb
      | exact HS2.out _ hka
      | exact HS2.out _ hkz.drew
      | fail)
    (first
      | (have _ := hkd; go_at_call 13; refine (HP5.out _).mono ?_; rintro e2 we ⟨me, Se, rfl, je, le, se⟩; have hke : Keeps [] w2 we := hkd.trans le)
      | (have _ := hkc; go_at_call 12; refine (HP4.out _).mono ?_; rintro e2 wd ⟨md, Sd, rfl, jd, ld, sd⟩; have hkd : Keeps [] w2 wd := hkc.trans ld)
      | (have _ := hkb; go_at_call 11; refine (HP3.out _).mono ?_; rintro e2 wc ⟨mc, Sc, rfl, jc, lc, sc⟩; have hkc : Keeps [] w2 wc := hkb.trans lc)
      | (have _ := hka; go_at_call 10; refine (HP2.out _).mono ?_; rintro e2 wb ⟨mb, Sb, rfl, jb, lb, sb⟩; have hkb : Keeps [] w2 wb := hka.trans lb)
      | (go_at_call 9; refine (HP1.out _).mono ?_; rintro e2 wa ⟨ma, Sa, rfl, ja, la, sa⟩; have hka : Keeps [] w2 wa := la.undrew)
      | fail)
  obtain ⟨bl, hbl8⟩ : ∃ bl, we.heap.size = bl := ⟨_, rfl⟩
  rw [hbl8]
  generalize hW8 : World.alloc we _ = W8
  have k8 : Keeps [] we W8 := by rw [← hW8]; exact (Keeps.refl _ _).alloc _
  have r8 : Row W8 bl 30 [.pointer (some ⟨ma, 0, none⟩), .pointer (some ⟨mb, 0, none⟩), .pointer (some ⟨mc, 0, none⟩), .pointer (some ⟨md, 0, none⟩), .pointer (some ⟨me, 0, none⟩)] := by rw [← hW8, ← hbl8]; exact Row.new _ _ _
  have z8 : W8.heap.size = bl + 1 := by rw [← hW8, ← hbl8]; simp
  have jb2 := lcPop_row (v := v) jb HV.out
  have HX8 : Hid (ExAll 5 lcI (lsSt kind at_ size k2 at2 size2 qa qn v) w2 W8 bl (fun j => ([.pointer (some ⟨ma, 0, none⟩), .pointer (some ⟨mb, 0, none⟩), .pointer (some ⟨mc, 0, none⟩), .pointer (some ⟨md, 0, none⟩), .pointer (some ⟨me, 0, none⟩)] : List Value).getD j undef) (fun j => ([Sa, Sb, Sc, Sd, Se] : List (List Nat)).getD j [])) := by
    have la2 : w2.heap.size ≤ wa.heap.size := la.size
    have sa2 : ∀ k ∈ Sa, w2.heap.size ≤ k := sa
    have lb2 := lb.size
    have lc2 := lc.size
    have ld2 := ld.size
    have le2 := le.size
    have ta := (lcRuns ma).lt ja
    have tb := (lcRuns mb).lt jb
    have tc := (lcRuns mc).lt jc
    have td := (lcRuns md).lt jd
    have te := (lcRuns me).lt je
    refine Lib.hid (ExAll.of (fun j => ([w2.heap.size, wa.heap.size, wb.heap.size, wc.heap.size, wd.heap.size, we.heap.size] : List Nat).getD j 0) r8 (by omega) (fun j hj => ?_) (Nat.le_refl _) (by show we.heap.size ≤ bl; omega) (fun j hj => ?_) (fun j hj => ?_))
    · rcases (show j = 0 ∨ j = 1 ∨ j = 2 ∨ j = 3 ∨ j = 4 by omega) with rfl | rfl | rfl | rfl | rfl
      · exact ⟨ma, rfl, (lcRuns ma).frame ja ((((lb.trans lc).trans ld).trans le).trans k8) (by simp)⟩
      · exact ⟨mb, rfl, (lcRuns mb).frame jb2 (((lc.trans ld).trans le).trans k8) (by simp)⟩
      · exact ⟨mc, rfl, (lcRuns mc).frame jc ((ld.trans le).trans k8) (by simp)⟩
      · exact ⟨md, rfl, (lcRuns md).frame jd (le.trans k8) (by simp)⟩
      · exact ⟨me, rfl, (lcRuns me).frame je k8 (by simp)⟩
    · rcases (show j = 0 ∨ j = 1 ∨ j = 2 ∨ j = 3 ∨ j = 4 by omega) with rfl | rfl | rfl | rfl | rfl
      · exact la2
      · exact lb2
      · exact lc2
      · exact ld2
      · exact le2
    · rcases (show j = 0 ∨ j = 1 ∨ j = 2 ∨ j = 3 ∨ j = 4 by omega) with rfl | rfl | rfl | rfl | rfl
      · exact fun x hx => ⟨sa2 x hx, ta x hx⟩
      · exact fun x hx => ⟨sb x hx, tb x hx⟩
      · exact fun x hx => ⟨sc x hx, tc x hx⟩
      · exact fun x hx => ⟨sd x hx, td x hx⟩
      · exact fun x hx => ⟨se x hx, te x hx⟩
  have HK8 := Lib.hid (hke.trans k8)
  clear ja jb jb2 jc jd je la lb lc ld le sa sb sc sd se r8 k8 hW8 hka hkb hkc hkd hke hkz HP1 HP2 HP3 HP4 HP5
  obtain ⟨xs, hxs⟩ : ∃ xs : Nat → Value, (fun j => ([.pointer (some ⟨ma, 0, none⟩), .pointer (some ⟨mb, 0, none⟩), .pointer (some ⟨mc, 0, none⟩), .pointer (some ⟨md, 0, none⟩), .pointer (some ⟨me, 0, none⟩)] : List Value).getD j undef) = xs := ⟨_, rfl⟩
  obtain ⟨γ, hγ⟩ : ∃ γ : Nat → List Nat, (fun j => ([Sa, Sb, Sc, Sd, Se] : List (List Nat)).getD j []) = γ := ⟨_, rfl⟩
  rw [hxs, hγ] at HX8
  clear hxs hγ z8 hbl8
  have HS8 : Hid (∀ W, Keeps [] W8 W → W.cell? ⟨ab, 0, none⟩ = some (.int .i64 kind) ∧ W.cell? ⟨ab, 1, none⟩ = some (.int .i64 at_) ∧ W.cell? ⟨ab, 2, none⟩ = some (.int .i64 size) ∧
      W.cell? ⟨ab + 1, 0, none⟩ = some (.int .i64 k2) ∧ W.cell? ⟨ab + 1, 1, none⟩ = some (.int .i64 at2) ∧ W.cell? ⟨ab + 1, 2, none⟩ = some (.int .i64 size2) ∧
      W.cell? ⟨ab + 2, 0, none⟩ = some (.int .i64 qa) ∧ W.cell? ⟨ab + 2, 1, none⟩ = some (.int .i64 qn)) := Lib.hid fun W hk => HS2.out W (HK8.out.trans hk)
  clear c0 c1 c2 x0 x1 x2 y0 y1
  obtain ⟨c0, c1, c2, x0, x1, x2, y0, y1⟩ := HS8.out W8 (Keeps.refl _ _)
  have hkz : Keeps [] W8 W8 := Keeps.refl _ _
  have HQ1 := Lib.hid (fun W => rcRow_any 1 kind at_ size v W (.inl rfl) HV.out)
  have HQ2 := Lib.hid (fun W => rcRow_any 2 kind at_ size v W (.inr rfl) HV.out)
  have HQ3 := Lib.hid (fun W => rcSteal_any kind at_ size k2 at2 size2 W bs.1 bs2.1)
  have HQ4 := Lib.hid (fun W => rcLook_any kind at_ size W)
  have HQ5 := Lib.hid (fun W => rcLine_any qa qn W)
  go_wp2
  go_region_held3 (fun w' => w'.cell? ⟨ab, 0, none⟩ = some (.int .i64 kind) ∧ w'.cell? ⟨ab, 1, none⟩ = some (.int .i64 at_) ∧ w'.cell? ⟨ab, 2, none⟩ = some (.int .i64 size) ∧
      w'.cell? ⟨ab + 1, 0, none⟩ = some (.int .i64 k2) ∧ w'.cell? ⟨ab + 1, 1, none⟩ = some (.int .i64 at2) ∧ w'.cell? ⟨ab + 1, 2, none⟩ = some (.int .i64 size2) ∧
      w'.cell? ⟨ab + 2, 0, none⟩ = some (.int .i64 qa) ∧ w'.cell? ⟨ab + 2, 1, none⟩ = some (.int .i64 qn))
    (first
      | exact HS8.out _ (hke.alloc _)
      | exact HS8.out _ hke
      | exact HS8.out _ hkd
      | exact HS8.out _ hkc
      | exact HS8.out _ hkb
      | exact HS8.out _ hka
      | exact HS8.out _ hkz.drew
      | fail)
    (first
      | (have _ := hkd; go_at_call 17; refine (HQ5.out _).mono ?_; rintro e2 we ⟨me, Se, rfl, je, le, se⟩; have hke : Keeps [] W8 we := hkd.trans le)
      | (have _ := hkc; go_at_call 16; refine (HQ4.out _).mono ?_; rintro e2 wd ⟨md, Sd, rfl, jd, ld, sd⟩; have hkd : Keeps [] W8 wd := hkc.trans ld)
      | (have _ := hkb; go_at_call 15; refine (HQ3.out _).mono ?_; rintro e2 wc ⟨mc, Sc, rfl, jc, lc, sc⟩; have hkc : Keeps [] W8 wc := hkb.trans lc)
      | (have _ := hka; go_at_call 14; refine (HQ2.out _).mono ?_; rintro e2 wb ⟨mb, Sb, rfl, jb, lb, sb⟩; have hkb : Keeps [] W8 wb := hka.trans lb)
      | (go_at_call 14; refine (HQ1.out _).mono ?_; rintro e2 wa ⟨ma, Sa, rfl, ja, la, sa⟩; have hka : Keeps [] W8 wa := la.undrew)
      | fail)
  obtain ⟨bl2, hbl9⟩ : ∃ bl2, we.heap.size = bl2 := ⟨_, rfl⟩
  rw [hbl9]
  generalize hW9 : World.alloc we _ = W9
  have k9 : Keeps [] we W9 := by rw [← hW9]; exact (Keeps.refl _ _).alloc _
  have r9 : Row W9 bl2 36 [.pointer (some ⟨ma, 0, none⟩), .pointer (some ⟨mb, 0, none⟩), .pointer (some ⟨mc, 0, none⟩), .pointer (some ⟨md, 0, none⟩), .pointer (some ⟨me, 0, none⟩)] := by rw [← hW9, ← hbl9]; exact Row.new _ _ _
  have z9 : W9.heap.size = bl2 + 1 := by rw [← hW9, ← hbl9]; simp
  have HY9 : Hid (RcAll (lsSt kind at_ size k2 at2 size2 qa qn v) W8 W9 bl2 (fun j => ([.pointer (some ⟨ma, 0, none⟩), .pointer (some ⟨mb, 0, none⟩), .pointer (some ⟨mc, 0, none⟩), .pointer (some ⟨md, 0, none⟩), .pointer (some ⟨me, 0, none⟩)] : List Value).getD j undef) (fun j => ([Sa, Sb, Sc, Sd, Se] : List (List Nat)).getD j [])) := by
    have la2 : W8.heap.size ≤ wa.heap.size := la.size
    have sa2 : ∀ k ∈ Sa, W8.heap.size ≤ k := sa
    have lb2 := lb.size
    have lc2 := lc.size
    have ld2 := ld.size
    have le2 := le.size
    have ta := (rcRuns ma).lt ja
    have tb := (rcRuns mb).lt jb
    have tc := (rcRuns mc).lt jc
    have td := (rcRuns md).lt jd
    have te := (rcRuns me).lt je
    refine Lib.hid (RcAll.of (fun j => ([W8.heap.size, wa.heap.size, wb.heap.size, wc.heap.size, wd.heap.size, we.heap.size] : List Nat).getD j 0) r9 (by omega) (fun j hj => ?_) (Nat.le_refl _) (by show we.heap.size ≤ bl2; omega) (fun j hj => ?_) (fun j hj => ?_))
    · rcases (show j = 0 ∨ j = 1 ∨ j = 2 ∨ j = 3 ∨ j = 4 by omega) with rfl | rfl | rfl | rfl | rfl
      · exact ⟨ma, rfl, (rcRuns ma).frame ja ((((lb.trans lc).trans ld).trans le).trans k9) (by simp) (by simp)⟩
      · exact ⟨mb, rfl, (rcRuns mb).frame jb (((lc.trans ld).trans le).trans k9) (by simp) (by simp)⟩
      · exact ⟨mc, rfl, (rcRuns mc).frame jc ((ld.trans le).trans k9) (by simp) (by simp)⟩
      · exact ⟨md, rfl, (rcRuns md).frame jd (le.trans k9) (by simp) (by simp)⟩
      · exact ⟨me, rfl, (rcRuns me).frame je k9 (by simp) (by simp)⟩
    · rcases (show j = 0 ∨ j = 1 ∨ j = 2 ∨ j = 3 ∨ j = 4 by omega) with rfl | rfl | rfl | rfl | rfl
      · exact la2
      · exact lb2
      · exact lc2
      · exact ld2
      · exact le2
    · rcases (show j = 0 ∨ j = 1 ∨ j = 2 ∨ j = 3 ∨ j = 4 by omega) with rfl | rfl | rfl | rfl | rfl
      · exact fun x hx => ⟨sa2 x hx, ta x hx⟩
      · exact fun x hx => ⟨sb x hx, tb x hx⟩
      · exact fun x hx => ⟨sc x hx, tc x hx⟩
      · exact fun x hx => ⟨sd x hx, td x hx⟩
      · exact fun x hx => ⟨se x hx, te x hx⟩
  have HK9 := Lib.hid (hke.trans k9)
  clear ja jb jc jd je la lb lc ld le sa sb sc sd se r9 k9 hW9 hka hkb hkc hkd hke hkz HQ1 HQ2 HQ3 HQ4 HQ5 c0 c1 c2 x0 x1 x2 y0 y1
  obtain ⟨ys, hys⟩ : ∃ ys : Nat → Value, (fun j => ([.pointer (some ⟨ma, 0, none⟩), .pointer (some ⟨mb, 0, none⟩), .pointer (some ⟨mc, 0, none⟩), .pointer (some ⟨md, 0, none⟩), .pointer (some ⟨me, 0, none⟩)] : List Value).getD j undef) = ys := ⟨_, rfl⟩
  obtain ⟨δ, hδ⟩ : ∃ δ : Nat → List Nat, (fun j => ([Sa, Sb, Sc, Sd, Se] : List (List Nat)).getD j []) = δ := ⟨_, rfl⟩
  rw [hys, hδ] at HY9
  clear hys hδ z9 hbl9
  have HX9 := Lib.hid (HX8.out.keeps lcRuns HK9.out)
  obtain ⟨st, hst⟩ : ∃ st, lsSt kind at_ size k2 at2 size2 qa qn v = st := ⟨_, rfl⟩
  rw [hst] at HX9 HY9
  have hbla := HX8.out.new.1
  have hblb := HX8.out.new.2
  have hblc := HY9.out.new.1
  have hbld := HY9.out.new.2
  have hs28 := HK8.out.size
  have hs89 := HK9.out.size
  have HGa : Hid (∀ j, j < 5 → (∀ x ∈ γ j, w2.heap.size ≤ x ∧ x < W8.heap.size ∧ x ≠ bl) ∧ ∀ i, i < 5 → i ≠ j → ∀ x ∈ γ j, x ∉ γ i) := Lib.hid HX8.out.own
  have HGb := Lib.hid HY9.out.own
  clear hst HX8
  obtain ⟨E, hE⟩ : ∃ E : Nat → Prop, (fun x => x < w2.heap.size) = E := ⟨_, rfl⟩
  have HE : Hid (∀ k, E k ↔ k < w2.heap.size) := Lib.hid (by rw [← hE]; exact fun k => Iff.rfl)
  clear hE
  go_wp2
  go_loopw [13] (fun i wr => ∃ k : Nat, k ≤ 5 ∧ i = .int .i64 (k : Int) ∧ Held (exD 5 E bl bl2 bl2 (fun j => γ j ++ δ j) k) W9 wr) (fun i _ => 5 - (intOf i).toNat)
  case atStart => exact ⟨0, by omega, rfl, Held.refl _ _⟩
  case round =>
    obtain ⟨k, hk, rfl, hh⟩ := hrel
    have HHr := Lib.hid hh
    clear hh
    have HBw : Hid (Below w2.heap.size w2 wr) := Lib.hid (((HK8.out.trans HK9.out).below (Nat.le_refl _) (by simp)).trans (HHr.out.narrow (E := (· < w2.heap.size)) (fun x hx => .inl ((HE.out x).2 hx))).below)
    by_cases hlt : k < 5
    · have hsz : W9.heap.size ≤ wr.heap.size := HHr.out.size
      have k02 : Keeps [] w2 wr := Keeps.of_below HBw.out (Nat.le_refl _)
      have c1 : wr.cell? ⟨bl, k, none⟩ = some (xs k) := (HHr.out.cell (p := ⟨bl, k, none⟩) (.inr (.inl rfl))).trans (HX9.out.row.cell (by simp [hlt]))
      have c2 : wr.cell? ⟨bl2, k, none⟩ = some (ys k) := (HHr.out.cell (p := ⟨bl2, k, none⟩) (.inr (.inr (.inl rfl)))).trans (HY9.out.row.cell (by simp [hlt]))
      obtain ⟨mm, em, hI⟩ := HX9.out.walks k hlt
      obtain ⟨pp, ep, hJ⟩ := HY9.out.walks k hlt
      rw [em] at c1
      rw [ep] at c2
      have HI := Lib.hid ((lcRuns mm).held' hI HHr.out (fun x hx => .inr (.inr (.inr (.inr ⟨k, Nat.le_refl _, hlt, List.mem_append_left _ hx⟩)))))
      have HJ := Lib.hid (rc_held' hJ HHr.out (fun x hx => .inr (.inr (.inr (.inr ⟨k, Nat.le_refl _, hlt, List.mem_append_right _ hx⟩)))))
      have HTw : Hid (Sl wr 2 (.slice p ts.length c) ts.length (tolds ts)) := Lib.hid (HT.out.below (HKw.out.trans (HK2.out.trans k02)).end (Nat.le_refl _))
      have HTo : Hid (ts.length ≠ 0 → ∀ g, (Value.slice p ts.length c).ownBlock = some g → g < w2.heap.size) := Lib.hid fun h0 g hg => by
        have := HTS.out h0 g hg; have := (HKw.out.trans HK2.out).size; omega
      have HDis : Hid (∀ x ∈ γ k, x ∉ δ k) := Lib.hid fun x hx hx2 => by
        have := ((HGa.out k hlt).1 x hx).2.1; have := ((HGb.out k hlt).1 x hx2).1; omega
      have HSeen : Hid (Calls Tryz.prog 19 #[.pointer (some ⟨pp, 0, none⟩), .slice p ts.length c] wr.drew fun e w' => ∃ b nn cs, e = .returned (.slice (some ⟨b, 0, none⟩) nn cs) ∧
          SeenAt w' (fun g => g ∈ δ k ∨ wr.heap.size ≤ g) (.slice (some ⟨b, 0, none⟩) nn cs) (lcM.trace (st k) ts) ∧ Keeps (δ k) wr w') := Lib.hid (by
        refine (seen_part lcM (rcJ pp) (fun _ => False) pp (rcRuns pp) (.slice p ts.length c) (st k) ts (δ k) wr.drew ((rcRuns pp).frame HJ.out ((Keeps.refl [] wr).drew) (by simp) (by simp)) (HTw.out.keeps ((Keeps.refl [] wr).drew) (by simp)) (fun h0 g hg hm => by have := HTo.out h0 g hg; have := ((HGb.out k hlt).1 g hm).1; omega) HU.out (by omega) (fun k h => h.elim)).mono ?_
        rintro e w' ⟨vs, rfl, hseen, k4⟩
        obtain ⟨b, cs, rfl, -⟩ := hseen.shape
        exact ⟨_, _, _, rfl, hseen, k4.undrew⟩)
      have HSr : Hid (∀ W, Keeps (δ k) wr W → W.cell? ⟨bl, k, none⟩ = some (.pointer (some ⟨mm, 0, none⟩)) ∧ W.cell? ⟨bl2, k, none⟩ = some (.pointer (some ⟨pp, 0, none⟩))) := Lib.hid fun W hk =>
        ⟨(hk.cell (p := ⟨bl, k, none⟩) (by show bl < wr.heap.size; omega) (fun h => by have := ((HGb.out k hlt).1 bl h).1; omega)).trans c1, (hk.cell (p := ⟨bl2, k, none⟩) (by show bl2 < wr.heap.size; omega) (fun h => ((HGb.out k hlt).1 bl2 h).2.2 rfl)).trans c2⟩
      have HLike : Hid (∀ (W : World) (vs : Value), Keeps (δ k) wr W → SeenAt W (fun g => g ∈ δ k ∨ wr.heap.size ≤ g) vs (lcM.trace (st k) ts) →
          Calls Tryz.prog 18 #[.pointer (some ⟨mm, 0, none⟩), vs, .slice p ts.length c] W fun e w' => e = .returned (.bool true) ∧ Keeps (γ k) W w' ∧ w'.cell? ⟨bl, k, none⟩ = some (.pointer (some ⟨mm, 0, none⟩)) ∧ w'.cell? ⟨bl2, k, none⟩ = some (.pointer (some ⟨pp, 0, none⟩))) := Lib.hid fun W vs hkW hseen => by
        have hgr : ∀ x ∈ γ k, x < wr.heap.size := fun x hx => by have := ((HGa.out k hlt).1 x hx).2.1; omega
        refine (like_any lcM (lcI mm) mm (lcRuns mm) vs (.slice p ts.length c) (st k) ts (γ k) W ((lcRuns mm).frame HI.out hkW HDis.out) (hseen.imp fun g hg hlt2 => ⟨fun hm => ?_, hlt2⟩) (HTw.out.but0 hkW (fun h0 g hg hm => ?_)) (fun h0 g hg hm => ?_) HU.out (by omega)).mono ?_
        · rcases hg with h | h
          · exact HDis.out g hm h
          · have := hgr g hm; omega
        · have := HTo.out h0 g hg; have := ((HGb.out k hlt).1 g hm).1; omega
        · have := HTo.out h0 g hg; have := ((HGa.out k hlt).1 g hm).1; omega
        · rintro e w' ⟨rfl, S', -, k5, -⟩
          have s0 := HSr.out W hkW
          have hsW := hkW.size
          exact ⟨rfl, k5, (k5.cell (p := ⟨bl, k, none⟩) (by show bl < W.heap.size; omega) (fun h => ((HGa.out k hlt).1 bl h).2.2 rfl)).trans s0.1, (k5.cell (p := ⟨bl2, k, none⟩) (by show bl2 < W.heap.size; omega) (fun h => by have := ((HGa.out k hlt).1 bl2 h).2.1; omega)).trans s0.2⟩
      have hk0 : Keeps (δ k) wr wr := Keeps.refl _ _
      have i0 : (0 : Int) ≤ (k : Int) := by omega
      have i1 : (k : Int) < 5 := by omega
      clear hI hJ em ep k02
      go_wp2_with fail
      go_region_held3 (fun w' => w'.cell? ⟨bl, k, none⟩ = some (.pointer (some ⟨mm, 0, none⟩)) ∧ w'.cell? ⟨bl2, k, none⟩ = some (.pointer (some ⟨pp, 0, none⟩)))
        (first
          | exact hk4
          | exact HSr.out _ hk3
          | exact HSr.out _ hk0.drew
          | exact ⟨by assumption, by assumption⟩
          | fail)
        (first
          | (have _ := HT3; go_at_call 18; refine (HLike.out _ _ hk3 HT3.out).mono ?_; rintro e w4 ⟨rfl, k4, hk4⟩)
          | (go_at_call 19; refine HSeen.out.mono ?_; rintro e w3 ⟨b3, n3, c3, rfl, t3, k3⟩; have hk3 : Keeps (δ k) wr w3 := k3; have HT3 := Lib.hid t3; clear t3 k3)
          | fail)
      have HF : Hid (Held (exD 5 E bl bl2 bl2 (fun j => γ j ++ δ j) (k + 1)) W9 w4) := Lib.hid (by
        have hdom : ∀ x, exD 5 E bl bl2 bl2 (fun j => γ j ++ δ j) (k + 1) x → x < wr.heap.size := fun x hx => by
          rcases hx with h | h | h | h | ⟨j, h1, h2, h3⟩
          · have := (HE.out x).1 h; omega
          · omega
          · omega
          · omega
          · rcases List.mem_append.1 h3 with h3 | h3
            · have := ((HGa.out j h2).1 x h3).2.1; omega
            · have := ((HGb.out j h2).1 x h3).2.1; omega
        refine ((HHr.out.narrow (fun x hx => hx.next)).trans (hk3.held hdom (fun x hx hd => ?_))).trans (k4.held (fun x hx => Nat.lt_of_lt_of_le (hdom x hx) hk3.size) (fun x hx hd => ?_))
        · have hg := (HGb.out k hlt).1 x hx
          rcases hd with h | h | h | h | ⟨j, h1, h2, h3⟩
          · have := (HE.out x).1 h; omega
          · omega
          · exact hg.2.2 h
          · exact hg.2.2 h
          · rcases List.mem_append.1 h3 with h3 | h3
            · have := ((HGa.out j h2).1 x h3).2.1; omega
            · exact (HGb.out k hlt).2 j h2 (by omega) x hx h3
        · have hg := (HGa.out k hlt).1 x hx
          rcases hd with h | h | h | h | ⟨j, h1, h2, h3⟩
          · have := (HE.out x).1 h; omega
          · exact hg.2.2 h
          · omega
          · omega
          · rcases List.mem_append.1 h3 with h3 | h3
            · exact (HGa.out k hlt).2 j h2 (by omega) x hx h3
            · have := ((HGb.out j h2).1 x h3).1; omega)
      clear k4 hk4 hk3 hk0
      go_wp2
      go_roundw
      case rel => exact ⟨k + 1, by omega, by go_num, HF.out⟩
      case measure => first | (simp [intOf]; done) | (simp [intOf]; omega)
    · obtain rfl : k = 5 := by omega
      go_wp2
      go_ret
      exact ⟨rfl, (HKw.out.trans HK2.out).end.trans (HBw.out.mono (HKw.out.trans HK2.out).size)⟩

set_option maxRecDepth 100000 in
theorem lifted (os : Os) (started : os.Started) (H : Type) (enc : TypeId × Value → H) :
    ReturnsInHanded {} Tryz.checked os 3 .any (Rows.localStepsSpec.pre6 enc Tryz.prog Tryz.f3 Rows.localStepsRow.domain false) (Rows.localStepsSpec.post enc Tryz.prog Tryz.f3 false true false false) := by
  refine returnsInHanded_of_change (C := Tryz.checked) own started (by kernel_rfl) Tryz.func3
    (ChangeSpec.witness6 (enc := enc) (C := Tryz.checked) false ⟨#[], #[.agg #[.int .i64 0, .int .i64 0, .int .i64 0], .agg #[.int .i64 0, .int .i64 0, .int .i64 0], .agg #[.int .i64 0, .int .i64 0], .int .u64 0, .slice none 0 0], []⟩ 8 (by kernel_rfl) (by kernel_rfl) (by kernel_rfl) (by kernel_rfl)) ?_
  intro W base args ds gs before hval0 hW hcnd _
  have hval : ∀ (j : Nat) t v, Tryz.f3.params[j]? = some t → args[j]? = some v → Value.okWide Tryz.prog W .any base t v := hval0
  have hW' := hW
  obtain ⟨p, q, hA0, hV, rfl, hfz, hnd⟩ := hW
  have hA : DataW.TrodAll enc Tryz.prog W 0 (fun _ => true) true Tryz.f3.params.toList args.toList ds p := hA0
  rw [Tryz.params3] at hA hval
  obtain ⟨v0, vs0, d0, ds0, q0, qs0, hargs, rfl, rfl, h0, r0⟩ := trodAll_cons hA
  obtain ⟨v1, vs1, d1, ds1, q1, qs1, rfl, rfl, rfl, h1, r1⟩ := trodAll_cons r0
  obtain ⟨v2, vs2, d2, ds2, q2, qs2, rfl, rfl, rfl, h2, r2⟩ := trodAll_cons r1
  obtain ⟨v3, vs3, d3, ds3, q3, qs3, rfl, rfl, rfl, h3, r3⟩ := trodAll_cons r2
  obtain ⟨v4, vs4, d4, ds4, q4, qs4, rfl, rfl, rfl, h4, r4⟩ := trodAll_cons r3
  obtain ⟨rfl, rfl, rfl⟩ := trodAll_nil r4
  obtain rfl : args = #[v0, v1, v2, v3, v4] := by cases args; simp_all
  obtain ⟨rfl, rfl⟩ := trodVars_none hV
  have k0 := h0
  have lt0 : ∀ x ∈ q0, x.block < W.heap.size := by obtain ⟨m, hm⟩ := k0; exact DataW.trod_lt m _ _ _ hm
  obtain ⟨a0, b0, c0, rfl, f0, g0, j0⟩ := open_local (hval 0 23 v0 rfl rfl) h0
  have k1 := h1
  have lt1 : ∀ x ∈ q1, x.block < W.heap.size := by obtain ⟨m, hm⟩ := k1; exact DataW.trod_lt m _ _ _ hm
  obtain ⟨a1, b1, c1, rfl, f1, g1, j1⟩ := open_local (hval 1 23 v1 rfl rfl) h1
  have k2 := h2
  have lt2 : ∀ x ∈ q2, x.block < W.heap.size := by obtain ⟨m, hm⟩ := k2; exact DataW.trod_lt m _ _ _ hm
  obtain ⟨a2, n2, rfl, b2, c2⟩ := open_line (hval 2 25 v2 rfl rfl) h2
  obtain ⟨a3, rfl, rfl, rfl, w3⟩ := open_int Tryz.underlying26 (hval 3 26 v3 rfl rfl) h3
  obtain ⟨p4, n4, c4, rfl⟩ := okWide_slice Tryz.underlying27 (hval 4 27 v4 rfl rfl)
  have k4 := h4
  have lt4 : ∀ x ∈ q4, x.block < W.heap.size := by obtain ⟨m, hm⟩ := k4; exact DataW.trod_lt m _ _ _ hm
  obtain ⟨z4, s4, l4, m4, b4⟩ := (by obtain ⟨fu, hf⟩ := h4; exact sl_tolds Tryz.underlying27 hf : ∃ ts : List (Int × Bool), Sl W 2 (.slice p4 n4 c4) n4 (tolds ts) ∧ ts.length = n4 ∧ n4 ≤ maxLen ∧ ∀ t ∈ ts, M.U t.1)
  clear hA0 hval0
  simp only [List.append_nil] at hW'
  refine (walk a0 b0 c0 a1 b1 c1 a2 n2 a3 p4 n4 c4 z4 W f0 g0 j0 f1 g1 j1 b2 c2 w3 s4 l4 m4 b4).mono fun e W' ⟨he, bel⟩ => ?_
  subst he
  exact ⟨_, rfl, _, _, _, [], _, [], hW', trodAll_mk1 (shut_bool Tryz.underlying4 _), (trodAll_cons_mk (Below.trod laidOut (by kernel_rfl) (of_decide_eq_true (by kernel_rfl)) k0 bel lt0) (trodAll_cons_mk (Below.trod laidOut (by kernel_rfl) (of_decide_eq_true (by kernel_rfl)) k1 bel lt1) (trodAll_cons_mk (Below.trod laidOut (by kernel_rfl) (of_decide_eq_true (by kernel_rfl)) k2 bel lt2) (trodAll_cons_mk (shut_int Tryz.underlying26 w3) (trodAll_cons_mk (Below.trod laidOut (by kernel_rfl) (of_decide_eq_true (by kernel_rfl)) k4 bel lt4) trodAll_mk0))))), rfl, bel.frame _, fun h => by cases h⟩

theorem proved : Rows.LocalStepsSaid :=
  OpenClaim.holds_of_wide 3 Tryz.f3 rfl rfl rfl rfl rfl rfl rfl ⟨rfl, rfl, rfl, rfl, rfl⟩ rfl rfl rfl rfl rfl (by kernel_rfl) Tryz.func3 (by kernel_rfl)
    (of_decide_eq_true (by kernel_rfl)) (by unfold Func.isWrapper; first | (rw [if_pos (by decide +kernel)]; kernel_rfl) | (rw [if_neg (by decide +kernel)]; exact ⟨rfl, rfl⟩))
    (fun os started H enc _ => lifted os started H enc)
#print axioms proved
end Go.Proofs.YtjfgpplnlepnoaaGreat.localSteps
