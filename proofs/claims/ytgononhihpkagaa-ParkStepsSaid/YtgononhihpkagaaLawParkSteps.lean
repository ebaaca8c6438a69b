/-
  The law ParkSteps of the statements holds for every input: the call returns true, and the arguments read as before.
-/
import Derived.Test.YtgononhihpkagaaPkA
import Derived.Test.YtgononhihpkagaaRef11
import Derived.Test.YtgononhihpkagaaLike
import Derived.Test.YtgononhihpkagaaTold
import Derived.Test.YtgononhihpkagaaStart
import Derived.Test.YtgononhihpkagaaOpenA
import Derived.Test.YtgononhihpkagaaLook
import Derived.Test.YtgononhihpkagaaOpen
import Derived.Test.YtgononhihpkagaaAcc
import Derived.Test.YtgononhihpkagaaRows
import Derived.WalkKit
import Derived.ProofKit
import Derived.OpenShut
import Derived.ShutString
import Derived.ChangeOld
import Derived.Below
import Derived.Test.YtgononhihpkagaaOpen
namespace Go.Proofs.Ytgononhihpkagaa.parkSteps
open Go.ChangeShapes Go.WideShapes Go.ChangeAt Go.RowKit
open Go.ChangeMaps (open_string shut_string)
set_option linter.unusedVariables false
set_option linter.unusedSimpArgs false

theorem own : ownKnob Try.prog.godebug = none := by kernel_rfl
theorem laidOut : laidOutB Try.prog = true := by kernel_rfl

def pkSt (at_ key : Int) (j : Nat) : PkS := pkNew at_ ((j : Int) + 1) key
set_option maxHeartbeats 6400000 in
set_option maxRecDepth 200000 in
theorem walk (at_ key : Int) (p : Option Addr) (nt c : Nat) (ts : List (Int × Bool)) (w : World) (hwa : (Lit.int .i64 at_).wf = true) (hwk : (Lit.int .u32 key).wf = true) (hsl : Sl w 2 (.slice p nt c) nt (tolds ts)) (hl : ts.length = nt) (hn : nt ≤ maxLen) (hu : ∀ t ∈ ts, M.U t.1) :
    Calls Try.prog 3 #[.agg #[.int .i64 at_], .int .u32 key, .slice p nt c] w fun e w' => e = .returned (.bool true) ∧ Below w.heap.size w w' := by
  subst hl
  unfold maxLen at hn
  have hky : 0 ≤ key ∧ key < 4294967296 := by
    simp [Lit.wf, IntKind.min, IntKind.max, IntKind.signed, IntKind.bits] at hwk
    omega
  obtain ⟨ky0, ky1⟩ := hky
  have HT := Lib.hid hsl
  have HU := Lib.hid hu
  have HTS : Hid (ts.length ≠ 0 → ∀ g, (Value.slice p ts.length c).ownBlock = some g → g < w.heap.size) := Lib.hid fun h0 g hg => by
    obtain ⟨b, off, cc, he, hb, -⟩ := hsl.some (by omega)
    rw [he] at hg; simp [Value.ownBlock] at hg; omega
  clear hsl hu hwa hwk
  obtain ⟨W0, hW0⟩ : ∃ W0, w.alloc (.cells #[.int .i64 at_] 23) = W0 := ⟨_, rfl⟩
  have HB0 : Hid (Box W0 w.heap.size #[.int .i64 at_]) := Lib.hid (by rw [← hW0]; exact Box.new _ _ _)
  have HK0 : Hid (Keeps [] w W0) := Lib.hid (by rw [← hW0]; exact (Keeps.refl _ _).alloc _)
  go_enter Try.func3, Try.ntmps3
  go_wp2_with fail
  clear hW0
  refine (awake11 W0).mono ?_
  rintro e w1 ⟨rfl, k1⟩
  have kk1 : Keeps [] W0 w1 := ⟨k1.os, k1.tape, k1.output, k1.size, fun k hk _ => k1.block k hk⟩
  have hb1 := HB0.out.keeps kk1 (by simp)
  have c0 := hb1.cells 0
  have hab := hb1.lt
  have HKw := Lib.hid (HK0.out.trans kk1)
  simp at c0
  clear k1 kk1 HK0 HB0 hb1
  by_cases h1 : 40 < ts.length
  · have d1 : decide ((40 : Int) < ts.length) = true := decide_eq_true (by omega)
    go_wp2
    go_ret
    exact ⟨rfl, HKw.out.end⟩
  have d1 : decide ((40 : Int) < ts.length) = false := decide_eq_false (by omega)
  have H1 := Lib.hid (pkPrepare_made at_ key ky0 ky1)
  have H2 := Lib.hid (pkGiveUp_made at_ key ky0 ky1)
  have H3 := Lib.hid (pkWait_made at_ key ky0 ky1)
  have H4 := Lib.hid (pkCall_made at_ key ky0 ky1)
  have HS : Hid (∀ W, Keeps [] w1 W → W.cell? ⟨w.heap.size, 0, none⟩ = some (.int .i64 at_)) := Lib.hid fun W hk =>
    (hk.cell (p := ⟨w.heap.size, 0, none⟩) hab (by simp)).trans c0
  have HKY := Lib.hid (⟨ky0, ky1⟩ : _ ∧ _)
  clear ky0 ky1
  have hka0 : Keeps [] w1 w1 := Keeps.refl _ _
  go_wp2
  go_region_held3 (fun w' => w'.cell? ⟨w.heap.size, 0, none⟩ = some (.int .i64 at_))
    (first
      | exact HS.out _ (hkd.alloc _)
      | exact HS.out _ hkd
      | exact HS.out _ hkc
      | exact HS.out _ hkb
      | exact HS.out _ hka
      | assumption
      | fail)
    (first
      | (have _ := hkc; go_at_call 10; refine (H4.out _).mono ?_; rintro e2 wd ⟨md, Sd, rfl, jd, ld, sd⟩; have hkd : Keeps [] w1 wd := hkc.trans ld)
      | (have _ := hkb; go_at_call 9; refine (H3.out _).mono ?_; rintro e2 wc ⟨mc, Sc, rfl, jc, lc, sc⟩; have hkc : Keeps [] w1 wc := hkb.trans lc)
      | (have _ := hka; go_at_call 8; refine (H2.out _).mono ?_; rintro e2 wb ⟨mb, Sb, rfl, jb, lb, sb⟩; have hkb : Keeps [] w1 wb := hka.trans lb)
      | (go_at_call 7; refine (H1.out _).mono ?_; rintro e2 wa ⟨ma, Sa, rfl, ja, la, sa⟩; have hka : Keeps [] w1 wa := la.undrew)
      | fail)
  obtain ⟨bl, hbl⟩ : ∃ bl, wd.heap.size = bl := ⟨_, rfl⟩
  rw [hbl]
  generalize hW8 : World.alloc wd _ = W8
  have k8 : Keeps [] wd W8 := by rw [← hW8]; exact (Keeps.refl _ _).alloc _
  have r8 : Row W8 bl 27 [.pointer (some ⟨ma, 0, none⟩), .pointer (some ⟨mb, 0, none⟩), .pointer (some ⟨mc, 0, none⟩), .pointer (some ⟨md, 0, none⟩)] := by rw [← hW8, ← hbl]; exact Row.new _ _ _
  have z8 : W8.heap.size = bl + 1 := by rw [← hW8, ← hbl]; simp
  have la' := la.size
  have lb' := lb.size
  have lc' := lc.size
  have ld' := ld.size
  have ta := (pkRuns ma).lt ja
  have tb := (pkRuns mb).lt jb
  have tc := (pkRuns mc).lt jc
  have td := (pkRuns md).lt jd
  have HX8 : Hid (ExAll 4 (fun m => LoneI pkM (pkE m) m) (pkSt at_ key) w1 W8 bl (fun j => ([.pointer (some ⟨ma, 0, none⟩), .pointer (some ⟨mb, 0, none⟩), .pointer (some ⟨mc, 0, none⟩), .pointer (some ⟨md, 0, none⟩)] : List Value).getD j undef) (fun j => ([Sa, Sb, Sc, Sd] : List (List Nat)).getD j [])) := by
    refine Lib.hid ⟨r8, ⟨?_, by omega⟩, fun j hj => ?_, fun j hj => ?_⟩
    · have la2 : w1.heap.size ≤ wa.heap.size := la'; omega
    · rcases (show j = 0 ∨ j = 1 ∨ j = 2 ∨ j = 3 by omega) with rfl | rfl | rfl | rfl
      · exact ⟨ma, rfl, (pkRuns ma).frame ja (((lb.trans lc).trans ld).trans k8) (by simp)⟩
      · exact ⟨mb, rfl, (pkRuns mb).frame jb ((lc.trans ld).trans k8) (by simp)⟩
      · exact ⟨mc, rfl, (pkRuns mc).frame jc (ld.trans k8) (by simp)⟩
      · exact ⟨md, rfl, (pkRuns md).frame jd k8 (by simp)⟩
    · have la2 : w1.heap.size ≤ wa.heap.size := la'
      have sa2 : ∀ k ∈ Sa, w1.heap.size ≤ k := sa
      have ga : ∀ x ∈ Sa, w1.heap.size ≤ x ∧ x < wa.heap.size := fun x hx => ⟨sa2 x hx, ta x hx⟩
      have gb : ∀ x ∈ Sb, wa.heap.size ≤ x ∧ x < wb.heap.size := fun x hx => ⟨sb x hx, tb x hx⟩
      have gc : ∀ x ∈ Sc, wb.heap.size ≤ x ∧ x < wc.heap.size := fun x hx => ⟨sc x hx, tc x hx⟩
      have gd : ∀ x ∈ Sd, wc.heap.size ≤ x ∧ x < wd.heap.size := fun x hx => ⟨sd x hx, td x hx⟩
      refine ⟨fun x hx => ?_, fun i hi hij x hx hx2 => ?_⟩
      · rcases (show j = 0 ∨ j = 1 ∨ j = 2 ∨ j = 3 by omega) with rfl | rfl | rfl | rfl
        · have := ga x hx; omega
        · have := gb x hx; omega
        · have := gc x hx; omega
        · have := gd x hx; omega
      · rcases (show j = 0 ∨ j = 1 ∨ j = 2 ∨ j = 3 by omega) with rfl | rfl | rfl | rfl <;> rcases (show i = 0 ∨ i = 1 ∨ i = 2 ∨ i = 3 by omega) with rfl | rfl | rfl | rfl
        all_goals first
          | exact absurd rfl hij
          | (have := ga x hx; have := gb x hx2; omega)
          | (have := ga x hx; have := gc x hx2; omega)
          | (have := ga x hx; have := gd x hx2; omega)
          | (have := gb x hx; have := ga x hx2; omega)
          | (have := gb x hx; have := gc x hx2; omega)
          | (have := gb x hx; have := gd x hx2; omega)
          | (have := gc x hx; have := ga x hx2; omega)
          | (have := gc x hx; have := gb x hx2; omega)
          | (have := gc x hx; have := gd x hx2; omega)
          | (have := gd x hx; have := ga x hx2; omega)
          | (have := gd x hx; have := gb x hx2; omega)
          | (have := gd x hx; have := gc x hx2; omega)
  have HK8 := Lib.hid (hkd.trans k8)
  clear ja jb jc jd la lb lc ld sa sb sc sd la' lb' lc' ld' ta tb tc td r8 k8 hW8 hka hkb hkc hkd hka0
  obtain ⟨xs, hxs⟩ : ∃ xs : Nat → Value, (fun j => ([.pointer (some ⟨ma, 0, none⟩), .pointer (some ⟨mb, 0, none⟩), .pointer (some ⟨mc, 0, none⟩), .pointer (some ⟨md, 0, none⟩)] : List Value).getD j undef) = xs := ⟨_, rfl⟩
  obtain ⟨γ, hγ⟩ : ∃ γ : Nat → List Nat, (fun j => ([Sa, Sb, Sc, Sd] : List (List Nat)).getD j []) = γ := ⟨_, rfl⟩
  rw [hxs, hγ] at HX8
  clear hxs hγ z8 hbl H1 H2 H3 H4
  have hs18 : w1.heap.size ≤ W8.heap.size := HK8.out.size
  obtain ⟨E, hE⟩ : ∃ E : Nat → Prop, (fun x => x < w1.heap.size) = E := ⟨_, rfl⟩
  have HE : Hid (∀ k, E k ↔ k < w1.heap.size) := Lib.hid (by rw [← hE]; exact fun k => Iff.rfl)
  clear hE
  go_wp2
  go_loopw [8] (fun i wr => ∃ k : Nat, k ≤ 4 ∧ i = .int .i64 (k : Int) ∧ Held (exD 4 E bl bl bl γ k) W8 wr) (fun i _ => 4 - (intOf i).toNat)
  case atStart => exact ⟨0, by omega, rfl, Held.refl _ _⟩
  case round =>
    obtain ⟨k, hk, rfl, hh⟩ := hrel
    have HHr := Lib.hid hh
    clear hh
    by_cases hlt : k < 4
    · have hsz : W8.heap.size ≤ wr.heap.size := HHr.out.size
      have hbl1 := HX8.out.new.1
      have hbl2 := HX8.out.new.2
      have HG := Lib.hid HX8.out.own
      have k01 : Keeps [] w1 wr := Keeps.of_below ((HK8.out.below (Nat.le_refl _) (by simp)).trans (HHr.out.narrow (E := (· < w1.heap.size)) (fun x hx => .inl ((HE.out x).2 hx))).below) (Nat.le_refl _)
      have c1 : wr.cell? ⟨bl, k, none⟩ = some (xs k) := (HHr.out.cell (p := ⟨bl, k, none⟩) (.inr (.inl rfl))).trans (HX8.out.row.cell (by simp [hlt]))
      obtain ⟨mm, em, hI⟩ := HX8.out.walks k hlt
      rw [em] at c1
      have hI' := (pkRuns mm).held' hI HHr.out (fun x hx => .inr (.inr (.inr (.inr ⟨k, Nat.le_refl _, hlt, hx⟩))))
      have HI := Lib.hid hI'
      have c0 := HS.out wr k01
      have HN := Lib.hid (fun W => refPkNew_any at_ ((k : Int) + 1) key W (by unfold pkKind; omega) HKY.out)
      have HTw : Hid (∀ W, Keeps [] wr W → Sl W 2 (.slice p ts.length c) ts.length (tolds ts)) := Lib.hid fun W hk => HT.out.below (HKw.out.trans (k01.trans hk)).end (Nat.le_refl _)
      have HTo : Hid (ts.length ≠ 0 → ∀ g, (Value.slice p ts.length c).ownBlock = some g → g < w1.heap.size) := Lib.hid fun h0 g hg => by
        have := HTS.out h0 g hg; have := HKw.out.size; omega
      have HSn : Hid (∀ (W W' : World) (q : Nat), Keeps [] wr W → Keeps [q] W W' → wr.heap.size ≤ q → Keeps [] wr W') := Lib.hid fun W W' q a b hq => a.step b (by intro k hk; simp at hk; omega)
      have HSeen : Hid (∀ (q : Nat) (s : PkS) (W : World), refPkJ q W [q] s → Keeps [] wr W → wr.heap.size ≤ q → Calls Try.prog 13 #[.pointer (some ⟨q, 0, none⟩), .slice p ts.length c] W fun e w' => ∃ b nn cs, e = .returned (.slice (some ⟨b, 0, none⟩) nn cs) ∧
          SeenAt w' (fun g => g ∈ [q] ∨ W.heap.size ≤ g) (.slice (some ⟨b, 0, none⟩) nn cs) (pkM.trace s ts) ∧ Keeps [q] W w') := Lib.hid fun q s W hj hk hq => by
        refine (seen_spot pkM (refPkJ q) (fun _ => False) q (refPkRuns q) (.slice p ts.length c) s ts [q] W hj (HTw.out _ hk) (fun h0 g hg => by have := HTo.out h0 g hg; simp; omega) HU.out (by omega) (fun k h => h.elim)).mono ?_
        rintro e w' ⟨vs, rfl, hseen, k4⟩
        obtain ⟨b, cs, rfl, -⟩ := hseen.shape
        exact ⟨_, _, _, rfl, hseen, k4⟩
      have HSr : Hid (∀ W, Keeps [] wr W → W.cell? ⟨w.heap.size, 0, none⟩ = some (.int .i64 at_) ∧ W.cell? ⟨bl, k, none⟩ = some (.pointer (some ⟨mm, 0, none⟩))) := Lib.hid fun W hk =>
        ⟨HS.out W (k01.trans hk), (hk.cell (p := ⟨bl, k, none⟩) (Nat.lt_of_lt_of_le hbl2 hsz) (by simp)).trans c1⟩
      have HLike : Hid (∀ (W : World) (vs : Value) (q : Nat), LoneI pkM (pkE mm) mm W (γ k) (pkSt at_ key k) → SeenAt W (fun g => g ∈ [q] ∨ q ≤ g) vs (pkM.trace (pkSt at_ key k) ts) → wr.heap.size ≤ q → Keeps [] wr W →
          Calls Try.prog 11 #[.pointer (some ⟨mm, 0, none⟩), vs, .slice p ts.length c] W fun e w' => e = .returned (.bool true) ∧ Keeps (γ k) W w' ∧ w'.cell? ⟨w.heap.size, 0, none⟩ = some (.int .i64 at_) ∧ w'.cell? ⟨bl, k, none⟩ = some (.pointer (some ⟨mm, 0, none⟩))) := Lib.hid fun W vs q hI hseen hq hk => by
        have hgr : ∀ x ∈ γ k, x < wr.heap.size := fun x hx => by have := ((HG.out k hlt).1 x hx).2.1; omega
        refine (like_any pkM (LoneI pkM (pkE mm) mm) mm (pkRuns mm) vs (.slice p ts.length c) (pkSt at_ key k) ts (γ k) W hI (hseen.imp fun g hg hlt => ⟨fun hm => ?_, hlt⟩) (HTw.out _ hk) (fun h0 g hg hm => ?_) HU.out (by omega)).mono ?_
        · have h1 := hgr g hm
          rcases hg with h | h
          · simp at h; omega
          · omega
        · have := HTo.out h0 g hg
          have := ((HG.out k hlt).1 g hm).1
          omega
        · rintro e w' ⟨rfl, S', -, k5, -⟩
          have s0 := HSr.out W hk
          exact ⟨rfl, k5, (k5.cell (p := ⟨w.heap.size, 0, none⟩) (by have := hk.size; show w.heap.size < W.heap.size; omega) (fun h => by have := ((HG.out k hlt).1 w.heap.size h).1; omega)).trans s0.1,
            (k5.cell (p := ⟨bl, k, none⟩) (by have := hk.size; show bl < W.heap.size; omega) (fun h => ((HG.out k hlt).1 bl h).2.2 rfl)).trans s0.2⟩
      have hk0 : Keeps [] wr wr := Keeps.refl _ _
      have wk : IntKind.i64.wrap ((k : Int) + 1) = (k : Int) + 1 := by rw [IntKind.wrap_i64]; omega
      have i0 : (0 : Int) ≤ (k : Int) := by omega
      have i1 : (k : Int) < 4 := by omega
      have HW1 := Lib.hid k01
      clear hI hI' em k01
      go_wp2_with fail
      go_region_held3 (fun w' => w'.cell? ⟨w.heap.size, 0, none⟩ = some (.int .i64 at_) ∧ w'.cell? ⟨bl, k, none⟩ = some (.pointer (some ⟨mm, 0, none⟩)))
        (first
          | exact hk4
          | exact HSr.out _ hk3
          | exact HSr.out _ hk2
          | exact HSr.out _ hk0.drew
          | exact ⟨by assumption, by assumption⟩
          | fail)
        (first
          | (have _ := HJ2; go_at_call 13; refine (HSeen.out q2 _ _ HJ2.out hk2 HQ2.out).mono ?_; rintro e w3 ⟨b3, n3, c3, rfl, t3, k3⟩; have hk3 : Keeps [] wr w3 := HSn.out _ _ q2 hk2 k3 HQ2.out; have HT3 := Lib.hid (SeenAt.imp (E := fun g => g ∈ [q2] ∨ q2 ≤ g) t3 (fun g hg _ => hg.imp id (fun h => Nat.le_trans (Nat.le_of_lt HQL2.out) h))); clear t3 k3)
          | (have _ := HT3; go_at_call 11; refine (HLike.out _ _ q2 ((pkRuns mm).frame HI.out hk3 (by simp)) HT3.out HQ2.out hk3).mono ?_; rintro e w4 ⟨rfl, k4, hk4⟩)
          | (go_at_call 12; refine (HN.out _).mono ?_; rintro e w2 ⟨q2, rfl, j2, k2, s2⟩; have hk2 : Keeps [] wr w2 := k2.undrew; have HJ2 := Lib.hid j2; have HQ2 := Lib.hid (show wr.heap.size ≤ q2 from s2); have HQL2 := Lib.hid j2.2.1.lt; clear k2 j2 s2)
          | fail)
      have HF : Hid (Held (exD 4 E bl bl bl γ (k + 1)) W8 w4) := Lib.hid (by
        have hdom : ∀ x, exD 4 E bl bl bl γ (k + 1) x → x < wr.heap.size := fun x hx => by
          rcases hx with h | h | h | h | ⟨j, h1, h2, h3⟩
          · have := (HE.out x).1 h; omega
          · omega
          · omega
          · omega
          · have := ((HG.out j h2).1 x h3).2.1; omega
        refine ((HHr.out.narrow (fun x hx => hx.next)).trans (hk3.held hdom (by simp))).trans (k4.held (fun x hx => Nat.lt_of_lt_of_le (hdom x hx) hk3.size) (fun x hx hd => ?_))
        have hg := (HG.out k hlt).1 x hx
        rcases hd with h | h | h | h | ⟨j, h1, h2, h3⟩
        · have := (HE.out x).1 h; omega
        · exact hg.2.2 h
        · exact hg.2.2 h
        · exact hg.2.2 h
        · exact (HG.out k hlt).2 j h2 (by omega) x hx h3)
      clear k4 hk4 hk3 hk2 hk0
      go_wp2
      go_roundw
      case rel => exact ⟨k + 1, by omega, by go_num, HF.out⟩
      case measure => simp [intOf]; omega
    · obtain rfl : k = 4 := by omega
      go_wp2
      go_ret
      have h2 := (HK8.out.below (Nat.le_refl _) (by simp)).trans (HHr.out.narrow (E := (· < w1.heap.size)) (fun x hx => .inl ((HE.out x).2 hx))).below
      exact ⟨rfl, HKw.out.end.trans (h2.mono HKw.out.size)⟩

set_option maxRecDepth 100000 in
theorem lifted (os : Os) (started : os.Started) (H : Type) (enc : TypeId × Value → H) :
    ReturnsInHanded {} Try.checked os 3 .any (Rows.parkStepsSpec.pre6 enc Try.prog Try.f3 Rows.parkStepsRow.domain false) (Rows.parkStepsSpec.post enc Try.prog Try.f3 false true false false) := by
  refine returnsInHanded_of_change (C := Try.checked) own started (by kernel_rfl) Try.func3
    (ChangeSpec.witness6 (enc := enc) (C := Try.checked) false ⟨#[], #[.agg #[.int .i64 0], .int .u32 0, .slice none 0 0], []⟩ 8 (by kernel_rfl) (by kernel_rfl) (by kernel_rfl) (by kernel_rfl)) ?_
  intro W base args ds gs before hval0 hW hcnd _
  have hval : ∀ (j : Nat) t v, Try.f3.params[j]? = some t → args[j]? = some v → Value.okWide Try.prog W .any base t v := hval0
  have hW' := hW
  obtain ⟨p, q, hA0, hV, rfl, hfz, hnd⟩ := hW
  have hA : DataW.TrodAll enc Try.prog W 0 (fun _ => true) true Try.f3.params.toList args.toList ds p := hA0
  rw [Try.params3] at hA hval
  obtain ⟨v0, vs0, d0, ds0, q0, qs0, hargs, rfl, rfl, h0, r0⟩ := trodAll_cons hA
  obtain ⟨v1, vs1, d1, ds1, q1, qs1, rfl, rfl, rfl, h1, r1⟩ := trodAll_cons r0
  obtain ⟨v2, vs2, d2, ds2, q2, qs2, rfl, rfl, rfl, h2, r2⟩ := trodAll_cons r1
  obtain ⟨rfl, rfl, rfl⟩ := trodAll_nil r2
  obtain rfl : args = #[v0, v1, v2] := by cases args; simp_all
  obtain ⟨rfl, rfl⟩ := trodVars_none hV
  have k0 := h0
  have lt0 : ∀ x ∈ q0, x.block < W.heap.size := by obtain ⟨m, hm⟩ := k0; exact DataW.trod_lt m _ _ _ hm
  obtain ⟨a0, rfl, b0⟩ := open_spot (hval 0 23 v0 rfl rfl) h0
  obtain ⟨a1, rfl, rfl, rfl, w1⟩ := open_int Try.underlying24 (hval 1 24 v1 rfl rfl) h1
  obtain ⟨p2, n2, c2, rfl⟩ := okWide_slice Try.underlying25 (hval 2 25 v2 rfl rfl)
  have k2 := h2
  have lt2 : ∀ x ∈ q2, x.block < W.heap.size := by obtain ⟨m, hm⟩ := k2; exact DataW.trod_lt m _ _ _ hm
  obtain ⟨z2, s2, l2, m2, b2⟩ := (by obtain ⟨fu, hf⟩ := h2; exact sl_tolds Try.underlying25 hf : ∃ ts : List (Int × Bool), Sl W 2 (.slice p2 n2 c2) n2 (tolds ts) ∧ ts.length = n2 ∧ n2 ≤ maxLen ∧ ∀ t ∈ ts, M.U t.1)
  clear hA0 hval0
  simp only [List.append_nil] at hW'
  refine (walk a0 a1 p2 n2 c2 z2 W b0 w1 s2 l2 m2 b2).mono fun e W' ⟨he, bel⟩ => ?_
  subst he
  exact ⟨_, rfl, _, _, _, [], _, [], hW', trodAll_mk1 (shut_bool Try.underlying4 _), (trodAll_cons_mk (Below.trod laidOut (by kernel_rfl) (of_decide_eq_true (by kernel_rfl)) k0 bel lt0) (trodAll_cons_mk (shut_int Try.underlying24 w1) (trodAll_cons_mk (Below.trod laidOut (by kernel_rfl) (of_decide_eq_true (by kernel_rfl)) k2 bel lt2) trodAll_mk0))), rfl, bel.frame _, fun h => by cases h⟩

theorem proved : Rows.ParkStepsSaid :=
  OpenClaim.holds_of_wide 3 Try.f3 rfl rfl rfl rfl rfl rfl rfl ⟨rfl, rfl, rfl, rfl, rfl⟩ rfl rfl rfl rfl rfl (by kernel_rfl) Try.func3 (by kernel_rfl)
    (of_decide_eq_true (by kernel_rfl)) (by unfold Func.isWrapper; first | (rw [if_pos (by decide +kernel)]; kernel_rfl) | (rw [if_neg (by decide +kernel)]; exact ⟨rfl, rfl⟩))
    (fun os started H enc _ => lifted os started H enc)
#print axioms proved
end Go.Proofs.Ytgononhihpkagaa.parkSteps
