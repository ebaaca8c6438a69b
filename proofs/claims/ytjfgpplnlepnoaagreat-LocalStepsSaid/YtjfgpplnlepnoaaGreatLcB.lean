import Derived.Test.YtjfgpplnlepnoaaGreatLcN
import Derived.Test.YtjfgpplnlepnoaaGreatStart
import Derived.Test.YtjfgpplnlepnoaaGreatAny
import Derived.Test.YtjfgpplnlepnoaaGreatMem3
import Derived.Test.YtjfgpplnlepnoaaGreatLoom5
/-
  The chapter's example of layer 13.
-/
namespace Go.Proofs.YtjfgpplnlepnoaaGreat
set_option maxRecDepth 100000
set_option linter.unusedSimpArgs false
set_option linter.unusedVariables false
open Go.ChangeShapes Go.WideShapes Go.ChangeAt Go.RowKit

def lexBegin (kd : Nat) (k : Nat) : LcS := ([lcPush kd 0 4 5, lcPeek kd 0 4, lcPop kd 0 4, lcPeek kd 0 4] : List LcS).getD k (lcPeek kd 0 4)
def lexUs (kd k : Nat) : List Int := ([[0, 0, 0, 0, 0, 0], [0, 1, 5, 0, 0, 0], [0, 1, 5, 0, 0, 0], [if kd = 0 then 1 else 4294967297, 1, 5, 0, 0, 0], [if kd = 0 then 1 else 4294967297, 1, 5, 0, 0, 0]] : List (List Int)).getD k []
def lexWant : List Int := [0, 1, 5, 0]
theorem lexRuns (kd k : Nat) (hkd : kd < 2) (hk : k < 4) : ∃ (n : Nat) (s' : LcS), 0 < n ∧ n ≤ 20 ∧ Solo lcM (lexUs kd k) (lexBegin kd k) n (lexUs kd (k + 1)) s' ∧ lcM.res s' = some ⟨0, lexWant.getD k 0, []⟩ := by
  have go : ∀ (n : Nat), 0 < n → n ≤ 20 → (soloRun lcM 80 (lexUs kd k) (lexBegin kd k)).map (fun x => (x.1, x.2.1, lcM.res x.2.2)) = some (n, lexUs kd (k + 1), some ⟨0, lexWant.getD k 0, []⟩) → ∃ (n : Nat) (s' : LcS), 0 < n ∧ n ≤ 20 ∧ Solo lcM (lexUs kd k) (lexBegin kd k) n (lexUs kd (k + 1)) s' ∧ lcM.res s' = some ⟨0, lexWant.getD k 0, []⟩ := fun n h1 h2 h => by
    obtain ⟨s', h3, h4⟩ := soloRun_res _ _ _ _ _ _ _ h
    exact ⟨n, s', h1, h2, h3, h4⟩
  rcases (show kd = 0 ∨ kd = 1 by omega) with rfl | rfl
  · rcases (show k = 0 ∨ k = 1 ∨ k = 2 ∨ k = 3 by omega) with rfl | rfl | rfl | rfl
    · exact go 4 (by decide) (by decide) (by kernel_rfl)
    · exact go 2 (by decide) (by decide) (by kernel_rfl)
    · exact go 6 (by decide) (by decide) (by kernel_rfl)
    · exact go 2 (by decide) (by decide) (by kernel_rfl)
  · rcases (show k = 0 ∨ k = 1 ∨ k = 2 ∨ k = 3 by omega) with rfl | rfl | rfl | rfl
    · exact go 4 (by decide) (by decide) (by kernel_rfl)
    · exact go 2 (by decide) (by decide) (by kernel_rfl)
    · exact go 4 (by decide) (by decide) (by kernel_rfl)
    · exact go 2 (by decide) (by decide) (by kernel_rfl)

set_option maxHeartbeats 6400000 in
theorem awake13 (w : World) :
    Calls Tryz.prog 6 #[] w fun e w' => e = .returned (.bool true) ∧ Below w.heap.size w w' := by
  obtain ⟨B0, hB0⟩ : ∃ B, w.heap.size = B := ⟨_, rfl⟩
  rw [hB0]
  have HB00 := Lib.hid hB0
  clear hB0
  go_enter Tryz.func6, Tryz.ntmps6
  go_wp2
  go_loopw [1] (fun i wr => ∃ kd : Nat, kd ≤ 2 ∧ i = .int .i64 (kd : Int) ∧ Below B0 w wr) (fun i _ => 2 - (intOf i).toNat)
  case atStart => exact ⟨0, by omega, rfl, Below.refl _ _⟩
  case round =>
    obtain ⟨kd, hkd, rfl, hbl0⟩ := hrel
    have HBL0 := Lib.hid hbl0
    have hsz0 : B0 ≤ wr.heap.size := by have := hbl0.size; have := HB00.out; omega
    clear hbl0
    by_cases hltd : kd < 2
    · have hkd2 : (kd : Int) < 2 := by omega
      obtain ⟨B, hB⟩ : ∃ B, wr.heap.size = B := ⟨_, rfl⟩
      obtain ⟨W1, hW1⟩ : ∃ W1, wr.alloc (.cells #[.int .i64 (kd : Int), .int .i64 0, .int .i64 4] 23) = W1 := ⟨_, rfl⟩
      have bq : Box W1 B #[.int .i64 (kd : Int), .int .i64 0, .int .i64 4] := by rw [← hW1, ← hB]; exact Box.new _ _ _
      have k1 : Keeps [] wr W1 := by rw [← hW1]; exact (Keeps.refl _ _).alloc _
      have NA := Lib.hid (new_any 6 W1 (by omega) (by omega))
      have HB1 := Lib.hid (show Below B wr W1 from k1.below (by omega) (by simp))
      have HQ1 := Lib.hid bq
      clear bq k1
      go_wp2_with fail
      refine NA.out.mono ?_
      clear NA
      rintro e w2 ⟨m, b, rfl, hM, k2, hm, hb⟩
      have s1 := HB1.out.size
      have HB2 := Lib.hid (HB1.out.trans (k2.below (by omega) (by simp)))
      have HM2 := Lib.hid hM
      have HQ2 := Lib.hid (HQ1.out.keeps k2 (by simp))
      have hbq := HQ1.out.lt
      have hmlt := hM.lt
      have s2 := HB2.out.size
      clear hM k2 hW1
      obtain ⟨E, hE⟩ : ∃ E : Nat → Prop, (fun x => x < B ∨ x = B) = E := ⟨_, rfl⟩
      have HE : Hid ((∀ k, k < B → E k) ∧ E B ∧ ∀ k, E k → k < B ∨ k = B) := Lib.hid (by rw [← hE]; exact ⟨fun k hk => .inl hk, .inr rfl, fun k hk => hk⟩)
      clear hE
      go_wp2_with fail
      refine (loomNew_any E 1 m b (List.replicate 6 0) w2 HM2.out (by omega) (by omega) (fun k hk => by rcases HE.out.2.2 k hk with h | h <;> omega) (fun hk => by rcases HE.out.2.2 b hk with h | h <;> omega)).mono ?_
      rintro e w6 ⟨l, gl, rfl, hL6, k6⟩
      have q6 := HQ2.out.keeps k6 (by simp)
      have HB6 := Lib.hid (HB2.out.trans (k6.below (by omega) (by simp)))
      have s6 := k6.size
      obtain ⟨cl, hcl⟩ : ∃ cl, w6.heap.size = cl := ⟨_, rfl⟩
      obtain ⟨w7, hW7⟩ : ∃ W, w6.alloc (.cells (ints .u64 lexWant).toArray 26) = W := ⟨_, rfl⟩
      have k7 : Keeps [] w6 w7 := by rw [← hW7]; exact (Keeps.refl _ _).alloc _
      have q9 : Row w7 cl 26 (ints .u64 lexWant) := by rw [← hW7]; exact Row.newAt _ _ _ _ hcl
      have q7 := q6.keeps k7 (by simp)
      have c70 := q7.cells 0
      have c71 := q7.cells 1
      have c72 := q7.cells 2
      simp at c70 c71 c72
      have HL6 := Lib.hid hL6
      have HL7 := Lib.hid (hL6.keeps k7)
      have HK67 := Lib.hid k7
      have HQ7 := Lib.hid q7
      have HW7 := Lib.hid q9
      have HB7 := Lib.hid (HB6.out.trans (k7.below (by have := HB6.out.size; omega) (by simp)))
      have s7 := k7.size
      have hcl7 := q9.lt
      have hW7' : w6.alloc (.cells #[.int .u64 0, .int .u64 1, .int .u64 5, .int .u64 0] 26) = w7 := hW7
      clear hL6 k6 q6 q7 k7 q9 hW7 HB1 HB2 HQ1 HQ2 HM2
      have H0 := Lib.hid (fun W => lcPush_made kd 0 4 5 W (by decide) ⟨by decide, by decide⟩)
      have H1 := Lib.hid (fun W => lcPeek_made kd 0 4 W (by decide))
      have H2 := Lib.hid (fun W => lcPop_made kd 0 4 W (by decide))
      have HS : Hid (∀ W, Keeps [] w7 W → W.cell? ⟨B, 0, none⟩ = some (.int .i64 (kd : Int)) ∧ W.cell? ⟨B, 1, none⟩ = some (.int .i64 0) ∧ W.cell? ⟨B, 2, none⟩ = some (.int .i64 4)) := Lib.hid (fun W hk => by
        have q := HQ7.out.keeps hk (by simp)
        have c0 := q.cells 0
        have c1 := q.cells 1
        have c2 := q.cells 2
        simp at c0 c1 c2
        exact ⟨c0, c1, c2⟩)
      go_wp2_with fail
      go_region_held3 (fun w' => w'.cell? ⟨B, 0, none⟩ = some (.int .i64 (kd : Int)) ∧ w'.cell? ⟨B, 1, none⟩ = some (.int .i64 0) ∧ w'.cell? ⟨B, 2, none⟩ = some (.int .i64 4))
        (first
          | exact HS.out _ (hkd4.alloc _)
          | exact HS.out _ hkd4
          | exact HS.out _ hkc
          | exact HS.out _ hkb
          | exact HS.out _ hka
          | exact ⟨by assumption, by assumption, by assumption⟩
          | fail)
        (first
          | (have _ := hkc; go_at_call 12; refine (H1.out _).mono ?_; rintro e2 wd ⟨md, Sd, rfl, jd, ld, sd⟩; have hkd4 : Keeps [] w7 wd := hkc.trans ld)
          | (have _ := hkb; go_at_call 10; refine (H2.out _).mono ?_; rintro e2 wc ⟨mc, Sc, rfl, jc, lc, sc⟩; have hkc : Keeps [] w7 wc := hkb.trans lc)
          | (have _ := hka; go_at_call 12; refine (H1.out _).mono ?_; rintro e2 wb ⟨mb, Sb, rfl, jb, lb, sb⟩; have hkb : Keeps [] w7 wb := hka.trans lb)
          | (go_at_call 9; refine (H0.out _).mono ?_; rintro e2 wa ⟨ma, Sa, rfl, ja, la, sa⟩; have hka : Keeps [] w7 wa := la.undrew)
          | fail)
      obtain ⟨bl, hbl⟩ : ∃ bl, wd.heap.size = bl := ⟨_, rfl⟩
      rw [hbl]
      generalize hW8 : World.alloc wd _ = W8
      have k8 : Keeps [] wd W8 := by rw [← hW8]; exact (Keeps.refl _ _).alloc _
      have r8 : Row W8 bl 30 [.pointer (some ⟨ma, 0, none⟩), .pointer (some ⟨mb, 0, none⟩), .pointer (some ⟨mc, 0, none⟩), .pointer (some ⟨md, 0, none⟩)] := by rw [← hW8, ← hbl]; exact Row.new _ _ _
      have z8 : W8.heap.size = bl + 1 := by rw [← hW8, ← hbl]; simp
      have la' := la.size
      have lb' := lb.size
      have lc' := lc.size
      have ld' := ld.size
      have ta := (lcRuns ma).lt ja
      have tb := (lcRuns mb).lt jb
      have tc := (lcRuns mc).lt jc
      have td := (lcRuns md).lt jd
      have HX8 : Hid (ExAll 4 (lcI) (lexBegin kd) w7 W8 bl (fun j => ([.pointer (some ⟨ma, 0, none⟩), .pointer (some ⟨mb, 0, none⟩), .pointer (some ⟨mc, 0, none⟩), .pointer (some ⟨md, 0, none⟩)] : List Value).getD j undef) (fun j => ([Sa, Sb, Sc, Sd] : List (List Nat)).getD j [])) := by
        refine Lib.hid ⟨r8, ⟨?_, by omega⟩, fun j hj => ?_, fun j hj => ?_⟩
        · have la2 : w7.heap.size ≤ wa.heap.size := la'; omega
        · rcases (show j = 0 ∨ j = 1 ∨ j = 2 ∨ j = 3 by omega) with rfl | rfl | rfl | rfl
          · exact ⟨ma, rfl, (lcRuns ma).frame ja (((lb.trans lc).trans ld).trans k8) (by simp)⟩
          · exact ⟨mb, rfl, (lcRuns mb).frame jb ((lc.trans ld).trans k8) (by simp)⟩
          · exact ⟨mc, rfl, (lcRuns mc).frame jc (ld.trans k8) (by simp)⟩
          · exact ⟨md, rfl, (lcRuns md).frame jd k8 (by simp)⟩
        · have la2 : w7.heap.size ≤ wa.heap.size := la'
          have sa2 : ∀ k ∈ Sa, w7.heap.size ≤ k := sa
          have ga : ∀ x ∈ Sa, w7.heap.size ≤ x ∧ x < wa.heap.size := fun x hx => ⟨sa2 x hx, ta x hx⟩
          have gb : ∀ x ∈ Sb, wa.heap.size ≤ x ∧ x < wb.heap.size := fun x hx => ⟨sb x hx, tb x hx⟩
          have gc : ∀ x ∈ Sc, wb.heap.size ≤ x ∧ x < wc.heap.size := fun x hx => ⟨sc x hx, tc x hx⟩
          have gd : ∀ x ∈ Sd, wc.heap.size ≤ x ∧ x < wd.heap.size := fun x hx => ⟨sd x hx, td x hx⟩
          refine ⟨fun x hx => ?_, fun i hi hij x hx hx2 => ?_⟩
          · rcases (show j = 0 ∨ j = 1 ∨ j = 2 ∨ j = 3 by omega) with rfl | rfl | rfl | rfl
            · have := ga x hx; omega
            · have := gb x hx; omega
            · have := gc x hx; omega
            · have := gd x hx; omega
          · rcases (show j = 0 ∨ j = 1 ∨ j = 2 ∨ j = 3 by omega) with rfl | rfl | rfl | rfl <;> rcases (show i = 0 ∨ i = 1 ∨ i = 2 ∨ i = 3 by omega) with rfl | rfl | rfl | rfl
            all_goals first
              | exact absurd rfl hij
              | (have := ga x hx; have := gb x hx2; omega)
              | (have := ga x hx; have := gc x hx2; omega)
              | (have := ga x hx; have := gd x hx2; omega)
              | (have := gb x hx; have := ga x hx2; omega)
              | (have := gb x hx; have := gc x hx2; omega)
              | (have := gb x hx; have := gd x hx2; omega)
              | (have := gc x hx; have := ga x hx2; omega)
              | (have := gc x hx; have := gb x hx2; omega)
              | (have := gc x hx; have := gd x hx2; omega)
              | (have := gd x hx; have := ga x hx2; omega)
              | (have := gd x hx; have := gb x hx2; omega)
              | (have := gd x hx; have := gc x hx2; omega)
      have HK8 := Lib.hid (hkd4.trans k8)
      clear ja jb jc jd la lb lc ld sa sb sc sd la' lb' lc' ld' ta tb tc td r8 k8 hW8 hka hkb hkc hkd4
      obtain ⟨xs, hxs⟩ : ∃ xs : Nat → Value, (fun j => ([.pointer (some ⟨ma, 0, none⟩), .pointer (some ⟨mb, 0, none⟩), .pointer (some ⟨mc, 0, none⟩), .pointer (some ⟨md, 0, none⟩)] : List Value).getD j undef) = xs := ⟨_, rfl⟩
      obtain ⟨γ, hγ⟩ : ∃ γ : Nat → List Nat, (fun j => ([Sa, Sb, Sc, Sd] : List (List Nat)).getD j []) = γ := ⟨_, rfl⟩
      rw [hxs, hγ] at HX8
      clear hxs hγ z8 hbl
      go_wp2
      have hs7 := HB7.out.size
      have hs78 := HK8.out.size
      have hbl1 := HX8.out.new.1
      have hbl2 := HX8.out.new.2
      have HG : Hid (∀ j, j < 4 → (∀ x ∈ γ j, w7.heap.size ≤ x ∧ x < W8.heap.size ∧ x ≠ bl) ∧ ∀ i, i < 4 → i ≠ j → ∀ x ∈ γ j, x ∉ γ i) := Lib.hid HX8.out.own
      have HL9 : Hid (Loom (exD 4 E bl cl cl γ 0) W8 ⟨l, gl, m, b, lexUs kd 0, List.replicate 1 none, 0⟩) := Lib.hid (HL6.out.widen (HK67.out.trans HK8.out) (fun x hx => by
        rcases hx with h | h | h | h | ⟨j, h1, h2, h3⟩
        · exact .inl h
        · right; omega
        · right; omega
        · right; omega
        · have := (HG.out j h2).1 x h3; right; omega))
      have HC9 : Hid (∀ j, j < 4 → W8.cell? ⟨bl, j, none⟩ = some (xs j)) := Lib.hid fun j hj => HX8.out.row.cell (by simp [hj])
      have HW9' : Hid (∀ j, j < 4 → ExW lcI (lexBegin kd) W8 (xs j) (γ j) j) := Lib.hid HX8.out.walks
      have HR9 := Lib.hid (HW7.out.keeps HK8.out (by simp))
      have HB9 := Lib.hid (HB7.out.trans (HK8.out.below (by omega) (by simp)))
      clear HL7 HL6 HB7 HX8 HK67 H0 H1 H2
      go_loopw [9] (fun i wr => ∃ k : Nat, k ≤ 4 ∧ i = .int .i64 (k : Int) ∧ Held (exD 4 E bl cl cl γ k) W8 wr ∧ ∃ (L : LSt) (o : Option Strand),
        Loom (exD 4 E bl cl cl γ k) wr L ∧ L.l = l ∧ L.mm = m ∧ L.ts[0]? = some o ∧ busy o = false ∧ L.steps ≤ 20 * k ∧ L.us = lexUs kd k) (fun i _ => 4 - (intOf i).toNat)
      case atStart => exact ⟨0, by omega, rfl, Held.refl _ _, _, none, HL9.out, rfl, rfl, rfl, rfl, Nat.le_refl _, rfl⟩
      case round =>
        obtain ⟨k, hk, rfl, hh, L, o, hL, hLl, hLm, ho, hbo, hst, hus⟩ := hrel
        have HHr := Lib.hid hh
        have HL := Lib.hid hL
        by_cases hlt : k < 4
        · have c1 : wr.cell? ⟨bl, k, none⟩ = some (xs k) := (hh.cell (p := ⟨bl, k, none⟩) (.inr (.inl rfl))).trans (HC9.out k hlt)
          obtain ⟨mm, em, hI⟩ := HW9'.out k hlt
          rw [em] at c1
          have hI' := (lcRuns mm).held' hI hh (fun x hx => .inr (.inr (.inr (.inr ⟨k, Nat.le_refl _, hlt, hx⟩))))
          obtain ⟨n, s', n0, n60, hsolo, hres⟩ := lexRuns kd k hltd hlt
          obtain ⟨u, hu⟩ : ∃ u, lexWant.getD k 0 = u := ⟨_, rfl⟩
          rw [hu] at hres
          obtain ⟨L1, M, o', hM, hSt, hDo⟩ := Solo.begunO (I := lcI mm) (m := mm) (R := lcRuns mm) (L := L) (by rw [hus]; exact hsolo) (exD 4 E bl cl cl γ (k + 1)) (exD 4 E bl cl cl γ k) 0 20 _ _ o (γ k) wr hL ho hbo hI'
            (fun x hx => .inr (.inr (.inr (.inr ⟨k, Nat.le_refl _, hlt, hx⟩)))) (by rw [hLm]; intro hx; have := (HG.out k hlt).1 m hx; omega)
            (fun x hx => ⟨hx.next, fun hxk => by
              have hg := (HG.out k hlt).1 x hxk
              rcases hx with h | h | h | h | ⟨j, h1, h2, h3⟩
              · have := HE.out.2.2 x h; omega
              · exact hg.2.2 h
              · omega
              · omega
              · exact (HG.out k hlt).2 j h2 (by omega) x hxk h3⟩) n0 n60 (by omega) (by omega) hres
          rw [hLl] at hSt hDo
          have HSt := Lib.hid hSt
          have HAl := Lib.hid hDo.1
          have HRe := Lib.hid hDo.2
          have HNew : Hid (M.l = l ∧ M.mm = m ∧ M.ts[0]? = some o' ∧ busy o' = false ∧ M.steps ≤ 20 * (k + 1) ∧ M.us = lexUs kd (k + 1)) := Lib.hid
            ⟨hM.1.trans hLl, hM.2.2.1.trans hLm, hM.2.2.2.2.2.2.1, hM.2.2.2.2.2.2.2.1, by have := hM.2.2.2.2.2.1; omega, hM.2.2.2.2.1⟩
          have hki : (k : Int) < 4 := by omega
          clear hM hSt hDo hI hI' hsolo hres hL hh n0 n60 hus hst ho hbo em
          go_wp2_with fail
          refine HSt.out.mono ?_
          rintro e w12 ⟨rfl, hL2, hh2⟩
          have HL2 := Lib.hid hL2
          have HH2 : Hid (Held (exD 4 E bl cl cl γ (k + 1)) W8 w12) := Lib.hid ((HHr.out.narrow (fun x hx => hx.next)).trans hh2)
          clear hL2 hh2 c1
          go_wp2_with fail
          refine (HAl.out _ w12 HL2.out).mono ?_
          rintro e w13 ⟨rfl, hL3, hh3⟩
          have HL3 := Lib.hid hL3
          have HH3 := Lib.hid (HH2.out.trans hh3)
          clear hL3 hh3
          go_wp2_with fail
          refine (HRe.out _ w13 HL3.out).mono ?_
          rintro e w14 ⟨rq, rc, rfl, k14⟩
          go_wp2
          obtain ⟨z, hz⟩ : ∃ z, w14.heap.size = z := ⟨_, rfl⟩
          generalize hW15 : World.alloc w14 _ = W15
          have k15 : Keeps [] w14 W15 := by rw [← hW15]; exact (Keeps.refl _ _).alloc _
          have r15 : Row W15 z 66 [.int .i64 0, .int .u64 u, .slice rq 0 rc] := by rw [← hW15, ← hz]; exact Row.new _ _ _
          rw [hz]
          have hh15 := HH3.out.trans ((k14.trans k15).held (fun x hx => HL3.out.dom x hx) (by simp))
          have HL15 := Lib.hid ((HL3.out.keeps k14).keeps k15)
          have HH15 := Lib.hid hh15
          have e0 : W15.drew.cell? ⟨z, 0, none⟩ = some (.int .i64 0) := r15.cell (j := 0) rfl
          have e1 : W15.drew.cell? ⟨z, 1, none⟩ = some (.int .u64 u) := r15.cell (j := 1) rfl
          have f1 : W15.drew.cell? ⟨cl, k, none⟩ = some (.int .u64 u) := (hh15.cell (p := ⟨cl, k, none⟩) (.inr (.inr (.inl rfl)))).trans (HR9.out.cell (by rw [← hu]; exact ints_at (k := .u64) hlt))
          have g0 : W15.cell? ⟨z, 0, none⟩ = some (.int .i64 0) := e0
          have g1 : W15.cell? ⟨z, 1, none⟩ = some (.int .u64 u) := e1
          have g2 : W15.cell? ⟨cl, k, none⟩ = some (.int .u64 u) := f1
          clear k14 k15 r15 hh15 hW15 hz
          have HKd : Hid (Keeps [] W15 W15.drew) := Lib.hid ((Keeps.refl [] W15).drew)
          first | go_region | skip
          go_wp2
          go_roundw
          case rel => exact ⟨k + 1, by omega, by go_num, HH15.out.trans (HKd.out.held (fun x hx => HL15.out.dom x hx) (by simp)), M, o', HL15.out.keeps HKd.out, HNew.out⟩
          case measure => first | (simp [intOf]; done) | (simp [intOf]; omega)
        · obtain rfl : k = 4 := by omega
          have HF : Hid (Below B0 w wr) := Lib.hid (HBL0.out.trans ((HB9.out.trans (Held.below (HHr.out.narrow (E := (· < B)) (fun x hx => .inl (HE.out.1 x hx))))).mono (by omega)))
          go_wp2
          go_roundw
          case rel => exact ⟨kd + 1, by omega, by go_num, HF.out⟩
          case measure => simp [intOf]; omega
    · obtain rfl : kd = 2 := by omega
      go_wp2
      go_ret
      exact ⟨rfl, HBL0.out⟩
end Go.Proofs.YtjfgpplnlepnoaaGreat
