/-
  The chapter's example of layer 10.
-/
import Derived.Test.YtamcfobgmpgbeaaDoorIdQ
import Derived.Test.YtamcfobgmpgbeaaDoorStart
import Derived.Test.YtamcfobgmpgbeaaDoorMem3
import Derived.Test.YtamcfobgmpgbeaaDoorLoom5
namespace Go.Proofs.YtamcfobgmpgbeaaDoor
set_option maxRecDepth 100000
set_option linter.unusedSimpArgs false
set_option linter.unusedVariables false
open Go.ChangeShapes Go.WideShapes Go.ChangeAt Go.RowKit

def iexBegin (k : Nat) : IdS := ([idNew 0 2 1 1, idNew 0 2 5 0, idNew 0 2 5 0, idNew 0 2 4 1] : List IdS).getD k (idNew 0 2 5 0)
def iexUs (k : Nat) : List Int := ([[0], [2], [4294967296], [4294967296], [0]] : List (List Int)).getD k []
def iexCodes : List Int := [0, 0, 5, 0]
def iexWant : List Int := [0, 1, 0, 1]
theorem iexRuns (k : Nat) (hk : k < 4) : ∃ (n : Nat) (s' : IdS), 0 < n ∧ n ≤ 9 ∧ Solo idM (iexUs k) (iexBegin k) n (iexUs (k + 1)) s' ∧ idM.res s' = some ⟨iexCodes.getD k 0, iexWant.getD k 0, []⟩ := by
  have go : ∀ (n : Nat), 0 < n → n ≤ 9 → (soloRun idM 80 (iexUs k) (iexBegin k)).map (fun x => (x.1, x.2.1, idM.res x.2.2)) = some (n, iexUs (k + 1), some ⟨iexCodes.getD k 0, iexWant.getD k 0, []⟩) → ∃ (n : Nat) (s' : IdS), 0 < n ∧ n ≤ 9 ∧ Solo idM (iexUs k) (iexBegin k) n (iexUs (k + 1)) s' ∧ idM.res s' = some ⟨iexCodes.getD k 0, iexWant.getD k 0, []⟩ := fun n h1 h2 h => by
    obtain ⟨s', h3, h4⟩ := soloRun_res _ _ _ _ _ _ _ h
    exact ⟨n, s', h1, h2, h3, h4⟩
  rcases (show k = 0 ∨ k = 1 ∨ k = 2 ∨ k = 3 by omega) with rfl | rfl | rfl | rfl
  · exact go 2 (by decide) (by decide) (by kernel_rfl)
  · exact go 2 (by decide) (by decide) (by kernel_rfl)
  · exact go 1 (by decide) (by decide) (by kernel_rfl)
  · exact go 2 (by decide) (by decide) (by kernel_rfl)

set_option maxHeartbeats 6400000 in
theorem awake10 (w : World) (hA : Amb w) :
    Calls Tryd.prog 5 #[] w fun e w' => e = .returned (.bool true) ∧ Below w.heap.size w w' := by
  obtain ⟨B, hB⟩ : ∃ B, w.heap.size = B := ⟨_, rfl⟩
  have hAlt : ∀ k, AmbAt k → k < B := by rw [← hB]; exact hA.lt
  rw [hB]
  obtain ⟨W1, hW1⟩ : ∃ W1, w.alloc (.cells #[.int .i64 0, .int .i64 2] 24) = W1 := ⟨_, rfl⟩
  have bq : Box W1 B #[.int .i64 0, .int .i64 2] := by rw [← hW1, ← hB]; exact Box.new _ _ _
  have k1 : Keeps [] w W1 := by rw [← hW1]; exact (Keeps.refl _ _).alloc _
  have NA := Lib.hid (new_any 1 W1 (by omega) (by omega))
  have HB1 := Lib.hid (show Below B w W1 from k1.below (by omega) (by simp))
  have HA1 := Lib.hid (hA.keeps k1 (by simp))
  have HQ1 := Lib.hid bq
  clear bq k1 hA
  go_enter Tryd.func5, Tryd.ntmps5
  go_wp2_with fail
  refine NA.out.mono ?_
  clear NA
  rintro e w2 ⟨m, b, rfl, hM, k2, hm, hb⟩
  have s1 := HB1.out.size
  have HB2 := Lib.hid (HB1.out.trans (k2.below (by omega) (by simp)))
  have HM2 := Lib.hid hM
  have HA2 := Lib.hid (HA1.out.keeps k2 (by simp))
  have HQ2 := Lib.hid (HQ1.out.keeps k2 (by simp))
  have hbq := HQ1.out.lt
  have hmlt := hM.lt
  have s2 := HB2.out.size
  clear hM k2 hW1 HA1
  obtain ⟨E, hE⟩ : ∃ E : Nat → Prop, (fun x => x < B ∨ x = B) = E := ⟨_, rfl⟩
  have HE : Hid ((∀ k, k < B → E k) ∧ E B ∧ ∀ k, E k → k < B ∨ k = B) := Lib.hid (by rw [← hE]; exact ⟨fun k hk => .inl hk, .inr rfl, fun k hk => hk⟩)
  clear hE
  go_wp2_with fail
  refine (loomNew_any E 1 m b (List.replicate 1 0) w2 HM2.out (by omega) (by omega) (fun k hk => by rcases HE.out.2.2 k hk with h | h <;> omega) (fun hk => by rcases HE.out.2.2 b hk with h | h <;> omega) HA2.out (fun k hk => HE.out.1 k (hAlt k hk))).mono ?_
  rintro e w7 ⟨l, gl, rfl, hL7, k7⟩
  have q7 := HQ2.out.keeps k7 (by simp)
  have c70 := q7.cells 0
  have c71 := q7.cells 1
  simp at c70 c71
  have HL7 := Lib.hid hL7
  have HQ7 := Lib.hid q7
  have HB7 := Lib.hid (HB2.out.trans (k7.below (by omega) (by simp)))
  have s7 := k7.size
  clear hL7 k7 q7 HB1 HB2 HQ1 HQ2 HM2 HA2
  have H0 := Lib.hid (idSleep_made 0 2 1)
  have H1 := Lib.hid (idChoose_made 0 2)
  have H3 := Lib.hid (idFound_made 0 2 1)
  have HS : Hid (∀ W, Keeps [] w7 W → W.cell? ⟨B, 0, none⟩ = some (.int .i64 0) ∧ W.cell? ⟨B, 1, none⟩ = some (.int .i64 2)) := Lib.hid (fun W hk => by
    have q := HQ7.out.keeps hk (by simp)
    have c0 := q.cells 0
    have c1 := q.cells 1
    simp at c0 c1
    exact ⟨c0, c1⟩)
  go_wp2
  go_region_held3 (fun w' => w'.cell? ⟨B, 0, none⟩ = some (.int .i64 0) ∧ w'.cell? ⟨B, 1, none⟩ = some (.int .i64 2))
    (first
      | exact HS.out _ (hkd.alloc _)
      | exact HS.out _ hkd
      | exact HS.out _ hkc
      | exact HS.out _ hkb
      | exact HS.out _ hka
      | exact ⟨by assumption, by assumption⟩
      | fail)
    (first
      | (have _ := hkc; go_at_call 18; refine (H3.out _).mono ?_; rintro e2 wd ⟨md, Sd, rfl, jd, ld, sd⟩; have hkd : Keeps [] w7 wd := hkc.trans ld)
      | (have _ := hkb; go_at_call 19; refine (H1.out _).mono ?_; rintro e2 wc ⟨mc, Sc, rfl, jc, lc, sc⟩; have hkc : Keeps [] w7 wc := hkb.trans lc)
      | (have _ := hka; go_at_call 19; refine (H1.out _).mono ?_; rintro e2 wb ⟨mb, Sb, rfl, jb, lb, sb⟩; have hkb : Keeps [] w7 wb := hka.trans lb)
      | (go_at_call 15; refine (H0.out _).mono ?_; rintro e2 wa ⟨ma, Sa, rfl, ja, la, sa⟩; have hka : Keeps [] w7 wa := la.undrew)
      | fail)
  obtain ⟨bl, hbl⟩ : ∃ bl, wd.heap.size = bl := ⟨_, rfl⟩
  rw [hbl]
  generalize hW8 : World.alloc wd _ = W8
  have k8 : Keeps [] wd W8 := by rw [← hW8]; exact (Keeps.refl _ _).alloc _
  have r8 : Row W8 bl 47 [.pointer (some ⟨ma, 0, none⟩), .pointer (some ⟨mb, 0, none⟩), .pointer (some ⟨mc, 0, none⟩), .pointer (some ⟨md, 0, none⟩)] := by rw [← hW8, ← hbl]; exact Row.new _ _ _
  have z8 : W8.heap.size = bl + 1 := by rw [← hW8, ← hbl]; simp
  have la' := la.size
  have lb' := lb.size
  have lc' := lc.size
  have ld' := ld.size
  have ta := (idRuns ma).lt ja
  have tb := (idRuns mb).lt jb
  have tc := (idRuns mc).lt jc
  have td := (idRuns md).lt jd
  have HX8 : Hid (ExAll 4 (fun m => LoneI idM (idE m) m) iexBegin w7 W8 bl (fun j => ([.pointer (some ⟨ma, 0, none⟩), .pointer (some ⟨mb, 0, none⟩), .pointer (some ⟨mc, 0, none⟩), .pointer (some ⟨md, 0, none⟩)] : List Value).getD j undef) (fun j => ([Sa, Sb, Sc, Sd] : List (List Nat)).getD j [])) := by
    refine Lib.hid ⟨r8, ⟨?_, by omega⟩, fun j hj => ?_, fun j hj => ?_⟩
    · have la2 : w7.heap.size ≤ wa.heap.size := la'; omega
    · rcases (show j = 0 ∨ j = 1 ∨ j = 2 ∨ j = 3 by omega) with rfl | rfl | rfl | rfl
      · exact ⟨ma, rfl, (idRuns ma).frame ja (((lb.trans lc).trans ld).trans k8) (by simp)⟩
      · exact ⟨mb, rfl, (idRuns mb).frame jb ((lc.trans ld).trans k8) (by simp)⟩
      · exact ⟨mc, rfl, (idRuns mc).frame jc (ld.trans k8) (by simp)⟩
      · exact ⟨md, rfl, (idRuns md).frame jd k8 (by simp)⟩
    · have la2 : w7.heap.size ≤ wa.heap.size := la'
      have sa2 : ∀ k ∈ Sa, w7.heap.size ≤ k := sa
      have ga : ∀ x ∈ Sa, w7.heap.size ≤ x ∧ x < wa.heap.size := fun x hx => ⟨sa2 x hx, ta x hx⟩
      have gb : ∀ x ∈ Sb, wa.heap.size ≤ x ∧ x < wb.heap.size := fun x hx => ⟨sb x hx, tb x hx⟩
      have gc : ∀ x ∈ Sc, wb.heap.size ≤ x ∧ x < wc.heap.size := fun x hx => ⟨sc x hx, tc x hx⟩
      have gd : ∀ x ∈ Sd, wc.heap.size ≤ x ∧ x < wd.heap.size := fun x hx => ⟨sd x hx, td x hx⟩
      refine ⟨fun x hx => ?_, fun i hi hij x hx hx2 => ?_⟩
      · rcases (show j = 0 ∨ j = 1 ∨ j = 2 ∨ j = 3 by omega) with rfl | rfl | rfl | rfl
        · have := ga x hx; omega
        · have := gb x hx; omega
        · have := gc x hx; omega
        · have := gd x hx; omega
      · rcases (show j = 0 ∨ j = 1 ∨ j = 2 ∨ j = 3 by omega) with rfl | rfl | rfl | rfl <;> rcases (show i = 0 ∨ i = 1 ∨ i = 2 ∨ i = 3 by omega) with rfl | rfl | rfl | rfl
        all_goals first
          | exact absurd rfl hij
          | (have := ga x hx; have := gb x hx2; omega)
          | (have := ga x hx; have := gc x hx2; omega)
          | (have := ga x hx; have := gd x hx2; omega)
          | (have := gb x hx; have := ga x hx2; omega)
          | (have := gb x hx; have := gc x hx2; omega)
          | (have := gb x hx; have := gd x hx2; omega)
          | (have := gc x hx; have := ga x hx2; omega)
          | (have := gc x hx; have := gb x hx2; omega)
          | (have := gc x hx; have := gd x hx2; omega)
          | (have := gd x hx; have := ga x hx2; omega)
          | (have := gd x hx; have := gb x hx2; omega)
          | (have := gd x hx; have := gc x hx2; omega)
  have HK8 := Lib.hid (hkd.trans k8)
  clear ja jb jc jd la lb lc ld sa sb sc sd la' lb' lc' ld' ta tb tc td r8 k8 hW8 hka hkb hkc hkd
  obtain ⟨xs, hxs⟩ : ∃ xs : Nat → Value, (fun j => ([.pointer (some ⟨ma, 0, none⟩), .pointer (some ⟨mb, 0, none⟩), .pointer (some ⟨mc, 0, none⟩), .pointer (some ⟨md, 0, none⟩)] : List Value).getD j undef) = xs := ⟨_, rfl⟩
  obtain ⟨γ, hγ⟩ : ∃ γ : Nat → List Nat, (fun j => ([Sa, Sb, Sc, Sd] : List (List Nat)).getD j []) = γ := ⟨_, rfl⟩
  rw [hxs, hγ] at HX8
  clear hxs hγ z8 hbl
  -- in context: HL7 (the loom behind its making), HX8 : ExAll .. w7 W8 bl xs γ, HK8 : Keeps [] w7 W8, HB7, HE, hAlt, s1, s2, s7, hm, hb, hmlt, hbq
  go_wp2
  generalize hW9 : World.alloc (World.alloc W8 _) _ = W9
  have k9 : Keeps [] W8 W9 := by rw [← hW9]; exact ((Keeps.refl _ _).alloc _).alloc _
  obtain ⟨cl, hcl⟩ : ∃ cl, W8.heap.size = cl := ⟨_, rfl⟩
  have r9 : Row W9 cl 27 (ints .i64 iexCodes) := by rw [← hW9]; exact (Row.newAt _ _ _ _ hcl).alloc _
  have q9 : Row W9 (cl + 1) 36 (ints .u64 iexWant) := by rw [← hW9]; exact Row.newAt _ _ _ _ (by simp [hcl])
  rw [hcl]
  have hl9 := r9.lt
  have hl9' := q9.lt
  have hs7 := HB7.out.size
  have hs78 := HK8.out.size
  have hbl1 := HX8.out.new.1
  have hbl2 := HX8.out.new.2
  have HG : Hid (∀ j, j < 4 → (∀ x ∈ γ j, w7.heap.size ≤ x ∧ x < cl ∧ x ≠ bl) ∧ ∀ i, i < 4 → i ≠ j → ∀ x ∈ γ j, x ∉ γ i) := Lib.hid (by rw [← hcl]; exact HX8.out.own)
  have HL9 : Hid (Loom (exD 4 E bl cl (cl + 1) γ 0) W9 ⟨l, gl, m, b, iexUs 0, List.replicate 1 none, 0⟩) := Lib.hid (HL7.out.widen (HK8.out.trans k9) (fun x hx => by
    rcases hx with h | h | h | h | ⟨j, h1, h2, h3⟩
    · exact .inl h
    · right; omega
    · right; omega
    · right; omega
    · have := (HG.out j h2).1 x h3; right; omega) (fun k hk => .inl (HE.out.1 k (hAlt k hk))))
  have HX9 := Lib.hid (HX8.out.keeps idRuns k9)
  have HC9 : Hid (∀ j, j < 4 → W9.cell? ⟨bl, j, none⟩ = some (xs j)) := Lib.hid fun j hj => HX9.out.row.cell (by simp [hj])
  have HW9' : Hid (∀ j, j < 4 → ExW (fun m => LoneI idM (idE m) m) iexBegin W9 (xs j) (γ j) j) := Lib.hid HX9.out.walks
  have HR9 := Lib.hid (⟨r9, q9⟩ : _ ∧ _)
  have HB9 := Lib.hid (HB7.out.trans ((HK8.out.trans k9).below (by omega) (by simp)))
  clear hW9 k9 r9 q9 HL7 HB7 HX8 HX9 HK8
  go_loopw [9] (fun i wr => ∃ k : Nat, k ≤ 4 ∧ i = .int .i64 (k : Int) ∧ Held (exD 4 E bl cl (cl + 1) γ k) W9 wr ∧ ∃ (L : LSt) (o : Option Strand),
    Loom (exD 4 E bl cl (cl + 1) γ k) wr L ∧ L.l = l ∧ L.mm = m ∧ L.ts[0]? = some o ∧ busy o = false ∧ L.steps ≤ 9 * k ∧ L.us = iexUs k) (fun i _ => 4 - (intOf i).toNat)
  case atStart => exact ⟨0, by omega, rfl, Held.refl _ _, _, none, HL9.out, rfl, rfl, rfl, rfl, Nat.le_refl _, rfl⟩
  case round =>
    obtain ⟨k, hk, rfl, hh, L, o, hL, hLl, hLm, ho, hbo, hst, hus⟩ := hrel
    have HHr := Lib.hid hh
    have HL := Lib.hid hL
    by_cases hlt : k < 4
    · have c1 : wr.cell? ⟨bl, k, none⟩ = some (xs k) := (hh.cell (p := ⟨bl, k, none⟩) (.inr (.inl rfl))).trans (HC9.out k hlt)
      obtain ⟨mm, em, hI⟩ := HW9'.out k hlt
      rw [em] at c1
      have hI' := (idRuns mm).held' hI hh (fun x hx => .inr (.inr (.inr (.inr ⟨k, Nat.le_refl _, hlt, hx⟩))))
      obtain ⟨n, s', n0, n60, hsolo, hres⟩ := iexRuns k hlt
      obtain ⟨c, hc⟩ : ∃ c, (iexCodes).getD k 0 = c := ⟨_, rfl⟩
      obtain ⟨u, hu⟩ : ∃ u, (iexWant).getD k 0 = u := ⟨_, rfl⟩
      rw [hc, hu] at hres
      obtain ⟨L1, M, o', hM, hSt, hDo⟩ := Solo.begunO (I := (fun m => LoneI idM (idE m) m) mm) (m := mm) (R := idRuns mm) (L := L) (by rw [hus]; exact hsolo) (exD 4 E bl cl (cl + 1) γ (k + 1)) (exD 4 E bl cl (cl + 1) γ k) 0 9 _ _ o (γ k) wr hL ho hbo hI'
        (fun x hx => .inr (.inr (.inr (.inr ⟨k, Nat.le_refl _, hlt, hx⟩)))) (by rw [hLm]; intro hx; have := (HG.out k hlt).1 m hx; omega)
        (fun x hx => ⟨hx.next, fun hxk => by
          have hg := (HG.out k hlt).1 x hxk
          rcases hx with h | h | h | h | ⟨j, h1, h2, h3⟩
          · have := HE.out.2.2 x h; omega
          · exact hg.2.2 h
          · omega
          · omega
          · exact (HG.out k hlt).2 j h2 (by omega) x hxk h3⟩) n0 n60 (by omega) (by omega) hres (fun k hk => .inl (HE.out.1 k (hAlt k hk)))
      rw [hLl] at hSt hDo
      have HSt := Lib.hid hSt
      have HAl := Lib.hid hDo.1
      have HRe := Lib.hid hDo.2
      have HNew : Hid (M.l = l ∧ M.mm = m ∧ M.ts[0]? = some o' ∧ busy o' = false ∧ M.steps ≤ 9 * (k + 1) ∧ M.us = iexUs (k + 1)) := Lib.hid
        ⟨hM.1.trans hLl, hM.2.2.1.trans hLm, hM.2.2.2.2.2.2.1, hM.2.2.2.2.2.2.2.1, by have := hM.2.2.2.2.2.1; omega, hM.2.2.2.2.1⟩
      have hki : (k : Int) < 4 := by omega
      clear hM hSt hDo hI hI' hsolo hres hL hh n0 n60 hus hst ho hbo em
      go_wp2_with fail
      refine HSt.out.mono ?_
      rintro e w12 ⟨rfl, hL2, hh2⟩
      have HL2 := Lib.hid hL2
      have HH2 : Hid (Held (exD 4 E bl cl (cl + 1) γ (k + 1)) W9 w12) := Lib.hid ((HHr.out.narrow (fun x hx => hx.next)).trans hh2)
      clear hL2 hh2 c1
      go_wp2_with fail
      refine (HAl.out _ w12 HL2.out).mono ?_
      rintro e w13 ⟨rfl, hL3, hh3⟩
      have HL3 := Lib.hid hL3
      have HH3 := Lib.hid (HH2.out.trans hh3)
      clear hL3 hh3
      go_wp2_with fail
      refine (HRe.out _ w13 HL3.out).mono ?_
      rintro e w14 ⟨rq, rc, rfl, k14⟩
      go_wp2
      obtain ⟨z, hz⟩ : ∃ z, w14.heap.size = z := ⟨_, rfl⟩
      generalize hW15 : World.alloc w14 _ = W15
      have k15 : Keeps [] w14 W15 := by rw [← hW15]; exact (Keeps.refl _ _).alloc _
      have r15 : Row W15 z 54 [.int .i64 c, .int .u64 u, .slice rq 0 rc] := by rw [← hW15, ← hz]; exact Row.new _ _ _
      rw [hz]
      have hh15 := HH3.out.trans ((k14.trans k15).held (fun x hx => HL3.out.dom x hx) (by simp))
      have HL15 := Lib.hid ((HL3.out.keeps k14).keeps k15)
      have HH15 := Lib.hid hh15
      have e0 : W15.drew.cell? ⟨z, 0, none⟩ = some (.int .i64 c) := r15.cell (j := 0) rfl
      have e1 : W15.drew.cell? ⟨z, 1, none⟩ = some (.int .u64 u) := r15.cell (j := 1) rfl
      have f0 : W15.drew.cell? ⟨cl, k, none⟩ = some (.int .i64 c) := (hh15.cell (p := ⟨cl, k, none⟩) (.inr (.inr (.inl rfl)))).trans (HR9.out.1.cell (by rw [← hc]; exact ints_at (k := .i64) hlt))
      have f1 : W15.drew.cell? ⟨cl + 1, k, none⟩ = some (.int .u64 u) := (hh15.cell (p := ⟨cl + 1, k, none⟩) (.inr (.inr (.inr (.inl rfl))))).trans (HR9.out.2.cell (by rw [← hu]; exact ints_at (k := .u64) hlt))
      clear k14 k15 r15 hh15 hW15 hz
      have HKd : Hid (Keeps [] W15 W15.drew) := Lib.hid ((Keeps.refl [] W15).drew)
      go_region
      go_wp2
      go_roundw
      case rel => exact ⟨k + 1, by omega, by go_num, HH15.out.trans (HKd.out.held (fun x hx => HL15.out.dom x hx) (by simp)), M, o', HL15.out.keeps HKd.out, HNew.out⟩
      case measure => first | (simp [intOf]; done) | (simp [intOf]; omega)
    · obtain rfl : k = 4 := by omega
      go_wp2
      go_ret
      exact ⟨rfl, HB9.out.trans (Held.below (HHr.out.narrow (E := (· < B)) (fun x hx => .inl (HE.out.1 x hx))))⟩

end Go.Proofs.YtamcfobgmpgbeaaDoor
