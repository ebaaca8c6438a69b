import Derived.Test.YtjfgpplnlepnoaaGreatLook
import Derived.Deep.CutRange
import Derived.Deep.RegionHeld3
/-
  Contracts: Like of layer 4's statements: a walk that goes as a machine goes is like that machine's trace.
-/
namespace Go.Proofs.YtjfgpplnlepnoaaGreat
set_option maxRecDepth 100000
set_option linter.unusedSimpArgs false
set_option linter.unusedVariables false
open Go.ChangeShapes Go.WideShapes Go.ChangeAt Go.RowKit

theorem heldAt {W w' : World} {N : Nat} (hN : W.heap.size = N) (h : Keeps [] W w') : Keeps [] W w' ∧ ∀ b o, b < N → w'.cell? ⟨b, o, none⟩ = W.cell? ⟨b, o, none⟩ :=
  ⟨h, fun b o hb => h.cell (p := ⟨b, o, none⟩) (by rw [hN]; exact hb) (by simp)⟩
set_option maxHeartbeats 3200000 in
set_option maxRecDepth 100000 in
/-- One round: all that is seen is the same. -/
theorem like_any {σ : Type} (K : Mach σ) (I : World → List Nat → σ → Prop) (m : Nat) (hR : Runs K I m) (vs vt : Value) (s : σ) (ts : List (Int × Bool)) (S : List Nat) (w : World) (hI : I w S s)
    (hs : SeenAt w (fun k => k ∉ S ∧ k < w.heap.size) vs (K.trace s ts)) (ht : Sl w 2 vt ts.length (tolds ts)) (htS : ts.length ≠ 0 → ∀ g, vt.ownBlock = some g → g ∉ S) (hv : ∀ t ∈ ts, M.U t.1) (hn : ts.length ≤ 1000000) :
    Calls Tryz.prog 18 #[.pointer (some ⟨m, 0, none⟩), vs, vt] w fun e w' => e = .returned (.bool true) ∧ ∃ S', I w' S' (K.goes s ts) ∧ Keeps S w w' ∧ ∀ k ∈ S', k ∈ S ∨ w.heap.size ≤ k := by
  obtain ⟨b, cs, rfl, hbD, hblt, hseen⟩ := hs.shape
  obtain ⟨pt, ct, rfl⟩ := ht.len
  rw [K.trace_len]
  have hnn : (((ts.length + 1 : Nat) : Int) != (ts.length : Int) + 1) = false := by simp
  have HS := Lib.hid hseen
  have HT := Lib.hid ht
  have HTS := Lib.hid htS
  have HV := Lib.hid hv
  have HI := Lib.hid hI
  have HB := Lib.hid hbD
  clear hseen ht htS hv hI hbD hs
  go_enter Tryz.func18, Tryz.ntmps18
  go_wp2
  go_loopw [7] (fun i wr => ∃ k : Nat, k ≤ ts.length + 1 ∧ i = .int .i64 k ∧ ∃ S', I wr S' (K.goes s (ts.take k)) ∧ Keeps S w wr ∧ ∀ j ∈ S', j ∈ S ∨ w.heap.size ≤ j) (fun i _ => ts.length + 1 - (intOf i).toNat)
  case atStart => exact ⟨0, Nat.zero_le _, rfl, S, HI.out, Keeps.refl _ _, fun j h => .inl h⟩
  case round =>
    obtain ⟨k, hk, rfl, S', hI, hK, hnew⟩ := hrel
    have HK := Lib.hid hK
    have HN := Lib.hid hnew
    have HI1 := Lib.hid hI
    clear hK hnew hI
    by_cases hlt : k ≤ ts.length
    · obtain ⟨sk, hsk⟩ : ∃ sk, K.goes s (ts.take k) = sk := ⟨_, rfl⟩
      have HSK := Lib.hid hsk
      rw [hsk] at HI1
      obtain ⟨x, hx⟩ : ∃ x, (K.want sk).getD zacc = x := ⟨_, rfl⟩
      obtain ⟨bw, hbw⟩ : ∃ bw, (K.want sk).isSome = bw := ⟨_, rfl⟩
      obtain ⟨rr, hrr⟩ : ∃ rr, (K.res sk).getD Rs.zero = rr := ⟨_, rfl⟩
      obtain ⟨br, hbr⟩ : ∃ br, (K.res sk).isSome = br := ⟨_, rfl⟩
      have hone : ∃ l h, SeenOne wr (fun k => k ∉ S ∧ k < w.heap.size) (K.face sk) l h ∧ ∀ j u, (seenCells (K.face sk) l h)[j]? = some u → wr.cell? ⟨b, k * 10 + j, none⟩ = some u := by
        obtain ⟨l, h, ho, hc⟩ := HS.out k _ (K.trace_at s ts hlt)
        rw [hsk] at ho hc
        exact ⟨l, h, ho.keeps HK.out (fun k h => h.1), fun j u hu => (HK.out.cell (p := ⟨b, k * 10 + j, none⟩) hblt HB.out.1).trans (hc j u hu)⟩
      obtain ⟨l, h, ho, hc⟩ := hone
      obtain ⟨pl, nl, cl, rfl⟩ := ho.shape
      obtain ⟨ph, ch, rfl⟩ := ho.held.len
      have c0 : wr.cell? ⟨b, k * 10, none⟩ = some (.int .i64 x.k) := by rw [← hx]; exact hc 0 _ rfl
      have c1 : wr.cell? ⟨b, k * 10 + 1, none⟩ = some (.int .i64 x.c) := by rw [← hx]; exact hc 1 _ rfl
      have c2 : wr.cell? ⟨b, k * 10 + 2, none⟩ = some (.int .u64 x.a) := by rw [← hx]; exact hc 2 _ rfl
      have c3 : wr.cell? ⟨b, k * 10 + 3, none⟩ = some (.int .u64 x.b) := by rw [← hx]; exact hc 3 _ rfl
      have c4 : wr.cell? ⟨b, k * 10 + 4, none⟩ = some (.bool bw) := by rw [← hbw]; exact hc 4 _ rfl
      have c5 : wr.cell? ⟨b, k * 10 + 5, none⟩ = some (.int .i64 rr.code) := by rw [← hrr]; exact hc 5 _ rfl
      have c6 : wr.cell? ⟨b, k * 10 + 6, none⟩ = some (.int .u64 rr.v) := by rw [← hrr]; exact hc 6 _ rfl
      have c7 : wr.cell? ⟨b, k * 10 + 7, none⟩ = some (.slice pl nl cl) := hc 7 _ rfl
      have c8 : wr.cell? ⟨b, k * 10 + 8, none⟩ = some (.bool br) := by rw [← hbr]; exact hc 8 _ rfl
      have c9 : wr.cell? ⟨b, k * 10 + 9, none⟩ = some (.slice ph (K.held sk).length ch) := hc 9 _ rfl
      have HWant := hR.want wr S' sk HI1.out
      rw [hx, hbw] at HWant
      have HRes := fun w1 hI => hR.result w1 S' sk hI
      rw [hrr, hbr] at HRes
      have HResH := Lib.hid HRes
      have HO := Lib.hid ho
      have HX := Lib.hid hx
      have HBW := Lib.hid hbw
      have HRR := Lib.hid hrr
      have HBR := Lib.hid hbr
      clear hc ho hsk hx hbw hrr hbr HRes
      go_wp2_with fail
      refine HWant.mono ?_
      clear HWant
      rintro e w1 ⟨rfl, k1⟩
      have HI2 := Lib.hid (hR.frame HI1.out k1 (by simp))
      have HK1 := Lib.hid k1
      clear k1 HI1
      obtain ⟨W1, hW1⟩ : ∃ W1, w1.alloc (.cells #[.int .i64 x.k, .int .i64 x.c, .int .u64 x.a, .int .u64 x.b] 107) = W1 := ⟨_, rfl⟩
      have hb1 : Box W1 w1.heap.size #[.int .i64 x.k, .int .i64 x.c, .int .u64 x.a, .int .u64 x.b] := by rw [← hW1]; exact Box.new _ _ _
      have hk1 : Keeps [] w1 W1 := by rw [← hW1]; exact (Keeps.refl _ _).alloc _
      have HB1 := Lib.hid hb1
      have HK1' := Lib.hid hk1
      have HI3 := Lib.hid (hR.frame HI2.out hk1 (by simp))
      clear hb1 hk1 HI2
      go_wp2_with fail
      clear hW1
      refine (HResH.out _ HI3.out).mono ?_
      rintro e w2 ⟨l2, rfl, own2, k2⟩
      obtain ⟨q2, cc2, rfl⟩ := (Sl.of_owns own2).len
      obtain ⟨W2, hW2⟩ : ∃ W2, w2.alloc (.cells #[.int .i64 rr.code, .int .u64 rr.v, .slice q2 rr.l.length cc2] 66) = W2 := ⟨_, rfl⟩
      have hb2 : Box W2 w2.heap.size #[.int .i64 rr.code, .int .u64 rr.v, .slice q2 rr.l.length cc2] := by rw [← hW2]; exact Box.new _ _ _
      have hk2 : Keeps [] w2 W2 := by rw [← hW2]; exact (Keeps.refl _ _).alloc _
      have hbA : Box W2 w1.heap.size #[.int .i64 x.k, .int .i64 x.c, .int .u64 x.a, .int .u64 x.b] := (HB1.out.keeps k2 (by simp)).keeps hk2 (by simp)
      have hkk : Keeps [] wr W2 := ((HK1.out.trans HK1'.out).trans k2).trans hk2
      have hbr' : b < wr.heap.size := Nat.lt_of_lt_of_le hblt HK.out.size
      have cc : ∀ {j u}, wr.cell? ⟨b, j, none⟩ = some u → W2.cell? ⟨b, j, none⟩ = some u := fun h => (hkk.cell (p := ⟨b, _, none⟩) hbr' (by simp)).trans h
      have e0 := cc c0
      have e1 := cc c1
      have e2 := cc c2
      have e3 := cc c3
      have e4 := cc c4
      have e5 := cc c5
      have e6 := cc c6
      have e7 := cc c7
      have e8 := cc c8
      have e9 := cc c9
      have HO2 := Lib.hid (owns_keeps own2 hk2 (by simp))
      have HI4 := Lib.hid (hR.frame HI3.out (k2.trans hk2) (by simp))
      have HBA := Lib.hid hbA
      have HBR2 := Lib.hid hb2
      have HKK := Lib.hid hkk
      clear hb2 hk2 hbA hkk cc own2 k2 c0 c1 c2 c3 c4 c5 c6 c7 c8 c9 HB1 HI3 HK1 HK1' HResH hbr'
      have hlt1 : (k : Int) < (ts.length : Int) + 1 := by omega
      go_upto_region 8 with (fail)
      obtain ⟨W3, hW3⟩ : ∃ W3, W2.alloc (.cells #[.int .i64 x.k, .int .i64 x.c, .int .u64 x.a, .int .u64 x.b, .bool bw, .int .i64 rr.code, .int .u64 rr.v, .slice pl nl cl, .bool br, .slice ph (K.held sk).length ch] 112) = W3 := ⟨_, rfl⟩
      go_cut [12] from 19 to 98 (fun v w' => v = .pointer (some ⟨W2.heap.size, 0, none⟩) ∧ W3 = w')
      case first =>
        go_wp2_with fail
        go_meet
        exact ⟨rfl, rfl⟩
      obtain ⟨rfl, rfl⟩ := hcut
      go_upto_region 9 with (fail)

      have hb3 : Box W3 W2.heap.size #[.int .i64 x.k, .int .i64 x.c, .int .u64 x.a, .int .u64 x.b, .bool bw, .int .i64 rr.code, .int .u64 rr.v, .slice pl nl cl, .bool br, .slice ph (K.held sk).length ch] := by rw [← hW3]; exact Box.new _ _ _
      have hk3 : Keeps [] W2 W3 := by rw [← hW3]; exact (Keeps.refl _ _).alloc _
      have hbA := HBA.out.keeps hk3 (by simp)
      have hbR := HBR2.out.keeps hk3 (by simp)
      clear hW3 e0 e1 e2 e3 e4 e5 e6 e7 e8 e9
      have a0 := hbA.cells 0
      have a1 := hbA.cells 1
      have a2 := hbA.cells 2
      have a3 := hbA.cells 3
      have r0 := hbR.cells 0
      have r1 := hbR.cells 1
      have r2 := hbR.cells 2
      have s0 := hb3.cells 0
      have s1 := hb3.cells 1
      have s2 := hb3.cells 2
      have s3 := hb3.cells 3
      have s4 := hb3.cells 4
      have s5 := hb3.cells 5
      have s6 := hb3.cells 6
      have s7 := hb3.cells 7
      have s8 := hb3.cells 8
      have s9 := hb3.cells 9
      have la := hbA.lt
      have lr := hbR.lt
      have ls := hb3.lt
      have HI5 := Lib.hid (hR.frame HI4.out hk3 (by simp))
      have HO3 := Lib.hid (owns_keeps HO2.out hk3 (by simp))
      have HKK3 := Lib.hid (HKK.out.trans hk3)
      clear hbA hbR hb3 hk3 HBA HBR2 HI4 HO2
      simp at a0 a1 a2 a3 r0 r1 r2 s0 s1 s2 s3 s4 s5 s6 s7 s8 s9
      have hb1 : (bw != bw) = false := by simp
      have hb2 : (br != br) = false := by simp
      have hSR : ∀ W, Keeps [] W3 W → Calls Tryz.prog 54 #[.agg #[.int .i64 rr.code, .int .u64 rr.v, .slice q2 rr.l.length cc2], if br then .agg #[.int .i64 rr.code, .int .u64 rr.v, .slice pl nl cl] else .agg #[.int .i64 0, .int .u64 0, .slice none 0 0]] W fun e w' => e = .returned (.bool true) ∧ Keeps [] W w' := by
        intro W hW
        have ho := (Sl.of_owns HO3.out).but hW (by simp)
        have hm : rr.l.length ≤ maxLen := by
          rcases HO3.out.2 with ⟨_, h⟩ | ⟨_, _, _, _, _, _, h1, h2, _⟩
          · omega
          · omega
        cases hres : K.res sk with
        | none =>
          have e1 : rr = Rs.zero := by have := HRR.out; rw [hres] at this; exact this.symm
          have e2 : br = false := by have := HBR.out; rw [hres] at this; exact this.symm
          subst e1
          subst e2
          exact sameResult_any 0 0 _ _ 0 0 [] W (Nat.zero_le _) (Nat.zero_le _) ho ⟨rfl, .inl ⟨_, _, rfl, rfl⟩⟩
        | some r =>
          have e1 : rr = r := by have := HRR.out; rw [hres] at this; exact this.symm
          have e2 : br = true := by have := HBR.out; rw [hres] at this; exact this.symm
          subst e1
          subst e2
          obtain ⟨h1, h2, h3⟩ := HO.out.res rr hres
          exact sameResult_any rr.code rr.v _ _ _ _ rr.l W hm h2 ho ((h1.but HKK3.out (by simp)).but hW (by simp))
      have hSame : ∀ W q c, Sl W 1 (.slice q (K.held sk).length c) (K.held sk).length (ints .u64 (K.held sk)) → Keeps [] W3 W → Calls Tryz.prog 24 #[.slice q (K.held sk).length c, .slice ph (K.held sk).length ch] W fun e w' => e = .returned (.bool true) ∧ Keeps [] W w' := by
        intro W q c h1 hW
        have := sameWords_any _ _ _ _ (K.held sk) (K.held sk) W HO.out.few HO.out.few h1 ((HO.out.held.but HKK3.out (by simp)).but hW (by simp))
        simp only [decide_true] at this
        exact this.mono fun e w' ⟨he, j, hw⟩ => ⟨he, by rw [← hw]; exact Keeps.of_drewN _ _⟩
      have hHeld : ∀ W, Keeps [] W3 W → Calls Tryz.prog 55 #[.pointer (some ⟨m, 0, none⟩)] W fun e w' => ∃ q c, e = .returned (.slice q (K.held sk).length c) ∧ Sl w' 1 (.slice q (K.held sk).length c) (K.held sk).length (ints .u64 (K.held sk)) ∧ Keeps [] W w' := by
        intro W hW
        refine (hR.held W S' sk (hR.frame HI5.out hW (by simp))).mono ?_
        rintro e w' ⟨l, rfl, h1, h2⟩
        obtain ⟨q, c, rfl⟩ := (Sl.of_owns h1).len
        exact ⟨q, c, rfl, Sl.of_owns h1, h2⟩
      have HSR := Lib.hid hSR
      have HSame := Lib.hid hSame
      have HHeld := Lib.hid hHeld
      clear hSR hSame hHeld
      have hkeep : Keeps [] W3 W3 := Keeps.refl _ _
      obtain ⟨N, hN⟩ : ∃ N, W3.heap.size = N := ⟨_, rfl⟩
      rw [hN] at la lr ls
      have HN3 := Lib.hid hN
      clear hN
      have hcell : ∀ b o, b < N → W3.cell? ⟨b, o, none⟩ = W3.cell? ⟨b, o, none⟩ := fun _ _ _ => rfl
      go_cut [82] from 19 to 98 (fun v w' => v = .bool false ∧ Keeps [] W3 w')
      case first =>
        cases br
        case' false => have HSR' : Hid (∀ W, Keeps [] W3 W → Calls Tryz.prog 54 #[.agg #[.int .i64 rr.code, .int .u64 rr.v, .slice q2 rr.l.length cc2], .agg #[.int .i64 0, .int .u64 0, .slice none 0 0]] W fun e w' => e = .returned (.bool true) ∧ Keeps [] W w') := Lib.hid HSR.out
        case' true => have HSR' : Hid (∀ W, Keeps [] W3 W → Calls Tryz.prog 54 #[.agg #[.int .i64 rr.code, .int .u64 rr.v, .slice q2 rr.l.length cc2], .agg #[.int .i64 rr.code, .int .u64 rr.v, .slice pl nl cl]] W fun e w' => e = .returned (.bool true) ∧ Keeps [] W w') := Lib.hid HSR.out
        all_goals clear HSR
        all_goals clear HS HT HTS HV HI HB HK HN HSK HO HX HBW HRR HKK HI5 HO3 HKK3 hR hblt hn hlt hk hnn hcell
        case false =>
          refine wp_region_held_drew (S := fun w' => Keeps [] W3 w' ∧ ∀ b o, b < N → w'.cell? ⟨b, o, none⟩ = W3.cell? ⟨b, o, none⟩) (by kernel_rfl) ⟨hkeep.drew, fun _ _ _ => rfl⟩ (fun hHeld => ?_)
          try dsimp only at hHeld
          refine wpAnyH_take (i := 0) (v := ?_) rfl (by kernel_rfl) (by kernel_rfl) (by kernel_rfl) (fun _ _ _ h => h) (Or.inl ⟨by rfl, ?_⟩) (by assumption) ?_
          rotate_left
          · intro w hSw; (try dsimp only at hSw); go_simp; (try with_reducible rfl)
          try simp only [Act.put, List.setIfInBounds_toArray, List.set_cons_zero, List.set_cons_succ, List.getElem_toArray, List.getElem_cons_zero, List.getElem_cons_succ]
          refine wpAnyH_take (i := 1) (v := ?_) rfl (by kernel_rfl) (by kernel_rfl) (by kernel_rfl) (fun _ _ _ h => h) (Or.inl ⟨by rfl, ?_⟩) (by assumption) ?_
          rotate_left
          · intro w hSw; (try dsimp only at hSw); go_simp; (try with_reducible rfl)
          try simp only [Act.put, List.setIfInBounds_toArray, List.set_cons_zero, List.set_cons_succ, List.getElem_toArray, List.getElem_cons_zero, List.getElem_cons_succ]
          refine wpAnyH_take (i := 2) (v := ?_) rfl (by kernel_rfl) (by kernel_rfl) (by kernel_rfl) (fun _ _ _ h => h) (Or.inl ⟨by rfl, ?_⟩) (by assumption) ?_
          rotate_left
          · intro w hSw; (try dsimp only at hSw); go_simp; (try with_reducible rfl)
          try simp only [Act.put, List.setIfInBounds_toArray, List.set_cons_zero, List.set_cons_succ, List.getElem_toArray, List.getElem_cons_zero, List.getElem_cons_succ]
          refine wpAnyH_take (i := 3) (v := ?_) rfl (by kernel_rfl) (by kernel_rfl) (by kernel_rfl) (fun _ _ _ h => h) (Or.inl ⟨by rfl, ?_⟩) (by assumption) ?_
          rotate_left
          · intro w hSw; (try dsimp only at hSw); go_simp; (try with_reducible rfl)
          try simp only [Act.put, List.setIfInBounds_toArray, List.set_cons_zero, List.set_cons_succ, List.getElem_toArray, List.getElem_cons_zero, List.getElem_cons_succ]
          refine wpAnyH_take (i := 4) (v := ?_) rfl (by kernel_rfl) (by kernel_rfl) (by kernel_rfl) (fun _ _ _ h => h) (Or.inl ⟨by rfl, ?_⟩) (by assumption) ?_
          rotate_left
          · intro w hSw; (try dsimp only at hSw); go_simp; (try with_reducible rfl)
          try simp only [Act.put, List.setIfInBounds_toArray, List.set_cons_zero, List.set_cons_succ, List.getElem_toArray, List.getElem_cons_zero, List.getElem_cons_succ]
          refine wpAnyH_take (i := 5) (v := ?_) rfl (by kernel_rfl) (by kernel_rfl) (by kernel_rfl) (fun _ _ _ h => h) (Or.inl ⟨by rfl, ?_⟩) (by assumption) ?_
          rotate_left
          · intro w hSw; (try dsimp only at hSw); go_simp; (try with_reducible rfl)
          try simp only [Act.put, List.setIfInBounds_toArray, List.set_cons_zero, List.set_cons_succ, List.getElem_toArray, List.getElem_cons_zero, List.getElem_cons_succ]
          refine wpAnyH_take (i := 6) (v := ?_) rfl (by kernel_rfl) (by kernel_rfl) (by kernel_rfl) (fun _ _ _ h => h) (Or.inl ⟨by rfl, ?_⟩) (by assumption) ?_
          rotate_left
          · intro w hSw; (try dsimp only at hSw); go_simp; (try with_reducible rfl)
          try simp only [Act.put, List.setIfInBounds_toArray, List.set_cons_zero, List.set_cons_succ, List.getElem_toArray, List.getElem_cons_zero, List.getElem_cons_succ]
          refine wpAnyH_take (i := 7) (v := ?_) rfl (by kernel_rfl) (by kernel_rfl) (by kernel_rfl) (fun _ _ _ h => h) (Or.inl ⟨by rfl, ?_⟩) (by assumption) ?_
          rotate_left
          · intro w hSw; (try dsimp only at hSw); go_simp; (try with_reducible rfl)
          try simp only [Act.put, List.setIfInBounds_toArray, List.set_cons_zero, List.set_cons_succ, List.getElem_toArray, List.getElem_cons_zero, List.getElem_cons_succ]
          refine wpAnyH_take (i := 8) (v := ?_) rfl (by kernel_rfl) (by kernel_rfl) (by kernel_rfl) (fun _ _ _ h => h) (Or.inl ⟨by rfl, ?_⟩) (by assumption) ?_
          rotate_left
          · intro w hSw; (try dsimp only at hSw); go_simp; (try with_reducible rfl)
          try simp only [Act.put, List.setIfInBounds_toArray, List.set_cons_zero, List.set_cons_succ, List.getElem_toArray, List.getElem_cons_zero, List.getElem_cons_succ]
          refine wpAnyH_take (i := 9) (v := ?_) rfl (by kernel_rfl) (by kernel_rfl) (by kernel_rfl) (fun _ _ _ h => h) (Or.inl ⟨by rfl, ?_⟩) (by assumption) ?_
          rotate_left
          · intro w hSw; (try dsimp only at hSw); go_simp; (try with_reducible rfl)
          try simp only [Act.put, List.setIfInBounds_toArray, List.set_cons_zero, List.set_cons_succ, List.getElem_toArray, List.getElem_cons_zero, List.getElem_cons_succ]
          refine wpAnyH_take (i := 10) (v := ?_) rfl (by kernel_rfl) (by kernel_rfl) (by kernel_rfl) (fun _ _ _ h => h) (Or.inl ⟨by rfl, ?_⟩) (by assumption) ?_
          rotate_left
          · intro w hSw; (try dsimp only at hSw); go_simp; (try with_reducible rfl)
          try simp only [Act.put, List.setIfInBounds_toArray, List.set_cons_zero, List.set_cons_succ, List.getElem_toArray, List.getElem_cons_zero, List.getElem_cons_succ]
          refine wpAnyH_take (i := 11) (v := ?_) rfl (by kernel_rfl) (by kernel_rfl) (by kernel_rfl) (fun _ _ _ h => h) (Or.inl ⟨by rfl, ?_⟩) (by assumption) ?_
          rotate_left
          · intro w hSw; (try dsimp only at hSw); go_simp; (try with_reducible rfl)
          try simp only [Act.put, List.setIfInBounds_toArray, List.set_cons_zero, List.set_cons_succ, List.getElem_toArray, List.getElem_cons_zero, List.getElem_cons_succ]
          refine wpAnyH_take (i := 12) (v := ?_) rfl (by kernel_rfl) (by kernel_rfl) (by kernel_rfl) (fun _ _ _ h => h) (Or.inl ⟨by rfl, ?_⟩) (by assumption) ?_
          rotate_left
          · intro w hSw; (try dsimp only at hSw); go_simp; (try with_reducible rfl)
          try simp only [Act.put, List.setIfInBounds_toArray, List.set_cons_zero, List.set_cons_succ, List.getElem_toArray, List.getElem_cons_zero, List.getElem_cons_succ]
          refine wpAnyH_take (i := 13) (v := ?_) rfl (by kernel_rfl) (by kernel_rfl) (by kernel_rfl) (fun _ _ _ h => h) (Or.inl ⟨by rfl, ?_⟩) (by assumption) ?_
          rotate_left
          · intro w hSw; (try dsimp only at hSw); go_simp; (try with_reducible rfl)
          try simp only [Act.put, List.setIfInBounds_toArray, List.set_cons_zero, List.set_cons_succ, List.getElem_toArray, List.getElem_cons_zero, List.getElem_cons_succ]
          refine wpAnyH_take (i := 14) (v := ?_) rfl (by kernel_rfl) (by kernel_rfl) (by kernel_rfl) (fun _ _ _ h => h) (Or.inl ⟨by rfl, ?_⟩) (by assumption) ?_
          rotate_left
          · intro w hSw; (try dsimp only at hSw); go_simp; (try with_reducible rfl)
          try simp only [Act.put, List.setIfInBounds_toArray, List.set_cons_zero, List.set_cons_succ, List.getElem_toArray, List.getElem_cons_zero, List.getElem_cons_succ]
          refine wpAnyH_take (i := 15) (v := ?_) rfl (by kernel_rfl) (by kernel_rfl) (by kernel_rfl) (fun _ _ _ h => h) (Or.inl ⟨by rfl, ?_⟩) (by assumption) ?_
          rotate_left
          · intro w hSw; (try dsimp only at hSw); go_simp; (try with_reducible rfl)
          try simp only [Act.put, List.setIfInBounds_toArray, List.set_cons_zero, List.set_cons_succ, List.getElem_toArray, List.getElem_cons_zero, List.getElem_cons_succ]
          refine wpAnyH_take (i := 16) (v := ?_) rfl (by kernel_rfl) (by kernel_rfl) (by kernel_rfl) (fun _ _ _ h => h) (Or.inl ⟨by rfl, ?_⟩) (by assumption) ?_
          rotate_left
          · intro w hSw; (try dsimp only at hSw); go_simp; (try with_reducible rfl)
          try simp only [Act.put, List.setIfInBounds_toArray, List.set_cons_zero, List.set_cons_succ, List.getElem_toArray, List.getElem_cons_zero, List.getElem_cons_succ]
          refine wpAnyH_take (i := 17) (v := ?_) rfl (by kernel_rfl) (by kernel_rfl) (by kernel_rfl) (fun _ _ _ h => h) (Or.inl ⟨by rfl, ?_⟩) (by assumption) ?_
          rotate_left
          · intro w hSw; (try dsimp only at hSw); go_simp; (try with_reducible rfl)
          try simp only [Act.put, List.setIfInBounds_toArray, List.set_cons_zero, List.set_cons_succ, List.getElem_toArray, List.getElem_cons_zero, List.getElem_cons_succ]
          refine wpAnyH_take (i := 18) (v := ?_) rfl (by kernel_rfl) (by kernel_rfl) (by kernel_rfl) (fun _ _ _ h => h) (Or.inl ⟨by rfl, ?_⟩) (by assumption) ?_
          rotate_left
          · intro w hSw; (try dsimp only at hSw); go_simp; (try with_reducible rfl)
          try simp only [Act.put, List.setIfInBounds_toArray, List.set_cons_zero, List.set_cons_succ, List.getElem_toArray, List.getElem_cons_zero, List.getElem_cons_succ]
          refine wpAnyH_take (i := 19) (v := undef) rfl (by kernel_rfl) (by kernel_rfl) (by kernel_rfl) (fun _ _ _ h => h) (Or.inr ⟨by rfl, rfl⟩) (by assumption) ?_
          try simp only [Act.put, List.setIfInBounds_toArray, List.set_cons_zero, List.set_cons_succ, List.getElem_toArray, List.getElem_cons_zero, List.getElem_cons_succ]
          refine wpAnyH_take (i := 20) (v := undef) rfl (by kernel_rfl) (by kernel_rfl) (by kernel_rfl) (fun _ _ _ h => h) (Or.inr ⟨by rfl, rfl⟩) (by assumption) ?_
          try simp only [Act.put, List.setIfInBounds_toArray, List.set_cons_zero, List.set_cons_succ, List.getElem_toArray, List.getElem_cons_zero, List.getElem_cons_succ]
          refine wpAnyH_take (i := 21) (v := undef) rfl (by kernel_rfl) (by kernel_rfl) (by kernel_rfl) (fun _ _ _ h => h) (Or.inr ⟨by rfl, rfl⟩) (by assumption) ?_
          try simp only [Act.put, List.setIfInBounds_toArray, List.set_cons_zero, List.set_cons_succ, List.getElem_toArray, List.getElem_cons_zero, List.getElem_cons_succ]
          refine wpAnyH_take (i := 22) (v := undef) rfl (by kernel_rfl) (by kernel_rfl) (by kernel_rfl) (fun _ _ _ h => h) (Or.inr ⟨by rfl, rfl⟩) (by assumption) ?_
          try simp only [Act.put, List.setIfInBounds_toArray, List.set_cons_zero, List.set_cons_succ, List.getElem_toArray, List.getElem_cons_zero, List.getElem_cons_succ]
          refine wpAnyH_take (i := 23) (v := undef) rfl (by kernel_rfl) (by kernel_rfl) (by kernel_rfl) (fun _ _ _ h => h) (Or.inr ⟨by rfl, rfl⟩) (by assumption) ?_
          try simp only [Act.put, List.setIfInBounds_toArray, List.set_cons_zero, List.set_cons_succ, List.getElem_toArray, List.getElem_cons_zero, List.getElem_cons_succ]
          refine wpAnyH_take (i := 24) (v := ?_) rfl (by kernel_rfl) (by kernel_rfl) (by kernel_rfl) (fun _ _ _ h => h) (Or.inl ⟨by rfl, ?_⟩) (by assumption) ?_
          rotate_left
          · intro w hSw; (try dsimp only at hSw); go_simp; (try with_reducible rfl)
          try simp only [Act.put, List.setIfInBounds_toArray, List.set_cons_zero, List.set_cons_succ, List.getElem_toArray, List.getElem_cons_zero, List.getElem_cons_succ]
          refine wpAnyH_take (i := 25) (v := ?_) rfl (by kernel_rfl) (by kernel_rfl) (by kernel_rfl) (fun _ _ _ h => h) (Or.inl ⟨by rfl, ?_⟩) (by assumption) ?_
          rotate_left
          · intro w hSw; (try dsimp only at hSw); go_simp; (try with_reducible rfl)
          try simp only [Act.put, List.setIfInBounds_toArray, List.set_cons_zero, List.set_cons_succ, List.getElem_toArray, List.getElem_cons_zero, List.getElem_cons_succ]
          refine wpAnyH_take (i := 26) (v := ?_) rfl (by kernel_rfl) (by kernel_rfl) (by kernel_rfl) (fun _ _ _ h => h) (Or.inl ⟨by rfl, ?_⟩) (by assumption) ?_
          rotate_left
          · intro w hSw; (try dsimp only at hSw); go_simp; (try with_reducible rfl)
          try simp only [Act.put, List.setIfInBounds_toArray, List.set_cons_zero, List.set_cons_succ, List.getElem_toArray, List.getElem_cons_zero, List.getElem_cons_succ]
          refine wpAnyH_take (i := 27) (v := ?_) rfl (by kernel_rfl) (by kernel_rfl) (by kernel_rfl) (fun _ _ _ h => h) (Or.inl ⟨by rfl, ?_⟩) (by assumption) ?_
          rotate_left
          · intro w hSw; (try dsimp only at hSw); go_simp; (try with_reducible rfl)
          try simp only [Act.put, List.setIfInBounds_toArray, List.set_cons_zero, List.set_cons_succ, List.getElem_toArray, List.getElem_cons_zero, List.getElem_cons_succ]
          refine wpAnyH_take (i := 28) (v := ?_) rfl (by kernel_rfl) (by kernel_rfl) (by kernel_rfl) (fun _ _ _ h => h) (Or.inl ⟨by rfl, ?_⟩) (by assumption) ?_
          rotate_left
          · intro w hSw; (try dsimp only at hSw); go_simp; (try with_reducible rfl)
          try simp only [Act.put, List.setIfInBounds_toArray, List.set_cons_zero, List.set_cons_succ, List.getElem_toArray, List.getElem_cons_zero, List.getElem_cons_succ]
          refine wpAnyH_take (i := 29) (v := ?_) rfl (by kernel_rfl) (by kernel_rfl) (by kernel_rfl) (fun _ _ _ h => h) (Or.inl ⟨by rfl, ?_⟩) (by assumption) ?_
          rotate_left
          · intro w hSw; (try dsimp only at hSw); go_simp; (try with_reducible rfl)
          try simp only [Act.put, List.setIfInBounds_toArray, List.set_cons_zero, List.set_cons_succ, List.getElem_toArray, List.getElem_cons_zero, List.getElem_cons_succ]
          refine wpAnyH_take (i := 30) (v := ?_) rfl (by kernel_rfl) (by kernel_rfl) (by kernel_rfl) (fun _ _ _ h => h) (Or.inl ⟨by rfl, ?_⟩) (by assumption) ?_
          rotate_left
          · intro w hSw; (try dsimp only at hSw); go_simp; (try with_reducible rfl)
          try simp only [Act.put, List.setIfInBounds_toArray, List.set_cons_zero, List.set_cons_succ, List.getElem_toArray, List.getElem_cons_zero, List.getElem_cons_succ]
          refine wpAnyH_take (i := 31) (v := ?_) rfl (by kernel_rfl) (by kernel_rfl) (by kernel_rfl) (fun _ _ _ h => h) (Or.inl ⟨by rfl, ?_⟩) (by assumption) ?_
          rotate_left
          · intro w hSw; (try dsimp only at hSw); go_simp; (try with_reducible rfl)
          try simp only [Act.put, List.setIfInBounds_toArray, List.set_cons_zero, List.set_cons_succ, List.getElem_toArray, List.getElem_cons_zero, List.getElem_cons_succ]
          refine wpAnyH_ready (rs := [32]) (by kernel_rfl) (by simp) ?_
          refine AllReadyH.cons rfl (fun K hK => ?_) AllReadyH.nil
          go_simp
          (go_at_call 54; go_split_ands; refine (HSR'.out _ (by assumption)).mono ?_; rintro e w4 ⟨rfl, hk2⟩)
          go_wp2_with fail
          refine hK.out _ _ ?_ (fun hHeld => ?_)
          · (try dsimp only); exact heldAt HN3.out (Keeps.trans (by assumption) hk2)
          clear hK K
          try simp only [Act.put, List.setIfInBounds_toArray, List.set_cons_zero, List.set_cons_succ, List.getElem_toArray, List.getElem_cons_zero, List.getElem_cons_succ]
          try dsimp only at hHeld
          refine wpAnyH_take (i := 33) (v := ?_) rfl (by kernel_rfl) (by kernel_rfl) (by kernel_rfl) (fun _ _ _ h => h) (Or.inl ⟨by rfl, ?_⟩) (by assumption) ?_
          rotate_left
          · intro w hSw; (try dsimp only at hSw); go_simp; (try with_reducible rfl)
          try simp only [Act.put, List.setIfInBounds_toArray, List.set_cons_zero, List.set_cons_succ, List.getElem_toArray, List.getElem_cons_zero, List.getElem_cons_succ]
          refine wpAnyH_take (i := 34) (v := ?_) rfl (by kernel_rfl) (by kernel_rfl) (by kernel_rfl) (fun _ _ _ h => h) (Or.inl ⟨by rfl, ?_⟩) (by assumption) ?_
          rotate_left
          · intro w hSw; (try dsimp only at hSw); go_simp; (try with_reducible rfl)
          try simp only [Act.put, List.setIfInBounds_toArray, List.set_cons_zero, List.set_cons_succ, List.getElem_toArray, List.getElem_cons_zero, List.getElem_cons_succ]
          refine wpAnyH_take (i := 35) (v := ?_) rfl (by kernel_rfl) (by kernel_rfl) (by kernel_rfl) (fun _ _ _ h => h) (Or.inl ⟨by rfl, ?_⟩) (by assumption) ?_
          rotate_left
          · intro w hSw; (try dsimp only at hSw); go_simp; (try with_reducible rfl)
          try simp only [Act.put, List.setIfInBounds_toArray, List.set_cons_zero, List.set_cons_succ, List.getElem_toArray, List.getElem_cons_zero, List.getElem_cons_succ]
          refine wpAnyH_take (i := 36) (v := ?_) rfl (by kernel_rfl) (by kernel_rfl) (by kernel_rfl) (fun _ _ _ h => h) (Or.inl ⟨by rfl, ?_⟩) (by assumption) ?_
          rotate_left
          · intro w hSw; (try dsimp only at hSw); go_simp; (try with_reducible rfl)
          try simp only [Act.put, List.setIfInBounds_toArray, List.set_cons_zero, List.set_cons_succ, List.getElem_toArray, List.getElem_cons_zero, List.getElem_cons_succ]
          refine wpAnyH_take (i := 37) (v := ?_) rfl (by kernel_rfl) (by kernel_rfl) (by kernel_rfl) (fun _ _ _ h => h) (Or.inl ⟨by rfl, ?_⟩) (by assumption) ?_
          rotate_left
          · intro w hSw; (try dsimp only at hSw); go_simp; (try with_reducible rfl)
          try simp only [Act.put, List.setIfInBounds_toArray, List.set_cons_zero, List.set_cons_succ, List.getElem_toArray, List.getElem_cons_zero, List.getElem_cons_succ]
          refine wpAnyH_take (i := 39) (v := ?_) rfl (by kernel_rfl) (by kernel_rfl) (by kernel_rfl) (fun _ _ _ h => h) (Or.inl ⟨by rfl, ?_⟩) (by assumption) ?_
          rotate_left
          · intro w hSw; (try dsimp only at hSw); go_simp; (try with_reducible rfl)
          try simp only [Act.put, List.setIfInBounds_toArray, List.set_cons_zero, List.set_cons_succ, List.getElem_toArray, List.getElem_cons_zero, List.getElem_cons_succ]
          refine wpAnyH_take (i := 40) (v := ?_) rfl (by kernel_rfl) (by kernel_rfl) (by kernel_rfl) (fun _ _ _ h => h) (Or.inl ⟨by rfl, ?_⟩) (by assumption) ?_
          rotate_left
          · intro w hSw; (try dsimp only at hSw); go_simp; (try with_reducible rfl)
          try simp only [Act.put, List.setIfInBounds_toArray, List.set_cons_zero, List.set_cons_succ, List.getElem_toArray, List.getElem_cons_zero, List.getElem_cons_succ]
          refine wpAnyH_ready (rs := [38]) (by kernel_rfl) (by simp) ?_
          refine AllReadyH.cons rfl (fun K hK => ?_) AllReadyH.nil
          go_simp
          (go_at_call 55; go_split_ands; refine (HHeld.out _ (by assumption)).mono ?_; rintro e w5 ⟨qh, ch2, rfl, hsl, hk2⟩)
          go_wp2_with fail
          refine hK.out _ _ ?_ (fun hHeld => ?_)
          · (try dsimp only); exact heldAt HN3.out (Keeps.trans (by assumption) hk2)
          clear hK K
          try simp only [Act.put, List.setIfInBounds_toArray, List.set_cons_zero, List.set_cons_succ, List.getElem_toArray, List.getElem_cons_zero, List.getElem_cons_succ]
          try dsimp only at hHeld
          refine wpAnyH_ready (rs := [41]) (by kernel_rfl) (by simp) ?_
          refine AllReadyH.cons rfl (fun K hK => ?_) AllReadyH.nil
          go_simp
          (go_at_call 24; go_split_ands; refine (HSame.out _ _ _ hsl (by assumption)).mono ?_; rintro e w6 ⟨rfl, hk2⟩)
          go_wp2_with fail
          refine hK.out _ _ ?_ (fun hHeld => ?_)
          · (try dsimp only); exact heldAt HN3.out (Keeps.trans (by assumption) hk2)
          clear hK K
          try simp only [Act.put, List.setIfInBounds_toArray, List.set_cons_zero, List.set_cons_succ, List.getElem_toArray, List.getElem_cons_zero, List.getElem_cons_succ]
          try dsimp only at hHeld
          refine wpAnyH_take (i := 42) (v := ?_) rfl (by kernel_rfl) (by kernel_rfl) (by kernel_rfl) (fun _ _ _ h => h) (Or.inl ⟨by rfl, ?_⟩) (by assumption) ?_
          rotate_left
          · intro w hSw; (try dsimp only at hSw); go_simp; (try with_reducible rfl)
          try simp only [Act.put, List.setIfInBounds_toArray, List.set_cons_zero, List.set_cons_succ, List.getElem_toArray, List.getElem_cons_zero, List.getElem_cons_succ]
          refine wpAnyH_take (i := 43) (v := ?_) rfl (by kernel_rfl) (by kernel_rfl) (by kernel_rfl) (fun _ _ _ h => h) (Or.inl ⟨by rfl, ?_⟩) (by assumption) ?_
          rotate_left
          · intro w hSw; (try dsimp only at hSw); go_simp; (try with_reducible rfl)
          try simp only [Act.put, List.setIfInBounds_toArray, List.set_cons_zero, List.set_cons_succ, List.getElem_toArray, List.getElem_cons_zero, List.getElem_cons_succ]
          refine wpAnyH_done (by kernel_rfl) ?_ _
          go_split_ands
          go_wp2_with fail
          go_meet
          exact ⟨rfl, by assumption⟩
        case true =>
          refine wp_region_held_drew (S := fun w' => Keeps [] W3 w' ∧ ∀ b o, b < N → w'.cell? ⟨b, o, none⟩ = W3.cell? ⟨b, o, none⟩) (by kernel_rfl) ⟨hkeep.drew, fun _ _ _ => rfl⟩ (fun hHeld => ?_)
          try dsimp only at hHeld
          refine wpAnyH_take (i := 0) (v := ?_) rfl (by kernel_rfl) (by kernel_rfl) (by kernel_rfl) (fun _ _ _ h => h) (Or.inl ⟨by rfl, ?_⟩) (by assumption) ?_
          rotate_left
          · intro w hSw; (try dsimp only at hSw); go_simp; (try with_reducible rfl)
          try simp only [Act.put, List.setIfInBounds_toArray, List.set_cons_zero, List.set_cons_succ, List.getElem_toArray, List.getElem_cons_zero, List.getElem_cons_succ]
          refine wpAnyH_take (i := 1) (v := ?_) rfl (by kernel_rfl) (by kernel_rfl) (by kernel_rfl) (fun _ _ _ h => h) (Or.inl ⟨by rfl, ?_⟩) (by assumption) ?_
          rotate_left
          · intro w hSw; (try dsimp only at hSw); go_simp; (try with_reducible rfl)
          try simp only [Act.put, List.setIfInBounds_toArray, List.set_cons_zero, List.set_cons_succ, List.getElem_toArray, List.getElem_cons_zero, List.getElem_cons_succ]
          refine wpAnyH_take (i := 2) (v := ?_) rfl (by kernel_rfl) (by kernel_rfl) (by kernel_rfl) (fun _ _ _ h => h) (Or.inl ⟨by rfl, ?_⟩) (by assumption) ?_
          rotate_left
          · intro w hSw; (try dsimp only at hSw); go_simp; (try with_reducible rfl)
          try simp only [Act.put, List.setIfInBounds_toArray, List.set_cons_zero, List.set_cons_succ, List.getElem_toArray, List.getElem_cons_zero, List.getElem_cons_succ]
          refine wpAnyH_take (i := 3) (v := ?_) rfl (by kernel_rfl) (by kernel_rfl) (by kernel_rfl) (fun _ _ _ h => h) (Or.inl ⟨by rfl, ?_⟩) (by assumption) ?_
          rotate_left
          · intro w hSw; (try dsimp only at hSw); go_simp; (try with_reducible rfl)
          try simp only [Act.put, List.setIfInBounds_toArray, List.set_cons_zero, List.set_cons_succ, List.getElem_toArray, List.getElem_cons_zero, List.getElem_cons_succ]
          refine wpAnyH_take (i := 4) (v := ?_) rfl (by kernel_rfl) (by kernel_rfl) (by kernel_rfl) (fun _ _ _ h => h) (Or.inl ⟨by rfl, ?_⟩) (by assumption) ?_
          rotate_left
          · intro w hSw; (try dsimp only at hSw); go_simp; (try with_reducible rfl)
          try simp only [Act.put, List.setIfInBounds_toArray, List.set_cons_zero, List.set_cons_succ, List.getElem_toArray, List.getElem_cons_zero, List.getElem_cons_succ]
          refine wpAnyH_take (i := 5) (v := ?_) rfl (by kernel_rfl) (by kernel_rfl) (by kernel_rfl) (fun _ _ _ h => h) (Or.inl ⟨by rfl, ?_⟩) (by assumption) ?_
          rotate_left
          · intro w hSw; (try dsimp only at hSw); go_simp; (try with_reducible rfl)
          try simp only [Act.put, List.setIfInBounds_toArray, List.set_cons_zero, List.set_cons_succ, List.getElem_toArray, List.getElem_cons_zero, List.getElem_cons_succ]
          refine wpAnyH_take (i := 6) (v := ?_) rfl (by kernel_rfl) (by kernel_rfl) (by kernel_rfl) (fun _ _ _ h => h) (Or.inl ⟨by rfl, ?_⟩) (by assumption) ?_
          rotate_left
          · intro w hSw; (try dsimp only at hSw); go_simp; (try with_reducible rfl)
          try simp only [Act.put, List.setIfInBounds_toArray, List.set_cons_zero, List.set_cons_succ, List.getElem_toArray, List.getElem_cons_zero, List.getElem_cons_succ]
          refine wpAnyH_take (i := 7) (v := ?_) rfl (by kernel_rfl) (by kernel_rfl) (by kernel_rfl) (fun _ _ _ h => h) (Or.inl ⟨by rfl, ?_⟩) (by assumption) ?_
          rotate_left
          · intro w hSw; (try dsimp only at hSw); go_simp; (try with_reducible rfl)
          try simp only [Act.put, List.setIfInBounds_toArray, List.set_cons_zero, List.set_cons_succ, List.getElem_toArray, List.getElem_cons_zero, List.getElem_cons_succ]
          refine wpAnyH_take (i := 8) (v := ?_) rfl (by kernel_rfl) (by kernel_rfl) (by kernel_rfl) (fun _ _ _ h => h) (Or.inl ⟨by rfl, ?_⟩) (by assumption) ?_
          rotate_left
          · intro w hSw; (try dsimp only at hSw); go_simp; (try with_reducible rfl)
          try simp only [Act.put, List.setIfInBounds_toArray, List.set_cons_zero, List.set_cons_succ, List.getElem_toArray, List.getElem_cons_zero, List.getElem_cons_succ]
          refine wpAnyH_take (i := 9) (v := ?_) rfl (by kernel_rfl) (by kernel_rfl) (by kernel_rfl) (fun _ _ _ h => h) (Or.inl ⟨by rfl, ?_⟩) (by assumption) ?_
          rotate_left
          · intro w hSw; (try dsimp only at hSw); go_simp; (try with_reducible rfl)
          try simp only [Act.put, List.setIfInBounds_toArray, List.set_cons_zero, List.set_cons_succ, List.getElem_toArray, List.getElem_cons_zero, List.getElem_cons_succ]
          refine wpAnyH_take (i := 10) (v := ?_) rfl (by kernel_rfl) (by kernel_rfl) (by kernel_rfl) (fun _ _ _ h => h) (Or.inl ⟨by rfl, ?_⟩) (by assumption) ?_
          rotate_left
          · intro w hSw; (try dsimp only at hSw); go_simp; (try with_reducible rfl)
          try simp only [Act.put, List.setIfInBounds_toArray, List.set_cons_zero, List.set_cons_succ, List.getElem_toArray, List.getElem_cons_zero, List.getElem_cons_succ]
          refine wpAnyH_take (i := 11) (v := ?_) rfl (by kernel_rfl) (by kernel_rfl) (by kernel_rfl) (fun _ _ _ h => h) (Or.inl ⟨by rfl, ?_⟩) (by assumption) ?_
          rotate_left
          · intro w hSw; (try dsimp only at hSw); go_simp; (try with_reducible rfl)
          try simp only [Act.put, List.setIfInBounds_toArray, List.set_cons_zero, List.set_cons_succ, List.getElem_toArray, List.getElem_cons_zero, List.getElem_cons_succ]
          refine wpAnyH_take (i := 12) (v := ?_) rfl (by kernel_rfl) (by kernel_rfl) (by kernel_rfl) (fun _ _ _ h => h) (Or.inl ⟨by rfl, ?_⟩) (by assumption) ?_
          rotate_left
          · intro w hSw; (try dsimp only at hSw); go_simp; (try with_reducible rfl)
          try simp only [Act.put, List.setIfInBounds_toArray, List.set_cons_zero, List.set_cons_succ, List.getElem_toArray, List.getElem_cons_zero, List.getElem_cons_succ]
          refine wpAnyH_take (i := 13) (v := ?_) rfl (by kernel_rfl) (by kernel_rfl) (by kernel_rfl) (fun _ _ _ h => h) (Or.inl ⟨by rfl, ?_⟩) (by assumption) ?_
          rotate_left
          · intro w hSw; (try dsimp only at hSw); go_simp; (try with_reducible rfl)
          try simp only [Act.put, List.setIfInBounds_toArray, List.set_cons_zero, List.set_cons_succ, List.getElem_toArray, List.getElem_cons_zero, List.getElem_cons_succ]
          refine wpAnyH_take (i := 14) (v := ?_) rfl (by kernel_rfl) (by kernel_rfl) (by kernel_rfl) (fun _ _ _ h => h) (Or.inl ⟨by rfl, ?_⟩) (by assumption) ?_
          rotate_left
          · intro w hSw; (try dsimp only at hSw); go_simp; (try with_reducible rfl)
          try simp only [Act.put, List.setIfInBounds_toArray, List.set_cons_zero, List.set_cons_succ, List.getElem_toArray, List.getElem_cons_zero, List.getElem_cons_succ]
          refine wpAnyH_take (i := 15) (v := ?_) rfl (by kernel_rfl) (by kernel_rfl) (by kernel_rfl) (fun _ _ _ h => h) (Or.inl ⟨by rfl, ?_⟩) (by assumption) ?_
          rotate_left
          · intro w hSw; (try dsimp only at hSw); go_simp; (try with_reducible rfl)
          try simp only [Act.put, List.setIfInBounds_toArray, List.set_cons_zero, List.set_cons_succ, List.getElem_toArray, List.getElem_cons_zero, List.getElem_cons_succ]
          refine wpAnyH_take (i := 16) (v := ?_) rfl (by kernel_rfl) (by kernel_rfl) (by kernel_rfl) (fun _ _ _ h => h) (Or.inl ⟨by rfl, ?_⟩) (by assumption) ?_
          rotate_left
          · intro w hSw; (try dsimp only at hSw); go_simp; (try with_reducible rfl)
          try simp only [Act.put, List.setIfInBounds_toArray, List.set_cons_zero, List.set_cons_succ, List.getElem_toArray, List.getElem_cons_zero, List.getElem_cons_succ]
          refine wpAnyH_take (i := 17) (v := ?_) rfl (by kernel_rfl) (by kernel_rfl) (by kernel_rfl) (fun _ _ _ h => h) (Or.inl ⟨by rfl, ?_⟩) (by assumption) ?_
          rotate_left
          · intro w hSw; (try dsimp only at hSw); go_simp; (try with_reducible rfl)
          try simp only [Act.put, List.setIfInBounds_toArray, List.set_cons_zero, List.set_cons_succ, List.getElem_toArray, List.getElem_cons_zero, List.getElem_cons_succ]
          refine wpAnyH_take (i := 18) (v := ?_) rfl (by kernel_rfl) (by kernel_rfl) (by kernel_rfl) (fun _ _ _ h => h) (Or.inl ⟨by rfl, ?_⟩) (by assumption) ?_
          rotate_left
          · intro w hSw; (try dsimp only at hSw); go_simp; (try with_reducible rfl)
          try simp only [Act.put, List.setIfInBounds_toArray, List.set_cons_zero, List.set_cons_succ, List.getElem_toArray, List.getElem_cons_zero, List.getElem_cons_succ]
          refine wpAnyH_take (i := 19) (v := ?_) rfl (by kernel_rfl) (by kernel_rfl) (by kernel_rfl) (fun _ _ _ h => h) (Or.inl ⟨by rfl, ?_⟩) (by assumption) ?_
          rotate_left
          · intro w hSw; (try dsimp only at hSw); go_simp; (try with_reducible rfl)
          try simp only [Act.put, List.setIfInBounds_toArray, List.set_cons_zero, List.set_cons_succ, List.getElem_toArray, List.getElem_cons_zero, List.getElem_cons_succ]
          refine wpAnyH_take (i := 20) (v := ?_) rfl (by kernel_rfl) (by kernel_rfl) (by kernel_rfl) (fun _ _ _ h => h) (Or.inl ⟨by rfl, ?_⟩) (by assumption) ?_
          rotate_left
          · intro w hSw; (try dsimp only at hSw); go_simp; (try with_reducible rfl)
          try simp only [Act.put, List.setIfInBounds_toArray, List.set_cons_zero, List.set_cons_succ, List.getElem_toArray, List.getElem_cons_zero, List.getElem_cons_succ]
          refine wpAnyH_take (i := 21) (v := ?_) rfl (by kernel_rfl) (by kernel_rfl) (by kernel_rfl) (fun _ _ _ h => h) (Or.inl ⟨by rfl, ?_⟩) (by assumption) ?_
          rotate_left
          · intro w hSw; (try dsimp only at hSw); go_simp; (try with_reducible rfl)
          try simp only [Act.put, List.setIfInBounds_toArray, List.set_cons_zero, List.set_cons_succ, List.getElem_toArray, List.getElem_cons_zero, List.getElem_cons_succ]
          refine wpAnyH_ready (rs := [22]) (by kernel_rfl) (by simp) ?_
          refine AllReadyH.cons rfl (fun K hK => ?_) AllReadyH.nil
          go_simp
          (go_at_call 54; go_split_ands; refine (HSR'.out _ (by assumption)).mono ?_; rintro e w4 ⟨rfl, hk2⟩)
          go_wp2_with fail
          refine hK.out _ _ ?_ (fun hHeld => ?_)
          · (try dsimp only); exact heldAt HN3.out (Keeps.trans (by assumption) hk2)
          clear hK K
          try simp only [Act.put, List.setIfInBounds_toArray, List.set_cons_zero, List.set_cons_succ, List.getElem_toArray, List.getElem_cons_zero, List.getElem_cons_succ]
          try dsimp only at hHeld
          refine wpAnyH_take (i := 23) (v := ?_) rfl (by kernel_rfl) (by kernel_rfl) (by kernel_rfl) (fun _ _ _ h => h) (Or.inl ⟨by rfl, ?_⟩) (by assumption) ?_
          rotate_left
          · intro w hSw; (try dsimp only at hSw); go_simp; (try with_reducible rfl)
          try simp only [Act.put, List.setIfInBounds_toArray, List.set_cons_zero, List.set_cons_succ, List.getElem_toArray, List.getElem_cons_zero, List.getElem_cons_succ]
          refine wpAnyH_take (i := 24) (v := ?_) rfl (by kernel_rfl) (by kernel_rfl) (by kernel_rfl) (fun _ _ _ h => h) (Or.inl ⟨by rfl, ?_⟩) (by assumption) ?_
          rotate_left
          · intro w hSw; (try dsimp only at hSw); go_simp; (try with_reducible rfl)
          try simp only [Act.put, List.setIfInBounds_toArray, List.set_cons_zero, List.set_cons_succ, List.getElem_toArray, List.getElem_cons_zero, List.getElem_cons_succ]
          refine wpAnyH_take (i := 25) (v := ?_) rfl (by kernel_rfl) (by kernel_rfl) (by kernel_rfl) (fun _ _ _ h => h) (Or.inl ⟨by rfl, ?_⟩) (by assumption) ?_
          rotate_left
          · intro w hSw; (try dsimp only at hSw); go_simp; (try with_reducible rfl)
          try simp only [Act.put, List.setIfInBounds_toArray, List.set_cons_zero, List.set_cons_succ, List.getElem_toArray, List.getElem_cons_zero, List.getElem_cons_succ]
          refine wpAnyH_take (i := 26) (v := ?_) rfl (by kernel_rfl) (by kernel_rfl) (by kernel_rfl) (fun _ _ _ h => h) (Or.inl ⟨by rfl, ?_⟩) (by assumption) ?_
          rotate_left
          · intro w hSw; (try dsimp only at hSw); go_simp; (try with_reducible rfl)
          try simp only [Act.put, List.setIfInBounds_toArray, List.set_cons_zero, List.set_cons_succ, List.getElem_toArray, List.getElem_cons_zero, List.getElem_cons_succ]
          refine wpAnyH_take (i := 27) (v := ?_) rfl (by kernel_rfl) (by kernel_rfl) (by kernel_rfl) (fun _ _ _ h => h) (Or.inl ⟨by rfl, ?_⟩) (by assumption) ?_
          rotate_left
          · intro w hSw; (try dsimp only at hSw); go_simp; (try with_reducible rfl)
          try simp only [Act.put, List.setIfInBounds_toArray, List.set_cons_zero, List.set_cons_succ, List.getElem_toArray, List.getElem_cons_zero, List.getElem_cons_succ]
          refine wpAnyH_take (i := 28) (v := ?_) rfl (by kernel_rfl) (by kernel_rfl) (by kernel_rfl) (fun _ _ _ h => h) (Or.inl ⟨by rfl, ?_⟩) (by assumption) ?_
          rotate_left
          · intro w hSw; (try dsimp only at hSw); go_simp; (try with_reducible rfl)
          try simp only [Act.put, List.setIfInBounds_toArray, List.set_cons_zero, List.set_cons_succ, List.getElem_toArray, List.getElem_cons_zero, List.getElem_cons_succ]
          refine wpAnyH_take (i := 29) (v := ?_) rfl (by kernel_rfl) (by kernel_rfl) (by kernel_rfl) (fun _ _ _ h => h) (Or.inl ⟨by rfl, ?_⟩) (by assumption) ?_
          rotate_left
          · intro w hSw; (try dsimp only at hSw); go_simp; (try with_reducible rfl)
          try simp only [Act.put, List.setIfInBounds_toArray, List.set_cons_zero, List.set_cons_succ, List.getElem_toArray, List.getElem_cons_zero, List.getElem_cons_succ]
          refine wpAnyH_take (i := 30) (v := undef) rfl (by kernel_rfl) (by kernel_rfl) (by kernel_rfl) (fun _ _ _ h => h) (Or.inr ⟨by rfl, rfl⟩) (by assumption) ?_
          try simp only [Act.put, List.setIfInBounds_toArray, List.set_cons_zero, List.set_cons_succ, List.getElem_toArray, List.getElem_cons_zero, List.getElem_cons_succ]
          refine wpAnyH_take (i := 31) (v := undef) rfl (by kernel_rfl) (by kernel_rfl) (by kernel_rfl) (fun _ _ _ h => h) (Or.inr ⟨by rfl, rfl⟩) (by assumption) ?_
          try simp only [Act.put, List.setIfInBounds_toArray, List.set_cons_zero, List.set_cons_succ, List.getElem_toArray, List.getElem_cons_zero, List.getElem_cons_succ]
          refine wpAnyH_take (i := 32) (v := undef) rfl (by kernel_rfl) (by kernel_rfl) (by kernel_rfl) (fun _ _ _ h => h) (Or.inr ⟨by rfl, rfl⟩) (by assumption) ?_
          try simp only [Act.put, List.setIfInBounds_toArray, List.set_cons_zero, List.set_cons_succ, List.getElem_toArray, List.getElem_cons_zero, List.getElem_cons_succ]
          refine wpAnyH_take (i := 33) (v := undef) rfl (by kernel_rfl) (by kernel_rfl) (by kernel_rfl) (fun _ _ _ h => h) (Or.inr ⟨by rfl, rfl⟩) (by assumption) ?_
          try simp only [Act.put, List.setIfInBounds_toArray, List.set_cons_zero, List.set_cons_succ, List.getElem_toArray, List.getElem_cons_zero, List.getElem_cons_succ]
          refine wpAnyH_take (i := 34) (v := ?_) rfl (by kernel_rfl) (by kernel_rfl) (by kernel_rfl) (fun _ _ _ h => h) (Or.inl ⟨by rfl, ?_⟩) (by assumption) ?_
          rotate_left
          · intro w hSw; (try dsimp only at hSw); go_simp; (try with_reducible rfl)
          try simp only [Act.put, List.setIfInBounds_toArray, List.set_cons_zero, List.set_cons_succ, List.getElem_toArray, List.getElem_cons_zero, List.getElem_cons_succ]
          refine wpAnyH_take (i := 35) (v := ?_) rfl (by kernel_rfl) (by kernel_rfl) (by kernel_rfl) (fun _ _ _ h => h) (Or.inl ⟨by rfl, ?_⟩) (by assumption) ?_
          rotate_left
          · intro w hSw; (try dsimp only at hSw); go_simp; (try with_reducible rfl)
          try simp only [Act.put, List.setIfInBounds_toArray, List.set_cons_zero, List.set_cons_succ, List.getElem_toArray, List.getElem_cons_zero, List.getElem_cons_succ]
          refine wpAnyH_take (i := 36) (v := ?_) rfl (by kernel_rfl) (by kernel_rfl) (by kernel_rfl) (fun _ _ _ h => h) (Or.inl ⟨by rfl, ?_⟩) (by assumption) ?_
          rotate_left
          · intro w hSw; (try dsimp only at hSw); go_simp; (try with_reducible rfl)
          try simp only [Act.put, List.setIfInBounds_toArray, List.set_cons_zero, List.set_cons_succ, List.getElem_toArray, List.getElem_cons_zero, List.getElem_cons_succ]
          refine wpAnyH_take (i := 37) (v := ?_) rfl (by kernel_rfl) (by kernel_rfl) (by kernel_rfl) (fun _ _ _ h => h) (Or.inl ⟨by rfl, ?_⟩) (by assumption) ?_
          rotate_left
          · intro w hSw; (try dsimp only at hSw); go_simp; (try with_reducible rfl)
          try simp only [Act.put, List.setIfInBounds_toArray, List.set_cons_zero, List.set_cons_succ, List.getElem_toArray, List.getElem_cons_zero, List.getElem_cons_succ]
          refine wpAnyH_take (i := 39) (v := ?_) rfl (by kernel_rfl) (by kernel_rfl) (by kernel_rfl) (fun _ _ _ h => h) (Or.inl ⟨by rfl, ?_⟩) (by assumption) ?_
          rotate_left
          · intro w hSw; (try dsimp only at hSw); go_simp; (try with_reducible rfl)
          try simp only [Act.put, List.setIfInBounds_toArray, List.set_cons_zero, List.set_cons_succ, List.getElem_toArray, List.getElem_cons_zero, List.getElem_cons_succ]
          refine wpAnyH_take (i := 40) (v := ?_) rfl (by kernel_rfl) (by kernel_rfl) (by kernel_rfl) (fun _ _ _ h => h) (Or.inl ⟨by rfl, ?_⟩) (by assumption) ?_
          rotate_left
          · intro w hSw; (try dsimp only at hSw); go_simp; (try with_reducible rfl)
          try simp only [Act.put, List.setIfInBounds_toArray, List.set_cons_zero, List.set_cons_succ, List.getElem_toArray, List.getElem_cons_zero, List.getElem_cons_succ]
          refine wpAnyH_ready (rs := [38]) (by kernel_rfl) (by simp) ?_
          refine AllReadyH.cons rfl (fun K hK => ?_) AllReadyH.nil
          go_simp
          (go_at_call 55; go_split_ands; refine (HHeld.out _ (by assumption)).mono ?_; rintro e w5 ⟨qh, ch2, rfl, hsl, hk2⟩)
          go_wp2_with fail
          refine hK.out _ _ ?_ (fun hHeld => ?_)
          · (try dsimp only); exact heldAt HN3.out (Keeps.trans (by assumption) hk2)
          clear hK K
          try simp only [Act.put, List.setIfInBounds_toArray, List.set_cons_zero, List.set_cons_succ, List.getElem_toArray, List.getElem_cons_zero, List.getElem_cons_succ]
          try dsimp only at hHeld
          refine wpAnyH_ready (rs := [41]) (by kernel_rfl) (by simp) ?_
          refine AllReadyH.cons rfl (fun K hK => ?_) AllReadyH.nil
          go_simp
          (go_at_call 24; go_split_ands; refine (HSame.out _ _ _ hsl (by assumption)).mono ?_; rintro e w6 ⟨rfl, hk2⟩)
          go_wp2_with fail
          refine hK.out _ _ ?_ (fun hHeld => ?_)
          · (try dsimp only); exact heldAt HN3.out (Keeps.trans (by assumption) hk2)
          clear hK K
          try simp only [Act.put, List.setIfInBounds_toArray, List.set_cons_zero, List.set_cons_succ, List.getElem_toArray, List.getElem_cons_zero, List.getElem_cons_succ]
          try dsimp only at hHeld
          refine wpAnyH_take (i := 42) (v := ?_) rfl (by kernel_rfl) (by kernel_rfl) (by kernel_rfl) (fun _ _ _ h => h) (Or.inl ⟨by rfl, ?_⟩) (by assumption) ?_
          rotate_left
          · intro w hSw; (try dsimp only at hSw); go_simp; (try with_reducible rfl)
          try simp only [Act.put, List.setIfInBounds_toArray, List.set_cons_zero, List.set_cons_succ, List.getElem_toArray, List.getElem_cons_zero, List.getElem_cons_succ]
          refine wpAnyH_take (i := 43) (v := ?_) rfl (by kernel_rfl) (by kernel_rfl) (by kernel_rfl) (fun _ _ _ h => h) (Or.inl ⟨by rfl, ?_⟩) (by assumption) ?_
          rotate_left
          · intro w hSw; (try dsimp only at hSw); go_simp; (try with_reducible rfl)
          try simp only [Act.put, List.setIfInBounds_toArray, List.set_cons_zero, List.set_cons_succ, List.getElem_toArray, List.getElem_cons_zero, List.getElem_cons_succ]
          refine wpAnyH_done (by kernel_rfl) ?_ _
          go_split_ands
          go_wp2_with fail
          go_meet
          exact ⟨rfl, by assumption⟩
      case rest =>
        obtain ⟨rfl, k4⟩ := hcut
        clear a0 a1 a2 a3 r0 r1 r2 s0 s1 s2 s3 s4 s5 s6 s7 s8 s9 hb1 hb2 hcell hkeep ls lr la
        have kW : Keeps [] wr wc := HKK3.out.trans k4
        have HI6 := Lib.hid (hR.frame HI5.out k4 (by simp))
        have HKW := Lib.hid kW
        clear kW k4 HSame HHeld HSR HI5 HO3 HKK HKK3 HO HX HBW HRR HBR HN3
        by_cases hl2 : k < ts.length
        · have hsl : Sl wc 2 (.slice pt ts.length ct) ts.length (tolds ts) := ((HT.out.but0 HK.out HTS.out).but HKW.out (by simp))
          obtain ⟨bt, ot, ct', he, hbt, hct⟩ := hsl.some (by omega)
          cases he
          obtain ⟨⟨tv, tw⟩, htk⟩ : ∃ t, ts[k]? = some t := ⟨_, List.getElem?_eq_getElem hl2⟩
          have hu : M.U tv := HV.out (tv, tw) (List.mem_of_getElem? htk)
          have t0 := hct (k * 2) _ (tolds_at ts k _ htk).1
          have t1 := hct (k * 2 + 1) _ (tolds_at ts k _ htk).2
          have t1' : wc.cell? ⟨bt, ot + k * 2 + 1, none⟩ = some (.bool tw) := by rw [← t1, Nat.add_assoc]
          have hgo : K.goes s (ts.take (k + 1)) = K.give sk tv tw := by
            rw [K.goes_succ s ts hl2, HSK.out]
            have := (List.getElem?_eq_some_iff.1 htk).2
            rw [this]
          have HG := Lib.hid hgo
          have HGive := Lib.hid (fun W hI => hR.give W S' sk tv tw hI hu trivial (fun _ _ h => h))
          have i0 : (0 : Int) ≤ (k : Int) := by omega
          have i1 : (k : Int) < (ts.length : Int) := by omega
          clear hgo hsl hct hu htk t1
          go_wp2_with fail
          go_still_tail 11, (by kernel_rfl)
          change wpList _ _ _ _ _ wc.drew
          go_wp2_with fail
          refine (HGive.out wc.drew (hR.frame HI6.out (Keeps.refl [] wc).drew (by simp))).mono ?_
          rintro e w7 ⟨rfl, S7, hI7, k7, n7⟩
          have hI8 : I w7 S7 (K.goes s (ts.take (k + 1))) := by rw [HG.out]; exact hI7
          have hn7 : ∀ j ∈ S7, j ∈ S ∨ w.heap.size ≤ j := fun j hj => by
            rcases n7 j hj with h | h
            · exact HN.out j h
            · have := HK.out.size
              have := HKW.out.size
              exact .inr (by have h2 : wc.heap.size ≤ j := h; omega)
          have hk8 : Keeps S w w7 := (HK.out.trans HKW.out.nil).comb k7.undrew HN.out
          have HP := Lib.hid (show I w7 S7 (K.goes s (ts.take (k + 1))) ∧ Keeps S w w7 ∧ ∀ j ∈ S7, j ∈ S ∨ w.heap.size ≤ j from ⟨hI8, hk8, hn7⟩)
          clear hI7 k7 n7 hI8 hn7 hk8
          go_wp2
          go_roundw
          case rel => exact ⟨k + 1, by omega, by go_num, S7, HP.out⟩
          case measure => simp [intOf]; omega
        · obtain rfl : k = ts.length := by omega
          have hgo : K.goes s (ts.take (ts.length + 1)) = sk := by
            rw [List.take_of_length_le (by omega)]
            have := HSK.out
            rwa [List.take_of_length_le (Nat.le_refl _)] at this
          have HP := Lib.hid (show I wc S' (K.goes s (ts.take (ts.length + 1))) ∧ Keeps S w wc ∧ ∀ j ∈ S', j ∈ S ∨ w.heap.size ≤ j from ⟨by rw [hgo]; exact HI6.out, HK.out.trans HKW.out.nil, HN.out⟩)
          clear hgo
          go_wp2
          go_roundw
          case rel => exact ⟨ts.length + 1, by omega, by go_num, S', HP.out⟩
          case measure => simp [intOf]
    · obtain rfl : k = ts.length + 1 := by omega
      go_wp2
      go_ret
      exact ⟨rfl, S', by have := HI1.out; rwa [List.take_of_length_le (by omega)] at this, HK.out, HN.out⟩
end Go.Proofs.YtjfgpplnlepnoaaGreat
