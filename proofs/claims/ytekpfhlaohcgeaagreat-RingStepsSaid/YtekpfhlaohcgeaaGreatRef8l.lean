/-
  Contracts: the document's frames of a ring go as the machine.
-/
import Derived.Test.YtekpfhlaohcgeaaGreatRef8e
import Derived.Test.YtekpfhlaohcgeaaGreatRef8a
import Derived.Deep.CutRange
import Derived.LoopTactic
namespace Go.Proofs.YtekpfhlaohcgeaaGreat
set_option maxRecDepth 100000
set_option linter.unusedSimpArgs false
set_option linter.unusedVariables false
open Go.ChangeShapes Go.WideShapes Go.ChangeAt Go.RowKit

theorem rfRuns (p : Nat) : RefRuns ringM (rfJ p) (fun _ => False) p 44 45 46 47 where
  lt := fun {w S s} ⟨tk, dn, c, v, l, hS, h, ho, _⟩ k hk => by
    rw [hS] at hk
    rcases List.mem_cons.1 hk with rfl | hk
    · exact h.lt
    · exact (ho.lt k ((ownBlock_toList _ _).1 hk)).2
  frame := fun {w w' S T s} ⟨tk, dn, c, v, l, hS, h, ho, r⟩ hk hT _ => ⟨tk, dn, c, v, l, hS, h.keeps hk (hT p (by rw [hS]; simp)), owns_keeps ho hk (fun g hg => hT g (by rw [hS]; exact List.mem_cons_of_mem _ ((ownBlock_toList _ _).2 hg))), r⟩
  stays := fun s v won h => by
    have h' : s.over.isSome = true := h
    show (ringM.give s v won).over.isSome = true
    simp [ringM, h']
  few := fun {w S s} ⟨tk, dn, c, v, l, hS, h, ho, hn, hl, _⟩ => by
    show (rgHeld s).length ≤ 1000000
    unfold rgHeld
    repeat' split
    · simp
    · simp; omega
    · omega
  want := fun w S s h => rf_want p s w S h
  over := fun w S s h => rf_over p s w S h
  held := fun w S s h => rf_held p s w S h
  give := fun w S s v won h hv => rf_give p s w S v won h hv
set_option maxHeartbeats 3200000 in
set_option maxRecDepth 100000 in
theorem seen_ring {σ : Type} (K : Mach σ) (J : World → List Nat → σ → Prop) (R : Nat → Prop) (p : Nat) (hR : RefRuns K J R p 44 45 46 47) (vt : Value) (s : σ) (ts : List (Int × Bool)) (S0 : List Nat) (w : World) (hJ : J w S0 s)
    (ht : Sl w 2 vt ts.length (tolds ts)) (htS : ts.length ≠ 0 → ∀ g, vt.ownBlock = some g → g ∉ S0) (hv : ∀ t ∈ ts, M.U t.1) (hn : ts.length ≤ 1000000) (hRo : ∀ k, R k → k < w.heap.size) :
    Calls Tryz.prog 13 #[.pointer (some ⟨p, 0, none⟩), vt] w fun e w' => ∃ v, e = .returned v ∧ SeenAt w' (fun k => k ∈ S0 ∨ w.heap.size ≤ k) v (K.trace s ts) ∧ Keeps S0 w w' := by
  obtain ⟨pt, ct, rfl⟩ := ht.len
  have HT := Lib.hid ht
  have HTS := Lib.hid htS
  have HV := Lib.hid hv
  have HJ := Lib.hid hJ
  have HRO := Lib.hid hRo
  clear ht htS hv hJ hRo
  go_enter Tryz.func13, Tryz.ntmps13
  go_wp2
  go_loopw [5, 6] (fun v i wr => ∃ k : Nat, k ≤ ts.length + 1 ∧ i = .int .i64 k ∧ SeenInv K J s ts S0 w 83 k v wr) (fun _ i _ => ts.length + 1 - (intOf i).toNat)
  case atStart =>
    refine ⟨0, Nat.zero_le _, rfl, S0, [], hR.frame HJ.out ((Keeps.refl [] w).alloc _) (by simp) (by simp), owns_empty w 83 10, rfl, by simp, by simp, (Keeps.refl _ _).alloc _, fun j h => .inl h, fun g hg => ?_⟩
    intro h
    have := hR.lt HJ.out g h
    simp [Value.ownBlock] at hg
    omega
  case round =>
    obtain ⟨k, hk, rfl, S, gs, hJ, ho, hf, hg, hnone, hK, hnew, hvS⟩ := hrel
    have hgl : gs.length = min k (ts.length + 1) := by rw [← K.trace_len s ts, ← List.length_take, ← hf, List.length_map]
    obtain ⟨qv, cv, rfl⟩ := (Sl.of_owns ho).len
    have hvlt := ho.lt
    have HO := Lib.hid ho
    have HF := Lib.hid hf
    have HG := Lib.hid hg
    have HNONE := Lib.hid hnone
    have HK := Lib.hid hK
    have HN := Lib.hid hnew
    have HVS := Lib.hid hvS
    have HJ1 := Lib.hid hJ
    have HVLT := Lib.hid hvlt
    clear hJ ho hf hg hnone hK hnew hvS hvlt
    by_cases hlt : k ≤ ts.length
    · have HGL : Hid (gs.length = k) := Lib.hid (by omega)
      clear hgl
      obtain ⟨sk, hsk⟩ : ∃ sk, K.goes s (ts.take k) = sk := ⟨_, rfl⟩
      have HSK := Lib.hid hsk
      rw [hsk] at HJ1 HNONE
      obtain ⟨x, hx⟩ : ∃ x, (K.want sk).getD zacc = x := ⟨_, rfl⟩
      obtain ⟨bw, hbw⟩ : ∃ bw, (K.want sk).isSome = bw := ⟨_, rfl⟩
      obtain ⟨rr, hrr⟩ : ∃ rr, (K.res sk).getD Rs.zero = rr := ⟨_, rfl⟩
      obtain ⟨br, hbr⟩ : ∃ br, (K.res sk).isSome = br := ⟨_, rfl⟩
      have HWant := hR.want wr S sk HJ1.out
      rw [hx, hbw] at HWant
      have HRes := fun w1 hI => hR.over w1 S sk hI
      rw [hrr, hbr] at HRes
      have HResH := Lib.hid HRes
      have HX := Lib.hid hx
      have HBW := Lib.hid hbw
      have HRR := Lib.hid hrr
      have HBR := Lib.hid hbr
      have hwr : wr.heap.size = wr.heap.size := rfl
      clear hsk hx hbw hrr hbr HRes
      go_wp2_with fail
      refine HWant.mono ?_
      clear HWant
      rintro e w1 ⟨rfl, k1⟩
      have HJ2 := Lib.hid (hR.frame HJ1.out k1 (by simp) (by simp))
      have HK1 := Lib.hid k1
      have hs1 := k1.size
      clear k1
      obtain ⟨W1, hW1⟩ : ∃ W1, w1.alloc (.cells #[.int .i64 x.k, .int .i64 x.c, .int .u64 x.a, .int .u64 x.b] 78) = W1 := ⟨_, rfl⟩
      have hb1 : Box W1 w1.heap.size #[.int .i64 x.k, .int .i64 x.c, .int .u64 x.a, .int .u64 x.b] := by rw [← hW1]; exact Box.new _ _ _
      have hk1 : Keeps [] w1 W1 := by rw [← hW1]; exact (Keeps.refl _ _).alloc _
      have HB1 := Lib.hid hb1
      have HK1' := Lib.hid hk1
      have HJ3 := Lib.hid (hR.frame HJ2.out hk1 (by simp) (by simp))
      clear hb1 hk1 HJ2
      go_wp2_with fail
      clear hW1
      refine (HResH.out _ HJ3.out).mono ?_
      rintro e w2 ⟨ql, nl, cl, rfl, k2, hres⟩
      obtain ⟨W, hW⟩ : ∃ W, w2.alloc (.cells #[.int .i64 rr.code, .int .u64 rr.v, .slice ql nl cl] 65) = W := ⟨_, rfl⟩
      have hb2 : Box W w2.heap.size #[.int .i64 rr.code, .int .u64 rr.v, .slice ql nl cl] := by rw [← hW]; exact Box.new _ _ _
      have hk2 : Keeps [] w2 W := by rw [← hW]; exact (Keeps.refl _ _).alloc _
      have hbA : Box W w1.heap.size #[.int .i64 x.k, .int .i64 x.c, .int .u64 x.a, .int .u64 x.b] := (HB1.out.keeps k2 (by simp)).keeps hk2 (by simp)
      have hkk : Keeps [] wr W := ((HK1.out.trans HK1'.out).trans k2).trans hk2
      have HRESL : Hid (∀ r, K.res sk = some r → Sl W 1 (.slice ql nl cl) r.l.length (ints .u64 r.l) ∧ r.l.length ≤ maxLen ∧ ∀ g, (Value.slice ql nl cl).ownBlock = some g → g ∈ S ∨ wr.heap.size ≤ g) := Lib.hid fun r hr =>
        ⟨(hres r hr).1.but hk2 (by simp), (hres r hr).2.1, fun g hg => ((hres r hr).2.2 g hg).imp id (fun h => Nat.le_trans (Nat.le_trans HK1.out.size HK1'.out.size) h)⟩
      go_upto_region 7 with (fail)
      have a0 := hbA.cells 0
      have a1 := hbA.cells 1
      have a2 := hbA.cells 2
      have a3 := hbA.cells 3
      have r0 := hb2.cells 0
      have r1 := hb2.cells 1
      have r2 := hb2.cells 2
      have la := hbA.lt
      have lr := hb2.lt
      have HJ4 := Lib.hid (hR.frame HJ3.out (k2.trans hk2) (by simp) (by simp))
      have HOW := Lib.hid (owns_keeps HO.out hkk (by simp))
      have HKK := Lib.hid hkk
      have hs2 : w1.heap.size ≤ w2.heap.size := Nat.le_trans HK1'.out.size k2.size
      clear hbA hb2 hk2 k2 hres HB1 HJ3 HK1 HK1' HResH hkk hW
      simp at a0 a1 a2 a3 r0 r1 r2
      have HSC : Hid (∀ h, seenCells ⟨K.want sk, K.res sk, K.held sk⟩ (.slice ql nl cl) h = [.int .i64 x.k, .int .i64 x.c, .int .u64 x.a, .int .u64 x.b, .bool bw, .int .i64 rr.code, .int .u64 rr.v, .slice ql nl cl, .bool br, h]) := Lib.hid fun h => by
        unfold seenCells; simp only [HX.out, HBW.out, HRR.out, HBR.out]
      obtain ⟨L, hL⟩ : ∃ L, (Value.slice qv gs.length cv).ownBlock.toList = L := ⟨_, rfl⟩
      have hLm : ∀ g ∈ L, w.heap.size ≤ g ∧ g < wr.heap.size ∧ g ∉ S := fun g hg => by
        rw [← hL] at hg
        have e : (Value.slice qv gs.length cv).ownBlock = some g := by simpa using hg
        exact ⟨(HVLT.out g e).1, (HVLT.out g e).2, HVS.out g e⟩
      have hwr1 : wr.heap.size ≤ w1.heap.size := hs1
      have na : w1.heap.size ∉ L := fun h => by have := (hLm _ h).2.1; omega
      have nb : w2.heap.size ∉ L := fun h => by have := (hLm _ h).2.1; omega
      have HL := Lib.hid hL
      have HLM := Lib.hid hLm
      clear hL
      have hHeld : ∀ W', Keeps L W W' → Calls Tryz.prog 46 #[.pointer (some ⟨p, 0, none⟩)] W' fun e w' => ∃ q c, e = .returned (.slice q (K.held sk).length c) ∧ Sl w' 1 (.slice q (K.held sk).length c) (K.held sk).length (ints .u64 (K.held sk)) ∧ Keeps [] W' w' :=
        fun W' hW' => hR.held W' S sk (hR.frame HJ4.out hW' (fun k hk h => (hLm k h).2.2 hk) (fun k hk h => by have := HRO.out k h; have := (hLm k hk).1; omega))
      have HHeld := Lib.hid hHeld
      have HVW : Hid (∀ g, (Value.slice qv gs.length cv).ownBlock = some g → g < W.heap.size) := Lib.hid fun g hg => (HOW.out.lt g hg).2
      have HFEW := Lib.hid (hR.few HJ4.out)
      have HBB : Hid (w.heap.size ≤ W.heap.size) := Lib.hid (Nat.le_trans HK.out.size HKK.out.size)
      obtain ⟨N, hN⟩ : ∃ N, W.heap.size = N := ⟨_, rfl⟩
      rw [hN] at la lr
      have HN3 := Lib.hid hN
      clear hN hHeld hLm
      have hkeep : Keeps L W W := Keeps.refl _ _
      have hownW := HOW.out
      go_cut [5] from 12 to 55 (fun v w' => SeenMid W w.heap.size 83 (.slice qv gs.length cv) gs.length (seenRows gs) ⟨K.want sk, K.res sk, K.held sk⟩ (.slice ql nl cl) v w')
      case first =>
        have hcell : ∀ b o, b < N → b ∉ L → W.cell? ⟨b, o, none⟩ = W.cell? ⟨b, o, none⟩ := fun _ _ _ _ => rfl
        (go_region_held3 (fun w' => Keeps L W w' ∧ ∀ b o, b < N → b ∉ L → w'.cell? ⟨b, o, none⟩ = W.cell? ⟨b, o, none⟩)
            (first
              | exact ⟨by assumption, by assumption⟩
              | exact heldOf HN3.out (Keeps.drew (by assumption))
              | (go_split_ands; exact heldOf HN3.out (Keeps.alloc (by assumption) _))
              | (go_split_ands; exact heldOf HN3.out (Keeps.trans (by assumption) hk2.nil))
              | (go_split_ands; exact heldOf HN3.out (Keeps.trans (by assumption) k7)))
            (first
              | (go_at_call 46; go_split_ands; refine (HHeld.out _ (by assumption)).mono ?_; rintro e w4 ⟨qh, ch, rfl, hsl, hk2⟩; have own4 := owns_keeps (first_own (by first | exact hownW | exact World.ownsRow.alloc hownW _)) hk2 (by simp))
              | (go_split_ands; (refine step_append_empty (by rfl) _ _ 39 (by rfl) 24 _ 1 8 Tryz.underlying39 elemU _ (by rfl) _ (K.held sk).length (ints .u64 (K.held sk)) (by rfl) (by first | exact hsl | exact hsl.but ((Keeps.refl [] _).alloc _) (by simp)) (ints_one .u64 _) (by have := HFEW.out; omega) ?_); intro v5 w5 hs5 hk2 hf5; have hk45 := hk2; have own5 := owns_keeps (first_own (by first | exact own4 | exact World.ownsRow.alloc own4 _)) hk2 (by simp); obtain ⟨p5, c5, rfl⟩ := hs5.len)
              | (go_split_ands; (refine step_append_fresh (by rfl) _ _ 31 (by rfl) w.heap.size 83 _ 10 112 Tryz.underlying31 elemSeen _ gs.length (seenRows gs) (by rfl) (World.ownsRow.alloc own5 _) _ (seenCells ⟨K.want sk, K.res sk, K.held sk⟩ (.slice ql nl cl) (.slice p5 (K.held sk).length c5)) (by rfl) rfl (by simp [Value.oneCell']) (fun j u hu => by rw [World.cell?_alloc_at _ _ _ _ rfl, ← Array.getElem?_toList]; rw [HSC.out] at hu; exact hu) (by have := HGL.out; omega) (Nat.le_trans HBB.out (Keeps.size (S := L) (by assumption))) ?_); intro v7 w7 own7 k7 f7 ne7; rw [HL.out] at k7)))
        all_goals
          go_split_ands
          go_wp2_with fail
          go_meet
          exact SeenMid.mk HVW.out (by rw [HL.out]; assumption) hk45 hs5 hf5 own7 (by rw [HL.out]; exact k7) f7 ne7
      case rest =>
        have hnow : SeenNow K J s ts S0 w 83 k (.slice qv gs.length cv) wr S sk gs := ⟨HJ1.out, HO.out, HF.out, HG.out, HNONE.out, HK.out, HN.out, HVS.out⟩
        have hmid := hcut
        clear hcut
        have hkL : Keeps L W wc := by obtain ⟨_, _, _, _, _, h, _⟩ := hmid; rw [← HL.out]; exact h
        have hJc : J wc S sk := hR.frame HJ4.out hkL (fun k hk h => (HLM.out k h).2.2 hk) (fun k hk h => by have := HRO.out k h; have := (HLM.out k hk).1; omega)
        obtain ⟨hh, hn2⟩ := hnow.snoc hlt HSK.out HKK.out hJc (fun g hg => hR.lt HJ4.out g hg) ⟨_, _, _, rfl⟩ HRESL.out HFEW.out hmid
        have hKw : Keeps S0 w wc := hn2.keeps
        have hST := hR.stays sk
        clear hnow hkL hJc hmid hkeep hownW HL HLM HSC HKK HHeld HRESL HFEW HVW HBB HOW HN3 HJ4 HJ1 HO HF HG HNONE HK HN HVS HVLT HX HBW HRR HBR la lr na nb a0 a1 a2 a3 r0 r1 r2 hs1 hs2 hwr1 hwr
        have HN2 := Lib.hid hn2
        have HKW := Lib.hid hKw
        have HST := Lib.hid hST
        clear hn2 hKw hST
        by_cases hl2 : k < ts.length
        · have hsl : Sl wc 2 (.slice pt ts.length ct) ts.length (tolds ts) := HT.out.but0 HKW.out HTS.out
          obtain ⟨bt, ot, ct', he, hbt, hct⟩ := hsl.some (by omega)
          cases he
          obtain ⟨⟨tv, tw⟩, htk⟩ : ∃ t, ts[k]? = some t := ⟨_, List.getElem?_eq_getElem hl2⟩
          have hu : M.U tv := HV.out (tv, tw) (List.mem_of_getElem? htk)
          have t0 := hct (k * 2) _ (tolds_at ts k _ htk).1
          have t1 := hct (k * 2 + 1) _ (tolds_at ts k _ htk).2
          have t1' : wc.cell? ⟨bt, ot + k * 2 + 1, none⟩ = some (.bool tw) := by rw [← t1, Nat.add_assoc]
          have hgo : K.goes s (ts.take (k + 1)) = K.give sk tv tw := by
            rw [K.goes_succ s ts hl2, HSK.out]
            have := (List.getElem?_eq_some_iff.1 htk).2
            rw [this]
          have HGO := Lib.hid hgo
          have HGive := Lib.hid (fun W hI => hR.give W S sk tv tw hI hu)
          have i0 : (0 : Int) ≤ (k : Int) := by omega
          have i1 : (k : Int) < (ts.length : Int) := by omega
          clear hgo hsl hct hu htk t1
          go_wp2_with fail
          go_still_tail 11, (by kernel_rfl)
          change wpList _ _ _ _ _ wc.drew
          go_wp2_with fail
          refine (HGive.out wc.drew (hR.frame HN2.out.j (Keeps.refl [] wc).drew (by simp) (by simp))).mono ?_
          rintro e w7 ⟨rfl, S7, hI7, k7, n7⟩
          have HP := Lib.hid (show SeenInv K J s ts S0 w 83 (k + 1) u5 w7 from (HN2.out.give (HST.out tv tw) hI7 k7.undrew n7).inv HGO.out)
          clear hI7 k7 n7
          go_wp2
          go_roundw
          case rel => exact ⟨k + 1, by omega, by go_num, HP.out⟩
          case measure => simp [intOf]; omega
        · obtain rfl : k = ts.length := by omega
          have hgo : K.goes s (ts.take (ts.length + 1)) = sk := by
            rw [List.take_of_length_le (by omega)]
            have := HSK.out
            rwa [List.take_of_length_le (Nat.le_refl _)] at this
          have HP := Lib.hid (show SeenInv K J s ts S0 w 83 (ts.length + 1) u5 wc from HN2.out.inv hgo)
          clear hgo
          go_wp2
          go_roundw
          case rel => exact ⟨ts.length + 1, by omega, by go_num, HP.out⟩
          case measure => simp [intOf]
    · obtain rfl : k = ts.length + 1 := by omega
      go_wp2
      go_ret
      have hfull : (K.trace s ts).take (ts.length + 1) = K.trace s ts := List.take_of_length_le (by rw [K.trace_len]; exact Nat.le_refl _)
      exact ⟨_, rfl, seen_done HO.out (by omega) (by rw [HF.out, hfull]) HG.out (fun g hg => (HVLT.out g hg).1), HK.out⟩

end Go.Proofs.YtekpfhlaohcgeaaGreat

/-
  Contracts: how the document's frame of a ring's Push or Pop is made.
-/
namespace Go.Proofs.YtekpfhlaohcgeaaGreat
set_option maxRecDepth 100000
set_option linter.unusedSimpArgs false
set_option linter.unusedVariables false
open Go.ChangeShapes Go.WideShapes Go.ChangeAt Go.RowKit

theorem rfJ_begin (p : Nat) (w : World) (s : RgS) (h : Row w p 97 (rfCells s (.slice none 0 0) false 0 0 (.slice none 0 0))) (ht : s.took = []) (hov : s.over = none) (hok : rgOk s) : rfJ p w [p] s := by
  refine ⟨.slice none 0 0, false, 0, 0, .slice none 0 0, rfl, h, ?_, fun g hg => by simp [Value.ownBlock] at hg, by rw [ht]; simp, fun _ => ⟨rfl, rfl, rfl, rfl, hok⟩, fun r hr => by rw [hov] at hr; cases hr⟩
  rw [ht]
  exact World.ownsRow_nil w 0 _ 1
theorem rfJ_no (p : Nat) (w : World) (s : RgS) (h : Row w p 97 (rfCells s (.slice none 0 0) true 2 0 (.slice none 0 0))) (ht : s.took = []) (hov : s.over = some ⟨2, 0, []⟩) : rfJ p w [p] s := by
  refine ⟨.slice none 0 0, true, 2, 0, .slice none 0 0, rfl, h, ?_, fun g hg => by simp [Value.ownBlock] at hg, by rw [ht]; simp, fun ho => (by rw [hov] at ho; cases ho), fun r hr => (by rw [hov] at hr; cases hr; exact ⟨rfl, rfl, rfl, .inl ⟨rfl, rfl⟩⟩)⟩
  rw [ht]
  exact World.ownsRow_nil w 0 _ 1
theorem rfNew_any (at_ size kind v : Int) (w : World) (hk : kind = 1 ∨ kind = 2) (hv : M.U v) :
    Calls Tryz.prog 12 #[.int .i64 at_, .int .i64 size, .int .i64 kind, .int .u64 v] w fun e w' => ∃ p, e = .returned (.pointer (some ⟨p, 0, none⟩)) ∧ rfJ p w' [p] (rgBegin at_ size kind v 0 (decide (dqRight at_ size))) ∧ Keeps [] w w' ∧ w.heap.size ≤ p := by
  have HR := Lib.hid (fun W => rRight8_any at_ size W)
  have U0 : M.U 0 := ⟨by decide, by decide⟩
  have Z0 : W32 0 := ⟨by decide, by decide⟩
  obtain ⟨W0, hW0⟩ : ∃ W0, w.alloc (.cells #[.int .i64 at_, .int .i64 size, .int .i64 kind, .int .u64 v, .int .i64 0, .int .i64 1, .int .u64 0, .int .u32 0, .int .u32 0, .int .i64 0, .int .i64 0, .slice none 0 0, .bool false, .int .i64 0, .int .u64 0, .slice none 0 0] 97) = W0 := ⟨_, rfl⟩
  have r0 : ∀ o, Row W0 w.heap.size 97 (rfCells ⟨at_, size, kind, v, 0, 1, 0, 0, 0, 0, 0, [], o⟩ (.slice none 0 0) false 0 0 (.slice none 0 0)) := by rw [← hW0]; intro o; exact Row.new _ _ _
  have HK : Hid (Keeps [] w W0) := Lib.hid (by rw [← hW0]; exact (Keeps.refl _ _).alloc _)
  have HE := Lib.hid (rfEnd_any w.heap.size ⟨at_, size, kind, v, 0, 1, 0, 0, 0, 0, 0, [], some ⟨2, 0, []⟩⟩ _ _ _ _ _ 2 W0 (r0 _))
  have HR0 := Lib.hid r0
  have HKd := Lib.hid hk
  have HV := Lib.hid hv
  clear r0 hk hv
  by_cases hr : dqRight at_ size
  · have hd : decide (dqRight at_ size) = true := decide_eq_true hr
    rw [hd] at HR
    rw [hd]
    have HH := Lib.hid hr
    clear hr hd
    go_enter Tryz.func12, Tryz.ntmps12
    go_wp2_with fail
    refine (HR.out W0).mono ?_
    rintro e w1 ⟨rfl, rfl⟩
    go_wp2
    go_ret
    refine ⟨w.heap.size, rfl, rfJ_begin _ _ _ (HR0.out none) rfl rfl ?_, HK.out, Nat.le_refl _⟩
    refine ⟨HH.out, HV.out, U0, Z0, Z0, ?_⟩
    rcases HKd.out with rfl | rfl
    · exact .inl ⟨rfl, .inl ⟨by simp [rgBegin], rfl, rfl⟩⟩
    · exact .inr (.inl ⟨rfl, by simp [rgBegin], rfl⟩)
  · have hd : decide (dqRight at_ size) = false := decide_eq_false hr
    rw [hd] at HR
    rw [hd]
    clear hr hd
    go_enter Tryz.func12, Tryz.ntmps12
    go_wp2_with fail
    refine (HR.out W0).mono ?_
    rintro e w1 ⟨rfl, rfl⟩
    go_wp2_with fail
    refine HE.out.mono ?_
    rintro e w2 ⟨rfl, hr2, k2⟩
    have HQ := Lib.hid (⟨hr2, HK.out.step k2 (by simp)⟩ : _ ∧ _)
    clear hr2 k2 hW0
    go_wp2
    go_ret
    exact ⟨w.heap.size, rfl, rfJ_no _ _ _ HQ.out.1 rfl rfl, HQ.out.2, Nat.le_refl _⟩
end Go.Proofs.YtekpfhlaohcgeaaGreat

/-
  Contracts: how the document's frame of a ring's Steal is made.
-/
namespace Go.Proofs.YtekpfhlaohcgeaaGreat
set_option maxRecDepth 100000
set_option linter.unusedSimpArgs false
set_option linter.unusedVariables false
open Go.ChangeShapes Go.WideShapes Go.ChangeAt Go.RowKit

def rfMeets (at_ size target : Int) (k : Nat) : Prop := 0 < k ∧ at_ < target + size + 2 ∧ target < at_ + k
instance (at_ size target : Int) (k : Nat) : Decidable (rfMeets at_ size target k) := by unfold rfMeets; infer_instance
set_option maxHeartbeats 6400000 in
theorem rfStealNew_any (at_ size target tsize : Int) (w : World) (hs1 : -9223372036854775808 ≤ size) (ht1 : -9223372036854775808 ≤ tsize) :
    Calls Tryz.prog 16 #[.int .i64 at_, .int .i64 size, .int .i64 target, .int .i64 tsize] w fun e w' => ∃ p, e = .returned (.pointer (some ⟨p, 0, none⟩)) ∧ rfJ p w' [p] (rgBegin at_ size 3 0 target (decide (rgFeeds at_ size target tsize))) ∧ Keeps [] w w' ∧ w.heap.size ≤ p := by
  have HR := Lib.hid (fun W => rRight8_any at_ size W)
  have HR2 := Lib.hid (fun W => rRight8_any target tsize W)
  have U0 : M.U 0 := ⟨by decide, by decide⟩
  have Z0 : W32 0 := ⟨by decide, by decide⟩
  obtain ⟨W0, hW0⟩ : ∃ W0, w.alloc (.cells #[.int .i64 at_, .int .i64 size, .int .i64 3, .int .u64 0, .int .i64 target, .int .i64 1, .int .u64 0, .int .u32 0, .int .u32 0, .int .i64 0, .int .i64 0, .slice none 0 0, .bool false, .int .i64 0, .int .u64 0, .slice none 0 0] 97) = W0 := ⟨_, rfl⟩
  have r0 : ∀ o, Row W0 w.heap.size 97 (rfCells ⟨at_, size, 3, 0, target, 1, 0, 0, 0, 0, 0, [], o⟩ (.slice none 0 0) false 0 0 (.slice none 0 0)) := by rw [← hW0]; intro o; exact Row.new _ _ _
  have HK : Hid (Keeps [] w W0) := Lib.hid (by rw [← hW0]; exact (Keeps.refl _ _).alloc _)
  have HE := Lib.hid (rfEnd_any w.heap.size ⟨at_, size, 3, 0, target, 1, 0, 0, 0, 0, 0, [], some ⟨2, 0, []⟩⟩ _ _ _ _ _ 2 W0 (r0 _))
  have HR0 := Lib.hid r0
  clear r0
  by_cases hr : dqRight at_ size
  rotate_left
  · have hd : decide (dqRight at_ size) = false := decide_eq_false hr
    rw [hd] at HR
    rw [decide_eq_false (fun h : rgFeeds at_ size target tsize => hr h.1)]
    clear hr hd HR2
    go_enter Tryz.func16, Tryz.ntmps16
    go_wp2_with fail
    refine (HR.out W0).mono ?_
    rintro e w1 ⟨rfl, rfl⟩
    go_wp2_with fail
    refine HE.out.mono ?_
    rintro e w2 ⟨rfl, hr2, k2⟩
    have HQ := Lib.hid (⟨hr2, HK.out.step k2 (by simp)⟩ : _ ∧ _)
    clear hr2 k2 hW0
    go_wp2
    go_ret
    exact ⟨w.heap.size, rfl, rfJ_no _ _ _ HQ.out.1 rfl rfl, HQ.out.2, Nat.le_refl _⟩
  have hd : decide (dqRight at_ size) = true := decide_eq_true hr
  rw [hd] at HR
  by_cases hr2 : dqRight target tsize
  rotate_left
  · have hd2 : decide (dqRight target tsize) = false := decide_eq_false hr2
    rw [hd2] at HR2
    rw [decide_eq_false (fun h : rgFeeds at_ size target tsize => hr2 h.2.1)]
    clear hr hd hr2 hd2
    go_enter Tryz.func16, Tryz.ntmps16
    go_wp2_with fail
    refine (HR.out W0).mono ?_
    rintro e w1 ⟨rfl, rfl⟩
    go_wp2_with fail
    refine (HR2.out W0).mono ?_
    rintro e w1 ⟨rfl, rfl⟩
    go_wp2_with fail
    refine HE.out.mono ?_
    rintro e w2 ⟨rfl, hr2, k2⟩
    have HQ := Lib.hid (⟨hr2, HK.out.step k2 (by simp)⟩ : _ ∧ _)
    clear hr2 k2 hW0
    go_wp2
    go_ret
    exact ⟨w.heap.size, rfl, rfJ_no _ _ _ HQ.out.1 rfl rfl, HQ.out.2, Nat.le_refl _⟩
  have hd2 : decide (dqRight target tsize) = true := decide_eq_true hr2
  rw [hd2] at HR2
  by_cases hts : size = tsize
  rotate_left
  · have b1 : (size == tsize) = false := beq_eq_false_iff_ne.2 hts
    rw [decide_eq_false (fun h : rgFeeds at_ size target tsize => hts h.2.2.1)]
    clear hr hd hr2 hd2 hts
    go_enter Tryz.func16, Tryz.ntmps16
    go_wp2_with fail
    refine (HR.out W0).mono ?_
    rintro e w1 ⟨rfl, rfl⟩
    go_wp2_with fail
    refine (HR2.out W0).mono ?_
    rintro e w1 ⟨rfl, rfl⟩
    go_wp2_with fail
    refine HE.out.mono ?_
    rintro e w2 ⟨rfl, hr2, k2⟩
    have HQ := Lib.hid (⟨hr2, HK.out.step k2 (by simp)⟩ : _ ∧ _)
    clear hr2 k2 hW0
    go_wp2
    go_ret
    exact ⟨w.heap.size, rfl, rfJ_no _ _ _ HQ.out.1 rfl rfl, HQ.out.2, Nat.le_refl _⟩
  subst hts
  obtain ⟨N, hN⟩ : ∃ N : Nat, size + 2 = N := ⟨(size + 2).toNat, by have := hr.1; omega⟩
  have hb : 2 ≤ size ∧ size ≤ 256 ∧ 0 ≤ at_ ∧ at_ < 65536 ∧ 0 ≤ target ∧ target < 65536 := by have := hr.1; have := hr.2; have := hr2.2; omega
  have HH := Lib.hid hr
  have HH2 := Lib.hid hr2
  clear hr hd hr2 hd2
  have w1 : wrap64 (at_ + size) = at_ + size := by unfold wrap64; omega
  have w2 : wrap64 (at_ + size + 2) = at_ + size + 2 := by unfold wrap64; omega
  have w3 : wrap64 (target + size) = target + size := by unfold wrap64; omega
  have w4 : wrap64 (target + size + 2) = target + size + 2 := by unfold wrap64; omega
  go_enter Tryz.func16, Tryz.ntmps16
  go_wp2_with fail
  refine (HR.out W0).mono ?_
  rintro e w1 ⟨rfl, rfl⟩
  go_wp2_with fail
  refine (HR2.out W0).mono ?_
  rintro e w1 ⟨rfl, rfl⟩
  go_wp2
  clear hW0
  go_loopw [10] (fun i wr => ∃ k : Nat, k ≤ N ∧ i = .int .i64 (at_ + (k : Int)) ∧ Keeps [] w wr ∧ ∀ o, Row wr w.heap.size 97 (rfCells ⟨at_, size, 3, 0, target, 1, 0, 0, 0, 0, 0, [], o⟩ (.slice none 0 0) (decide (rfMeets at_ size target k)) (if rfMeets at_ size target k then 2 else 0) 0 (.slice none 0 0))) (fun i _ => (at_ + N - intOf i).toNat)
  case atStart =>
    refine ⟨0, Nat.zero_le _, by simp, HK.out, fun o => ?_⟩
    rw [decide_eq_false (fun h : rfMeets at_ size target 0 => absurd h.1 (by omega)), if_neg (fun h : rfMeets at_ size target 0 => absurd h.1 (by omega))]
    exact HR0.out o
  case round =>
    obtain ⟨k, hk, rfl, hkr, hrow⟩ := hrel
    have HKr := Lib.hid hkr
    have HRow := Lib.hid hrow
    have HEr := Lib.hid (rfEnd_any w.heap.size ⟨at_, size, 3, 0, target, 1, 0, 0, 0, 0, 0, [], none⟩ _ _ _ _ _ 2 wr (hrow _))
    have hlt0 := (hrow none).lt
    clear hkr hrow
    by_cases hlt : k < N
    · have d1 : decide (at_ + (k : Int) < at_ + size + 2) = true := decide_eq_true (by omega)
      have w5 : wrap64 (at_ + (k : Int) + 1) = at_ + ((k + 1 : Nat) : Int) := by unfold wrap64; omega
      by_cases h1 : target ≤ at_ + (k : Int)
      · have d2 : decide (target ≤ at_ + (k : Int)) = true := decide_eq_true h1
        by_cases h2 : at_ + (k : Int) < target + size + 2
        · have d3 : decide (at_ + (k : Int) < target + size + 2) = true := decide_eq_true h2
          have hm : rfMeets at_ size target (k + 1) := ⟨by omega, by omega, by omega⟩
          have HM := Lib.hid hm
          clear hm h1 h2
          go_wp2_with fail
          refine HEr.out.mono ?_
          rintro e w7 ⟨rfl, hr7, k7⟩
          have HP := Lib.hid (show Keeps [] w w7 ∧ ∀ o, Row w7 w.heap.size 97 (rfCells ⟨at_, size, 3, 0, target, 1, 0, 0, 0, 0, 0, [], o⟩ (.slice none 0 0) (decide (rfMeets at_ size target (k + 1))) (if rfMeets at_ size target (k + 1) then 2 else 0) 0 (.slice none 0 0)) from ⟨HKr.out.step k7 (by simp), fun o => by rw [decide_eq_true HM.out, if_pos HM.out]; exact hr7⟩)
          clear hr7 k7
          go_wp2
          go_roundw
          case rel => exact ⟨k + 1, by omega, by go_num, HP.out⟩
          case measure => simp [intOf]; omega
        · have d3 : decide (at_ + (k : Int) < target + size + 2) = false := decide_eq_false h2
          have he : rfMeets at_ size target (k + 1) ↔ rfMeets at_ size target k := ⟨fun h => ⟨by have := h.2.1; omega, h.2.1, by have := h.2.1; omega⟩, fun h => ⟨by omega, h.2.1, by have := h.2.2; omega⟩⟩
          have HP := Lib.hid (show Keeps [] w wr ∧ ∀ o, Row wr w.heap.size 97 (rfCells ⟨at_, size, 3, 0, target, 1, 0, 0, 0, 0, 0, [], o⟩ (.slice none 0 0) (decide (rfMeets at_ size target (k + 1))) (if rfMeets at_ size target (k + 1) then 2 else 0) 0 (.slice none 0 0)) from ⟨HKr.out, fun o => by simp only [he]; exact HRow.out o⟩)
          clear he h1 h2
          go_wp2
          go_roundw
          case rel => exact ⟨k + 1, by omega, by go_num, HP.out⟩
          case measure => simp [intOf]; omega
      · have d2 : decide (target ≤ at_ + (k : Int)) = false := decide_eq_false h1
        have he : rfMeets at_ size target (k + 1) ↔ rfMeets at_ size target k := ⟨fun h => absurd h.2.2 (by omega), fun h => absurd h.2.2 (by omega)⟩
        have HP := Lib.hid (show Keeps [] w wr ∧ ∀ o, Row wr w.heap.size 97 (rfCells ⟨at_, size, 3, 0, target, 1, 0, 0, 0, 0, 0, [], o⟩ (.slice none 0 0) (decide (rfMeets at_ size target (k + 1))) (if rfMeets at_ size target (k + 1) then 2 else 0) 0 (.slice none 0 0)) from ⟨HKr.out, fun o => by simp only [he]; exact HRow.out o⟩)
        clear he h1
        go_wp2
        go_roundw
        case rel => exact ⟨k + 1, by omega, by go_num, HP.out⟩
        case measure => simp [intOf]; omega
    · obtain rfl : k = N := by omega
      have d1 : decide (at_ + (k : Int) < at_ + size + 2) = false := decide_eq_false (by omega)
      have hf : rgFeeds at_ size target size ↔ ¬ rfMeets at_ size target k := ⟨fun h hm => by have := h.2.2.2; have := hm.2; omega, fun h => ⟨HH.out, HH2.out, rfl, Decidable.byContradiction fun hc => h ⟨by omega, by omega, by omega⟩⟩⟩
      have HFe := Lib.hid hf
      clear hf
      go_wp2
      go_ret
      refine ⟨w.heap.size, rfl, ?_, HKr.out, Nat.le_refl _⟩
      by_cases hm : rfMeets at_ size target k
      · rw [decide_eq_false (fun h => HFe.out.1 h hm)]
        have := HRow.out (some ⟨2, 0, []⟩)
        rw [decide_eq_true hm, if_pos hm] at this
        exact rfJ_no _ _ _ this rfl rfl
      · rw [decide_eq_true (HFe.out.2 hm)]
        have := HRow.out none
        rw [decide_eq_false hm, if_neg hm] at this
        exact rfJ_begin _ _ _ this rfl rfl ⟨HH.out, U0, U0, Z0, Z0, .inr (.inr ⟨rfl, HH2.out, .inl ⟨by simp [rgBegin], rfl, rfl⟩⟩)⟩
end Go.Proofs.YtekpfhlaohcgeaaGreat
