import Derived.Test.YtopombnehmfmcaaDiR
import Derived.Test.YtopombnehmfmcaaDiN
import Derived.Test.YtopombnehmfmcaaShelf
/-
  Contracts of package diary: Open, Most.
-/
namespace Go.Proofs.Ytopombnehmfmcaa
set_option maxRecDepth 100000
set_option linter.unusedSimpArgs false
set_option linter.unusedVariables false
open Go.ChangeShapes Go.WideShapes Go.ChangeAt Go.RowKit

theorem countP_take_succ {α : Type} (l : List α) (f : α → Bool) (k : Nat) (x : α) (hx : l[k]? = some x) : (l.take (k + 1)).countP f = (l.take k).countP f + if f x = true then 1 else 0 := by
  have hk := (List.getElem?_eq_some_iff.1 hx).1
  rw [List.take_succ_eq_append_getElem hk, List.countP_append]
  have : l[k] = x := (List.getElem?_eq_some_iff.1 hx).2
  simp [this, List.countP_cons]
theorem take_succ_at {α : Type} (l : List α) (k : Nat) (x : α) (hx : l[k]? = some x) : l.take (k + 1) = l.take k ++ [x] := by
  have hk := (List.getElem?_eq_some_iff.1 hx).1
  rw [List.take_succ_eq_append_getElem hk]
  have : l[k] = x := (List.getElem?_eq_some_iff.1 hx).2
  rw [this]

/-- The ten cells of a span of a list. -/
theorem SpsAt.cells {w wr : World} {b off c : Nat} {l : List DSp} (hb : b < w.heap.size) (hc : ∀ j u, (spCells l)[j]? = some u → w.cell? ⟨b, off + j, none⟩ = some u) (k : Nat) (x : DSp) (hx : l[k]? = some x) (hk : Keeps [] w wr) :
    ∀ j u, j < 10 → [Value.int .i64 x.who, .int .i64 x.nth, .int .i64 x.lo, .int .i64 x.hi, .int .i64 x.call.kind, .int .u64 x.call.task, .slice x.call.p x.call.n x.call.c, .int .i64 x.res.code, .int .u64 x.res.v, .slice x.res.p x.res.n x.res.c][j]? = some u → wr.cell? ⟨b, off + k * 10 + j, none⟩ = some u := fun j u hj hu => by
  rw [Nat.add_assoc]
  exact (hk.cell (p := ⟨b, off + (k * 10 + j), none⟩) hb (by simp)).trans (hc _ _ ((sp_at l k j x hx hj).trans hu))

open Go.Sort in
theorem sortInts_any (v : Value) (n base : Nat) (zs : List Int) (w : World) (h : w.ownsRow base 3 1 v n (ints .i64 zs)) (hn : n ≤ 1000000) :
    Calls Try.prog 32 #[v] w fun e w' => e = .returned (.tuple #[]) ∧ Sl w' 1 v n (ints .i64 (zs.mergeSort fun x y => decide (x ≤ y))) ∧ Keeps v.ownBlock.toList w w' := by
  have hzl : zs.length = n := by have := h.1; rw [ints_length] at this; omega
  rcases h.2 with ⟨rfl, rfl⟩ | ⟨g, cap, cur, rfl, hb, hg, hnc, hcm, hcs, htake⟩
  · refine (Try.slices_Sort_int_none none 0 w).mono ?_
    rintro e w' ⟨rfl, rfl⟩
    obtain rfl : zs = [] := List.eq_nil_of_length_eq_zero hzl
    refine ⟨rfl, ⟨by simp [ints], .inl ⟨_, _, rfl, rfl⟩⟩, Keeps.refl _ _⟩
  · subst hzl
    have hrow := Row.of_owns h
    have hlt := hrow.lt
    have hH : Holds (Value.int .i64) w g 0 zs.toArray := fun j hj => by
      have hj' : j < zs.length := by simpa using hj
      rw [Nat.zero_add]
      refine ⟨(hrow.cell (ints_at hj')).trans ?_, hrow.frozen j⟩
      simp [List.getD_eq_getElem?_getD, hj']
    refine (Try.slices_Sort_int g 0 cap zs w hH hlt (by omega)).mono ?_
    rintro e w' ⟨rfl, m, os, rfl⟩
    have hlen : (zs.mergeSort fun x y => decide (x ≤ y)).length = zs.length := List.length_mergeSort zs
    have hH2 := holds_putRow (Value.int .i64) (Go.Sort.ahead w m) g 0 zs.toArray (zs.mergeSort fun x y => decide (x ≤ y)).toArray hH (by simp [hlen])
    have hlt2 : g < (putRow (Value.int .i64) (Go.Sort.ahead w m) g 0 (zs.mergeSort fun x y => decide (x ≤ y)).toArray).heap.size := by rw [size_putRow]; exact hlt
    refine ⟨rfl, ⟨by rw [ints_length, hlen, Nat.mul_one], .inr ⟨g, 0, cap, rfl, ?_, fun j u hu => ?_⟩⟩, ?_⟩
    · rw [size_grow]; omega
    · have hj : j < zs.length := by
        have := (List.getElem?_eq_some_iff.1 hu).1
        rw [ints_length, hlen] at this
        exact this
      rw [cell?_grow _ _ _ hlt2]
      refine (hH2 j (by simpa [hlen] using hj)).1.trans ?_
      rw [ints_at (by rw [hlen]; exact hj)] at hu
      rw [← hu]
      simp [List.getD_eq_getElem?_getD, hlen, hj]
    · refine ⟨rfl, rfl, rfl, ?_, fun k hk hn => ?_⟩
      · rw [size_grow, size_putRow]; exact Nat.le_add_right _ _
      · rw [heap_grow_old _ _ (by rw [size_putRow]; exact hk)]
        have hkg : g ≠ k := fun e => hn (by simp [Value.ownBlock, e])
        unfold putRow mapBlock
        simp only [Array.getElem?_modify, if_neg hkg]
        rfl

set_option maxHeartbeats 800000 in
theorem diOpen_any (v : Value) (l : List DSp) (w : World) (h : SpsAt w v l) (hl : l.length ≤ 1000000) :
    Calls Try.prog 14 #[v] w fun e w' => e = .returned (.int .i64 ((l.countP fun s => decide (s.hi < 0) : Nat) : Int)) ∧ Keeps [] w w' := by
  obtain ⟨p, c, rfl⟩ := h.sl.len
  have HF := Lib.hid (slFace h.sl)
  clear h
  go_enter Try.func14, Try.ntmps14
  go_wp2
  go_loopw [3, 8] (fun o i wr => ∃ k q : Nat, k ≤ l.length ∧ i = .int .i64 (k : Int) ∧ o = .int .i64 (q : Int) ∧ Hid (q = (l.take k).countP fun s => decide (s.hi < 0)) ∧ q ≤ k ∧ Keeps [] w wr) (fun _ i _ => l.length - (intOf i).toNat)
  case atStart => exact ⟨0, 0, Nat.zero_le _, rfl, rfl, Lib.hid (by simp), Nat.le_refl _, Keeps.refl _ _⟩
  case round =>
    obtain ⟨k, q, hk, rfl, rfl, hq, hqk, hkp⟩ := hrel
    by_cases hlt : k < l.length
    · rcases HF.out with h0 | ⟨b, off, rfl, hb, hc⟩
      · omega
      obtain ⟨x, hx⟩ : ∃ x, l[k]? = some x := ⟨_, List.getElem?_eq_getElem hlt⟩
      have cc := SpsAt.cells (c := c) hb hc k x hx hkp
      have HOp := Lib.hid (fun W => diIsOpen x W)
      have hstep := countP_take_succ l (fun s => decide (s.hi < 0)) k x hx
      obtain ⟨x1, x2, x3, x4, ⟨x5, x6, xp, xn, xc, xvs⟩, ⟨x8, x9, yp, yn, yc, yls⟩⟩ := x
      simp only [DSp.val] at HOp cc hstep
      have q0 := cc 0 _ (by omega) rfl
      have q1 := cc 1 _ (by omega) rfl
      have q2 := cc 2 _ (by omega) rfl
      have q3 := cc 3 _ (by omega) rfl
      have q4 := cc 4 _ (by omega) rfl
      have q5 := cc 5 _ (by omega) rfl
      have q6 := cc 6 _ (by omega) rfl
      have q7 := cc 7 _ (by omega) rfl
      have q8 := cc 8 _ (by omega) rfl
      have q9 := cc 9 _ (by omega) rfl
      rw [Nat.add_zero] at q0
      have HK := Lib.hid hkp
      have HSt := Lib.hid hstep
      clear hx hb hc hkp cc hstep
      by_cases ho : x4 < 0
      · have ho' : decide (x4 < 0) = true := by simpa using ho
        rw [ho'] at HOp HSt
        clear ho'
        go_wp2_with (go_at_call 23; refine (HOp.out _).mono ?_; rintro e w1 ⟨rfl, k1⟩)
        go_roundw
        case rel => exact ⟨k + 1, q + 1, by omega, by go_num, by go_num, Lib.hid (by rw [HSt.out, ← hq.out]; simp), by omega, HK.out.trans (((Keeps.refl _ _).alloc _).trans k1)⟩
        case measure => simp [intOf]; omega
      · have ho' : decide (x4 < 0) = false := by simpa using ho
        rw [ho'] at HOp HSt
        clear ho'
        go_wp2_with (go_at_call 23; refine (HOp.out _).mono ?_; rintro e w1 ⟨rfl, k1⟩)
        go_roundw
        case rel => exact ⟨k + 1, q, by omega, by go_num, rfl, Lib.hid (by rw [HSt.out, ← hq.out]; simp), by omega, HK.out.trans (((Keeps.refl _ _).alloc _).trans k1)⟩
        case measure => simp [intOf]; omega
    · obtain rfl : k = l.length := by omega
      have hq2 := hq.out
      rw [List.take_length] at hq2
      have HQ2 := Lib.hid hq2
      clear hq2 hq
      have HK := Lib.hid hkp
      clear hkp
      go_wp2
      go_ret
      exact ⟨by rw [← HQ2.out]; rfl, HK.out⟩

theorem slKeeps {w w' : World} {S : List Nat} {size n : Nat} {v : Value} {xs : List Value} (h : Sl w size v n xs) (k : Keeps S w w') (hS : ∀ g, v.ownBlock = some g → g ∉ S) : Sl w' size v n xs := by
  refine ⟨h.1, ?_⟩
  rcases h.2 with h | ⟨b, off, cap, hv, hs, hc⟩
  · exact .inl h
  · subst hv
    exact .inr ⟨b, off, cap, rfl, Nat.lt_of_lt_of_le hs k.size, fun j u hu => (k.cell (p := ⟨b, off + j, none⟩) hs (hS b rfl)).trans (hc j u hu)⟩
theorem fit_of (x : DSp) (l : List DSp) (k : Nat) (hx : l[k]? = some x) : diLos (l.take (k + 1)) = diLos (l.take k) ++ (if x.fit then [x.lo] else []) ∧ diHis (l.take (k + 1)) = diHis (l.take k) ++ (if x.fit && !decide (x.hi < 0) then [x.hi] else []) := by
  rw [take_succ_at l k x hx, diLos_snoc, diHis_snoc]
  exact ⟨rfl, rfl⟩
theorem diLos_le (l : List DSp) : (diLos l).length ≤ l.length := by
  unfold diLos; rw [List.length_map]; exact List.length_filter_le _ _
theorem diHis_le (l : List DSp) : (diHis l).length ≤ l.length := by
  unfold diHis; rw [List.length_map]; exact List.length_filter_le _ _
theorem ints_snoc (k : IntKind) (l : List Int) (x : Int) : ints k (l ++ [x]) = ints k l ++ [.int k x] := by simp [ints]
set_option maxHeartbeats 4000000 in
theorem diBounds_any (v : Value) (l : List DSp) (w : World) (h : SpsAt w v l) (hl : l.length ≤ 1000000) :
    Calls Try.prog 24 #[v] w fun e w' => ∃ b c, e = .returned (.tuple #[b, c]) ∧ Sl w' 1 b (diLos l).length (ints .i64 ((diLos l).mergeSort fun x y => decide (x ≤ y))) ∧ Sl w' 1 c (diHis l).length (ints .i64 ((diHis l).mergeSort fun x y => decide (x ≤ y))) ∧ Keeps [] w w' := by
  obtain ⟨p, c, rfl⟩ := h.sl.len
  have HF := Lib.hid (slFace h.sl)
  clear h
  go_enter Try.func24, Try.ntmps24
  go_wp2
  go_loopw [2, 3, 8] (fun b c' i wr => ∃ (k : Nat) (bp : Option Addr) (bn bc : Nat) (cp : Option Addr) (cn cm : Nat), k ≤ l.length ∧ i = .int .i64 (k : Int) ∧ b = .slice bp bn bc ∧ c' = .slice cp cn cm ∧ Hid (bn = (diLos (l.take k)).length ∧ cn = (diHis (l.take k)).length) ∧ wr.ownsRow w.heap.size 3 1 (.slice bp bn bc) bn (ints .i64 (diLos (l.take k))) ∧ wr.ownsRow w.heap.size 3 1 (.slice cp cn cm) cn (ints .i64 (diHis (l.take k))) ∧ Hid (∀ g, (Value.slice bp bn bc).ownBlock = some g → (Value.slice cp cn cm).ownBlock ≠ some g) ∧ bn ≤ k ∧ cn ≤ k ∧ Keeps [] w wr) (fun _ _ i _ => l.length - (intOf i).toNat)
  case atStart => exact ⟨0, none, 0, 0, none, 0, 0, Nat.zero_le _, rfl, rfl, rfl, Lib.hid ⟨by simp [diLos], by simp [diHis]⟩, by simpa [diLos, ints] using World.ownsRow_nil w w.heap.size 3 1, by simpa [diHis, ints] using World.ownsRow_nil w w.heap.size 3 1, Lib.hid (fun g hg => by simp [Value.ownBlock] at hg), Nat.le_refl _, Nat.le_refl _, Keeps.refl _ _⟩
  case round =>
    obtain ⟨k, bp, bn, bc, cp, cn, cm, hk, rfl, rfl, rfl, hN, hB, hC, hD, hbk, hck, hkp⟩ := hrel
    by_cases hlt : k < l.length
    · rcases HF.out with h0 | ⟨bb, off, rfl, hb, hc⟩
      · omega
      obtain ⟨x, hx⟩ : ∃ x, l[k]? = some x := ⟨_, List.getElem?_eq_getElem hlt⟩
      have cc := SpsAt.cells (c := c) hb hc k x hx hkp
      have HOp := Lib.hid (fun W => diIsOpen x W)
      have HPl := Lib.hid (fun W => diHasPlaces x W)
      have hst := fit_of x l k hx
      obtain ⟨ft, hft⟩ : ∃ ft, x.fit = ft := ⟨_, rfl⟩
      rw [hft] at HPl hst
      obtain ⟨x1, x2, x3, x4, ⟨x5, x6, xp, xn, xc, xvs⟩, ⟨x8, x9, yp, yn, yc, yls⟩⟩ := x
      simp only [DSp.val] at HOp HPl cc hst
      have q0 := cc 0 _ (by omega) rfl
      have q1 := cc 1 _ (by omega) rfl
      have q2 := cc 2 _ (by omega) rfl
      have q3 := cc 3 _ (by omega) rfl
      have q4 := cc 4 _ (by omega) rfl
      have q5 := cc 5 _ (by omega) rfl
      have q6 := cc 6 _ (by omega) rfl
      have q7 := cc 7 _ (by omega) rfl
      have q8 := cc 8 _ (by omega) rfl
      have q9 := cc 9 _ (by omega) rfl
      rw [Nat.add_zero] at q0
      have HK := Lib.hid hkp
      have HB := Lib.hid hB
      have HC := Lib.hid hC
      have HSt := Lib.hid hst
      have sz := hkp.size
      clear hx hb hc hkp cc hst hB hC hft
      obtain ⟨V0, hV0⟩ : ∃ V0, wr.alloc (.cells #[.int .i64 x1, .int .i64 x2, .int .i64 x3, .int .i64 x4, .int .i64 x5, .int .u64 x6, .slice xp xn xc, .int .i64 x8, .int .u64 x9, .slice yp yn yc] 41) = V0 := ⟨_, rfl⟩
      have kV : Keeps [] wr V0 := by rw [← hV0]; exact (Keeps.refl _ _).alloc _
      have bV : Box V0 wr.heap.size #[.int .i64 x1, .int .i64 x2, .int .i64 x3, .int .i64 x4, .int .i64 x5, .int .u64 x6, .slice xp xn xc, .int .i64 x8, .int .u64 x9, .slice yp yn yc] := by rw [← hV0]; exact Box.new _ _ _
      have HKV := Lib.hid kV
      have HBV := Lib.hid bV
      have cx0 := bV.cells
      have hwb : wr.heap.size ∉ (Value.slice bp bn bc).ownBlock.toList := fun h => by have := (HB.out.lt _ (Option.mem_toList.1 h)).2; omega
      have hwc : wr.heap.size ∉ (Value.slice cp cn cm).ownBlock.toList := fun h => by have := (HC.out.lt _ (Option.mem_toList.1 h)).2; omega
      clear kV bV
      cases ft with
      | false =>
        simp only [Bool.false_eq_true, if_false, Bool.false_and, List.append_nil] at HSt
        go_wp2_with (go_at_call 31; refine (HPl.out _).mono ?_; rintro e w1 ⟨rfl, k1⟩)
        go_roundw
        case rel =>
          refine ⟨k + 1, bp, bn, bc, cp, cn, cm, by omega, by go_num, rfl, rfl, Lib.hid ?_, ?_, ?_, hD, by omega, by omega, HK.out.trans (HKV.out.trans k1)⟩
          · rw [HSt.out.1, HSt.out.2]; exact hN.out
          · rw [HSt.out.1]; exact diOwnsKeeps HB.out (HKV.out.trans k1) (by simp)
          · rw [HSt.out.2]; exact diOwnsKeeps HC.out (HKV.out.trans k1) (by simp)
        case measure => simp [intOf]; omega
      | true =>
        simp only [if_true, Bool.true_and] at HSt
        by_cases ho : x4 < 0
        · have ho' : decide (x4 < 0) = true := by simpa using ho
          rw [ho'] at HOp HSt
          simp only [Bool.not_true, Bool.false_eq_true, if_false, List.append_nil] at HSt
          clear ho'
          go_wp2_with (first
            | (go_at_call 31; refine (HPl.out _).mono ?_; rintro e w1 ⟨rfl, k1⟩; have bx1 := Lib.hid (HBV.out.keeps k1 (by simp)); have cx := bx1.out.cells; have hB1 := Lib.hid (diOwnsKeeps HB.out (HKV.out.trans k1) (by simp)); have sz1 := (HKV.out.trans k1).size; have hK1 := Lib.hid (HKV.out.trans k1); clear k1)
            | (at_builtin; refine append_fresh rfl _ _ 25 rfl w.heap.size 3 _ 1 8 Try.underlying25 elemInt15 _ _ _ rfl hB1.out #[.int .i64 x3] rfl rfl (by simp [Value.oneCell']) (by omega) (by omega) ?_; intro v10 w10 own10 k10 f10 ne10; have hk10 : Keeps (Value.slice bp bn bc).ownBlock.toList w1 w10 := k10; have hf10 : ∀ g, v10.ownBlock = some g → (Value.slice bp bn bc).ownBlock = some g ∨ w1.heap.size ≤ g := f10; obtain ⟨p10, c10, rfl⟩ := (Sl.of_owns own10).len; have cz := (bx1.out.keeps hk10 hwb).cells)
            | (go_at_call 23; refine (HOp.out _).mono ?_; rintro e w3 ⟨rfl, k3⟩))
          go_roundw
          case rel =>
            refine ⟨k + 1, p10, bn + 1, c10, cp, cn, cm, by omega, by go_num, rfl, rfl, Lib.hid ?_, ?_, ?_, Lib.hid ?_, by omega, by omega, ?_⟩
            · rw [HSt.out.1, HSt.out.2, List.length_append]; exact ⟨by rw [hN.out.1]; rfl, hN.out.2⟩
            · rw [HSt.out.1, ints_snoc]; exact diOwnsKeeps own10 k3 (by simp)
            · rw [HSt.out.2]
              exact diOwnsKeeps (diOwnsKeeps (diOwnsKeeps HC.out hK1.out (by simp)) hk10 (fun g hg hm => hD.out g (Option.mem_toList.1 hm) hg)) k3 (by simp)
            · intro g hg hg'
              rcases hf10 g hg with h | h
              · exact hD.out g h hg'
              · have := (HC.out.lt g hg').2; omega
            · exact (HK.out.step (hK1.out.nil.trans hk10) (fun g hg => (HB.out.lt g (Option.mem_toList.1 hg)).1)).trans k3
          case measure => simp [intOf]; omega
        · have ho' : decide (x4 < 0) = false := by simpa using ho
          rw [ho'] at HOp HSt
          simp only [Bool.not_false, if_true] at HSt
          clear ho'
          go_wp2_with (first
            | (go_at_call 31; refine (HPl.out _).mono ?_; rintro e w1 ⟨rfl, k1⟩; have bx1 := Lib.hid (HBV.out.keeps k1 (by simp)); have cx := bx1.out.cells; have hB1 := Lib.hid (diOwnsKeeps HB.out (HKV.out.trans k1) (by simp)); have sz1 := (HKV.out.trans k1).size; have hK1 := Lib.hid (HKV.out.trans k1); clear k1)
            | (go_at_call 23; refine (HOp.out _).mono ?_; rintro e w3 ⟨rfl, k3⟩; have bx3 := Lib.hid ((bx1.out.keeps hk10 hwb).keeps k3 (by simp)); have cy := bx3.out.cells; have hC3 := Lib.hid (diOwnsKeeps (diOwnsKeeps (diOwnsKeeps HC.out hK1.out (by simp)) hk10 (fun g hg hm => hD.out g (Option.mem_toList.1 hm) hg)) k3 (by simp)); have sz3 := k3.size; have sz10 := hk10.size)
            | (at_builtin; refine append_fresh rfl _ _ 25 rfl w.heap.size 3 _ 1 8 Try.underlying25 elemInt15 _ _ _ rfl hC3.out #[.int .i64 x4] rfl rfl (by simp [Value.oneCell']) (by omega) (by omega) ?_; intro v20 w20 own20 k20 f20 ne20; have hk20 : Keeps (Value.slice cp cn cm).ownBlock.toList w3 w20 := k20; have hf20 : ∀ g, v20.ownBlock = some g → (Value.slice cp cn cm).ownBlock = some g ∨ w3.heap.size ≤ g := f20; obtain ⟨p20, c20, rfl⟩ := (Sl.of_owns own20).len)
            | (at_builtin; refine append_fresh rfl _ _ 25 rfl w.heap.size 3 _ 1 8 Try.underlying25 elemInt15 _ _ _ rfl hB1.out #[.int .i64 x3] rfl rfl (by simp [Value.oneCell']) (by omega) (by omega) ?_; intro v10 w10 own10 k10 f10 ne10; have hk10 : Keeps (Value.slice bp bn bc).ownBlock.toList w1 w10 := k10; have hf10 : ∀ g, v10.ownBlock = some g → (Value.slice bp bn bc).ownBlock = some g ∨ w1.heap.size ≤ g := f10; obtain ⟨p10, c10, rfl⟩ := (Sl.of_owns own10).len; have cz := (bx1.out.keeps hk10 hwb).cells))
          go_roundw
          case rel =>
            have hnot20 : ∀ g, (Value.slice p10 (bn + 1) c10).ownBlock = some g → g ∉ (Value.slice cp cn cm).ownBlock.toList := fun g hg hm => by
              have hm' := Option.mem_toList.1 hm
              rcases hf10 g hg with h | h
              · exact hD.out g h hm'
              · have := (HC.out.lt g hm').2; omega
            refine ⟨k + 1, p10, bn + 1, c10, p20, cn + 1, c20, by omega, by go_num, rfl, rfl, Lib.hid ?_, ?_, ?_, Lib.hid ?_, by omega, by omega, ?_⟩
            · rw [HSt.out.1, HSt.out.2, List.length_append, List.length_append]; exact ⟨by rw [hN.out.1]; rfl, by rw [hN.out.2]; rfl⟩
            · rw [HSt.out.1, ints_snoc]; exact diOwnsKeeps (diOwnsKeeps own10 k3 (by simp)) hk20 hnot20
            · rw [HSt.out.2, ints_snoc]; exact own20
            · intro g hg hg'
              rcases hf20 g hg' with h | h
              · exact hnot20 g hg (Option.mem_toList.2 h)
              · have := (own10.lt g hg).2; omega
            · exact ((HK.out.step (hK1.out.nil.trans hk10) (fun g hg => (HB.out.lt g (Option.mem_toList.1 hg)).1)).trans k3).step hk20 (fun g hg => (HC.out.lt g (Option.mem_toList.1 hg)).1)
          case measure => simp [intOf]; omega
    · obtain rfl : k = l.length := by omega
      rw [List.take_length] at hN hB hC
      have HSB := Lib.hid (sortInts_any (.slice bp bn bc) bn w.heap.size (diLos l) wr hB (by omega))
      have HSC := Lib.hid (fun W (hW : W.ownsRow w.heap.size 3 1 (.slice cp cn cm) cn (ints .i64 (diHis l))) => sortInts_any (.slice cp cn cm) cn w.heap.size (diHis l) W hW (by omega))
      have HB := Lib.hid hB
      have HC := Lib.hid hC
      have HK := Lib.hid hkp
      clear hB hC hkp
      go_wp2_with fail
      refine HSB.out.mono ?_
      rintro e w1 ⟨rfl, sl1, k1⟩
      have HC1 := Lib.hid (diOwnsKeeps HC.out k1 (fun g hg hm => hD.out g (Option.mem_toList.1 hm) hg))
      go_wp2_with fail
      refine (HSC.out _ HC1.out).mono ?_
      rintro e w2 ⟨rfl, sl2, k2⟩
      go_wp2_with fail
      (try simp only [Exit.inBlock, Exit.then])
      first | (refine bodyPost_ret (results_tmp2 rfl _ _ _) rfl ?_) | go_ret
      have s1 := slKeeps sl1 k2 (fun g hg hm => hD.out g hg (Option.mem_toList.1 hm))
      exact ⟨.slice bp bn bc, .slice cp cn cm, rfl, by rw [← hN.out.1]; exact s1, by rw [← hN.out.2]; exact sl2, (HK.out.step k1 (fun g hg => (HB.out.lt g (Option.mem_toList.1 hg)).1)).step k2 (fun g hg => (HC.out.lt g (Option.mem_toList.1 hg)).1)⟩
end Go.Proofs.Ytopombnehmfmcaa
