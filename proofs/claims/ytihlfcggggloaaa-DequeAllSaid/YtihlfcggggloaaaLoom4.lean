/-
  Contracts: Start, Parked, Pick.
-/
import Derived.Test.YtihlfcggggloaaaLoom3
namespace Go.Proofs.Ytihlfcggggloaaa
set_option maxRecDepth 100000
open Go.ChangeShapes Go.WideShapes Go.ChangeAt Go.RowKit

theorem start_nil (who : Int) (v : Value) (w : World) :
    Calls Try.prog 16 #[.pointer none, .int .i64 who, v] w fun e w' => e = .returned (.int .i64 1) ∧ w = w' := by
  go_enter Try.func16, Try.ntmps16
  go_wp2
  go_ret
  exact ⟨rfl, rfl⟩
theorem start_nilWalk (l : Nat) (who : Int) (w : World) :
    Calls Try.prog 16 #[.pointer (some ⟨l, 0, none⟩), .int .i64 who, .pointer none] w fun e w' => e = .returned (.int .i64 1) ∧ w = w' := by
  go_enter Try.func16, Try.ntmps16
  go_wp2
  go_ret
  exact ⟨rfl, rfl⟩
set_option maxHeartbeats 800000 in
/-- A worker that isn't busy gets a walk that was made since w0; others wrote blocks of D meanwhile. -/
theorem start_more (D : Nat → Prop) (L : LSt) (who : Nat) (o : Option Strand) (t : Strand) (S X : List Nat) (w0 w : World) (h : Loom D w0 L) (hk : Keeps X w0 w) (hX : ∀ k ∈ X, D k) (hXm : L.mm ∉ X) (ho : L.ts[who]? = some o) (hb : busy o = false) (hI : t.I w S t.s) (hS : ∀ k ∈ S, w0.heap.size ≤ k) :
    Calls Try.prog 16 #[.pointer (some ⟨L.l, 0, none⟩), .int .i64 (who : Int), .pointer (some ⟨t.m, 0, none⟩)] w fun e w' => e = .returned (.int .i64 0) ∧ Loom D w' { L with ts := L.ts.set who (some t) } ∧ Keeps [L.g] w w' := by
  have hlt := (List.getElem?_eq_some_iff.1 ho).1
  have hL := h.apart hk hX hXm
  have HH := Lib.hid (has_yes D L who w hL hlt)
  have HB := busy_at D L who o w hL ho
  rw [hb] at HB
  have HBu := Lib.hid HB
  have hf := h.few
  have H0 := Lib.hid h
  have HK := Lib.hid hk
  have HX := Lib.hid hX
  have HI := Lib.hid hI
  have HS := Lib.hid hS
  have HO := Lib.hid ho
  have HL := Lib.hid hL
  have HLT := Lib.hid hlt
  clear h hk ho hb hI hS hL HB hX hXm
  go_enter Try.func16, Try.ntmps16
  go_wp2_with fail
  refine HH.out.mono ?_
  rintro e w1 ⟨rfl, rfl⟩
  go_wp2_with fail
  refine HBu.out.mono ?_
  rintro e w1 ⟨rfl, k1⟩
  have hL1 := HL.out.keeps k1
  obtain ⟨cap, -, c1, -⟩ := hL1.cells
  have ct := hL1.threadAt HO.out
  have cf := hL1.row.frozen who
  have HQ : Hid (Loom D w1 L ∧ Keeps [] w w1) := Lib.hid ⟨hL1, k1⟩
  rw [thread] at ct
  clear hL1 k1 HH HBu
  go_wp2
  go_ret
  obtain ⟨hL1, k1⟩ := HQ.out
  obtain ⟨F, f1, f2, f3⟩ := H0.out.at_
  have h0lt := H0.out.lts
  have h0m := H0.out.mem.lt.1
  have hdom := H0.out.dom
  have hkk := HK.out.trans (k1.nil (S := X))
  refine ⟨rfl, hL1.setThread HO.out t S (t.runs.frame HI.out k1 (by simp)) (fun k hk => ?_) ⟨F, fun i u _ hu => u.runs.frame (f1 i u hu) hkk (fun k hk hm => (f3 i k hk).1 (HX.out k hm)), f2, fun i k hk => ⟨(f3 i k hk).1, Nat.lt_of_lt_of_le (f3 i k hk).2.1 hkk.size, (f3 i k hk).2.2⟩, fun i _ k hk hkF => ?_⟩, ?_⟩
  · have := HS.out k hk
    exact ⟨fun hd => by have := hdom k hd; omega, by omega, by omega, by omega, by omega⟩
  · have := HS.out k hk
    have := (f3 i k hkF).2.1
    omega
  · exact k1.nil.setCell (fun _ => by simp) _
/-- A worker that isn't busy gets a walk that was made since w0. -/
theorem start_at (D : Nat → Prop) (L : LSt) (who : Nat) (o : Option Strand) (t : Strand) (S : List Nat) (w0 w : World) (h : Loom D w0 L) (hk : Keeps [] w0 w) (ho : L.ts[who]? = some o) (hb : busy o = false) (hI : t.I w S t.s) (hS : ∀ k ∈ S, w0.heap.size ≤ k) :
    Calls Try.prog 16 #[.pointer (some ⟨L.l, 0, none⟩), .int .i64 (who : Int), .pointer (some ⟨t.m, 0, none⟩)] w fun e w' => e = .returned (.int .i64 0) ∧ Loom D w' { L with ts := L.ts.set who (some t) } ∧ Keeps [L.g] w w' :=
  start_more D L who o t S [] w0 w h hk (by simp) (by simp) ho hb hI hS


theorem pick_nil (who : Int) (w : World) :
    Calls Try.prog 18 #[.pointer none, .int .i64 who] w fun e w' => e = .returned (.int .i64 1) ∧ Keeps [] w w' := by
  have HW := Lib.hid (wanted_nil who w)
  go_enter Try.func18, Try.ntmps18
  go_wp2_with fail
  refine HW.out.mono ?_
  rintro e w1 ⟨rfl, k1⟩
  go_wp2
  go_ret
  exact ⟨rfl, k1.alloc _⟩
theorem pick_place (D : Nat → Prop) (L : LSt) (who : Int) (w : World) (h : Loom D w L) (hw : who < 0 ∨ (L.ts.length : Int) ≤ who) :
    Calls Try.prog 18 #[.pointer (some ⟨L.l, 0, none⟩), .int .i64 who] w fun e w' => e = .returned (.int .i64 3) ∧ Keeps [] w w' := by
  have HW := Lib.hid (wanted_place D L who w h hw)
  clear h hw
  go_enter Try.func18, Try.ntmps18
  go_wp2_with fail
  refine HW.out.mono ?_
  rintro e w1 ⟨rfl, k1⟩
  go_wp2
  go_ret
  exact ⟨rfl, k1.alloc _⟩
theorem pick_idle (D : Nat → Prop) (L : LSt) (who : Nat) (o : Option Strand) (w : World) (h : Loom D w L) (ho : L.ts[who]? = some o) (hn : o.bind Strand.want = none) :
    Calls Try.prog 18 #[.pointer (some ⟨L.l, 0, none⟩), .int .i64 (who : Int)] w fun e w' => e = .returned (.int .i64 10) ∧ Keeps [] w w' := by
  have HW := Lib.hid (wanted_idle D L who o w h ho hn)
  clear h ho hn
  go_enter Try.func18, Try.ntmps18
  go_wp2_with fail
  refine HW.out.mono ?_
  rintro e w1 ⟨rfl, k1⟩
  go_wp2
  go_ret
  exact ⟨rfl, k1.alloc _⟩
theorem waits_any (D : Nat → Prop) (L : LSt) (x : C.Acc) (W : World) (hW : Loom D W L) (hx : x.ok) :
    Calls Try.prog 34 #[.pointer (some ⟨L.l, 0, none⟩), .agg #[.int .i64 x.k, .int .i64 x.c, .int .u64 x.a, .int .u64 x.b]] W fun e w' => e = .returned (.bool (parks L.us x)) ∧ Loom D w' L ∧ Keeps [L.b] W w' := by
  by_cases hk : x.k = 7
  · exact waits_7 D L x W hW hx hk
  · exact (waits_not L.l x W hk).mono fun e w' ⟨he, k⟩ => ⟨by rw [he]; simp [parks, hk], hW.keeps k, k.nil⟩
set_option maxRecDepth 100000 in
set_option maxHeartbeats 800000 in
theorem pick_parked (D : Nat → Prop) (L : LSt) (who : Nat) (o : Option Strand) (x : C.Acc) (w : World) (h : Loom D w L) (ho : L.ts[who]? = some o) (hn : o.bind Strand.want = some x) (hx : x.ok) (hp : parks L.us x = true) :
    Calls Try.prog 18 #[.pointer (some ⟨L.l, 0, none⟩), .int .i64 (who : Int)] w fun e w' => e = .returned (.int .i64 11) ∧ Loom D w' L ∧ Keeps [L.b] w w' := by
  have HW := Lib.hid (wanted_some D L who o x w h ho hn)
  have HWa := fun W hW => waits_any D L x W hW hx
  rw [hp] at HWa
  have HWa := Lib.hid HWa
  have HL := Lib.hid h
  obtain ⟨xk, xc, xa, xb⟩ := x
  simp only at HW HWa
  clear h ho hn hx hp
  go_enter Try.func18, Try.ntmps18
  go_wp2_with fail
  refine HW.out.mono ?_
  rintro e w1 ⟨rfl, k1⟩
  have HL1 := Lib.hid (HL.out.keeps k1)
  have HK1 := Lib.hid k1
  clear k1 HW HL
  go_wp2_with fail
  generalize hW : World.alloc _ _ = W2
  have k2 : Keeps [] w1 W2 := by rw [← hW]; exact (Keeps.refl _ _).alloc _
  refine (HWa.out W2 (HL1.out.keeps k2)).mono ?_
  rintro e w3 ⟨rfl, hL3, k3⟩
  have HR := Lib.hid (⟨hL3, (HK1.out.trans k2).nil.trans k3⟩ : _ ∧ _)
  clear hW k2 hL3 k3 HL1 HK1
  go_wp2
  go_ret
  exact ⟨rfl, HR.out⟩
set_option maxRecDepth 100000 in
set_option maxHeartbeats 1600000 in
theorem pick_fine (D : Nat → Prop) (L : LSt) (who : Nat) (t : Strand) (x : C.Acc) (w : World) (h : Loom D w L) (ho : L.ts[who]? = some (some t)) (hn : t.want = some x) (hx : x.ok) (hc : C.code L.us x = 0) (hp : parks L.us x = false) (hs : L.steps ≤ 1000000000000) :
    Calls Try.prog 18 #[.pointer (some ⟨L.l, 0, none⟩), .int .i64 (who : Int)] w fun e w' => e = .returned (.int .i64 0) ∧ Loom D w' (L.after who t x) ∧ Held D w w' := by
  have HW := Lib.hid (wanted_some D L who (some t) x w h ho hn)
  have HWa := fun W hW => waits_any D L x W hW hx
  rw [hp] at HWa
  have HWa := Lib.hid HWa
  have HSt := Lib.hid (fun W hW => step_any D L who t x W hW ho hx hc)
  have HL := Lib.hid h
  have hlt := (List.getElem?_eq_some_iff.1 ho).1
  have hf := h.few
  have hbase := Lib.hid h.base
  have hlts := Lib.hid h.dom
  have HO := Lib.hid ho
  obtain ⟨M, hM⟩ : ∃ M : LSt, { L with us := C.next L.us x, ts := L.ts.set who (some (t.go (C.told L.us x) (C.won L.us x))) } = M := ⟨_, rfl⟩
  have HA : Hid (L.after who t x = { M with steps := L.steps + 1 } ∧ M.l = L.l ∧ M.steps = L.steps) := Lib.hid (by rw [← hM]; exact ⟨rfl, rfl, rfl⟩)
  rw [hM] at HSt
  obtain ⟨xk, xc, xa, xb⟩ := x
  simp only at HW HWa HSt
  clear h ho hn hx hp hM hc
  go_enter Try.func18, Try.ntmps18
  go_wp2_with fail
  refine HW.out.mono ?_
  rintro e w1 ⟨rfl, k1⟩
  have HL1 := Lib.hid (HL.out.keeps k1)
  have HK1 := Lib.hid k1
  have hbz : w1.heap.size = w1.heap.size := rfl
  clear k1 HW HL
  go_wp2_with fail
  generalize hW : World.alloc _ _ = W2
  have k2 : Keeps [] w1 W2 := by rw [← hW]; exact (Keeps.refl _ _).alloc _
  have r2 : Row W2 w1.heap.size 73 [.int .i64 xk, .int .i64 xc, .int .u64 xa, .int .u64 xb] := by rw [← hW]; exact Row.new _ _ _
  have hbw : w1.heap.size ≠ L.b := by have := HL1.out.lts; omega
  refine (HWa.out W2 (HL1.out.keeps k2)).mono ?_
  rintro e w3 ⟨rfl, hL3, k3⟩
  have r3 := r2.keeps k3 (by simpa using hbw)
  have b0 := r3.cell (j := 0) rfl
  have b1 := r3.cell (j := 1) rfl
  have b2 := r3.cell (j := 2) rfl
  have b3 := r3.cell (j := 3) rfl
  obtain ⟨cap, -, c1, -⟩ := hL3.cells
  have ct := hL3.threadAt HO.out
  simp only [thread, Option.map_some] at ct
  have HR := Lib.hid (⟨hL3, (HK1.out.trans k2).nil.trans k3⟩ : Loom D w3 L ∧ Keeps [L.b] w w3)
  clear hW k2 r2 r3 hL3 k3 HL1 HK1 HWa hbz
  go_wp2
  go_still_tail 9, (by kernel_rfl)
  change wpList _ _ _ _ _ w3.drew
  go_wp2_with fail
  refine (HSt.out w3.drew (HR.out.1.keeps (Keeps.refl _ _).drew)).mono ?_
  rintro e w4 ⟨rfl, hM4, b4⟩
  have hm4 : M.l = L.l := HA.out.2.1
  have hm5 : M.steps = L.steps := HA.out.2.2
  obtain ⟨cap4, d0, d1, d2⟩ := hM4.cells
  rw [hm4] at d0 d1 d2
  rw [hm5] at d2
  obtain ⟨cap5, hh4⟩ := hM4.head
  have df := hh4.frozen 2
  rw [hm4] at df
  have HM := Lib.hid (⟨hM4, b4.os, b4.tape, b4.output, b4.size, b4.block⟩ : Loom D w4 M ∧ Held D w3 w4)
  clear b0 b1 b2 b3 c1 ct hh4 hM4 b4
  go_wp2
  go_ret
  obtain ⟨hM4, b4⟩ := HM.out
  have hst := hM4.step (L.steps + 1)
  rw [show ((L.steps + 1 : Nat) : Int) = (L.steps : Int) + 1 by omega] at hst
  rw [HA.out.1, ← hm4]
  have hz4 := hM4.base.1
  refine ⟨rfl, hst, ?_⟩
  exact ((HR.out.2.held hlts.out (fun k hk => by simp at hk; subst hk; exact hbase.out.2.2)).trans b4).trans (((Keeps.refl [M.l] w4).setCell (fun _ => by simp) _).held hM4.dom (fun k hk => by simp at hk; subst hk; exact hz4))
end Go.Proofs.Ytihlfcggggloaaa
