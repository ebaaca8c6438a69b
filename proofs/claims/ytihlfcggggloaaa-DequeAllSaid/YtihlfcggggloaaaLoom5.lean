/-
  Contracts: Alone.
-/
import Derived.Test.YtihlfcggggloaaaLoom4
namespace Go.Proofs.Ytihlfcggggloaaa
set_option maxRecDepth 100000
open Go.ChangeShapes Go.WideShapes Go.ChangeAt Go.RowKit

/-- A worker's pick does a step, and makes L to M. -/
structure OneStep (who : Nat) (L M : LSt) : Prop where
  ex : ∃ (t : Strand) (x : C.Acc), L.ts[who]? = some (some t) ∧ t.want = some x ∧ x.ok ∧ C.code L.us x = 0 ∧ parks L.us x = false ∧ M = L.after who t x
theorem OneStep.l {who : Nat} {L M : LSt} (h : OneStep who L M) : M.l = L.l := by
  obtain ⟨t, x, -, -, -, -, -, rfl⟩ := h.ex; rfl
theorem OneStep.g {who : Nat} {L M : LSt} (h : OneStep who L M) : M.g = L.g := by
  obtain ⟨t, x, -, -, -, -, -, rfl⟩ := h.ex; rfl
theorem OneStep.steps {who : Nat} {L M : LSt} (h : OneStep who L M) : M.steps = L.steps + 1 := by
  obtain ⟨t, x, -, -, -, -, -, rfl⟩ := h.ex; rfl
theorem steps_l {who n : Nat} {Ls : Nat → LSt} (h : ∀ i, i < n → OneStep who (Ls i) (Ls (i + 1))) : ∀ i, i ≤ n → (Ls i).l = (Ls 0).l ∧ (Ls i).steps = (Ls 0).steps + i := by
  intro i
  induction i with
  | zero => intro _; exact ⟨rfl, rfl⟩
  | succ i ih =>
    intro hi
    have h1 := ih (by omega)
    have h2 := h i (by omega)
    exact ⟨h2.l.trans h1.1, by rw [h2.steps, h1.2]; omega⟩
theorem pick_step (D : Nat → Prop) (who : Nat) (L M : LSt) (w : World) (h : Loom D w L) (hs : OneStep who L M) (hn : L.steps ≤ 1000000000000) :
    Calls Try.prog 18 #[.pointer (some ⟨L.l, 0, none⟩), .int .i64 (who : Int)] w fun e w' => e = .returned (.int .i64 0) ∧ Loom D w' M ∧ Held D w w' := by
  obtain ⟨t, x, h1, h2, h3, h4, h5, rfl⟩ := hs.ex
  exact pick_fine D L who t x w h h1 h2 h3 h4 h5 hn

theorem alone_nil (who most : Int) (w : World) :
    Calls Try.prog 21 #[.pointer none, .int .i64 who, .int .i64 most] w fun e w' => e = .returned (.tuple #[.int .i64 0, .int .i64 1]) ∧ Keeps [] w w' := by
  have HW := Lib.hid (wanted_nil who w)
  go_enter Try.func21, Try.ntmps21
  go_wp2_with fail
  refine HW.out.mono ?_
  rintro e w1 ⟨rfl, k1⟩
  go_wp2
  go_ret2
  exact ⟨rfl, k1.alloc _⟩
theorem alone_idle (D : Nat → Prop) (L : LSt) (who : Nat) (most : Int) (o : Option Strand) (w : World) (h : Loom D w L) (ho : L.ts[who]? = some o) (hn : o.bind Strand.want = none) :
    Calls Try.prog 21 #[.pointer (some ⟨L.l, 0, none⟩), .int .i64 (who : Int), .int .i64 most] w fun e w' => e = .returned (.tuple #[.int .i64 0, .int .i64 10]) ∧ Keeps [] w w' := by
  have HW := Lib.hid (wanted_idle D L who o w h ho hn)
  clear h ho hn
  go_enter Try.func21, Try.ntmps21
  go_wp2_with fail
  refine HW.out.mono ?_
  rintro e w1 ⟨rfl, k1⟩
  go_wp2
  go_ret2
  exact ⟨rfl, k1.alloc _⟩
set_option maxRecDepth 100000 in
set_option maxHeartbeats 1600000 in
/-- n steps, and then the walk has ended. -/
theorem alone_ends (D : Nat → Prop) (who most n : Nat) (Ls : Nat → LSt) (o : Option Strand) (w : World) (h : Loom D w (Ls 0)) (h0 : 0 < n) (hn : n ≤ most) (hm : most ≤ 1000000) (hs : (Ls 0).steps ≤ 100000000000)
    (hst : ∀ i, i < n → OneStep who (Ls i) (Ls (i + 1))) (ho : (Ls n).ts[who]? = some o) (hw : o.bind Strand.want = none) (hb : busy o = false) :
    Calls Try.prog 21 #[.pointer (some ⟨(Ls 0).l, 0, none⟩), .int .i64 (who : Int), .int .i64 (most : Int)] w fun e w' => e = .returned (.tuple #[.int .i64 (n : Int), .int .i64 0]) ∧ Loom D w' (Ls n) ∧ Held D w w' := by
  have hl := steps_l hst
  obtain ⟨t0, x0, e1, e2, -⟩ := (hst 0 h0).ex
  have HW := Lib.hid (wanted_some D (Ls 0) who (some t0) x0 w h e1 e2)
  obtain ⟨l, hll⟩ : ∃ l, (Ls 0).l = l := ⟨_, rfl⟩
  rw [hll] at hl HW ⊢
  have HP : Hid (∀ i W, i < n → Loom D W (Ls i) → Calls Try.prog 18 #[.pointer (some ⟨l, 0, none⟩), .int .i64 (who : Int)] W fun e w' => e = .returned (.int .i64 0) ∧ Loom D w' (Ls (i + 1)) ∧ Held D W w') := Lib.hid fun i W hi hW => by
    have := pick_step D who _ _ W hW (hst i hi) (by have := (hl i (by omega)).2; omega)
    rwa [(hl i (by omega)).1] at this
  have HI : Hid (∀ W, Loom D W (Ls n) → Calls Try.prog 18 #[.pointer (some ⟨l, 0, none⟩), .int .i64 (who : Int)] W fun e w' => e = .returned (.int .i64 10) ∧ Keeps [] W w') := Lib.hid fun W hW => by
    have := pick_idle D _ who o W hW ho hw
    rwa [(hl n (Nat.le_refl _)).1] at this
  have HBu : Hid (∀ W, Loom D W (Ls n) → Calls Try.prog 15 #[.pointer (some ⟨l, 0, none⟩), .int .i64 (who : Int)] W fun e w' => e = .returned (.bool false) ∧ Keeps [] W w') := Lib.hid fun W hW => by
    have := busy_at D _ who o W hW ho
    rwa [(hl n (Nat.le_refl _)).1, hb] at this
  have HL := Lib.hid h
  have below : ∀ {a b : World} {M : LSt}, Loom D a M → Keeps [] a b → Held D a b := fun ha hk => hk.held ha.dom (by simp)
  obtain ⟨xk, xc, xa, xb⟩ := x0
  clear h hst ho hw hb hs hl e1 e2 hll
  go_enter Try.func21, Try.ntmps21
  go_wp2_with fail
  refine HW.out.mono ?_
  rintro e w1 ⟨rfl, k1⟩
  have HK1 := Lib.hid k1
  clear k1 HW
  go_wp2
  go_loopw [10, 11] (fun d l wr => ∃ i : Nat, i ≤ n ∧ d = .int .i64 (i : Int) ∧ (l = .int .i64 0 ∨ (i = n ∧ l = .int .i64 10)) ∧ Loom D wr (Ls i) ∧ Held D w wr) (fun d l _ => (n - (intOf d).toNat) * 2 + (if intOf l = 0 then 1 else 0))
  case atStart =>
    have k := HK1.out.alloc (.cells #[.int .i64 xk, .int .i64 xc, .int .u64 xa, .int .u64 xb] 73)
    exact ⟨0, Nat.zero_le _, rfl, .inl rfl, HL.out.keeps k, below HL.out k⟩
  case round =>
    obtain ⟨i, hi, rfl, hlast, hL, hb⟩ := hrel
    have HLi := Lib.hid hL
    have HBi := Lib.hid hb
    clear hL hb
    have hsz : w.heap.size ≤ wr.heap.size := HBi.out.size
    rcases hlast with rfl | ⟨rfl, rfl⟩
    · by_cases hlt : i < most
      · by_cases hin : i < n
        · go_wp2_with fail
          refine (HP.out i wr hin HLi.out).mono ?_
          rintro e w2 ⟨rfl, hL2, hb2⟩
          have HR := Lib.hid (⟨hL2, HBi.out.trans hb2⟩ : _ ∧ _)
          clear hL2 hb2
          go_wp2
          go_roundw
          case rel => exact ⟨i + 1, by omega, by go_num, .inl rfl, HR.out⟩
          case measure => simp [intOf]; omega
        · obtain rfl : n = i := by omega
          go_wp2_with fail
          refine (HI.out wr HLi.out).mono ?_
          rintro e w2 ⟨rfl, k2⟩
          have HR := Lib.hid (⟨HLi.out.keeps k2, HBi.out.trans (below HLi.out k2)⟩ : Loom D w2 (Ls n) ∧ Held D w w2)
          clear k2
          go_wp2
          go_roundw
          case rel => exact ⟨n, by omega, rfl, .inr ⟨rfl, rfl⟩, HR.out⟩
          case measure => simp [intOf]
      · obtain rfl : n = i := by omega
        go_wp2_with fail
        refine (HBu.out wr HLi.out).mono ?_
        rintro e w2 ⟨rfl, k2⟩
        have HR := Lib.hid (⟨HLi.out.keeps k2, HBi.out.trans (below HLi.out k2)⟩ : Loom D w2 (Ls n) ∧ Held D w w2)
        clear k2
        go_wp2
        go_ret2
        exact ⟨rfl, HR.out⟩
    · go_wp2_with fail
      refine (HBu.out wr HLi.out).mono ?_
      rintro e w2 ⟨rfl, k2⟩
      have HR := Lib.hid (⟨HLi.out.keeps k2, HBi.out.trans (below HLi.out k2)⟩ : Loom D w2 (Ls i) ∧ Held D w w2)
      clear k2
      go_wp2
      go_ret2
      exact ⟨rfl, HR.out⟩
end Go.Proofs.Ytihlfcggggloaaa
