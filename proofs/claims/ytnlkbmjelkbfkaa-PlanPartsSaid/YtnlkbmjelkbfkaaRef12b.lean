import Derived.Test.YtnlkbmjelkbfkaaRef12
import Derived.Test.YtnlkbmjelkbfkaaRef9i
import Derived.Test.YtnlkbmjelkbfkaaFresh
/-
  Contract: the cells of a pool's memory, as the document says.
-/
namespace Go.Proofs.Ytnlkbmjelkbfkaa
set_option maxRecDepth 100000
set_option linter.unusedSimpArgs false
set_option linter.unusedVariables false
open Go.ChangeShapes Go.WideShapes Go.ChangeAt Go.RowKit

/-- make([]uint64, n). -/
theorem make_words (n : Nat) (h : n ≤ 100000) (w : World) : (Instr.makeSlice 50 (.int .i64 (n : Int)) (.int .i64 (n : Int))).run Try.prog w = .ok (.slice (some ⟨w.heap.size, 0, none⟩) n n) (w.alloc (.cells (madeCells (Value.int .u64 0).cells n) 58)) := by
  obtain ⟨i, hi, hz, hsz, hby⟩ := Elem.parts elemWord
  have hr := run_make (P := Try.prog) w 50 58 i (.int .u64 0) Try.underlying50 hi hz .i64 .i64 (n : Int) (n : Int) (by omega) (by omega) (by rw [hby]; omega) (by omega)
  rw [Int.toNat_natCast, hsz, Nat.mul_one] at hr
  exact hr
theorem made_owns (n : Nat) (h : n ≤ 100000) (w : World) (base : Nat) (hb : base ≤ w.heap.size) : (w.alloc (.cells (madeCells (Value.int .u64 0).cells n) 58)).ownsRow base 58 1 (.slice (some ⟨w.heap.size, 0, none⟩) n n) n (ints .u64 (List.replicate n 0)) := by
  have h1 := owns_lit w base (madeCells (Value.int .u64 0).cells n) 58 n hb (by simp [madeCells]) (by unfold maxLen; omega)
  have h2 := made_words n
  rw [Nat.mul_one] at h2
  rwa [h2] at h1

set_option maxHeartbeats 3200000 in
theorem refInit12_any (W K S N : Int) (w : World) (h : plRight W K S N) :
    Calls Try.prog 22 #[plV W K S N] w fun e w' => ∃ g c L, e = .returned (.slice (some ⟨g, 0, none⟩) L c) ∧ Row w' g 58 (ints .u64 (List.replicate (1 + W).toNat 0 ++ quRow N.toNat ++ List.replicate (W * (S + 2)).toNat 0)) ∧ L = (plCells W S N).toNat ∧ Keeps [] w w' ∧ w.heap.size ≤ g := by
  obtain ⟨h1, h2, h3, h4, h5, h6, h7⟩ := h
  obtain ⟨n, rfl⟩ : ∃ n : Nat, N = (n : Int) := ⟨N.toNat, by omega⟩
  obtain ⟨kk, hkk⟩ : ∃ kk : Nat, 1 + W = (kk : Int) := ⟨(1 + W).toNat, by omega⟩
  obtain ⟨m1, m2⟩ := mul_fits (W := W) (S := S) (by omega) h2 (by omega) (by omega)
  obtain ⟨jj, hjj⟩ : ∃ jj : Nat, W * (S + 2) = (jj : Int) := ⟨(W * (S + 2)).toNat, by omega⟩
  have hj0 : 0 < jj := by
    have : 0 < W * (S + 2) := Int.mul_pos (by omega) (by omega)
    omega
  have HH := Lib.hid (fun Wx => refHead12_any W K S n Wx h1 h2)
  have HI := Lib.hid (fun Wx => refInit9_any n Wx (by omega) (by omega))
  rw [hkk] at HH
  rw [hjj] at m2
  have hw1 : IntKind.i64.wrap (W * (S + 2)) = (jj : Int) := by rw [hjj]; exact IntWalk.i64_in _ (by omega)
  have hw2 : IntKind.i64.wrap (S + 2) = S + 2 := IntWalk.i64_in _ (by omega)
  have HL : Hid ((plCells W S (n : Int)).toNat = kk + (3 * n + 3) + jj) := Lib.hid (by unfold plCells; rw [hjj]; omega)
  rw [hkk, hjj, HL.out]
  simp only [Int.toNat_natCast]
  have hk17 : kk ≤ 17 := by omega
  have hmk := make_words kk (by omega)
  clear h5 hjj
  obtain ⟨W1, hW1⟩ : ∃ W1, w.alloc (.cells #[.int .i64 W, .int .i64 K, .int .i64 S, .int .i64 (n : Int)] 23) = W1 := ⟨_, rfl⟩
  have hb : Box W1 w.heap.size #[.int .i64 W, .int .i64 K, .int .i64 S, .int .i64 (n : Int)] := by rw [← hW1]; exact Box.new _ _ _
  have hk1 : Keeps [] w W1 := by rw [← hW1]; exact (Keeps.refl _ _).alloc _
  have HX := Lib.hid (fun Wx (k : Keeps [] W1 Wx) => show Wx.cell? ⟨w.heap.size, 0, none⟩ = some (.int .i64 W) ∧ Wx.cell? ⟨w.heap.size, 1, none⟩ = some (.int .i64 K) ∧ Wx.cell? ⟨w.heap.size, 2, none⟩ = some (.int .i64 S) ∧ Wx.cell? ⟨w.heap.size, 3, none⟩ = some (.int .i64 (n : Int)) from ⟨(hb.keeps k (by simp)).cells 0, (hb.keeps k (by simp)).cells 1, (hb.keeps k (by simp)).cells 2, (hb.keeps k (by simp)).cells 3⟩)
  obtain ⟨c0, c1, c2, c3⟩ := HX.out W1 (Keeps.refl _ _)
  have HK1 := Lib.hid hk1
  clear hb hk1
  have hzz : w.heap.size + 1 = W1.heap.size := by rw [← hW1]; simp
  obtain ⟨B0, hB0⟩ : ∃ B0, W1.heap.size = B0 := ⟨_, rfl⟩
  have HB0 := Lib.hid hB0
  go_enter Try.func22, Try.ntmps22
  have HKK : Hid (Keeps [] W1 W1) := Lib.hid (Keeps.refl _ _)
  go_wp2
  go_region_held3 (fun w' => w'.cell? ⟨w.heap.size, 0, none⟩ = some (.int .i64 W) ∧ w'.cell? ⟨w.heap.size, 1, none⟩ = some (.int .i64 K) ∧ w'.cell? ⟨w.heap.size, 2, none⟩ = some (.int .i64 S) ∧ w'.cell? ⟨w.heap.size, 3, none⟩ = some (.int .i64 (n : Int)))
    (first
      | exact ⟨by assumption, by assumption, by assumption, by assumption⟩
      | exact HX.out _ hk10
      | exact HX.out _ HKK.out
      | exact HX.out _ (HKK.out.alloc _)
      | fail)
    (first
      | (go_at_call 16; refine (HH.out _).mono ?_; rintro e w4 ⟨rfl, k4⟩; have HKN := Lib.hid (show Keeps [] W1 w4 from by first | exact HKK.out.trans k4.undrew | exact HKK.out.trans k4); (first | (have HKiN := Lib.hid (HKi.out.trans k4); clear HKi; have HKi := HKiN; clear HKiN) | skip); clear k4 HKK; have HKK := HKN; clear HKN)
      | (go_at_call 33; refine (HI.out _).mono ?_; rintro e wi ⟨gi, ci, rfl, hri, k4, hgi⟩; have HRi := Lib.hid hri; have HKi : Hid (Keeps [] wi wi) := Lib.hid (Keeps.refl _ _); have HKA := Lib.hid k4; have HBw := Lib.hid (show B0 ≤ _ from by rw [← HB0.out]; exact HKK.out.size); have HKN := Lib.hid (show Keeps [] W1 wi from by first | exact HKK.out.trans k4.undrew | exact HKK.out.trans k4 | exact (HKK.out.alloc _).trans k4); clear k4 HKK hri hgi; have HKK := HKN; clear HKN)
      | (refine step_append_sl (by rfl) _ _ 50 (by rfl) B0 58 _ 1 8 Try.underlying50 elemWord (.slice (some ⟨w4.heap.size, 0, none⟩) kk kk) kk (ints .u64 (List.replicate kk 0)) (by rfl) (owns_keeps (made_owns kk (by omega) w4 B0 HBw.out) HKA.out (by simp)) (.slice (some ⟨gi, 0, none⟩) (3 * n + 3) ci) (3 * n + 3) (ints .u64 (quRow n)) (by rfl) (HRi.out.sl (by rw [ints_length, quRow_len]; omega)) (fun u hu => ints_oneCell .u64 _ u hu) (by omega) (by rw [← HB0.out]; exact HKK.out.size) ?_; intro v10 w10 own10 k10 f10 ne10; have hk10 : Keeps [] W1 w10 := HKK.out.step k10 (fun k hk => by rw [show k = _ from by simpa [Value.ownBlock] using hk, HB0.out]; exact HBw.out); have HOW := Lib.hid own10; clear own10 k10 f10 ne10)
      | (refine step_append_sl (by rfl) _ _ 50 (by rfl) B0 58 _ 1 8 Try.underlying50 elemWord (.slice (some ⟨w4.heap.size, 0, none⟩) kk kk) kk (ints .u64 (List.replicate kk 0)) (by rfl) (made_owns kk (by omega) w4 B0 (by rw [← HB0.out]; exact HKK.out.size)) (.slice (some ⟨gi, 0, none⟩) (3 * n + 3) ci) (3 * n + 3) (ints .u64 (quRow n)) (by rfl) ((HRi.out.keeps (HKi.out.alloc _) (by simp)).sl (by rw [ints_length, quRow_len]; omega)) (fun u hu => ints_oneCell .u64 _ u hu) (by omega) (by rw [← HB0.out]; exact (HKK.out.alloc _).size) ?_; intro v10 w10 own10 k10 f10 ne10; have hk10 : Keeps [] W1 w10 := (HKK.out.alloc _).step k10 (fun k hk => by rw [show k = _ from by simpa [Value.ownBlock] using hk]; exact HKK.out.size); have HOW := Lib.hid own10; clear own10 k10 f10 ne10)
      | (refine step_append_sl (by rfl) _ _ 50 (by rfl) B0 58 _ 1 8 Try.underlying50 elemWord (.slice (some ⟨wi.heap.size, 0, none⟩) kk kk) kk (ints .u64 (List.replicate kk 0)) (by rfl) (made_owns kk (by omega) wi B0 (by rw [← HB0.out]; exact HKK.out.size)) (.slice (some ⟨gi, 0, none⟩) (3 * n + 3) ci) (3 * n + 3) (ints .u64 (quRow n)) (by rfl) ((HRi.out.keeps (HKi.out.alloc _) (by simp)).sl (by rw [ints_length, quRow_len]; omega)) (fun u hu => ints_oneCell .u64 _ u hu) (by omega) (by rw [← HB0.out]; exact (HKK.out.alloc _).size) ?_; intro v10 w10 own10 k10 f10 ne10; have hk10 : Keeps [] W1 w10 := (HKK.out.alloc _).step k10 (fun k hk => by rw [show k = _ from by simpa [Value.ownBlock] using hk]; exact HKK.out.size); have HOW := Lib.hid own10; clear own10 k10 f10 ne10)
      | fail)
  all_goals
    obtain ⟨q0, q1, q2, q3⟩ := HX.out _ hk10
    have HK10 := Lib.hid hk10
    have hsz10 : B0 ≤ w10.heap.size := by rw [← HB0.out]; exact hk10.size
    go_wp2_with (at_builtin; refine append_zeros rfl _ _ 50 3 rfl B0 58 (.int .u64 0) 1 8 .i64 .i64 Try.underlying50 Try.underlying3 elemWord _ (kk + (3 * n + 3)) _ rfl HOW.out jj hj0 _ rfl rfl (by rw [zeroCells_u64]; exact ints_oneCell .u64 _) (by omega) hsz10 ?_; intro v11 w11 ho11 hg11; rw [zeroCells_u64, ints_app, ints_app] at ho11; have HB11 : Hid (Below B0 w10 w11) := Lib.hid ((Below.refl _ _).grown hg11 hsz10 (fun k hk => (HOW.out.lt k hk).1)); have hl11 := owns_some ho11 (by omega); clear hg11 ho11)
    obtain ⟨g, c, rfl, hr11, hgb⟩ := hl11
    have HR11 := Lib.hid hr11
    have HK11 : Hid (Keeps [] W1 w11) := Lib.hid (Keeps.of_below ((HK10.out.below (by have := HB0.out; omega) (by simp)).trans HB11.out) (by have := HB0.out; omega))
    clear hr11 hk10
    go_ret
    refine ⟨g, c, _, rfl, HR11.out, rfl, HK1.out.trans HK11.out, ?_⟩
    have := HB0.out
    omega
end Go.Proofs.Ytnlkbmjelkbfkaa
