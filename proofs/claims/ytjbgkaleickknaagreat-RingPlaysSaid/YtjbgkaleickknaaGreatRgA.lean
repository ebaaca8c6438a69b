import Derived.Test.YtjbgkaleickknaaGreatRgS
import Derived.Test.YtjbgkaleickknaaGreatStart
import Derived.Test.YtjbgkaleickknaaGreatMem3
import Derived.Test.YtjbgkaleickknaaGreatLd
import Derived.Test.YtjbgkaleickknaaGreatLook
import Derived.Deep.CutRange
import Derived.Deep.CutBlock
/-
  The chapter's example of layer 8.
-/
namespace Go.Proofs.YtjbgkaleickknaaGreat
set_option maxRecDepth 100000
set_option linter.unusedSimpArgs false
set_option linter.unusedVariables false
open Go.ChangeShapes Go.WideShapes Go.ChangeAt Go.RowKit

/-- A new walk of a worker who isn't busy: it is started, and goes to its end alone; what it tells is known. -/
theorem Solo.begunR {σ : Type} {K : Mach σ} {I : World → List Nat → σ → Prop} {m : Nat} {R : Runs K I m} {us' : List Int} {s s' : σ} {n : Nat} {L : LSt} (h : Solo K L.us s n us' s') (D : Nat → Prop) (who most : Nat) (r : Rs) (o : Option Strand) (S : List Nat) (w0 w1 : World) (hL : Loom D w0 L) (hk : Keeps [] w0 w1) (ho : L.ts[who]? = some o) (hb : busy o = false) (hI : I w1 S s) (hS : ∀ k ∈ S, w0.heap.size ≤ k)
    (h0 : 0 < n) (hn : n ≤ most) (hm : most ≤ 1000000) (hst : L.steps ≤ 100000000000) (hr : K.res s' = some r) :
    ∃ (L1 M : LSt) (o' : Option Strand), (M.l = L.l ∧ M.us = us' ∧ M.steps = L.steps + n ∧ M.ts[who]? = some o' ∧ busy o' = false ∧ o'.bind Strand.res = some r) ∧
      Calls Tryz.prog 11 #[.pointer (some ⟨L.l, 0, none⟩), .int .i64 (who : Int), .pointer (some ⟨m, 0, none⟩)] w1 (fun e w' => e = .returned (.int .i64 0) ∧ Loom D w' L1 ∧ Held D w0 w') ∧
      ∀ (w : World), Loom D w L1 → Calls Tryz.prog 18 #[.pointer (some ⟨L.l, 0, none⟩), .int .i64 (who : Int), .int .i64 (most : Int)] w fun e w' => e = .returned (.tuple #[.int .i64 (n : Int), .int .i64 0]) ∧ Loom D w' M ∧ Held D w w' := by
  have hlt := (List.getElem?_eq_some_iff.1 ho).1
  have hSt := start_at D L who o ⟨σ, K, I, m, R, s⟩ S w0 w1 hL hk ho hb hI hS
  refine ⟨{ L with ts := L.ts.set who (some ⟨σ, K, I, m, R, s⟩) }, LSt.ran { L with ts := L.ts.set who (some ⟨σ, K, I, m, R, s⟩) } who K I m R n us' s', some ⟨σ, K, I, m, R, s'⟩, ⟨rfl, rfl, rfl, ?_, by simp [busy, Strand.res, hr], by simp [Strand.res, hr]⟩, hSt.mono ?_, fun w hw => ?_⟩
  · show (List.set _ _ _)[who]? = _
    exact List.getElem?_set_self (by simpa using hlt)
  · rintro e w' ⟨rfl, a, b⟩
    exact ⟨rfl, a, (hk.held hL.dom (by simp)).trans (b.held (fun k hk' => Nat.lt_of_lt_of_le (hL.dom k hk') hk.size) (fun k hk' => by simp at hk'; subst hk'; exact hL.base.2.1))⟩
  · exact h.alone (I := I) (m := m) (R := R) D { L with ts := L.ts.set who (some ⟨σ, K, I, m, R, s⟩) } who most r w hw rfl (List.getElem?_set_self hlt) h0 hn hm hst hr

def rexUs (k : Nat) : List Int :=
  ([[0, 0, 0, 0, 0, 0, 0, 0, 0, 0, 0, 0], [0, 1, 1, 0, 0, 0, 0, 0, 0, 0, 0, 0], [0, 2, 1, 2, 0, 0, 0, 0, 0, 0, 0, 0], [0, 3, 1, 2, 3, 0, 0, 0, 0, 0, 0, 0], [0, 4, 1, 2, 3, 4, 0, 0, 0, 0, 0, 0],
    [8589934594, 4, 1, 2, 3, 4, 0, 0, 0, 0, 0, 0], [12884901891, 4, 1, 2, 3, 4, 0, 0, 0, 0, 0, 0], [17179869188, 4, 1, 2, 3, 4, 0, 0, 0, 0, 0, 0]] : List (List Int)).getD k []
def rexEnd (k : Nat) : RgS :=
  ([⟨0, 4, 1, 1, 0, 4, 0, 0, 0, 0, 0, [], some ⟨0, 0, []⟩⟩, ⟨0, 4, 1, 2, 0, 4, 0, 1, 0, 0, 0, [], some ⟨0, 0, []⟩⟩, ⟨0, 4, 1, 3, 0, 4, 0, 2, 0, 0, 0, [], some ⟨0, 0, []⟩⟩, ⟨0, 4, 1, 4, 0, 4, 0, 3, 0, 0, 0, [], some ⟨0, 0, []⟩⟩,
    ⟨0, 4, 1, 5, 0, 6, 0, 4, 0, 0, 2, [1, 2], some ⟨4, 0, [1, 2]⟩⟩] : List RgS).getD k ⟨0, 0, 0, 0, 0, 0, 0, 0, 0, 0, 0, [], none⟩
theorem rexPush (k : Nat) (hk : k < 5) : ∃ (n : Nat) (s' : RgS), 0 < n ∧ n ≤ 8 ∧ Solo ringM (rexUs k) (rgBegin 0 4 1 ((k : Int) + 1) 0 true) n (rexUs (k + 1)) s' ∧ ringM.res s' = some (if k = 4 then ⟨4, 0, [1, 2]⟩ else ⟨0, 0, []⟩) := by
  rcases (show k = 0 ∨ k = 1 ∨ k = 2 ∨ k = 3 ∨ k = 4 by omega) with rfl | rfl | rfl | rfl | rfl
  · exact ⟨4, rexEnd 0, by decide, by decide, soloRun_solo ringM 20 _ _ _ _ _ (by kernel_rfl), rfl⟩
  · exact ⟨4, rexEnd 1, by decide, by decide, soloRun_solo ringM 20 _ _ _ _ _ (by kernel_rfl), rfl⟩
  · exact ⟨4, rexEnd 2, by decide, by decide, soloRun_solo ringM 20 _ _ _ _ _ (by kernel_rfl), rfl⟩
  · exact ⟨4, rexEnd 3, by decide, by decide, soloRun_solo ringM 20 _ _ _ _ _ (by kernel_rfl), rfl⟩
  · exact ⟨5, rexEnd 4, by decide, by decide, soloRun_solo ringM 20 _ _ _ _ _ (by kernel_rfl), rfl⟩
theorem rexSteal : Solo ringM (rexUs 5) (rgBegin 0 4 3 0 6 true) 8 (rexUs 6) ⟨0, 4, 3, 0, 6, 9, 8589934595, 2, 0, 1, 0, [3], some ⟨0, 3, []⟩⟩ := soloRun_solo ringM 20 _ _ _ _ _ (by kernel_rfl)
theorem rexPop : Solo ringM (rexUs 6) (rgBegin 0 4 2 0 0 true) 4 (rexUs 7) ⟨0, 4, 2, 0, 0, 4, 12884901891, 0, 0, 0, 0, [], some ⟨0, 4, []⟩⟩ := soloRun_solo ringM 20 _ _ _ _ _ (by kernel_rfl)

set_option maxHeartbeats 6400000 in
theorem awake8 (w : World) :
    Calls Tryz.prog 4 #[] w fun e w' => e = .returned (.bool true) ∧ Below w.heap.size w w' := by
  obtain ⟨B, hB⟩ : ∃ B, w.heap.size = B := ⟨_, rfl⟩
  have NA := new_any 12 w (by omega) (by omega)
  rw [hB]
  go_enter Tryz.func4, Tryz.ntmps4
  go_wp2_with fail
  refine NA.mono ?_
  clear NA
  rintro e w2 ⟨m, b, rfl, hM, k2, hm, hb⟩
  rw [hB] at hm hb
  have HB2 := Lib.hid (show Below B w w2 from k2.below (by omega) (by simp))
  have HM2 := Lib.hid hM
  have s2 := HB2.out.size
  have hmlt := hM.lt
  clear hM k2
  go_wp2_with fail
  generalize hW : World.alloc _ _ = W3
  have k3 : Keeps [] w2 W3 := by rw [← hW]; exact ((Keeps.refl _ _).alloc _).alloc _
  have bx : Box W3 w2.heap.size #[.int .i64 0, .int .i64 4] := by rw [← hW]; exact (Box.new _ _ _).alloc _
  have bx2 : Box W3 (w2.heap.size + 1) #[.int .i64 6, .int .i64 4] := by rw [← hW]; have := Box.new (w2.alloc (.cells #[.int .i64 0, .int .i64 4] 33)) #[.int .i64 6, .int .i64 4] 33; simpa using this
  obtain ⟨ab, hab⟩ : ∃ ab, w2.heap.size = ab := ⟨_, rfl⟩
  rw [hab] at bx bx2 ⊢
  have HBx3 := Lib.hid bx
  have HBy3 := Lib.hid bx2
  have HM3 := Lib.hid (HM2.out.keeps k3 (by simp) (by simp))
  have HB3 := Lib.hid (HB2.out.trans (k3.below (by omega) (by simp)))
  have hablt := HBy3.out.lt
  have hbl3 := HM2.out.lt
  have hbl4 := HM3.out.lt
  clear hW bx bx2 k3 HM2 HB2
  have s3 := HB3.out.size
  -- the blocks that nobody writes
  obtain ⟨E, hE⟩ : ∃ E : Nat → Prop, (fun x => x < B ∨ x = ab ∨ x = ab + 1) = E := ⟨_, rfl⟩
  have HE : Hid ((∀ k, k < B → E k) ∧ E ab ∧ E (ab + 1) ∧ ∀ k, E k → k < B ∨ k = ab ∨ k = ab + 1) := Lib.hid (by rw [← hE]; exact ⟨fun k hk => .inl hk, .inr (.inl rfl), .inr (.inr rfl), fun k hk => hk⟩)
  clear hE
  have LN := loomNew_any E 1 m b (List.replicate 12 0) W3 HM3.out (by omega) (by omega) (fun k hk => by rcases HE.out.2.2.2 k hk with h | h | h <;> omega) (fun hk => by rcases HE.out.2.2.2 b hk with h | h | h <;> omega)
  refine LN.mono ?_
  clear LN
  rintro e w6 ⟨l, g, rfl, hL6, k6⟩
  have HL6 := Lib.hid hL6
  have HBx6 := Lib.hid (HBx3.out.keeps k6 (by simp))
  have HBy6 := Lib.hid (HBy3.out.keeps k6 (by simp))
  have HB6 := Lib.hid (HB3.out.trans (k6.below (by omega) (by simp)))
  have s6 := HB6.out.size
  have hab6 := HBy6.out.lt
  have HLt := Lib.hid (show ab < w6.heap.size ∧ ab + 1 < w6.heap.size from ⟨HBx6.out.lt, HBy6.out.lt⟩)
  clear hL6 k6 HBx3 HBy3 HB3 HM3
  go_wp2
  trace_state
  go_loopw [7] (fun i wr => ∃ k : Nat, k ≤ 5 ∧ i = .int .u64 ((k : Int) + 1) ∧ Held E w6 wr ∧ ∃ (L : LSt) (o : Option Strand),
    Loom E wr L ∧ L.l = l ∧ L.ts[0]? = some o ∧ busy o = false ∧ L.steps ≤ 8 * k ∧ L.us = rexUs k ∧ (k = 5 → o.bind Strand.res = some ⟨4, 0, [1, 2]⟩)) (fun i _ => 6 - (intOf i).toNat)
  case atStart => exact ⟨0, by omega, rfl, Held.refl _ _, _, none, HL6.out, rfl, rfl, rfl, Nat.le_refl _, rfl, by omega⟩
  case round =>
    obtain ⟨k, hk, rfl, hh, L, o, hL, hLl, ho, hbo, hst, hus, hres⟩ := hrel
    have hbx := HBx6.out.block hh.size (hh.block ab HE.out.2.1)
    have hby := HBy6.out.block hh.size (hh.block (ab + 1) HE.out.2.2.1)
    have b0 := hbx.cells 0
    have b1 := hbx.cells 1
    have d0 := hby.cells 0
    have d1 := hby.cells 1
    simp at b0 b1 d0 d1
    have HHr := Lib.hid hh
    have HL := Lib.hid hL
    have HBr := Lib.hid (hbx.lt)
    clear hh hL hbx hby
    by_cases hlt : k < 5
    · have hi6 : (k : Int) + 1 < 6 := by omega
      obtain ⟨n, s', n0, n8, hsolo, hover⟩ := rexPush k hlt
      have HSol := Lib.hid (show 0 < n ∧ n ≤ 8 ∧ Solo ringM L.us (rgBegin 0 4 1 ((k : Int) + 1) 0 true) n (rexUs (k + 1)) s' ∧ ringM.res s' = some (if k = 4 then ⟨4, 0, [1, 2]⟩ else ⟨0, 0, []⟩) from ⟨n0, n8, by rw [hus]; exact hsolo, hover⟩)
      clear n0 n8 hsolo hover hres
      go_wp2_with fail
      refine (rgPush_made 0 4 ((k : Int) + 1) wr (by decide) ⟨by omega, by omega⟩).mono ?_
      rintro e w1 ⟨mm, S, rfl, hI, k1, hS⟩
      rw [show decide (dqRight 0 4) = true from by decide] at hI
      obtain ⟨n0, n8, hsolo, hover⟩ := HSol.out
      obtain ⟨L1, M, o', hM, hSt, hAl⟩ := hsolo.begunR (I := LoneIO ringM (rgE mm) mm) (m := mm) (R := rgRuns mm) E 0 20 _ o S wr w1 HL.out k1 ho hbo hI hS n0 (by omega) (by omega) (by omega) hover
      rw [hLl] at hSt hAl
      have HSt := Lib.hid hSt
      have HAl := Lib.hid hAl
      have HNew : Hid (M.l = l ∧ M.ts[0]? = some o' ∧ busy o' = false ∧ M.steps ≤ 8 * (k + 1) ∧ M.us = rexUs (k + 1) ∧ (k + 1 = 5 → o'.bind Strand.res = some ⟨4, 0, [1, 2]⟩)) := Lib.hid
        ⟨hM.1.trans hLl, hM.2.2.2.1, hM.2.2.2.2.1, by have := hM.2.2.1; omega, hM.2.1, fun h => by rw [hM.2.2.2.2.2, if_pos (by omega)]⟩
      clear n0 n8 hsolo hover hM hSt hAl hI k1 hS
      go_wp2_with fail
      refine HSt.out.mono ?_
      rintro e w12 ⟨rfl, hL2, hh2⟩
      have HL2 := Lib.hid hL2
      have HH2 := Lib.hid (HHr.out.trans hh2)
      clear hL2 hh2
      go_wp2_with fail
      refine (HAl.out w12 HL2.out).mono ?_
      rintro e w13 ⟨rfl, hL3, hh3⟩
      have HL3 := Lib.hid hL3
      have HH3 := Lib.hid (HH2.out.trans hh3)
      clear hL3 hh3
      have hwv : IntKind.u64.wrap ((k : Int) + 1 + 1) = (k : Int) + 1 + 1 := by show ((k : Int) + 1 + 1) % 18446744073709551616 = _; omega
      go_wp2
      go_roundw
      case rel => exact ⟨k + 1, by omega, by go_num, HH3.out, M, o', HL3.out, HNew.out⟩
      case measure => first | (simp [intOf]; done) | (simp [intOf]; omega)
    · obtain rfl : k = 5 := by omega
      have HRes := Lib.hid (loomResult_at E L 0 o wr HL.out ho)
      have hre := hres rfl
      rw [hre] at HRes
      rw [hLl] at HRes
      clear hres hre
      go_wp2_with fail
      refine HRes.out.mono ?_
      rintro e w14 ⟨lv, rfl, hown, k14⟩
      simp only [Option.getD_some, Option.isSome_some] at hown ⊢
      obtain ⟨gl, cl, rfl⟩ : ∃ gl cl, lv = .slice (some ⟨gl, 0, none⟩) 2 cl := by
        rcases hown.2 with ⟨-, h⟩ | ⟨g, cap, cur, h, -⟩
        · simp at h
        · exact ⟨g, cap, h⟩
      have hrl := Row.of_owns hown
      obtain ⟨W15, hW15⟩ : ∃ W15, w14.alloc (.cells #[.int .i64 4, .int .u64 0, .slice (some ⟨gl, 0, none⟩) 2 cl] 48) = W15 := ⟨_, rfl⟩
      have k15 : Keeps [] w14 W15 := by rw [← hW15]; exact (Keeps.refl _ _).alloc _
      have r15 : Row W15 w14.heap.size 48 [.int .i64 4, .int .u64 0, .slice (some ⟨gl, 0, none⟩) 2 cl] := by rw [← hW15]; exact Row.new _ _ _
      have l15 := hrl.keeps k15 (by simp)
      have hL15 := (HL.out.keeps k14).keeps k15
      have hh15 := HHr.out.trans ((k14.trans k15).held (fun k hk => HL.out.dom k hk) (by simp))
      have e0 := r15.cell (j := 0) rfl
      have e1 := r15.cell (j := 1) rfl
      have e2 := r15.cell (j := 2) rfl
      have f0 : W15.cell? ⟨gl, 0, none⟩ = some (.int .u64 1) := l15.cell (j := 0) rfl
      have HL15 := Lib.hid hL15
      have HH15 := Lib.hid hh15
      have x15 := HBx6.out.block hh15.size (hh15.block ab HE.out.2.1)
      have y15 := HBy6.out.block hh15.size (hh15.block (ab + 1) HE.out.2.2.1)
      have b0' := x15.cells 0
      have b1' := x15.cells 1
      have d0' := y15.cells 0
      have d1' := y15.cells 1
      have hab15 := y15.lt
      simp at b0' b1' d0' d1'
      clear k14 k15 hL15 hh15 hrl r15 l15 hown x15 y15 b0 b1 d0 d1
      go_wp2_with fail
      clear e0 e1 e2 f0
      refine (rgSteal_made 0 4 6 4 W15 (by decide) (by decide)).mono ?_
      rintro e w16 ⟨mm, S, rfl, hI, k16, hS⟩
      rw [show decide (rgFeeds 0 4 6 4) = true from by decide] at hI
      obtain ⟨L1, M, o1, hM, hSt, hDo⟩ := Solo.begun (I := LoneIO ringM (rgE mm) mm) (m := mm) (R := rgRuns mm) (L := L) (hus ▸ rexSteal) E 0 20 0 3 o S W15 w16 HL15.out k16 ho hbo hI hS (by decide) (by decide) (by decide) (by omega) rfl
      rw [hLl] at hSt hDo
      have HSt := Lib.hid hSt
      have HAl := Lib.hid hDo.1
      have HRe := Lib.hid hDo.2
      have HNew : Hid (M.l = l ∧ M.ts[0]? = some o1 ∧ busy o1 = false ∧ M.steps ≤ 100 ∧ M.us = rexUs 6) := Lib.hid ⟨hM.1.trans hLl, hM.2.2.2.2.2.2.1, hM.2.2.2.2.2.2.2.1, by have := hM.2.2.2.2.2.1; omega, hM.2.2.2.2.1⟩
      clear hM hSt hDo hI k16 hS
      go_wp2_with fail
      refine HSt.out.mono ?_
      rintro e w17 ⟨rfl, hL2, hh2⟩
      have HL2 := Lib.hid hL2
      have HH2 := Lib.hid (HH15.out.trans hh2)
      clear hL2 hh2
      go_wp2_with fail
      refine (HAl.out E w17 HL2.out).mono ?_
      rintro e w18 ⟨rfl, hL3, hh3⟩
      have HL3 := Lib.hid hL3
      have HH3 := Lib.hid (HH2.out.trans hh3)
      clear hL3 hh3
      go_wp2_with fail
      refine (HRe.out E w18 HL3.out).mono ?_
      rintro e w19 ⟨q, c, rfl, k19⟩
      have hh19 := HH3.out.trans (k19.held (fun k hk => HL3.out.dom k hk) (by simp))
      obtain ⟨W20, hW20⟩ : ∃ W20, w19.alloc (.cells #[.int .i64 0, .int .u64 3, .slice q 0 c] 48) = W20 := ⟨_, rfl⟩
      have k20 : Keeps [] w19 W20 := by rw [← hW20]; exact (Keeps.refl _ _).alloc _
      have r20 : Row W20 w19.heap.size 48 [.int .i64 0, .int .u64 3, .slice q 0 c] := by rw [← hW20]; exact Row.new _ _ _
      have hz20 : w19.heap.size < W20.heap.size := r20.lt
      obtain ⟨z, hz⟩ : ∃ z, w19.heap.size = z := ⟨_, rfl⟩
      obtain ⟨E2, hE2⟩ : ∃ E2 : Nat → Prop, (fun x => E x ∨ x ∈ [z]) = E2 := ⟨_, rfl⟩
      have HE2 : Hid ((∀ k, E k → E2 k) ∧ E2 z) := Lib.hid (by rw [← hE2]; exact ⟨fun k hk => .inl hk, .inr (by simp)⟩)
      have hL20 : Loom E2 W20 M := by
        rw [← hE2]
        exact (HL3.out.keeps k19).widen k20 (fun k hk => by
          rcases hk with hk | hk
          · exact .inl hk
          · simp at hk; subst hk; exact .inr ⟨by omega, by omega⟩)
      clear hE2
      have hh20 := hh19.trans (k20.held (fun k hk => Nat.lt_of_lt_of_le (HL3.out.dom k hk) k19.size) (by simp))
      have x20 := HBx6.out.block hh20.size (hh20.block ab HE.out.2.1)
      have c20 := x20.cells 0
      have c21 := x20.cells 1
      simp at c20 c21
      have HL20 := Lib.hid hL20
      have HH20 := Lib.hid hh20
      have HR20 := Lib.hid r20
      have hab20 := x20.lt
      rw [hz] at HR20
      clear hh19 k19 k20 r20 hL20 hh20 x20 hz20
      go_wp2_with fail
      clear c20 c21
      refine (rgPop_made 0 4 W20 (by decide)).mono ?_
      rintro e w21 ⟨mm2, S2, rfl, hI, k21, hS⟩
      rw [show decide (dqRight 0 4) = true from by decide] at hI
      obtain ⟨L2, M2, o2, hM, hSt, hDo⟩ := Solo.begun (I := LoneIO ringM (rgE mm2) mm2) (m := mm2) (R := rgRuns mm2) (L := M) (HNew.out.2.2.2.2 ▸ rexPop) E2 0 20 0 4 o1 S2 W20 w21 HL20.out k21 HNew.out.2.1 HNew.out.2.2.1 hI hS (by decide) (by decide) (by decide) (by have := HNew.out.2.2.2.1; omega) rfl
      rw [HNew.out.1] at hSt hDo
      have HSt2 := Lib.hid hSt
      have HAl2 := Lib.hid hDo.1
      have HRe2 := Lib.hid hDo.2
      clear hM hSt hDo hI hS
      have HH21 := Lib.hid HH20.out
      clear k21
      go_wp2_with fail
      refine HSt2.out.mono ?_
      rintro e w22 ⟨rfl, hL4, hh4⟩
      have HL4 := Lib.hid hL4
      have HH4 := Lib.hid hh4
      clear hL4 hh4
      go_wp2_with fail
      refine (HAl2.out E2 w22 HL4.out).mono ?_
      rintro e w23 ⟨rfl, hL5, hh5⟩
      have HL5 := Lib.hid hL5
      have HH5 := Lib.hid (HH4.out.trans hh5)
      clear hL5 hh5
      go_wp2_with fail
      refine (HRe2.out E2 w23 HL5.out).mono ?_
      rintro e w24 ⟨q2, c2, rfl, k24⟩
      have hh24 : Held E2 W20 w24 := HH5.out.trans (k24.held (fun k hk => HL5.out.dom k hk) (by simp))
      obtain ⟨W25, hW25⟩ : ∃ W25, w24.alloc (.cells #[.int .i64 0, .int .u64 4, .slice q2 0 c2] 48) = W25 := ⟨_, rfl⟩
      have k25 : Keeps [] w24 W25 := by rw [← hW25]; exact (Keeps.refl _ _).alloc _
      have r25 : Row W25 w24.heap.size 48 [.int .i64 0, .int .u64 4, .slice q2 0 c2] := by rw [← hW25]; exact Row.new _ _ _
      have hh25 := hh24.trans (k25.held (fun k hk => Nat.lt_of_lt_of_le (HL5.out.dom k hk) k24.size) (by simp))
      have s25 := HR20.out.block (hh25.block z HE2.out.2)
      have e0 := s25.cell (j := 0) rfl
      have e1 := s25.cell (j := 1) rfl
      have g0 := r25.cell (j := 0) rfl
      have g1 := r25.cell (j := 1) rfl
      have HF := Lib.hid (show Below B w W25 from by
        have h1 := HB6.out
        have h2 : Held E w6 W25 := HH20.out.trans ⟨hh25.os, hh25.tape, hh25.output, hh25.size, fun k hk => hh25.block k (HE2.out.1 k hk)⟩
        exact h1.trans (h2.narrow (E := (· < B)) (fun k hk => HE.out.1 k hk)).below)
      clear k24 hh24 k25 r25 hh25 s25
      go_wp2
      go_ret
      exact ⟨rfl, HF.out⟩
end Go.Proofs.YtjbgkaleickknaaGreat
