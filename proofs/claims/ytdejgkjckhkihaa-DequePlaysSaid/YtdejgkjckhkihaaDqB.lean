/-
  The chapter's example of layer 7.
-/
import Derived.Test.YtdejgkjckhkihaaDqS
import Derived.Test.YtdejgkjckhkihaaDqA
import Derived.Test.YtdejgkjckhkihaaLook
import Derived.Deep.CutRange
import Derived.Deep.CutBlock
namespace Go.Proofs.Ytdejgkjckhkihaa
set_option maxRecDepth 100000
set_option linter.unusedSimpArgs false
set_option linter.unusedVariables false
open Go.ChangeShapes Go.WideShapes Go.ChangeAt Go.RowKit

/-- What All tells of the words of a deque at rest. -/
theorem DqL.all {size : Nat} {fr T : Int} {us xs : List Int} (h : DqL size fr T us xs) : dqAllOf 0 size us = some xs := by
  have hb := h.few
  have hz : (2 : Int) ≤ size ∧ (size : Int) ≤ 256 := by have := h.size_; unfold dqPow at this; omega
  unfold dqAllOf
  simp only [show (0 : Int).toNat = 0 from rfl, show ((0 : Int) + 1).toNat = 1 from rfl, h.top, h.bottom]
  rw [dqAhead_U fr _ _ (by omega) (by omega)]
  rw [show T + (xs.length : Int) - T = xs.length by omega, if_neg (by omega)]
  congr 1
  apply List.ext_getElem
  · simp
  · intro i h1 h2
    simp only [List.getElem_map, List.getElem_range]
    have hs := h.slots i h2
    unfold dqCell at hs
    have : (dqU fr T + (i : Int)) % 18446744073709551616 = dqU fr (T + i) := by unfold dqU; omega
    rw [this, hs]
    simp [List.getD, h2]

/-- An empty one. -/
theorem DqL.new {size : Nat} {fr : Int} {us : List Int} (hs : dqPow size) (hl : us.length = size + 2) (h0 : us.getD 0 0 = dqU fr 0) (h1 : us.getD 1 0 = dqU fr 0) : DqL size fr 0 us [] :=
  ⟨hs, hl, h0, by simpa using h1, by simp, by decide, fun i hi => by simp at hi, fun x hx => by simp at hx⟩

def exXs (k : Nat) : List Int := ([[], [1], [1, 2], [1, 2, 3], [2, 3], [2], [], []] : List (List Int)).getD k []
def exWant (k : Nat) : Int := ([0, 0, 0, 1, 3, 2, 0] : List Int).getD k 0
def exCode (k : Nat) : Int := if k = 6 then 5 else 0
theorem exStep (k : Nat) (hk : k < 7) {T : Int} {us : List Int} (h : DqL 4 0 T us (exXs k)) :
    ∃ (n : Nat) (us' : List Int) (s' : DqS) (T' : Int), 0 < n ∧ n ≤ 6 ∧ Solo dequeM us (if k < 3 then dqNew 0 4 1 (k + 1) else if k = 3 then dqNew 0 4 3 0 else dqNew 0 4 2 0) n us' s' ∧ s'.over = some ⟨exCode k, exWant k, []⟩ ∧ T' ≤ T + 1 ∧ DqL 4 0 T' us' (exXs (k + 1)) := by
  have push : ∀ (xs : List Int) (v : Int), M.U v → xs.length < 4 → DqL 4 0 T us xs → ∃ (n : Nat) (us' : List Int) (s' : DqS) (T' : Int), 0 < n ∧ n ≤ 6 ∧ Solo dequeM us (dqNew 0 4 1 v) n us' s' ∧ s'.over = some ⟨0, 0, []⟩ ∧ T' ≤ T + 1 ∧ DqL 4 0 T' us' (xs ++ [v]) := by
    intro xs v hv hl h
    obtain ⟨n, us', s', a, b, c, d⟩ := h.push v hv
    rcases d with ⟨d, -⟩ | ⟨-, d, e⟩
    · omega
    · exact ⟨n, us', s', T, a, b, c, d, by omega, e⟩
  have pop : ∀ (ys : List Int) (y : Int), DqL 4 0 T us (ys ++ [y]) → ∃ (n : Nat) (us' : List Int) (s' : DqS) (T' : Int), 0 < n ∧ n ≤ 6 ∧ Solo dequeM us (dqNew 0 4 2 0) n us' s' ∧ s'.over = some ⟨0, y, []⟩ ∧ T' ≤ T + 1 ∧ DqL 4 0 T' us' ys := by
    intro ys y h
    obtain ⟨n, us', s', a, b, c, d⟩ := h.pop
    rcases d with ⟨d, -⟩ | ⟨y', ys', d, e, T', f, g⟩
    · simp at d
    · have := List.append_inj' d rfl
      obtain ⟨rfl, h2⟩ := this
      simp at h2
      subst h2
      exact ⟨n, us', s', T', a, b, c, e, f, g⟩
  rcases (show k = 0 ∨ k = 1 ∨ k = 2 ∨ k = 3 ∨ k = 4 ∨ k = 5 ∨ k = 6 by omega) with rfl | rfl | rfl | rfl | rfl | rfl | rfl
  · exact push [] 1 ⟨by decide, by decide⟩ (by decide) h
  · exact push [1] 2 ⟨by decide, by decide⟩ (by decide) h
  · exact push [1, 2] 3 ⟨by decide, by decide⟩ (by decide) h
  · obtain ⟨n, us', s', a, b, c, d⟩ := h.steal
    rcases d with ⟨d, -⟩ | ⟨y, ys, d, e, f⟩
    · simp [exXs] at d
    · simp [exXs] at d
      obtain ⟨rfl, rfl⟩ := d
      exact ⟨n, us', s', T + 1, a, b, c, e, by omega, f⟩
  · exact pop [2] 3 h
  · exact pop [] 2 h
  · obtain ⟨n, us', s', a, b, c, d⟩ := h.pop
    rcases d with ⟨-, e, f⟩ | ⟨y, ys, d, -⟩
    · exact ⟨n, us', s', T, a, b, c, e, by omega, f⟩
    · simp [exXs] at d

set_option maxHeartbeats 6400000 in
theorem awake7 (w : World) :
    Calls Try.prog 7 #[] w fun e w' => e = .returned (.bool true) ∧ Below w.heap.size w w' := by
  obtain ⟨B, hB⟩ : ∃ B, w.heap.size = B := ⟨_, rfl⟩
  have NA := new_any 6 w (by omega) (by omega)
  rw [hB]
  go_enter Try.func7, Try.ntmps7
  go_wp2_with fail
  refine NA.mono ?_
  clear NA
  rintro e w2 ⟨m, b, rfl, hM, k2, hm, hb⟩
  rw [hB] at hm hb
  have HB2 := Lib.hid (show Below B w w2 from k2.below (by omega) (by simp))
  have HM2 := Lib.hid hM
  have s2 := HB2.out.size
  have hmlt := hM.lt
  clear hM k2
  go_wp2_with fail
  generalize hW : World.alloc _ _ = W3
  have k3 : Keeps [] w2 W3 := by rw [← hW]; exact (Keeps.refl _ _).alloc _
  have bx : Box W3 w2.heap.size #[.int .i64 0, .int .i64 4] := by rw [← hW]; exact Box.new _ _ _
  obtain ⟨ab, hab⟩ : ∃ ab, w2.heap.size = ab := ⟨_, rfl⟩
  rw [hab] at bx ⊢
  have HBx3 := Lib.hid bx
  have HM3 := Lib.hid (HM2.out.keeps k3 (by simp) (by simp))
  have HB3 := Lib.hid (HB2.out.trans (k3.below (by omega) (by simp)))
  have hablt := HBx3.out.lt
  have hbl3 := HM2.out.lt
  have hbl4 := HM3.out.lt
  clear hW bx k3 HM2 HB2
  have s3 := HB3.out.size
  -- the blocks that nobody writes
  obtain ⟨E, hE⟩ : ∃ E : Nat → Prop, (fun x => x < B ∨ x = ab) = E := ⟨_, rfl⟩
  have HE : Hid ((∀ k, k < B → E k) ∧ E ab ∧ ∀ k, E k → k < B ∨ k = ab) := Lib.hid (by rw [← hE]; exact ⟨fun k hk => .inl hk, .inr rfl, fun k hk => hk⟩)
  clear hE
  have LN := loomNew_any E 2 m b (List.replicate 6 0) W3 HM3.out (by omega) (by omega) (fun k hk => by rcases HE.out.2.2 k hk with h | h <;> omega) (fun hk => by rcases HE.out.2.2 b hk with h | h <;> omega)
  refine LN.mono ?_
  clear LN
  rintro e w6 ⟨l, g, rfl, hL6, k6⟩
  have HL6 := Lib.hid hL6
  have HBx6 := Lib.hid (HBx3.out.keeps k6 (by simp))
  have HB6 := Lib.hid (HB3.out.trans (k6.below (by omega) (by simp)))
  have s6 := HB6.out.size
  have hab6 := HBx6.out.lt
  clear hL6 k6 HBx3 HB3 HM3
  -- the numbers that are wanted
  obtain ⟨z, hz⟩ : ∃ z, w6.heap.size = z := ⟨_, rfl⟩
  obtain ⟨W7, hW7⟩ : ∃ W7, w6.alloc (.cells #[.int .u64 0, .int .u64 0, .int .u64 0, .int .u64 1, .int .u64 3, .int .u64 2, .int .u64 0] 38) = W7 := ⟨_, rfl⟩
  have k7 : Keeps [] w6 W7 := by rw [← hW7]; exact (Keeps.refl _ _).alloc _
  have r7 : Row W7 z 38 [.int .u64 0, .int .u64 0, .int .u64 0, .int .u64 1, .int .u64 3, .int .u64 2, .int .u64 0] := by rw [← hW7, ← hz]; exact Row.new _ _ _
  have hz7 : z < W7.heap.size := r7.lt
  have HL7 : Hid (Loom (fun x => E x ∨ x ∈ [z]) W7 ⟨l, g, m, b, List.replicate 6 0, List.replicate 2 none, 0⟩) := Lib.hid (HL6.out.widen k7 (fun k hk => by
    rcases hk with hk | hk
    · exact .inl hk
    · simp at hk; subst hk; exact .inr ⟨by omega, by omega⟩))
  have HBx7 := Lib.hid (HBx6.out.keeps k7 (by simp))
  have HB7 := Lib.hid (HB6.out.trans (k7.below (by omega) (by simp)))
  have HR7 := Lib.hid r7
  clear k7 r7 HL6 HBx6 HB6
  have hD : ∀ k, k < B → E k ∨ k ∈ [z] := fun k hk => .inl (HE.out.1 k hk)
  obtain ⟨D, hDD⟩ : ∃ D : Nat → Prop, (fun x => E x ∨ x ∈ [z]) = D := ⟨_, rfl⟩
  have HDs : Hid (D ab ∧ D z ∧ ∀ k, k < B → D k) := Lib.hid (by rw [← hDD]; exact ⟨.inl HE.out.2.1, .inr (by simp), hD⟩)
  rw [hDD] at HL7
  have HW2 : Hid (∀ k : Nat, k < 7 → ([Value.int .u64 0, .int .u64 0, .int .u64 0, .int .u64 1, .int .u64 3, .int .u64 2, .int .u64 0])[k]? = some (.int .u64 (exWant k))) := Lib.hid (by
    intro k hk
    rcases (show k = 0 ∨ k = 1 ∨ k = 2 ∨ k = 3 ∨ k = 4 ∨ k = 5 ∨ k = 6 by omega) with rfl | rfl | rfl | rfl | rfl | rfl | rfl <;> rfl)
  have HQ7 : Hid (DqL 4 0 0 (List.replicate 6 0) (exXs 0)) := Lib.hid (DqL.new (by unfold dqPow; simp) rfl rfl rfl)
  clear hD hDD HE
  go_wp2
  go_loopw [7] (fun i wr => ∃ k : Nat, k ≤ 7 ∧ i = .int .i64 (k : Int) ∧ Held D W7 wr ∧ ∃ (L : LSt) (T : Int) (o : Option Strand),
    Loom D wr L ∧ L.l = l ∧ L.ts[0]? = some o ∧ busy o = false ∧ L.steps ≤ 6 * k ∧ T ≤ k ∧ DqL 4 0 T L.us (exXs k)) (fun i _ => 7 - (intOf i).toNat)
  case atStart => exact ⟨0, by omega, rfl, Held.refl _ _, _, 0, none, HL7.out, rfl, rfl, rfl, Nat.le_refl _, by omega, HQ7.out⟩
  case round =>
    obtain ⟨k, hk, rfl, hh, L, T, o, hL, hLl, ho, hbo, hst, hT, hQ⟩ := hrel
    have hbx := HBx7.out.block hh.size (hh.block ab HDs.out.1)
    have b0 := hbx.cells 0
    have b1 := hbx.cells 1
    have hbl := hbx.lt
    simp at b0 b1
    have HHr := Lib.hid hh
    have HL := Lib.hid hL
    have HQ := Lib.hid hQ
    clear hh hL hQ
    by_cases hlt : k < 7
    · obtain ⟨n, us', s', T', n0, n6, hsolo, hover, hT', hQ'⟩ := exStep k hlt HQ.out
      obtain ⟨s0, hs0⟩ : ∃ s0, (if k < 3 then dqNew 0 4 1 (k + 1) else if k = 3 then dqNew 0 4 3 0 else dqNew 0 4 2 0) = s0 := ⟨_, rfl⟩
      rw [hs0] at hsolo
      have hwz := HW2.out k hlt
      obtain ⟨y, hy⟩ : ∃ y, exWant k = y := ⟨_, rfl⟩
      obtain ⟨cd, hcd⟩ : ∃ cd, exCode k = cd := ⟨_, rfl⟩
      rw [hy] at hwz hover
      rw [hcd] at hover
      have HC : Hid (k = 6 ∧ cd = 5 ∨ k < 6 ∧ cd = 0) := Lib.hid (by
        rw [← hcd]; unfold exCode
        by_cases e : k = 6
        · left; rw [if_pos e]; exact ⟨e, rfl⟩
        · right; rw [if_neg e]; exact ⟨by omega, rfl⟩)
      have HS0 := Lib.hid hs0
      have HSol := Lib.hid (show _ ∧ _ ∧ _ ∧ _ ∧ _ from ⟨n0, n6, hsolo, hover, hQ'⟩)
      clear n0 n6 hsolo hover hQ' hs0 hy hcd hbx
      have hwv : IntKind.u64.wrap ((k : Int) + 1) = (k : Int) + 1 := by show ((k : Int) + 1) % 18446744073709551616 = _; omega
      have hwv2 : IntKind.u64.wrap (k : Int) = (k : Int) := by show (k : Int) % 18446744073709551616 = _; omega
      go_wp2_with fail
      refine (dqPop_made 0 4 wr (by decide)).mono ?_
      rintro e w1 ⟨mm0, S0, rfl, hI0, k10, hS0⟩
      have hbx1 := HBx7.out.block HHr.out.size (HHr.out.block ab HDs.out.1) |>.keeps k10 (by simp)
      have b10 := hbx1.cells 0
      have b11 := hbx1.cells 1
      have hbl1 := hbx1.lt
      simp at b10 b11
      have HBx1 := Lib.hid hbx1
      have HI0 := Lib.hid (show _ ∧ _ ∧ _ from ⟨hI0, k10, hS0⟩)
      clear hI0 k10 hS0 hbx1 b0 b1
      rcases (show k < 3 ∨ k = 3 ∨ 3 < k by omega) with h3 | h3 | h3
      · have hk3 : (k : Int) < 3 := by omega
        have hk4 : ((k : Int) == 3) = false := beq_eq_false_iff_ne.2 (by omega)
        go_wp2_with fail
        refine (dqPush_made 0 4 ((k : Int) + 1) w1 (by decide) ⟨by omega, by omega⟩).mono ?_
        rintro e w5 ⟨mm, S, rfl, hI, k5, hS⟩
        have hs0 := HS0.out
        rw [if_pos h3] at hs0
        rw [hs0] at hI
        have hkk : Keeps [] wr w5 := HI0.out.2.1.trans k5
        have hSS : ∀ x ∈ S, wr.heap.size ≤ x := fun x hx => Nat.le_trans HI0.out.2.1.size (hS x hx)
        have HP : Hid (_ ∧ _ ∧ _) := Lib.hid ⟨hI, hkk, hSS⟩
        clear hI k5 hS hkk hSS hs0 b10 b11
        obtain ⟨n0, n6, hsolo, hover, hQ'⟩ := HSol.out
        obtain ⟨L1, M, o', hM, hSt, hDo⟩ := hsolo.begun (I := LoneIO dequeM (dqE mm) mm) (m := mm) (R := dqRuns mm) D 0 9 cd y o S wr w5 HL.out HP.out.2.1 ho hbo HP.out.1 HP.out.2.2 n0 (by omega) (by omega) (by omega) hover
        rw [hLl] at hSt hDo
        have HSt := Lib.hid hSt
        have HAl := Lib.hid hDo.1
        have HRe := Lib.hid hDo.2
        have HNew : Hid (M.l = l ∧ M.ts[0]? = some o' ∧ busy o' = false ∧ M.steps ≤ 6 * (k + 1) ∧ T' ≤ ((k : Nat) : Int) + 1 ∧ DqL 4 0 T' M.us (exXs (k + 1))) := Lib.hid
          ⟨hM.1.trans hLl, hM.2.2.2.2.2.2.1, hM.2.2.2.2.2.2.2.1, by have := hM.2.2.2.2.2.1; omega, by omega, by rw [hM.2.2.2.2.1]; exact hQ'⟩
        clear n0 n6 hsolo hover hQ' hM hSt hDo
        go_wp2_with fail
        refine HSt.out.mono ?_
        rintro e w12 ⟨rfl, hL2, hh2⟩
        have HL2 := Lib.hid hL2
        have HH2 := Lib.hid (HHr.out.trans hh2)
        clear hL2 hh2
        go_wp2_with fail
        refine (HAl.out D w12 HL2.out).mono ?_
        rintro e w13 ⟨rfl, hL3, hh3⟩
        have HL3 := Lib.hid hL3
        have HH3 := Lib.hid (HH2.out.trans hh3)
        clear hL3 hh3
        go_wp2_with fail
        refine (HRe.out D w13 HL3.out).mono ?_
        rintro e w14 ⟨q, c, rfl, k14⟩
        obtain ⟨W15, hW15⟩ : ∃ W15, w14.alloc (.cells #[.int .i64 cd, .int .u64 y, .slice q 0 c] 50) = W15 := ⟨_, rfl⟩
        have k15 : Keeps [] w14 W15 := by rw [← hW15]; exact (Keeps.refl _ _).alloc _
        have r15 : Row W15 w14.heap.size 50 [.int .i64 cd, .int .u64 y, .slice q 0 c] := by rw [← hW15]; exact Row.new _ _ _
        have hL15 := (HL3.out.keeps k14).keeps k15
        have hh15 := HH3.out.trans ((k14.trans k15).held (fun k hk => HL3.out.dom k hk) (by simp))
        have hrz := HR7.out.block (hh15.block z HDs.out.2.1)
        have cz := hrz.cell hwz
        have c0 := r15.cell (j := 0) rfl
        have c1 := r15.cell (j := 1) rfl
        have HL15 := Lib.hid hL15
        have HH15 := Lib.hid hh15
        clear k14 k15 hL15 hh15 hrz r15
        rcases HC.out with ⟨h6, hc6⟩ | ⟨h6, hc6⟩
        · first
          | omega
          | (subst h6 hc6
             go_wp2
             go_quiet (fail)
             go_wp2
             go_roundw
             case rel => exact ⟨7, by omega, by go_num, by first | exact HH15.out | exact HH15.out.trans ((Keeps.refl [] _).drewN.held (fun k hk => HL15.out.dom k hk) (by simp)), M, T', o', by first | exact HL15.out | exact HL15.out.keeps (Keeps.refl [] _).drewN, HNew.out⟩
             case measure => simp [intOf])
        · have hkn : (((k : Nat) : Int) == 6) = false := beq_eq_false_iff_ne.2 (by omega)
          have hk7 : ((k : Nat) : Int) < 7 := by omega
          subst hc6
          go_wp2
          go_quiet (fail)
          go_wp2
          go_roundw
          case rel => exact ⟨k + 1, by omega, by go_num, by first | exact HH15.out | exact HH15.out.trans ((Keeps.refl [] _).drewN.held (fun k hk => HL15.out.dom k hk) (by simp)), M, T', o', by first | exact HL15.out | exact HL15.out.keeps (Keeps.refl [] _).drewN, HNew.out⟩
          case measure => first | (simp [intOf]; done) | (simp [intOf]; omega)

      · subst h3
        go_wp2_with fail
        refine (dqSteal_made 0 4 w1 (by decide)).mono ?_
        rintro e w5 ⟨mm, S, rfl, hI, k5, hS⟩
        have hs0 := HS0.out
        rw [if_neg (by decide)] at hs0
        first | rw [if_pos rfl] at hs0 | rw [if_pos trivial] at hs0
        rw [hs0] at hI
        have hkk : Keeps [] wr w5 := HI0.out.2.1.trans k5
        have hSS : ∀ x ∈ S, wr.heap.size ≤ x := fun x hx => Nat.le_trans HI0.out.2.1.size (hS x hx)
        have HP : Hid (_ ∧ _ ∧ _) := Lib.hid ⟨hI, hkk, hSS⟩
        clear hI k5 hS hkk hSS hs0 b10 b11
        obtain ⟨n0, n6, hsolo, hover, hQ'⟩ := HSol.out
        obtain ⟨L1, M, o', hM, hSt, hDo⟩ := hsolo.begun (I := LoneIO dequeM (dqE mm) mm) (m := mm) (R := dqRuns mm) D 0 9 cd y o S wr w5 HL.out HP.out.2.1 ho hbo HP.out.1 HP.out.2.2 n0 (by omega) (by omega) (by omega) hover
        rw [hLl] at hSt hDo
        have HSt := Lib.hid hSt
        have HAl := Lib.hid hDo.1
        have HRe := Lib.hid hDo.2
        have HNew : Hid (M.l = l ∧ M.ts[0]? = some o' ∧ busy o' = false ∧ M.steps ≤ 6 * (3 + 1) ∧ T' ≤ ((3 : Nat) : Int) + 1 ∧ DqL 4 0 T' M.us (exXs (3 + 1))) := Lib.hid
          ⟨hM.1.trans hLl, hM.2.2.2.2.2.2.1, hM.2.2.2.2.2.2.2.1, by have := hM.2.2.2.2.2.1; omega, by omega, by rw [hM.2.2.2.2.1]; exact hQ'⟩
        clear n0 n6 hsolo hover hQ' hM hSt hDo
        go_wp2_with fail
        refine HSt.out.mono ?_
        rintro e w12 ⟨rfl, hL2, hh2⟩
        have HL2 := Lib.hid hL2
        have HH2 := Lib.hid (HHr.out.trans hh2)
        clear hL2 hh2
        go_wp2_with fail
        refine (HAl.out D w12 HL2.out).mono ?_
        rintro e w13 ⟨rfl, hL3, hh3⟩
        have HL3 := Lib.hid hL3
        have HH3 := Lib.hid (HH2.out.trans hh3)
        clear hL3 hh3
        go_wp2_with fail
        refine (HRe.out D w13 HL3.out).mono ?_
        rintro e w14 ⟨q, c, rfl, k14⟩
        obtain ⟨W15, hW15⟩ : ∃ W15, w14.alloc (.cells #[.int .i64 cd, .int .u64 y, .slice q 0 c] 50) = W15 := ⟨_, rfl⟩
        have k15 : Keeps [] w14 W15 := by rw [← hW15]; exact (Keeps.refl _ _).alloc _
        have r15 : Row W15 w14.heap.size 50 [.int .i64 cd, .int .u64 y, .slice q 0 c] := by rw [← hW15]; exact Row.new _ _ _
        have hL15 := (HL3.out.keeps k14).keeps k15
        have hh15 := HH3.out.trans ((k14.trans k15).held (fun k hk => HL3.out.dom k hk) (by simp))
        have hrz := HR7.out.block (hh15.block z HDs.out.2.1)
        have cz := hrz.cell hwz
        have c0 := r15.cell (j := 0) rfl
        have c1 := r15.cell (j := 1) rfl
        have HL15 := Lib.hid hL15
        have HH15 := Lib.hid hh15
        clear k14 k15 hL15 hh15 hrz r15
        rcases HC.out with ⟨h6, hc6⟩ | ⟨h6, hc6⟩
        · first
          | omega
          | (subst h6 hc6
             go_wp2
             go_quiet (fail)
             go_wp2
             go_roundw
             case rel => exact ⟨7, by omega, by go_num, by first | exact HH15.out | exact HH15.out.trans ((Keeps.refl [] _).drewN.held (fun k hk => HL15.out.dom k hk) (by simp)), M, T', o', by first | exact HL15.out | exact HL15.out.keeps (Keeps.refl [] _).drewN, HNew.out⟩
             case measure => simp [intOf])
        · have hkn : (((3 : Nat) : Int) == 6) = false := beq_eq_false_iff_ne.2 (by omega)
          have hk7 : ((3 : Nat) : Int) < 7 := by omega
          subst hc6
          go_wp2
          go_quiet (fail)
          go_wp2
          go_roundw
          case rel => exact ⟨3 + 1, by omega, by go_num, by first | exact HH15.out | exact HH15.out.trans ((Keeps.refl [] _).drewN.held (fun k hk => HL15.out.dom k hk) (by simp)), M, T', o', by first | exact HL15.out | exact HL15.out.keeps (Keeps.refl [] _).drewN, HNew.out⟩
          case measure => first | (simp [intOf]; done) | (simp [intOf]; omega)

      · have hk3 : ¬ (k : Int) < 3 := by omega
        have hk4 : ((k : Int) == 3) = false := beq_eq_false_iff_ne.2 (by omega)
        have hs0 := HS0.out
        rw [if_neg (by omega), if_neg (by omega)] at hs0
        have hI := HI0.out.1
        rw [hs0] at hI
        have HP : Hid (_ ∧ _ ∧ _) := Lib.hid ⟨hI, HI0.out.2⟩
        clear hI hs0 b10 b11
        obtain ⟨n0, n6, hsolo, hover, hQ'⟩ := HSol.out
        obtain ⟨L1, M, o', hM, hSt, hDo⟩ := hsolo.begun (I := LoneIO dequeM (dqE mm0) mm0) (m := mm0) (R := dqRuns mm0) D 0 9 cd y o S0 wr w1 HL.out HP.out.2.1 ho hbo HP.out.1 HP.out.2.2 n0 (by omega) (by omega) (by omega) hover
        rw [hLl] at hSt hDo
        have HSt := Lib.hid hSt
        have HAl := Lib.hid hDo.1
        have HRe := Lib.hid hDo.2
        have HNew : Hid (M.l = l ∧ M.ts[0]? = some o' ∧ busy o' = false ∧ M.steps ≤ 6 * (k + 1) ∧ T' ≤ ((k : Nat) : Int) + 1 ∧ DqL 4 0 T' M.us (exXs (k + 1))) := Lib.hid
          ⟨hM.1.trans hLl, hM.2.2.2.2.2.2.1, hM.2.2.2.2.2.2.2.1, by have := hM.2.2.2.2.2.1; omega, by omega, by rw [hM.2.2.2.2.1]; exact hQ'⟩
        clear n0 n6 hsolo hover hQ' hM hSt hDo
        go_wp2_with fail
        refine HSt.out.mono ?_
        rintro e w12 ⟨rfl, hL2, hh2⟩
        have HL2 := Lib.hid hL2
        have HH2 := Lib.hid (HHr.out.trans hh2)
        clear hL2 hh2
        go_wp2_with fail
        refine (HAl.out D w12 HL2.out).mono ?_
        rintro e w13 ⟨rfl, hL3, hh3⟩
        have HL3 := Lib.hid hL3
        have HH3 := Lib.hid (HH2.out.trans hh3)
        clear hL3 hh3
        go_wp2_with fail
        refine (HRe.out D w13 HL3.out).mono ?_
        rintro e w14 ⟨q, c, rfl, k14⟩
        obtain ⟨W15, hW15⟩ : ∃ W15, w14.alloc (.cells #[.int .i64 cd, .int .u64 y, .slice q 0 c] 50) = W15 := ⟨_, rfl⟩
        have k15 : Keeps [] w14 W15 := by rw [← hW15]; exact (Keeps.refl _ _).alloc _
        have r15 : Row W15 w14.heap.size 50 [.int .i64 cd, .int .u64 y, .slice q 0 c] := by rw [← hW15]; exact Row.new _ _ _
        have hL15 := (HL3.out.keeps k14).keeps k15
        have hh15 := HH3.out.trans ((k14.trans k15).held (fun k hk => HL3.out.dom k hk) (by simp))
        have hrz := HR7.out.block (hh15.block z HDs.out.2.1)
        have cz := hrz.cell hwz
        have c0 := r15.cell (j := 0) rfl
        have c1 := r15.cell (j := 1) rfl
        have HL15 := Lib.hid hL15
        have HH15 := Lib.hid hh15
        clear k14 k15 hL15 hh15 hrz r15
        rcases HC.out with ⟨h6, hc6⟩ | ⟨h6, hc6⟩
        · first
          | omega
          | (subst h6 hc6
             go_wp2
             go_quiet (fail)
             go_wp2
             go_roundw
             case rel => exact ⟨7, by omega, by go_num, by first | exact HH15.out | exact HH15.out.trans ((Keeps.refl [] _).drewN.held (fun k hk => HL15.out.dom k hk) (by simp)), M, T', o', by first | exact HL15.out | exact HL15.out.keeps (Keeps.refl [] _).drewN, HNew.out⟩
             case measure => simp [intOf])
        · have hkn : (((k : Nat) : Int) == 6) = false := beq_eq_false_iff_ne.2 (by omega)
          have hk7 : ((k : Nat) : Int) < 7 := by omega
          subst hc6
          go_wp2
          go_quiet (fail)
          go_wp2
          go_roundw
          case rel => exact ⟨k + 1, by omega, by go_num, by first | exact HH15.out | exact HH15.out.trans ((Keeps.refl [] _).drewN.held (fun k hk => HL15.out.dom k hk) (by simp)), M, T', o', by first | exact HL15.out | exact HL15.out.keeps (Keeps.refl [] _).drewN, HNew.out⟩
          case measure => first | (simp [intOf]; done) | (simp [intOf]; omega)

    · obtain rfl : k = 7 := by omega
      go_wp2
      go_ret
      exact ⟨rfl, HB7.out.trans (Held.below (HHr.out.narrow (E := (· < B)) (fun k hk => HDs.out.2.2 k hk)))⟩
end Go.Proofs.Ytdejgkjckhkihaa
