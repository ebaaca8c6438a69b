/-
  Contracts: List of package num, and the reference's.
-/
import Derived.Test.YtcilndnkhfcafaaDoorNum
namespace Go.Proofs.YtcilndnkhfcafaaDoor
open Go.ChangeShapes Go.WideShapes Go.ChangeAt Go.RowKit Go.Sort Go.Joins

namespace D
/-- Numbers with commas. -/
def joinL : List Nat → List UInt8
  | [] => []
  | u :: r => Lib.decDigits u ++ r.flatMap fun v => 44 :: Lib.decDigits v
def listL (us : List Nat) : List UInt8 := if us = [] then [45] else joinL us
theorem joinL_snoc (l : List Nat) (u : Nat) (h : l ≠ []) : joinL (l ++ [u]) = joinL l ++ [44] ++ Lib.decDigits u := by
  cases l with
  | nil => exact absurd rfl h
  | cons a l => simp [joinL]
theorem joinL_one (u : Nat) : joinL [u] = Lib.decDigits u := by simp [joinL]
theorem joinL_len (l : List Nat) (h : ∀ u ∈ l, u ≤ top) : (joinL l).length ≤ 21 * l.length := by
  cases l with
  | nil => simp [joinL]
  | cons a l =>
    have h1 := len_le a (h a (by simp))
    have h2 : (l.flatMap fun v => 44 :: Lib.decDigits v).length ≤ 21 * l.length := by
      have h' : ∀ u ∈ l, u ≤ top := fun u hu => h u (by simp [hu])
      clear h h1
      induction l with
      | nil => simp
      | cons b l ih =>
        have h3 := len_le b (h' b (by simp))
        have h4 := ih (fun u hu => h' u (by simp [hu]))
        rw [List.flatMap_cons, List.length_append, List.length_cons, List.length_cons]
        omega
    rw [joinL, List.length_append, List.length_cons]; omega
theorem take_snoc {us : List Nat} {k : Nat} (h : k < us.length) : us.take (k + 1) = us.take k ++ [us[k]] := List.take_succ_eq_append_getElem h
theorem take_ne {us : List Nat} {k : Nat} (h : k < us.length) (h0 : 0 < k) : us.take k ≠ [] := by
  intro e
  have := congrArg List.length e
  rw [List.length_take, List.length_nil] at this
  omega
theorem joinL_pos {l : List Nat} (h : l.length ≠ 0) : 0 < (joinL l).length := by
  cases l with
  | nil => exact absurd rfl h
  | cons a l =>
    have := List.length_pos_iff.2 (decDigits_facts a).1
    rw [joinL, List.length_append]; omega
theorem listL_some {us : List Nat} (h : us.length ≠ 0) : listL us = joinL us := by
  rw [listL, if_neg]; rintro rfl; exact h rfl
end D

/-- Cells of 64-bit numbers. -/
def nats (us : List Nat) : List Value := us.map fun u : Nat => Value.int .u64 (u : Int)
theorem nats_len (us : List Nat) : (nats us).length = us.length := by simp [nats]
theorem nats_at {us : List Nat} {k : Nat} (h : k < us.length) : (nats us)[k]? = some (.int .u64 (us[k] : Int)) := by simp [nats, h]
theorem Sl.nats_len {w : World} {n : Nat} {v : Value} {us : List Nat} (h : Sl w 1 v n (nats us)) : us.length = n := by
  have := h.1; rw [Go.Proofs.YtcilndnkhfcafaaDoor.nats_len] at this; omega

theorem elemByte : Elem Tryd.prog 5 (.int .u8 0) 1 1 := ⟨by kernel_rfl, rfl, by decide, by decide⟩

/-- The bytes of an owned row, as a string. -/
theorem owned_str {P : Program} {src dst e : TypeId} (hs : P.underlying src = some (.slice e)) (he : P.underlying e = some (.int .u8)) (hd : P.underlying dst = some .string) {w : World} {B n : Nat} {v : Value} {l : List UInt8}
    (h : w.ownsRow B e 1 v n (Lib.byteCells l)) (h0 : 0 < n) : (convert src dst v).run P w = .ok (.string (str l)) w := by
  have hl : l.length = n := by have := h.1; rw [Lib.byteCells_length] at this; omega
  rcases h.2 with ⟨rfl, rfl⟩ | ⟨g, cap, cur, rfl, hb, hg, _⟩
  · omega
  · subst hl
    refine run_convert_bytes_back w src dst e ⟨g, 0, none⟩ cap l hs he hd (fun j hj => ?_)
    exact h.cells (g := g) rfl j _ (by simp [Lib.byteCells, hj])

theorem strconv_AppendUint_any (B n u : Nat) (hu64 : u < 18446744073709551616) (sv : Value) (xs : List Value) (w : World) (hown : w.ownsRow B 5 1 sv n xs) (hBw : B ≤ w.heap.size) (hlim : n + 20 ≤ 140737488355328) (hT : NumTabs w) :
    Calls Tryd.prog 29 #[sv, .int .u64 u, .int .i64 10] w fun e w' => ∃ v', e = .returned v' ∧ w'.ownsRow B 5 1 v' (n + (Lib.decDigits u).length) (xs ++ Lib.byteCells (Lib.decDigits u)) ∧ Below B w w' := by
  have C := Tryd.internal_strconv_AppendUint_10 B n u hu64 sv xs w hown hBw hlim hT.2
  obtain ⟨p, cap, hsv⟩ := (Sl.of_owns hown).len
  clear hT hown
  subst hsv
  go_enter Tryd.func29, Tryd.ntmps29
  go_wp2_with (go_at_call 38; refine C.mono ?_; rintro e w' ⟨v', rfl, ho, hb, _⟩)
  obtain ⟨p', cap', rfl⟩ := (Sl.of_owns ho).len
  go_wp2
  go_ret
  exact ⟨_, rfl, ho, hb⟩

set_option maxHeartbeats 1600000 in
set_option maxRecDepth 100000 in
theorem list_any (v : Value) (us : List Nat) (w : World) (hn : us.length ≤ 1000000) (hu : ∀ u ∈ us, u ≤ D.top) (h : Sl w 1 v us.length (nats us)) (hT : NumTabs w) :
    Calls Tryd.prog 16 #[v] w fun e w' => e = .returned (.string (str (D.listL us))) ∧ Below w.heap.size w w' := by
  by_cases h0 : us.length = 0
  · obtain rfl := List.eq_nil_of_length_eq_zero h0
    obtain ⟨p, c, rfl⟩ := h.len
    clear h
    go_enter Tryd.func16, Tryd.ntmps16
    go_wp2
    go_ret
    exact ⟨rfl, Below.refl _ _⟩
  · obtain ⟨b, o, c, rfl, hbw, hc⟩ := h.some (by omega)
    have hb0 : ((us.length : Int) == 0) = false := by simpa using h0
    have HC := Lib.hid hc
    have HU := Lib.hid hu
    have hT' := Lib.hid hT
    clear hc hu hT h
    go_enter Tryd.func16, Tryd.ntmps16
    go_wp2
    go_loopw [3, 11] (fun t i wr => ∃ k : Nat, k ≤ us.length ∧ i = .int .i64 k ∧ wr.ownsRow w.heap.size 5 1 t (D.joinL (us.take k)).length (Lib.byteCells (D.joinL (us.take k))) ∧ Below w.heap.size w wr) (fun _ i _ => us.length - (intOf i).toNat)
    case atStart => exact ⟨0, Nat.zero_le _, rfl, World.ownsRow_nil .., Below.refl _ _⟩
    case round =>
      obtain ⟨k, hk, rfl, hown, hb⟩ := hrel
      have hbs := hb.size
      obtain ⟨p, cp, rfl⟩ := (Sl.of_owns hown).len
      have hjl : (D.joinL (us.take k)).length ≤ 21 * k := Nat.le_trans (D.joinL_len _ (fun u h => HU.out u (List.mem_of_mem_take h))) (by rw [List.length_take]; omega)
      by_cases hlt : k < us.length
      · have a1 := (hb.cell (p := ⟨b, o + k, none⟩) hbw).trans (HC.out k _ (nats_at hlt))
        have hux : us[k] ≤ D.top := HU.out _ (List.getElem_mem hlt)
        obtain ⟨x, hx⟩ : ∃ x, us[k] = x := ⟨_, rfl⟩
        rw [hx] at a1 hux
        have HX := Lib.hid hx
        clear hx
        unfold D.top at hux
        by_cases hk0 : k = 0
        · subst hk0
          have HS := Lib.hid ((congrArg D.joinL (D.take_snoc hlt)).trans (by rw [HX.out, List.take_zero, List.nil_append, D.joinL_one]))
          have C := strconv_AppendUint_any w.heap.size _ x (by omega) _ _ wr hown hbs (by omega) (hT'.out.below hb (Nat.le_refl _))
          have hdl := D.len_le x (by unfold D.top; omega)
          have hp : 0 < us.length := hlt
          simp only [Nat.add_zero] at a1
          rw [show ((0 : Nat) : Int) = 0 from rfl]
          go_wp2_with (first
            | (go_at_call 29; refine C.mono ?_; rintro e w3 ⟨v3, rfl, hown3, hbel3⟩)
            | fail)
          go_roundw
          case rel => exact ⟨1, by omega, rfl, by rw [HS.out]; simpa [D.joinL, Lib.byteCells] using hown3, hb.trans hbel3⟩
          case measure => simp [intOf]; omega
        · have hk1 : 0 < k := by omega
          have HS := Lib.hid ((congrArg D.joinL (D.take_snoc hlt)).trans ((D.joinL_snoc _ _ (D.take_ne hlt hk1)).trans (by rw [HX.out])))
          go_wp2_with (first
            | (at_builtin; refine append_one rfl _ _ 52 rfl w.heap.size 5 _ 1 1 Tryd.underlying52 elemByte _ _ _ rfl hown #[.int .u8 44] rfl rfl (by simp [Value.oneCell']) (by omega) hbs ?_; intro v' w2 hown2 hbel2)
            | fail)
          have C := strconv_AppendUint_any w.heap.size _ x (by omega) _ _ w2 hown2 (Nat.le_trans hbs hbel2.size) (by omega) (hT'.out.below (hb.trans hbel2) (Nat.le_refl _))
          go_at_call 29
          refine C.mono ?_
          rintro e w3 ⟨v3, rfl, hown3, hbel3⟩
          go_wp2
          go_roundw
          case rel => exact ⟨k + 1, by omega, by go_num, by rw [HS.out]; simpa [Lib.byteCells, Nat.add_assoc, Nat.add_comm, Nat.add_left_comm] using hown3, (hb.trans hbel2).trans hbel3⟩
          case measure => simp [intOf]; omega
      · obtain rfl : k = us.length := by omega
        rw [List.take_of_length_le (Nat.le_refl _)] at hown hjl
        have hl0 : 0 < (D.joinL us).length := D.joinL_pos (by omega)
        have hcv := owned_str Tryd.underlying52 Tryd.underlying5 Tryd.underlying9 hown hl0
        have HL := Lib.hid (D.listL_some (us := us) (by omega))
        clear hown hjl
        go_wp2
        go_ret
        exact ⟨by rw [HL.out]; rfl, hb⟩

set_option maxHeartbeats 1600000 in
set_option maxRecDepth 100000 in
theorem refList_any (v : Value) (us : List Nat) (w : World) (hn : us.length ≤ 1000000) (hu : ∀ u ∈ us, u ≤ D.top) (h : Sl w 1 v us.length (nats us)) :
    Calls Tryd.prog 17 #[v] w fun e w' => e = .returned (.string (str (D.listL us))) ∧ Below w.heap.size w w' := by
  by_cases h0 : us.length = 0
  · obtain rfl := List.eq_nil_of_length_eq_zero h0
    obtain ⟨p, c, rfl⟩ := h.len
    clear h
    go_enter Tryd.func17, Tryd.ntmps17
    go_wp2
    go_ret
    exact ⟨rfl, Below.refl _ _⟩
  · obtain ⟨b, o, c, rfl, hbw, hc⟩ := h.some (by omega)
    have hb0 : ((us.length : Int) == 0) = false := by simpa using h0
    have hp : 0 < us.length := by omega
    have a0 := hc 0 _ (nats_at hp)
    obtain ⟨x0, hx0⟩ : ∃ x, us[0] = x := ⟨_, rfl⟩
    have hux0 : x0 ≤ 18446744073709551615 := hx0 ▸ hu _ (List.getElem_mem hp)
    rw [hx0] at a0
    have HX0 := Lib.hid hx0
    have HC := Lib.hid hc
    have HU := Lib.hid hu
    clear hc hu h hx0
    simp only [Nat.add_zero] at a0
    go_enter Tryd.func17, Tryd.ntmps17
    go_wp2_with (go_at_call 15; refine (refPrint_any x0 _ hux0).mono ?_; rintro e w1 ⟨rfl, hb1⟩)
    go_loopw [3, 4] (fun t i wr => ∃ k : Nat, k ≤ us.length ∧ 0 < k ∧ i = .int .i64 k ∧ t = .string (str (D.joinL (us.take k))) ∧ Below w.heap.size w wr) (fun _ i _ => us.length - (intOf i).toNat)
    case atStart => exact ⟨1, hp, by omega, rfl, by rw [D.take_snoc hp, HX0.out, List.take_zero, List.nil_append, D.joinL_one], hb1⟩
    case round =>
      obtain ⟨k, hk, hk0, rfl, rfl, hb⟩ := hrel
      have hbs := hb.size
      have hjl : (D.joinL (us.take k)).length ≤ 21 * k := Nat.le_trans (D.joinL_len _ (fun u h => HU.out u (List.mem_of_mem_take h))) (by rw [List.length_take]; omega)
      by_cases hlt : k < us.length
      · have a1 := (hb.cell (p := ⟨b, o + k, none⟩) hbw).trans (HC.out k _ (nats_at hlt))
        have hux : us[k] ≤ D.top := HU.out _ (List.getElem_mem hlt)
        obtain ⟨x, hx⟩ : ∃ x, us[k] = x := ⟨_, rfl⟩
        rw [hx] at a1 hux
        have HX := Lib.hid hx
        clear hx
        unfold D.top at hux
        have HS := Lib.hid ((congrArg D.joinL (D.take_snoc hlt)).trans ((D.joinL_snoc _ _ (D.take_ne hlt hk0)).trans (by rw [HX.out])))
        have hdl := D.len_le x (by unfold D.top; omega)
        have hadd := add_str (P := Tryd.prog) (D.joinL (us.take k)) [44] (by simp; omega)
        have hadd2 := add_str (P := Tryd.prog) (D.joinL (us.take k) ++ [44]) (Lib.decDigits x) (by simp; omega)
        rw [← HS.out] at hadd2
        rw [show str [44] = ⟨#[44]⟩ from rfl] at hadd
        go_wp2_with (go_at_call 15; refine (refPrint_any x _ hux).mono ?_; rintro e w2 ⟨rfl, hb2⟩)
        go_roundw
        case rel => exact ⟨k + 1, by omega, by omega, by go_num, rfl, hb.trans (hb2.mono hbs)⟩
        case measure => simp [intOf]; omega
      · obtain rfl : k = us.length := by omega
        have HL := Lib.hid (D.listL_some (us := us) (by omega))
        have HT := Lib.hid (congrArg D.joinL (List.take_of_length_le (Nat.le_refl us.length)))
        go_wp2
        go_ret
        exact ⟨by rw [HL.out, ← HT.out]; rfl, hb⟩
end Go.Proofs.YtcilndnkhfcafaaDoor
