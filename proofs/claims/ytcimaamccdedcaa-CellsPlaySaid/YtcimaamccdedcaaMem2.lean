/-
  Contracts: All, Fill, Copy and Same of package cells; the reference's Do.
-/
import Derived.Test.YtcimaamccdedcaaMem
import Derived.Test.YtcimaamccdedcaaSame
import Derived.Laws.CopyOwn
namespace Go.Proofs.Ytcimaamccdedcaa
open Go.ChangeShapes Go.WideShapes Go.ChangeAt Go.RowKit

theorem C.deed3_yes {was a : Int} (b : Int) (h : was = a) : C.deed 3 was a b = (b, true) := by simp [C.deed, h]
theorem C.deed3_no {was a : Int} (b : Int) (h : was ≠ a) : C.deed 3 was a b = (was, false) := by simp [C.deed, h]
theorem set_self {us : List Int} {i : Nat} {was : Int} (hi : i < us.length) (h : us.getD i 0 = was) : us.set i was = us := by
  rw [List.getD, List.getElem?_eq_getElem hi] at h
  simp only [Option.getD_some] at h
  rw [← h, List.set_getElem_self]

set_option maxHeartbeats 800000 in
theorem refDo_any (b cap : Nat) (us : List Int) (x : C.Acc) (w : World) (h : Row w b 30 (ints .u64 us)) (ht : ∀ u ∈ us, M.U u) (hl : us.length ≤ 65536) (hx : x.ok) :
    Calls Try.prog 11 #[.slice (some ⟨b, 0, none⟩) us.length cap, .agg #[.int .i64 x.k, .int .i64 x.c, .int .u64 x.a, .int .u64 x.b]] w fun e w' =>
      e = .returned (.tuple #[.int .u64 (C.told us x), .bool (C.won us x), .int .i64 (C.code us x)]) ∧ Row w' b 30 (ints .u64 (C.next us x)) ∧ Keeps [b] w w' := by
  have hbl := h.lt
  by_cases hk : x.k < 1 ∨ 7 < x.k
  · have hcode : C.code us x = 2 := by rw [C.code, if_pos hk]
    have HT : Hid (C.told us x = 0 ∧ C.won us x = false ∧ C.code us x = 2 ∧ C.next us x = us) := Lib.hid ⟨by rw [C.told, hcode]; rfl, by rw [C.won, hcode]; rfl, hcode, by rw [C.next, hcode]; rfl⟩
    have HM := Lib.hid h
    have HX := Lib.hid ht
    clear h hcode ht
    rcases hk with hk | hk
    all_goals
      go_enter Try.func11, Try.ntmps11
      go_wp2
      go_ret3
      obtain ⟨e1, e2, e3, e4⟩ := HT.out
      rw [e1, e2, e3, e4]
      exact ⟨rfl, HM.out.alloc _, (Keeps.refl _ _).alloc _⟩
  · by_cases hc : x.c < 0 ∨ (us.length : Int) ≤ x.c
    · have hcode : C.code us x = 3 := by rw [C.code, if_neg hk, if_pos hc]
      have HT : Hid (C.told us x = 0 ∧ C.won us x = false ∧ C.code us x = 3 ∧ C.next us x = us) := Lib.hid ⟨by rw [C.told, hcode]; rfl, by rw [C.won, hcode]; rfl, hcode, by rw [C.next, hcode]; rfl⟩
      have HM := Lib.hid h
      have HX := Lib.hid ht
      have hk1 : 1 ≤ x.k := by omega
      have hk7 : x.k ≤ 7 := by omega
      clear h hcode hk ht
      rcases hc with hc | hc
      all_goals
        go_enter Try.func11, Try.ntmps11
        go_wp2
        try go_quiet (fail)
        try go_wp2
        go_ret3
        obtain ⟨e1, e2, e3, e4⟩ := HT.out
        rw [e1, e2, e3, e4]
        first | exact ⟨rfl, HM.out.alloc _, (Keeps.refl _ _).alloc _⟩ | exact ⟨rfl, HM.out.keeps ((Keeps.refl [] _).alloc _).drewN (by simp), ((Keeps.refl _ _).alloc _).drewN⟩
    · obtain ⟨i, hi⟩ : ∃ i : Nat, x.c = (i : Int) := ⟨x.c.toNat, by omega⟩
      have hiu : i < us.length := by omega
      have hcode : C.code us x = 0 := by rw [C.code, if_neg hk, if_neg hc]
      have hin : x.c.toNat = i := by omega
      rw [C.told, C.won, C.next, hcode, if_pos rfl, if_pos rfl, if_pos rfl, hin]
      have hcell := h.cell (ints_at (k := .u64) hiu)
      have hfr := h.frozen i
      have hwas : M.U (us.getD i 0) := ht _ (by rw [List.getD, List.getElem?_eq_getElem hiu]; exact List.getElem_mem hiu)
      obtain ⟨was, hw⟩ : ∃ was, us.getD i 0 = was := ⟨_, rfl⟩
      rw [hw] at hcell hwas ⊢
      have SS : Hid (us.set i was = us) := Lib.hid (set_self hiu hw)
      clear hw hin hc ht
      obtain ⟨k, c, xa, xb⟩ := x
      simp only at hi hk ⊢
      subst hi
      have h0 := hwas.nn
      have h1 := hwas.lt
      have h2 : 0 ≤ xa := hx.1.nn
      have h3 : xa < 18446744073709551616 := hx.1.lt
      have HM := Lib.hid h
      clear h hx hwas hcode
      have fin : ∀ (v : Int) (W : World), Keeps [] w W → Row (W.setCell ⟨b, i, none⟩ (.int .u64 v)) b 30 (ints .u64 (us.set i v)) ∧ Keeps [b] w (W.setCell ⟨b, i, none⟩ (.int .u64 v)) := fun v W hK =>
        ⟨by rw [ints_set]; exact (HM.out.keeps hK (by simp)).set i _, hK.nil.setCell (fun _ => by simp) _⟩
      have HF := Lib.hid fin
      clear fin
      rcases (show k = 1 ∨ k = 2 ∨ k = 3 ∨ k = 4 ∨ k = 5 ∨ k = 6 ∨ k = 7 by omega) with rfl | rfl | rfl | rfl | rfl | rfl | rfl
      case' inr.inr.inl =>
        by_cases e : was = xa
        case' pos => have hb : (was == xa) = true := by simp [e]
        case' neg => have hb : (was == xa) = false := by simp [e]
        all_goals have HE := Lib.hid e
        all_goals clear e
      case' inr.inr.inr.inr.inr.inr =>
        obtain ⟨bb, hbb⟩ : ∃ bb, (was != xa) = bb := ⟨_, rfl⟩
        have HB := Lib.hid hbb
        clear hbb
      all_goals
        go_enter Try.func11, Try.ntmps11
        go_wp2
        go_ret3
      all_goals
        first
        | exact ⟨rfl, by rw [show us.set i (C.deed 1 was xa xb).1 = us from SS.out]; exact HM.out.alloc _, (Keeps.refl _ _).alloc _⟩
        | exact ⟨rfl, by rw [show us.set i (C.deed 7 was xa xb).1 = us from SS.out]; exact HM.out.alloc _, (Keeps.refl _ _).alloc _⟩
        | exact ⟨by rw [C.deed3_yes _ HE.out]; rfl, by rw [C.deed3_yes _ HE.out]; exact (HF.out _ _ (Keeps.refl _ _)).imp (fun h => h.alloc _) (fun h => h.alloc _)⟩
        | exact ⟨by rw [C.deed3_no _ HE.out]; rfl, by rw [C.deed3_no _ HE.out, SS.out]; exact HM.out.alloc _, (Keeps.refl _ _).alloc _⟩
        | exact ⟨rfl, (HF.out _ _ (Keeps.refl _ _)).imp (fun h => h.alloc _) (fun h => h.alloc _)⟩
end Go.Proofs.Ytcimaamccdedcaa
