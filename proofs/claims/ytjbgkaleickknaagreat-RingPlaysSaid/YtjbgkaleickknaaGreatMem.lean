import Derived.Test.YtjbgkaleickknaaGreatCells
import Derived.Deep.RegionHeld3
import Derived.Test.YtjbgkaleickknaaGreatMach
import Derived.Laws.CopyOwn
/-
  Contracts: a memory of cells.
-/
namespace Go.Proofs.YtjbgkaleickknaaGreat
set_option maxRecDepth 100000
set_option linter.unusedSimpArgs false
set_option linter.unusedVariables false
open Go.ChangeShapes Go.WideShapes Go.ChangeAt Go.RowKit

/-- Block m is a memory whose words lie in block b, and are us. -/
structure Mem (w : World) (m b : Nat) (us : List Int) : Prop where
  ne : m ≠ b
  head : ∃ cap, Row w m 62 [.slice (some ⟨b, 0, none⟩) us.length cap]
  row : Row w b 34 (ints .u64 us)
  top : ∀ u ∈ us, M.U u
  len : us.length ≤ 65536
  pos : 0 < us.length

theorem Mem.keeps {S : List Nat} {w w' : World} {m b : Nat} {us : List Int} (h : Mem w m b us) (hk : Keeps S w w') (hm : m ∉ S) (hb : b ∉ S) : Mem w' m b us := by
  obtain ⟨cap, hc⟩ := h.head
  exact ⟨h.ne, ⟨cap, hc.keeps hk hm⟩, h.row.keeps hk hb, h.top, h.len, h.pos⟩
theorem Mem.lt {w : World} {m b : Nat} {us : List Int} (h : Mem w m b us) : m < w.heap.size ∧ b < w.heap.size := by
  obtain ⟨cap, hc⟩ := h.head
  exact ⟨hc.lt, h.row.lt⟩
theorem Mem.at {w : World} {m b : Nat} {us : List Int} (h : Mem w m b us) : ∃ cap, w.cell? ⟨m, 0, none⟩ = some (.slice (some ⟨b, 0, none⟩) us.length cap) := by
  obtain ⟨cap, hc⟩ := h.head
  exact ⟨cap, hc.cell rfl⟩
theorem Mem.word {w : World} {m b : Nat} {us : List Int} (h : Mem w m b us) {i : Nat} (hi : i < us.length) : w.cell? ⟨b, i, none⟩ = some (.int .u64 (us.getD i 0)) ∧ w.frozen? ⟨b, i, none⟩ = false ∧ M.U (us.getD i 0) :=
  ⟨h.row.cell (ints_at hi), h.row.frozen i, h.top _ (by rw [List.getD, List.getElem?_eq_getElem hi]; exact List.getElem_mem hi)⟩
theorem ints_set (k : IntKind) (us : List Int) (i : Nat) (u : Int) : ints k (us.set i u) = (ints k us).set i (.int k u) := by simp [ints, List.map_set]
theorem Mem.setAt {w : World} {m b : Nat} {us : List Int} (h : Mem w m b us) (i : Nat) (u : Int) (hu : M.U u) : Mem (w.setCell ⟨b, i, none⟩ (.int .u64 u)) m b (us.set i u) := by
  obtain ⟨cap, hc⟩ := h.head
  refine ⟨h.ne, ⟨cap, ?_⟩, ?_, fun x hx => ?_, by rw [List.length_set]; exact h.len, by rw [List.length_set]; exact h.pos⟩
  · rw [List.length_set]
    exact hc.keeps ((Keeps.refl [b] w).setCell (fun _ => by simp) _) (by simpa using h.ne)
  · rw [ints_set]; exact h.row.set i _
  · rcases List.mem_or_eq_of_mem_set hx with hx | rfl
    · exact h.top x hx
    · exact hu

theorem elemWord : Elem Tryz.prog 34 (.int .u64 0) 1 8 := ⟨by kernel_rfl, rfl, by decide, by decide⟩
theorem made_words (n : Nat) : (madeCells (Value.int .u64 0).cells (n * 1)).toList = ints .u64 (List.replicate n 0) := by
  rw [Nat.mul_one]
  apply List.ext_getElem?
  intro i
  by_cases h : i < n
  · simp [madeCells, ints, Value.cells, h, Nat.mod_one]
  · simp [madeCells, ints, Value.cells, h, Nat.mod_one]

namespace C
theorem bits_U {o : BinOp} (ho : o = .or ∨ o = .and) {a b : Int} (ha : M.U a) (hb : M.U b) : M.U (bits o .u64 a b) := by
  obtain ⟨x, rfl⟩ := Int.eq_ofNat_of_zero_le ha.nn
  obtain ⟨y, rfl⟩ := Int.eq_ofNat_of_zero_le hb.nn
  have hx := ha.lt
  have hy := hb.lt
  rcases ho with rfl | rfl
  · rw [u64_or_nat _ _ (by omega) (by omega)]
    exact M.U.of _ (Nat.or_lt_two_pow (by omega) (by omega))
  · rw [u64_and_nat _ _ (by omega) (by omega)]
    exact M.U.of _ (Nat.lt_of_le_of_lt Nat.and_le_left (by omega))
theorem deed_U {k was : Int} {x : Acc} (hw : M.U was) (hx : x.ok) : M.U (deed k was x.a x.b).1 := by
  unfold deed
  split; exact hx.1
  split
  · split; exact hx.2; exact hw
  split; exact ⟨by omega, by omega⟩
  split; exact bits_U (.inl rfl) hw hx.1
  split; exact bits_U (.inr rfl) hw hx.1
  split; exact hw
  exact hw
end C

set_option maxRecDepth 100000 in
set_option maxHeartbeats 400000 in
theorem new_any (n : Nat) (w : World) (h1 : 1 ≤ n) (h2 : n ≤ 65536) :
    Calls Tryz.prog 6 #[.int .i64 (n : Int)] w fun e w' => ∃ m b, e = .returned (.tuple #[.pointer (some ⟨m, 0, none⟩), .int .i64 0]) ∧ Mem w' m b (List.replicate n 0) ∧ Keeps [] w w' ∧ w.heap.size ≤ m ∧ w.heap.size ≤ b := by
  obtain ⟨w1, hrun, hrow, hk, hs⟩ := make_row (P := Tryz.prog) w 31 34 _ 1 8 Tryz.underlying31 elemWord .i64 .i64 n (by omega)
  rw [made_words] at hrow
  have HR := Lib.hid hrow
  have HK := Lib.hid hk
  have HS := Lib.hid hs
  clear hrow hk hs
  go_enter Tryz.func6, Tryz.ntmps6
  go_wp2
  go_ret2
  refine ⟨w1.heap.size, w.heap.size, rfl, ⟨by rw [HS.out]; omega, ⟨n, ?_⟩, HR.out.alloc _, ?_, by simpa using h2, by rw [List.length_replicate]; omega⟩, HK.out.alloc _, by rw [HS.out]; omega, Nat.le_refl _⟩
  · rw [List.length_replicate]; exact Row.new _ _ _
  · intro u hu; obtain rfl := List.eq_of_mem_replicate hu; exact ⟨by decide, by decide⟩

theorem len_any (m b : Nat) (us : List Int) (w : World) (h : Mem w m b us) :
    Calls Tryz.prog 55 #[.pointer (some ⟨m, 0, none⟩)] w fun e w' => e = .returned (.int .i64 us.length) ∧ w = w' := by
  obtain ⟨cap, hc⟩ := h.at
  clear h
  go_enter Tryz.func55, Tryz.ntmps55
  go_wp2
  go_ret
  exact ⟨rfl, rfl⟩
set_option maxRecDepth 100000 in
set_option maxHeartbeats 800000 in
theorem do_core (m b i n cap : Nat) (x : C.Acc) (was : Int) (F : Nat) (v : Int) (won : Bool) (w : World) (hm : w.cell? ⟨m, 0, none⟩ = some (.slice (some ⟨b, 0, none⟩) n cap)) (hi : i < n) (hn : n ≤ 65536) (hmb : m < w.heap.size) (hbb : b < w.heap.size)
    (hc : w.cell? ⟨b, i, none⟩ = some (.int .u64 was)) (hf : w.frozen? ⟨b, i, none⟩ = false) (hk1 : 1 ≤ x.k) (hk7 : x.k ≤ 7) (hxc : x.c = (i : Int))
    (hcf : ∀ args w, (callFunc F args).run Tryz.prog w = .ok (.enter F args) w)
    (hd : Hid (∀ w, Calls Tryz.prog 75 #[.int .i64 x.k] w fun e w' => e = .returned (.func (.func F) #[] #[]) ∧ w = w'))
    (hF : Hid (∀ w, Calls Tryz.prog F #[.int .u64 was, .agg #[.int .i64 x.k, .int .i64 x.c, .int .u64 x.a, .int .u64 x.b]] w fun e w' => e = .returned (.tuple #[.int .u64 v, .bool won]) ∧ Keeps [] w w')) :
    Calls Tryz.prog 51 #[.pointer (some ⟨m, 0, none⟩), .agg #[.int .i64 x.k, .int .i64 x.c, .int .u64 x.a, .int .u64 x.b]] w fun e w' => e = .returned (.tuple #[.int .u64 was, .bool won, .int .i64 0]) ∧ ∃ w1, Keeps [] w w1 ∧ w1.setCell ⟨b, i, none⟩ (.int .u64 v) = w' := by
  have hd0 : decide ((i : Int) < 0) = false := decide_eq_false (by omega)
  have hd1 : decide ((n : Int) ≤ (i : Int)) = false := decide_eq_false (by omega)
  go_enter Tryz.func51, Tryz.ntmps51
  go_wp2
  go_quiet (fail)
  go_wp2
  go_quiet (fail)
  go_wp2
  generalize hW : World.drewN _ _ = W1
  have hz : w.heap.size < W1.heap.size := by rw [← hW]; simp [World.drewN]
  have hKp : Keeps [] w W1 := by rw [← hW]; exact ((Keeps.refl _ _).alloc _).drewN.drewN
  have b0 : W1.cell? ⟨w.heap.size, 0, none⟩ = some (.int .i64 x.k) := by rw [← hW]; exact World.cell?_alloc_at _ _ _ _ rfl
  have b1 : W1.cell? ⟨w.heap.size, 1, none⟩ = some (.int .i64 i) := by rw [← hW]; exact World.cell?_alloc_at _ _ _ _ rfl
  have b2 : W1.cell? ⟨w.heap.size, 2, none⟩ = some (.int .u64 x.a) := by rw [← hW]; exact World.cell?_alloc_at _ _ _ _ rfl
  have b3 : W1.cell? ⟨w.heap.size, 3, none⟩ = some (.int .u64 x.b) := by rw [← hW]; exact World.cell?_alloc_at _ _ _ _ rfl
  clear hW
  have hF' := hF.out
  rw [hxc] at hF'
  have HF := Lib.hid hF'
  clear hF'
  have HX := Lib.hid hxc
  clear hxc
  go_region_held3 (fun w' => Keeps [] w w' ∧ w.heap.size < w'.heap.size ∧ w'.cell? ⟨w.heap.size, 0, none⟩ = some (.int .i64 x.k) ∧ w'.cell? ⟨w.heap.size, 1, none⟩ = some (.int .i64 i) ∧ w'.cell? ⟨w.heap.size, 2, none⟩ = some (.int .u64 x.a) ∧ w'.cell? ⟨w.heap.size, 3, none⟩ = some (.int .u64 x.b))
    (first
      | exact ⟨by assumption, by assumption, by assumption, by assumption, by assumption, by assumption⟩
      | exact ⟨Keeps.drew (by assumption), by assumption, by assumption, by assumption, by assumption, by assumption⟩
      | (go_split_ands
         exact ⟨Keeps.trans (by assumption) hk2, Nat.lt_of_lt_of_le (by assumption) hk2.size, (hk2.cell (by assumption) (by simp)).trans (by assumption), (hk2.cell (by assumption) (by simp)).trans (by assumption), (hk2.cell (by assumption) (by simp)).trans (by assumption), (hk2.cell (by assumption) (by simp)).trans (by assumption)⟩))
    (first
      | (go_at_call 75; refine (hd.out _).mono ?_; rintro e w' ⟨rfl, rfl⟩)
      | (refine (HF.out _).mono ?_; rintro e w2 ⟨rfl, hk2⟩))
  rename_i hH
  obtain ⟨hK, hz2, c0, c1, -, -⟩ := hH
  clear hk2 b0 b1 b2 b3 hKp hz
  have hm2 := (hK.cell (p := ⟨m, 0, none⟩) hmb (by simp)).trans hm
  have hc2 := (hK.cell (p := ⟨b, i, none⟩) hbb (by simp)).trans hc
  have hf2 := (hK.frozen (p := ⟨b, i, none⟩) hbb (by simp)).trans hf
  go_wp2
  go_still_tail 8, (by kernel_rfl)
  change wpList _ _ _ _ _ w2.drew
  go_wp2
  go_ret3
  exact ⟨rfl, w2.drew, hK.drew, rfl⟩

set_option maxRecDepth 100000 in
set_option maxHeartbeats 400000 in
theorem do_any (m b : Nat) (us : List Int) (x : C.Acc) (w : World) (h : Mem w m b us) (hx : x.ok) :
    Calls Tryz.prog 51 #[.pointer (some ⟨m, 0, none⟩), .agg #[.int .i64 x.k, .int .i64 x.c, .int .u64 x.a, .int .u64 x.b]] w fun e w' =>
      e = .returned (.tuple #[.int .u64 (C.told us x), .bool (C.won us x), .int .i64 (C.code us x)]) ∧ Mem w' m b (C.next us x) ∧ Keeps [b] w w' := by
  obtain ⟨cap, hm⟩ := h.at
  obtain ⟨hml, hbl⟩ := h.lt
  have hlen := h.len
  by_cases hk : x.k < 1 ∨ 7 < x.k
  · have hcode : C.code us x = 2 := by rw [C.code, if_pos hk]
    have HT : Hid (C.told us x = 0 ∧ C.won us x = false ∧ C.code us x = 2 ∧ C.next us x = us) := Lib.hid ⟨by rw [C.told, hcode]; rfl, by rw [C.won, hcode]; rfl, hcode, by rw [C.next, hcode]; rfl⟩
    have HM := Lib.hid h
    clear h hcode
    by_cases hk1 : x.k < 1
    · clear hk
      go_enter Tryz.func51, Tryz.ntmps51
      go_wp2
      go_ret3
      obtain ⟨e1, e2, e3, e4⟩ := HT.out
      rw [e1, e2, e3, e4]
      exact ⟨rfl, HM.out.keeps ((Keeps.refl [] _).alloc _) (by simp) (by simp), (Keeps.refl _ _).alloc _⟩
    · have hk7 : 7 < x.k := by omega
      clear hk
      go_enter Tryz.func51, Tryz.ntmps51
      go_wp2
      go_ret3
      obtain ⟨e1, e2, e3, e4⟩ := HT.out
      rw [e1, e2, e3, e4]
      exact ⟨rfl, HM.out.keeps ((Keeps.refl [] _).alloc _) (by simp) (by simp), (Keeps.refl _ _).alloc _⟩
  · by_cases hc : x.c < 0 ∨ (us.length : Int) ≤ x.c
    · have hcode : C.code us x = 3 := by rw [C.code, if_neg hk, if_pos hc]
      have HT : Hid (C.told us x = 0 ∧ C.won us x = false ∧ C.code us x = 3 ∧ C.next us x = us) := Lib.hid ⟨by rw [C.told, hcode]; rfl, by rw [C.won, hcode]; rfl, hcode, by rw [C.next, hcode]; rfl⟩
      have HM := Lib.hid h
      have hk1 : 1 ≤ x.k := by omega
      have hk7 : x.k ≤ 7 := by omega
      clear h hcode hk
      by_cases hc0 : x.c < 0
      · clear hc
        have hd0 : decide (x.c < 0) = true := decide_eq_true hc0
        go_enter Tryz.func51, Tryz.ntmps51
        go_wp2
        go_quiet (fail)
        go_wp2
        go_ret3
        obtain ⟨e1, e2, e3, e4⟩ := HT.out
        rw [e1, e2, e3, e4]
        exact ⟨rfl, HM.out.keeps ((Keeps.refl [] _).alloc _).drewN (by simp) (by simp), ((Keeps.refl _ _).alloc _).drewN⟩
      · have hc1 : (us.length : Int) ≤ x.c := by omega
        clear hc
        have hd0 : decide (x.c < 0) = false := decide_eq_false hc0
        have hd1 : decide ((us.length : Int) ≤ x.c) = true := decide_eq_true hc1
        go_enter Tryz.func51, Tryz.ntmps51
        go_wp2
        go_quiet (fail)
        go_wp2
        go_ret3
        obtain ⟨e1, e2, e3, e4⟩ := HT.out
        rw [e1, e2, e3, e4]
        exact ⟨rfl, HM.out.keeps ((Keeps.refl [] _).alloc _).drewN (by simp) (by simp), ((Keeps.refl _ _).alloc _).drewN⟩
    · obtain ⟨i, hi⟩ : ∃ i : Nat, x.c = (i : Int) := ⟨x.c.toNat, by omega⟩
      have hiu : i < us.length := by omega
      have hcode : C.code us x = 0 := by rw [C.code, if_neg hk, if_neg hc]
      obtain ⟨w1, w2, w3⟩ := h.word hiu
      have hin : x.c.toNat = i := by omega
      rw [C.told, C.won, C.next, hcode, if_pos rfl, if_pos rfl, if_pos rfl, hin]
      have go : ∀ (F : Nat) (hcf : ∀ args w, (callFunc F args).run Tryz.prog w = .ok (.enter F args) w)
          (hd : ∀ w, Calls Tryz.prog 75 #[.int .i64 x.k] w fun e w' => e = .returned (.func (.func F) #[] #[]) ∧ w = w')
          (hF : ∀ w, Calls Tryz.prog F #[.int .u64 (us.getD i 0), .agg #[.int .i64 x.k, .int .i64 x.c, .int .u64 x.a, .int .u64 x.b]] w fun e w' => e = .returned (.tuple #[.int .u64 (C.deed x.k (us.getD i 0) x.a x.b).1, .bool (C.deed x.k (us.getD i 0) x.a x.b).2]) ∧ Keeps [] w w'),
          Calls Tryz.prog 51 #[.pointer (some ⟨m, 0, none⟩), .agg #[.int .i64 x.k, .int .i64 x.c, .int .u64 x.a, .int .u64 x.b]] w fun e w' =>
            e = .returned (.tuple #[.int .u64 (us.getD i 0), .bool (C.deed x.k (us.getD i 0) x.a x.b).2, .int .i64 0]) ∧ Mem w' m b (us.set i (C.deed x.k (us.getD i 0) x.a x.b).1) ∧ Keeps [b] w w' := by
        intro F hcf hd hF
        refine (do_core m b i us.length cap x _ F _ _ w hm hiu hlen hml hbl w1 w2 (by omega) (by omega) hi hcf (Lib.hid hd) (Lib.hid hF)).mono ?_
        rintro e w' ⟨rfl, w1', hk', rfl⟩
        exact ⟨rfl, (h.keeps hk' (by simp) (by simp)).setAt i _ (C.deed_U w3 hx), hk'.nil.setCell (fun _ => by simp) _⟩
      have h1 : 1 ≤ x.k := by omega
      have h7 : x.k ≤ 7 := by omega
      rcases (show x.k = 1 ∨ x.k = 2 ∨ x.k = 3 ∨ x.k = 4 ∨ x.k = 5 ∨ x.k = 6 ∨ x.k = 7 by omega) with e | e | e | e | e | e | e
      · exact go _ (fun _ _ => by kernel_rfl) (by rw [e]; exact deedOf_1) (fun w => by have := stay_any x _ w w3 hx; rw [← e] at this; exact this)
      · exact go _ (fun _ _ => by kernel_rfl) (by rw [e]; exact deedOf_2) (fun w => by have := store_any x _ w w3 hx; rw [← e] at this; exact this)
      · exact go _ (fun _ _ => by kernel_rfl) (by rw [e]; exact deedOf_3) (fun w => by have := swap_any x _ w w3 hx; rw [← e] at this; exact this)
      · exact go _ (fun _ _ => by kernel_rfl) (by rw [e]; exact deedOf_4) (fun w => by have := add_any x _ w w3 hx; rw [← e] at this; exact this)
      · exact go _ (fun _ _ => by kernel_rfl) (by rw [e]; exact deedOf_5) (fun w => by have := or_any x _ w w3 hx; rw [← e] at this; exact this)
      · exact go _ (fun _ _ => by kernel_rfl) (by rw [e]; exact deedOf_6) (fun w => by have := and_any x _ w w3 hx; rw [← e] at this; exact this)
      · exact go _ (fun _ _ => by kernel_rfl) (by rw [e]; exact deedOf_7) (fun w => by have := wait_any x _ w w3 hx; rw [← e] at this; exact this)
end Go.Proofs.YtjbgkaleickknaaGreat

/-
  Contracts: All, Fill, Copy and Same of package cells; the reference's Do.
-/
namespace Go.Proofs.YtjbgkaleickknaaGreat
set_option maxRecDepth 100000
set_option linter.unusedSimpArgs false
set_option linter.unusedVariables false
open Go.ChangeShapes Go.WideShapes Go.ChangeAt Go.RowKit

theorem set_self {us : List Int} {i : Nat} {was : Int} (hi : i < us.length) (h : us.getD i 0 = was) : us.set i was = us := by
  rw [List.getD, List.getElem?_eq_getElem hi] at h
  simp only [Option.getD_some] at h
  rw [← h, List.set_getElem_self]

end Go.Proofs.YtjbgkaleickknaaGreat
