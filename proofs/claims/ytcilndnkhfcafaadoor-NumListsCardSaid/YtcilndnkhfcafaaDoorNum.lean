/-
  Contracts: Print and Read of package num.
-/
import Derived.Test.YtcilndnkhfcafaaDoorNumRef
import Derived.Test.YtcilndnkhfcafaaDoorShelf
import Derived.Lib.AppendIntMem
import Derived.Lib.SmallJoins
import Derived.Laws.RangeAny
namespace Go.Proofs.YtcilndnkhfcafaaDoor
open Go.ChangeShapes Go.WideShapes Go.ChangeAt Go.RowKit Go.Sort Go.Joins

/-- A rune that is no digit. -/
def strange (r : Nat) : Bool := decide (r < 48) || decide (57 < r)
theorem strange_byte (c : UInt8) : strange c.toNat = !D.isDig c := by
  unfold strange D.isDig
  rw [Bool.eq_iff_iff]; simp
  try omega

theorem idx_strange (s : ByteArray) : ∀ (f pos : Nat), s.size - pos ≤ f → pos ≤ s.size →
    ((0 ≤ Lib.idxFuncFrom strange true s f pos) ↔ D.allDig (s.data.toList.drop pos) = false)
  | 0, pos, h, hp => by
    have : s.data.toList.drop pos = [] := List.drop_eq_nil_of_le (by rw [← size_list]; omega)
    rw [this, Lib.idxFuncFrom]
    exact ⟨fun h => absurd h (by decide), fun h => absurd h (by decide)⟩
  | f + 1, pos, h, hp => by
    unfold Lib.idxFuncFrom
    by_cases hlt : pos < s.size
    · rw [if_pos hlt, drop_list s pos hlt]
      by_cases ha : (s[pos]'hlt).toNat < 128
      · rw [decode_ascii s pos hlt ha]
        show (0 ≤ if strange (s[pos]).toNat = true then (pos : Int) else _) ↔ _
        rw [strange_byte]
        by_cases hd : D.isDig s[pos] = true
        · rw [if_neg (by simp [hd]), idx_strange s f (pos + 1) (by omega) (by omega)]
          simp [D.allDig, hd]
        · rw [if_pos (by simpa using hd)]
          simp [D.allDig, hd]
      · have hh := decode_high s pos hlt (by omega)
        rw [if_pos (by unfold strange; simp; omega)]
        have : D.isDig s[pos] = false := dig_no (by omega)
        simp [D.allDig, this]
    · have : s.data.toList.drop pos = [] := List.drop_eq_nil_of_le (by rw [← size_list]; omega)
      rw [this, if_neg hlt]; simp [D.allDig]

theorem idx_strange_all (s : ByteArray) : decide (0 ≤ Lib.idxFunc strange true s) = !D.allDig s.data.toList := by
  have := idx_strange s s.size 0 (by omega) (by omega)
  rw [List.drop_zero] at this
  rw [Bool.eq_iff_iff, decide_eq_true_eq, Lib.idxFunc, this]; simp

theorem isStrange_any (r : Nat) (hr : r ≤ 1114111) (w : World) :
    Calls Tryd.prog 34 #[.int .i32 (r : Int)] w fun e w' => e = .returned (.bool (strange r)) ∧ ∃ m, w.drewN m = w' := by
  have hs : Hid (strange r = (decide ((r : Int) < 48) || decide ((57 : Int) < r))) := Lib.hid (by unfold strange; rw [Bool.eq_iff_iff]; simp; omega)
  rcases Nat.lt_or_ge r 48 with h | h
  · have hd : decide ((r : Int) < 48) = true := decide_eq_true (by omega)
    have HS : Hid (strange r = true) := Lib.hid (by rw [hs.out, hd]; rfl)
    go_enter Tryd.func34, Tryd.ntmps34
    go_wp2
    try go_quiet (fail)
    try go_wp2
    go_ret
    exact ⟨ret_bool HS.out.symm, by first | exact ⟨_, rfl⟩ | exact ⟨0, rfl⟩⟩
  · have hd : decide ((r : Int) < 48) = false := decide_eq_false (by omega)
    have HS : Hid (strange r = decide ((57 : Int) < r)) := Lib.hid (by rw [hs.out, hd]; rfl)
    go_enter Tryd.func34, Tryd.ntmps34
    go_wp2
    try go_quiet (fail)
    try go_wp2
    go_ret
    exact ⟨ret_bool HS.out.symm, by first | exact ⟨_, rfl⟩ | exact ⟨0, rfl⟩⟩

theorem strange_grows (w : World) : PredGrows Tryd.prog 34 #[] strange w := fun W x hx _ =>
  (isStrange_any x hx W).mono fun _ _ ⟨he, m, hm⟩ => ⟨he, hm ▸ below_drewNg W m⟩

theorem empty_of_size {s : ByteArray} (h : s.size = 0) : s = ⟨#[]⟩ := by
  cases s with
  | mk d => exact congrArg _ (Array.eq_empty_of_size_eq_zero h)
theorem list_ne {s : ByteArray} (h : s.size ≠ 0) : s.toList.isEmpty = false := by
  rw [ByteArray.toList_eq]
  cases hl : s.data.toList with
  | nil => exact absurd (by rw [size_list, hl]; rfl) h
  | cons a l => rfl

theorem okText_all {s : ByteArray} (hp : s.size ≠ 0) (ha : D.allDig s.data.toList = true) (b : Bool) (hb : b = (decide (s.size = 1) || decide ((s[0]'(by omega)).toNat ≠ 48))) : D.okText s.data.toList = b := by
  have hd0 := drop_list s 0 (by omega)
  rw [List.drop_zero] at hd0
  have hl : s.data.toList ≠ [] := by rw [hd0]; simp
  have hh : decide (s.data.toList.head? ≠ some 48) = decide ((s[0]'(by omega)).toNat ≠ 48) := by
    rw [hd0]
    rw [Bool.eq_iff_iff]
    simp only [List.head?_cons, ne_eq, Option.some.injEq, decide_eq_true_eq]
    exact not_congr (UInt8.toNat_inj (b := 48)).symm
  rw [D.okText, ha, hh, hb, ← size_list]
  cases h : s.data.toList.isEmpty with
  | false => simp
  | true => exact absurd (List.isEmpty_iff.1 h) hl
theorem okText_none {s : ByteArray} (ha : D.allDig s.data.toList = false) : D.okText s.data.toList = false := by
  rw [D.okText, ha]; simp

theorem isText_any (s : ByteArray) (w : World) (hs : s.size ≤ maxLen) :
    Calls Tryd.prog 26 #[.string s] w fun e w' => e = .returned (.bool (D.okText s.data.toList)) ∧ Below w.heap.size w w' := by
  unfold maxLen at hs
  have eg : ∀ args w, (callFunc 34 args).run Tryd.prog w = .ok (.enter 34 args) w := enters_of Tryd.func34 (by kernel_rfl) rfl
  by_cases h0 : s.size = 0
  · obtain rfl := empty_of_size h0
    go_enter Tryd.func26, Tryd.ntmps26
    go_wp2
    go_ret
    exact ⟨rfl, Below.refl _ _⟩
  · have C := Tryd.strings_ContainsFunc_grows 34 #[] eg strange s w (strange_grows w)
    rw [idx_strange_all] at C
    have hne := list_ne h0
    by_cases ha : D.allDig s.data.toList = true
    · have OK := Lib.hid (okText_all h0 ha)
      rw [ha] at C
      have hp : 0 < s.size := by omega
      obtain ⟨c0, hc0⟩ : ∃ c : Nat, (s[0]'hp).toNat = c := ⟨_, rfl⟩
      have C0 := Lib.hid hc0
      clear ha
      by_cases h48 : c0 = 48
      · subst h48
        go_enter Tryd.func26, Tryd.ntmps26
        go_wp2_with (go_at_call 33; refine C.mono ?_; rintro e w' ⟨rfl, hb⟩)
        go_ret
        refine ⟨ret_bool (OK.out _ ?_).symm, hb⟩
        rw [C0.out]
        rw [Bool.eq_iff_iff]; simp; omega
      · have hb : ((c0 : Int) != 48) = true := by rw [bne_iff_ne]; omega
        go_enter Tryd.func26, Tryd.ntmps26
        go_wp2_with (go_at_call 33; refine C.mono ?_; rintro e w' ⟨rfl, hb⟩)
        go_ret
        refine ⟨ret_bool (OK.out _ ?_).symm, by assumption⟩
        rw [C0.out, decide_eq_true h48]; simp
    · have OK := Lib.hid (okText_none (by simpa using ha))
      rw [show D.allDig s.data.toList = false by simpa using ha] at C
      clear ha
      go_enter Tryd.func26, Tryd.ntmps26
      go_wp2_with (go_at_call 33; refine C.mono ?_; rintro e w' ⟨rfl, hb⟩)
      go_ret
      exact ⟨ret_bool OK.out.symm, hb⟩

/-- What the library's tables hold when a call begins. -/
def NumTabs (w : World) : Prop :=
  (∃ tp p, w.var? Tryd.prog "strconv.ErrRange" = some #[.iface tp p]) ∧ Lib.TabIs Tryd.prog w "internal/strconv.uint64pow10" .u64 Lib.pow10Tab

theorem NumTabs.below {w w' : World} {B : Nat} (h : NumTabs w) (hb : Below B w w') (hB : w.heap.size ≤ B) : NumTabs w' := by
  obtain ⟨⟨tp, p, h1⟩, h2⟩ := h
  exact ⟨⟨tp, p, var_stays (g := 2) (by kernel_rfl) h1 hb hB⟩, tab_stays (g := 3) (by kernel_rfl) h2 hb hB⟩

set_option maxHeartbeats 800000 in
theorem read_any (s : ByteArray) (w : World) (hs : s.size ≤ 1000000) (hT : NumTabs w) :
    Calls Tryd.prog 12 #[.string s] w fun e w' => e = .returned (.tuple #[.int .u64 ((D.readL s.data.toList).1 : Int), .int .i64 ((D.readL s.data.toList).2 : Int)]) ∧ Below w.heap.size w w' := by
  by_cases ok : D.okText s.data.toList = true
  · by_cases hv : D.val s.data.toList ≤ D.top
    · have R := Lib.hid ((D.readL_ok ok).trans (if_pos hv))
      have P := Lib.hid ((D.parseB _ ok).trans (if_pos hv))
      obtain ⟨u, hu⟩ : ∃ u, D.val s.data.toList = u := ⟨_, rfl⟩
      rw [hu] at R P
      clear hu hv
      go_enter Tryd.func12, Tryd.ntmps12
      go_wp2_with fail
      refine (isText_any s w (by unfold maxLen; omega)).mono ?_
      rw [ok]
      rintro e w1 ⟨rfl, hb1⟩
      go_wp2_with fail
      refine (Tryd.strconv_ParseUint_10_at64_ok s (by omega) u P.out w1).mono ?_
      rintro e w2 ⟨rfl, hw2⟩
      have hb2 : Below w.heap.size w w2 := by
        rcases hw2 with rfl | rfl
        · exact hb1
        · exact hb1.trans (below_bytesWorld _ _ _ _ hb1.size)
      clear hw2
      go_wp2
      go_ret2
      exact ⟨ret_nc R.out, hb2⟩
    · have R := Lib.hid ((D.readL_ok ok).trans (if_neg hv))
      have P := Lib.hid ((D.parseB _ ok).trans (if_neg hv))
      clear hv
      go_enter Tryd.func12, Tryd.ntmps12
      go_wp2_with fail
      refine (isText_any s w (by unfold maxLen; omega)).mono ?_
      rw [ok]
      rintro e w1 ⟨rfl, hb1⟩
      obtain ⟨⟨tp, p, hvar⟩, _⟩ := hT.below hb1 (Nat.le_refl _)
      go_wp2_with fail
      refine (Tryd.strconv_ParseUint_10_at64_range_var s (by omega) P.out tp p w1 hvar).mono ?_
      rintro e w2 ⟨N, rfl, hN, _, hb2⟩
      have hb3 : Below w.heap.size w w2 := hb1.trans (hb2.mono hb1.size)
      clear hvar
      go_wp2
      go_ret2
      exact ⟨ret_nc R.out, hb3⟩
  · have ok' : D.okText s.data.toList = false := by simpa using ok
    have R := Lib.hid (D.readL_no ok')
    go_enter Tryd.func12, Tryd.ntmps12
    go_wp2_with fail
    refine (isText_any s w (by unfold maxLen; omega)).mono ?_
    rw [ok']
    rintro e w1 ⟨rfl, hb1⟩
    clear ok ok'
    go_wp2
    go_ret2
    exact ⟨ret_nc R.out, hb1⟩

theorem holds_zero0 (w : World) (T : TypeId) (nd : Nat) (hs : nd ≤ 24) : Holds (fun (b : UInt8) => Value.int .u8 (b.toNat : Int)) (w.alloc (.cells Lib.zeros24 T)) w.heap.size 0 (Array.replicate nd (0 : UInt8)) := fun j hj => by
  have hj' : j < nd := by simpa using hj
  refine ⟨?_, World.frozen?_alloc_new _ _ _ _⟩
  rw [World.cell?_alloc_new, Lib.zeros24_at _ (by omega), getElem!_pos _ j hj]
  simp
theorem below_fmt (w : World) (o : Obj) (off : Nat) (dk : Array UInt8) (k : Nat) : Below w.heap.size w ((putRow (fun (b : UInt8) => Value.int .u8 (b.toNat : Int)) (w.alloc o) w.heap.size off dk).drewN k) := by
  obtain ⟨os', _, e⟩ := putRow_grow_new (fun (b : UInt8) => Value.int .u8 (b.toNat : Int)) w #[o] w.heap.size off dk (Nat.le_refl _)
  rw [alloc_eq_grow, e]
  exact Lib.below_grow _ _ (Nat.le_refl _) k os'

set_option maxHeartbeats 6400000 in
set_option maxRecDepth 100000 in
theorem formatUint_any (u : Nat) (hu64 : u < 18446744073709551616) (w : World) (hT : NumTabs w) :
    Calls Tryd.prog 37 #[.int .u64 u, .int .i64 10] w fun e w' => e = .returned (.string (str (Lib.decDigits u))) ∧ Below w.heap.size w w' := by
  by_cases h : u < 100
  · go_enter Tryd.func37, Tryd.ntmps37
    go_wp2_with (go_at_call 47; refine (Tryd.internal_strconv_small u h _).mono ?_; rintro e w' ⟨rfl, rfl⟩)
    go_ret
    exact ⟨rfl, Below.refl _ _⟩
  · have hu1 : 1 ≤ u := by omega
    have hnd20 : Lib.nDigits u ≤ 20 := by have := Lib.numDigits_eq u hu1 hu64; split at this <;> omega
    have hb3 : Lib.nDigits u ≤ 24 := by omega
    have hal : Tryd.prog.arrayLen 72 = 24 := by kernel_rfl
    have hel : Tryd.prog.elem 72 = 5 := by kernel_rfl
    have hsl : ∀ W, (Instr.sliceAt 72 (.pointer (some ⟨w.heap.size, 0, none⟩)) none (some (.int .i64 (Lib.nDigits u : Int))) none).run Tryd.prog W = .ok (.slice (some ⟨w.heap.size, 0, none⟩) (Lib.nDigits u) 24) W := fun W => by
      rw [run_sliceAt_array_h W 72 ⟨w.heap.size, 0, none⟩ (by simp [Program.arrayLen, Program.elem, Tryd.underlying72]) .i64 (Lib.nDigits u : Int) (by omega) (by rw [hal]; omega)]
      go_simp
    have hH0 := holds_zero0 w 72 (Lib.nDigits u) hb3
    have hfmt := Tryd.internal_strconv_formatBase10 w.heap.size 0 24 u (Array.replicate (Lib.nDigits u) 0) (w.alloc (.cells Lib.zeros24 72)) hH0 (by rw [Array.size_replicate]; exact Lib.lt_pow_nDigits u) hu64 (by rw [Array.size_replicate]; omega)
    rw [Array.size_replicate] at hfmt
    have HH0 := Lib.hid hH0
    have hT2 := Lib.tabIs_alloc hT.2 (.cells Lib.zeros24 72)
    clear hH0 hal hel hT
    go_enter Tryd.func37, Tryd.ntmps37
    go_wp2_with (go_at_call 48; refine (Tryd.internal_strconv_numDigits u hu1 hu64 _ hT2).mono ?_; rintro e w' ⟨rfl, rfl⟩)
    go_at_call 49
    refine hfmt.mono ?_
    rintro e w' ⟨rfl, k, v', dk, rfl, hF⟩
    have hcv : (convert 52 9 (.slice (some ⟨w.heap.size, 0, none⟩) (Lib.nDigits u) 24)).run Tryd.prog ((putRow (fun (b : UInt8) => Value.int .u8 (b.toNat : Int)) (w.alloc (.cells Lib.zeros24 72)) w.heap.size 0 dk).drewN k) = .ok (.string (str (Lib.decDigits u))) ((putRow (fun (b : UInt8) => Value.int .u8 (b.toNat : Int)) (w.alloc (.cells Lib.zeros24 72)) w.heap.size 0 dk).drewN k) := by
      have h := run_convert_bytes_back (P := Tryd.prog) ((putRow (fun (b : UInt8) => Value.int .u8 (b.toNat : Int)) (w.alloc (.cells Lib.zeros24 72)) w.heap.size 0 dk).drewN k) 52 9 5 ⟨w.heap.size, 0, none⟩ 24 (Lib.decDigits u) Tryd.underlying52 Tryd.underlying5 Tryd.underlying9 (fun j hj => by
        rw [Lib.row_is_numeral hF j hj, Lib.add_plain, World.cell?_drewN]
        exact cell?_putRow (fun (b : UInt8) => Value.int .u8 (b.toNat : Int)) _ w.heap.size 0 _ dk HH0.out (by rw [hF.size, Array.size_replicate]) j (by rw [hF.size]; rw [Lib.decDigits_length] at hj; exact hj))
      rw [Lib.decDigits_length] at h
      exact h
    have HB := Lib.hid (below_fmt w (.cells Lib.zeros24 72) 0 dk k)
    go_wp2
    go_ret
    exact ⟨rfl, HB.out⟩

theorem strconv_FormatUint_any (u : Nat) (hu64 : u < 18446744073709551616) (w : World) (hT : NumTabs w) :
    Calls Tryd.prog 28 #[.int .u64 u, .int .i64 10] w fun e w' => e = .returned (.string (str (Lib.decDigits u))) ∧ Below w.heap.size w w' := by
  have C := formatUint_any u hu64 w hT
  go_enter Tryd.func28, Tryd.ntmps28
  go_wp2_with (go_at_call 37; refine C.mono ?_; rintro e w' ⟨rfl, hb⟩)
  go_ret
  exact ⟨rfl, hb⟩

theorem print_any (u : Nat) (hu64 : u < 18446744073709551616) (w : World) (hT : NumTabs w) :
    Calls Tryd.prog 14 #[.int .u64 u] w fun e w' => e = .returned (.string (str (Lib.decDigits u))) ∧ Below w.heap.size w w' := by
  have C := strconv_FormatUint_any u hu64 w hT
  go_enter Tryd.func14, Tryd.ntmps14
  go_wp2_with (go_at_call 28; refine C.mono ?_; rintro e w' ⟨rfl, hb⟩)
  go_ret
  exact ⟨rfl, hb⟩
end Go.Proofs.YtcilndnkhfcafaaDoor
