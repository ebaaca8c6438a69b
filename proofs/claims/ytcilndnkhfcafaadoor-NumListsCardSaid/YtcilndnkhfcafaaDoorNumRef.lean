/-
  Contracts: the reference's Read and Print of layer 2.
-/
import Derived.Test.YtcilndnkhfcafaaDoorNumMath
import Derived.Test.YtcilndnkhfcafaaDoorHeap
import Derived.Test.YtcilndnkhfcafaaDoorRows
import Derived.LoopTactic
namespace Go.Proofs.YtcilndnkhfcafaaDoor
open Go.ChangeShapes Go.WideShapes Go.ChangeAt Go.RowKit

/-- A string of these bytes. -/
def str (l : List UInt8) : ByteArray := ⟨l.toArray⟩
theorem str_size (l : List UInt8) : (str l).size = l.length := rfl
theorem str_list (s : ByteArray) : str s.data.toList = s := by cases s; rfl
theorem str_toList (l : List UInt8) : (str l).toList = l := ByteArray.toList_mk l
theorem str_data (l : List UInt8) : (str l).data.toList = l := rfl
theorem size_list (s : ByteArray) : s.size = s.data.toList.length := by rw [Array.length_toList]; rfl
theorem at_list (s : ByteArray) (k : Nat) (h : k < s.size) : s.data.toList[k]? = some s[k] := by
  rw [List.getElem?_eq_getElem (by rw [← size_list]; exact h)]; rfl
theorem drop_list (s : ByteArray) (k : Nat) (h : k < s.size) : s.data.toList.drop k = s[k] :: s.data.toList.drop (k + 1) := by
  rw [List.drop_eq_getElem_cons (by rw [← size_list]; exact h)]; rfl

theorem no_of_nil {s : ByteArray} (h : s.size = 0) : D.okText s.data.toList = false := by
  have : s.data.toList = [] := List.eq_nil_of_length_eq_zero (by rw [← size_list]; exact h)
  rw [this]; rfl
theorem no_of_head {s : ByteArray} (h : 1 < s.size) (h0 : s[0].toNat = 48) : D.okText s.data.toList = false := by
  have hd := drop_list s 0 (by omega)
  rw [List.drop_zero] at hd
  have hl : s.data.toList.length ≠ 1 := by rw [← size_list]; omega
  have hc : s[0] = 48 := UInt8.toNat_inj.1 (by rw [h0]; rfl)
  rw [D.okText, decide_eq_false hl, hd, hc]
  simp
theorem no_of_byte {s : ByteArray} (k : Nat) (h : k < s.size) (hb : D.isDig s[k] = false) : D.okText s.data.toList = false := by
  have : D.allDig s.data.toList = false := by
    rw [D.allDig, List.all_eq_false]
    exact ⟨s[k], List.mem_of_getElem? (at_list s k h), by simpa using hb⟩
  rw [D.okText, this]; simp
theorem yes_of {s : ByteArray} (h0 : 0 < s.size) (hh : s.size = 1 ∨ s[0].toNat ≠ 48) (hd : ∀ k (h : k < s.size), D.isDig s[k] = true) : D.okText s.data.toList = true := by
  have hl : s.data.toList ≠ [] := fun h => by rw [size_list, h] at h0; simp at h0
  have ha : D.allDig s.data.toList = true := by
    rw [D.allDig, List.all_eq_true]
    intro c hc
    obtain ⟨k, hk, rfl⟩ := List.getElem_of_mem hc
    exact hd k (by rw [size_list]; exact hk)
  rw [D.okText, ha]
  rcases hh with h1 | h1
  · rw [decide_eq_true (by rw [← size_list]; exact h1)]; simpa using hl
  · have hd0 := drop_list s 0 h0
    rw [List.drop_zero] at hd0
    have hne : s.data.toList.head? ≠ some 48 := by
      rw [hd0]
      intro h
      have : s[0] = 48 := by simpa using h
      exact h1 (by rw [this]; rfl)
    rw [decide_eq_true hne]
    simpa using hl

theorem ret_nc {a b : Nat} {r : Nat × Nat} (h : r = (a, b)) : Ending.returned (.tuple #[.int .u64 (a : Int), .int .i64 (b : Int)]) = .returned (.tuple #[.int .u64 (r.1 : Int), .int .i64 (r.2 : Int)]) := by rw [h]

theorem dig_no {c : UInt8} (h : c.toNat < 48 ∨ 57 < c.toNat) : D.isDig c = false := by
  rw [D.isDig]; exact decide_eq_false (by omega)
theorem dig_yes {c : UInt8} (h : 48 ≤ c.toNat) (h2 : c.toNat ≤ 57) : D.isDig c = true := by
  rw [D.isDig]; exact decide_eq_true ⟨h, h2⟩

theorem not_dig {c : UInt8} (h : ¬ D.isDig c = true) : (c.toNat < 48) ∨ (48 ≤ c.toNat ∧ 57 < c.toNat) := by
  rw [D.isDig, decide_eq_true_eq] at h
  omega
theorem readL_range {l : List UInt8} (h : D.okText l = true) (hp : Lib.parseUintM D.top 0 l = .range) : D.readL l = (0, 14) := by rw [D.readL, if_pos h, hp]
theorem readL_fine {l : List UInt8} {v : Nat} (h : D.okText l = true) (hp : Lib.parseUintM D.top 0 l = .ok v) : D.readL l = (v, 0) := by rw [D.readL, if_pos h, hp]

set_option maxHeartbeats 800000 in
theorem refRead_any (s : ByteArray) (w : World) (hs : s.size ≤ maxLen) :
    Calls Tryd.prog 13 #[.string s] w fun e w' => e = .returned (.tuple #[.int .u64 ((D.readL s.data.toList).1 : Int), .int .i64 ((D.readL s.data.toList).2 : Int)]) ∧ ∃ m, w.drewN m = w' := by
  unfold maxLen at hs
  by_cases h0 : s.size = 0
  · have R := Lib.hid (D.readL_no (no_of_nil h0))
    go_enter Tryd.func13, Tryd.ntmps13
    go_wp2
    try go_quiet (fail)
    try go_wp2
    go_ret2
    exact ⟨ret_nc R.out, by first | exact ⟨_, rfl⟩ | exact ⟨0, rfl⟩⟩
  · have hb0 : ((s.size : Int) == 0) = false := by simpa using h0
    by_cases h1 : 1 < s.size ∧ s[0].toNat = 48
    · have R := Lib.hid (D.readL_no (no_of_head h1.1 h1.2))
      obtain ⟨ha, hb⟩ := h1
      go_enter Tryd.func13, Tryd.ntmps13
      go_wp2
      try go_quiet (fail)
      try go_wp2
      go_ret2
      exact ⟨ret_nc R.out, by first | exact ⟨_, rfl⟩ | exact ⟨0, rfl⟩⟩
    · have hp : 0 < s.size := by omega
      have HH : Hid (s.size = 1 ∨ (s[0]'hp).toNat ≠ 48) := Lib.hid (by omega)
      obtain ⟨c0, hc0⟩ : ∃ c : Nat, (s[0]'hp).toNat = c := ⟨_, rfl⟩
      have hx : (1 < s.size ∧ ((c0 : Int) == 48) = false) ∨ s.size = 1 := by
        rcases Nat.lt_or_ge 1 s.size with h | h
        · exact .inl ⟨h, beq_false_of_ne (by omega)⟩
        · exact .inr (by omega)
      rcases hx with ⟨h1, hb1⟩ | h1
      all_goals
        go_enter Tryd.func13, Tryd.ntmps13
        go_wp2
        try go_quiet (fail)
        try go_wp2
        clear hc0
        go_loopw [4] (fun i wr => ∃ k m : Nat, k ≤ s.size ∧ i = .int .i64 k ∧ Hid (∀ j (h : j < s.size), j < k → D.isDig s[j] = true) ∧ wr = w.drewN m) (fun i _ => s.size - (intOf i).toNat)
        case atStart => exact ⟨0, 0, Nat.zero_le _, rfl, Lib.hid (fun _ _ h => absurd h (Nat.not_lt_zero _)), rfl⟩
        case round =>
          obtain ⟨k, m, hk, rfl, HD, rfl⟩ := hrel
          by_cases hlt : k < s.size
          · by_cases hd : D.isDig s[k] = true
            · have h1 := (D.isDig_bounds hd).1
              have h2 := (D.isDig_bounds hd).2
              have HX := Lib.hid hd
              clear hd
              go_wp2
              try go_quiet (fail)
              try go_wp2
              go_roundw
              case rel => exact ⟨k + 1, _, by omega, by go_num, Lib.hid (fun j h hj => by rcases Nat.lt_succ_iff_lt_or_eq.1 hj with h' | rfl; exact HD.out j h h'; exact HX.out), by first | rfl | exact (World.drewN_drewN ..).symm⟩
              case measure => simp [intOf]; omega
            · have R := Lib.hid (D.readL_no (no_of_byte k hlt (by simpa using hd)))
              have hnd : (s[k].toNat < 48) ∨ (48 ≤ s[k].toNat ∧ 57 < s[k].toNat) := not_dig hd
              clear hd HD
              rcases hnd with h | ⟨h, h'⟩
              all_goals
                go_wp2
                try go_quiet (fail)
                try go_wp2
                go_ret2
                exact ⟨ret_nc R.out, by first | exact ⟨_, rfl⟩ | exact dn2 _ _ _⟩
          · obtain rfl : k = s.size := by omega
            have Y := Lib.hid (yes_of hp HH.out (fun j h => HD.out j h h))
            have HA := Lib.hid (fun j (h : j < s.size) => HD.out j h h)
            clear HD HH hlt hk
            go_wp2
            go_loopw [5, 6] (fun u i wr => ∃ k v m : Nat, k ≤ s.size ∧ v ≤ 18446744073709551615 ∧ u = .int .u64 v ∧ i = .int .i64 k ∧ Hid (Lib.parseUintM D.top 0 s.data.toList = Lib.parseUintM D.top v (s.data.toList.drop k)) ∧ wr = w.drewN m) (fun _ i _ => s.size - (intOf i).toNat)
            case atStart => exact ⟨0, 0, _, Nat.zero_le _, Nat.zero_le _, rfl, rfl, Lib.hid rfl, rfl⟩
            case round =>
              obtain ⟨k, v, m, hk, hv, rfl, rfl, HP, rfl⟩ := hrel
              by_cases hlt : k < s.size
              · have hd := HA.out k hlt
                have h1 := (D.isDig_bounds hd).1
                have h2 := (D.isDig_bounds hd).2
                have HX := Lib.hid (HP.out.trans ((congrArg _ (drop_list s k hlt)).trans (D.parse_step hd hv)))
                clear hd HP
                by_cases ho : v > (D.top - (s[k].toNat - 48)) / 10
                · have R := Lib.hid (readL_range Y.out (HX.out.trans (if_pos ho)))
                  unfold D.top at ho
                  clear HX
                  go_wp2
                  try go_quiet (fail)
                  try go_wp2
                  go_ret2
                  exact ⟨ret_nc R.out, by first | exact ⟨_, rfl⟩ | exact dn2 _ _ _⟩
                · have HX' := Lib.hid (HX.out.trans (if_neg ho))
                  unfold D.top at ho
                  clear HX
                  go_wp2
                  try go_quiet (fail)
                  try go_wp2
                  go_roundw
                  case rel => exact ⟨k + 1, 10 * v + (s[k].toNat - 48), _, by omega, by omega, by congr 1; omega, by go_num, HX', by first | rfl | exact (World.drewN_drewN ..).symm⟩
                  case measure => simp [intOf]; omega
              · obtain rfl : k = s.size := by omega
                have R := Lib.hid (readL_fine Y.out (HP.out.trans (by rw [List.drop_eq_nil_of_le (by rw [size_list]; exact Nat.le_refl _)]; rfl)))
                go_wp2
                go_ret2
                exact ⟨ret_nc R.out, _, rfl⟩

theorem decDigits_snoc (u : Nat) (h : 9 < u) : Lib.decDigits u = Lib.decDigits (u / 10) ++ [UInt8.ofNat (48 + u % 10)] := D.decDigits_big (by omega)

/-- Strings that are joined. -/
theorem add_str {P : Program} (a b : List UInt8) (h : a.length + b.length ≤ 9223372036854775807) (W : World) : (Op.stringOp .add (str a) (str b)).run P W = .ok (.string (str (a ++ b))) W := by
  rw [run_string_add_sum (P := P) (w := W) (str a) (str b) (by rw [str_size, str_size]; exact h)]
  congr 2

/-- A byte of a new block, as a string. -/
theorem byte_str {P : Program} {src dst e : TypeId} (hs : P.underlying src = some (.slice e)) (he : P.underlying e = some (.int .u8)) (hd : P.underlying dst = some .string) (w : World) (x : Int) (b : UInt8) (h : x = (b.toNat : Int)) :
    (convert src dst (.slice (some ⟨w.heap.size, 0, none⟩) 1 1)).run P (w.alloc (.cells #[.int .u8 x] e)) = .ok (.string (str [b])) (w.alloc (.cells #[.int .u8 x] e)) := by
  refine run_convert_bytes_back (w.alloc (.cells #[.int .u8 x] e)) src dst e ⟨w.heap.size, 0, none⟩ 1 [b] hs he hd ?_
  intro j hj
  have : j = 0 := by simpa using hj
  subst this
  have e2 : (⟨w.heap.size, 0, none⟩ : Addr).add 0 = ⟨w.heap.size, 0, none⟩ := by unfold Addr.add; split <;> simp_all
  rw [e2, World.cell?_alloc_at _ _ _ _ rfl, h]
  rfl

theorem dig_cast (d : Nat) (h : d < 10) : (48 : Int) + (d : Int) = ((UInt8.ofNat (48 + d)).toNat : Int) := by rw [D.dig_of d h]; omega
theorem dig_cast' (v : Nat) : (48 : Int) + (v : Int) % 10 = ((UInt8.ofNat (48 + v % 10)).toNat : Int) := by rw [D.dig_of _ (by omega)]; omega

set_option maxRecDepth 100000 in
set_option maxHeartbeats 800000 in
theorem refPrint_any (u : Nat) (w : World) (hu : u ≤ 18446744073709551615) :
    Calls Tryd.prog 15 #[.int .u64 (u : Int)] w fun e w' => e = .returned (.string (str (Lib.decDigits u))) ∧ Below w.heap.size w w' := by
  go_enter Tryd.func15, Tryd.ntmps15
  go_wp2
  go_loopw [0, 3] (fun x t wr => ∃ (v : Nat) (l : List UInt8), v ≤ 18446744073709551615 ∧ 10 ^ l.length * v ≤ u ∧ x = .int .u64 v ∧ t = .string (str l) ∧ Hid (Lib.decDigits u = Lib.decDigits v ++ l) ∧ Below w.heap.size w wr) (fun x _ _ => (intOf x).toNat)
  case atStart => exact ⟨u, [], hu, by simp, rfl, rfl, Lib.hid (by simp), Below.refl _ _⟩
  case round =>
    obtain ⟨v, l, hv, hlu, rfl, rfl, HD, hb⟩ := hrel
    have hbw := hb.size
    have HLU := Lib.hid hlu
    clear hlu
    by_cases h9 : 9 < v
    · have hl : l.length < 20 := D.len_of_pow HLU.out (by omega) hu
      obtain ⟨b, hbd⟩ : ∃ b, UInt8.ofNat (48 + v % 10) = b := ⟨_, rfl⟩
      have hcv := byte_str Tryd.underlying52 Tryd.underlying5 Tryd.underlying9 wr (48 + (v : Int) % 10) b (by rw [← hbd]; exact dig_cast' v)
      have hadd := add_str (P := Tryd.prog) [b] l (by simp; omega)
      rw [List.singleton_append] at hadd
      have HS := Lib.hid (decDigits_snoc v h9)
      rw [hbd] at HS
      clear hbd
      go_wp2
      go_roundw
      case rel => exact ⟨v / 10, b :: l, by omega, D.pow_step HLU.out, by go_num, rfl, Lib.hid (by rw [HD.out, HS.out]; simp), hb.alloc hbw _⟩
      case measure => simp [intOf]; omega
    · have hl : l.length < 20 := D.len_of_pow' HLU.out hu HD.out
      obtain ⟨b, hbd⟩ : ∃ b, UInt8.ofNat (48 + v) = b := ⟨_, rfl⟩
      have hcv := byte_str Tryd.underlying52 Tryd.underlying5 Tryd.underlying9 wr (48 + (v : Int)) b (by rw [← hbd]; exact dig_cast v (by omega))
      have hadd := add_str (P := Tryd.prog) [b] l (by simp; omega)
      rw [List.singleton_append] at hadd
      have HS := Lib.hid (HD.out.trans (congrArg (· ++ l) ((Lib.decDigits_one (by omega)).trans (congrArg (fun x => [x]) hbd))))
      clear hbd
      go_wp2
      go_ret
      exact ⟨by rw [HS.out]; rfl, hb.alloc hbw _⟩
end Go.Proofs.YtcilndnkhfcafaaDoor
