/-
  Contracts: All, Fill, Copy and Same of package cells.
-/
import Derived.Test.YtihlfcggggloaaaMem
import Derived.Test.YtihlfcggggloaaaClone
import Derived.Laws.CopyOwn
namespace Go.Proofs.Ytihlfcggggloaaa
set_option maxRecDepth 100000
open Go.ChangeShapes Go.WideShapes Go.ChangeAt Go.RowKit

theorem Mem.words {w : World} {m b : Nat} {us : List Int} (h : Mem w m b us) (cap : Nat) : Sl w 1 (.slice (some ⟨b, 0, none⟩) us.length cap) us.length (ints .u64 us) :=
  h.row.sl (by rw [ints_length]; omega)



/-- The first cells are those of l. -/
def C.fill (us zs : List Int) : List Int := if us.length < zs.length then us else zs ++ us.drop zs.length
theorem C.fill_len (us zs : List Int) : (C.fill us zs).length = us.length := by
  unfold C.fill; split
  · rfl
  · rw [List.length_append, List.length_drop]; omega

theorem C.fill_top {us zs : List Int} (h : ∀ u ∈ us, M.U u) (hz : ∀ u ∈ zs, M.U u) : ∀ u ∈ C.fill us zs, M.U u := by
  intro u hu
  unfold C.fill at hu
  split at hu
  · exact h u hu
  · rcases List.mem_append.1 hu with hu | hu
    · exact hz u hu
    · exact h u (List.mem_of_mem_drop hu)
theorem C.fill_row {us zs : List Int} {cur : Array Value} (hl : us.length ≤ 65536) (h : zs.length ≤ us.length) (ht : cur.toList.take (ints .u64 us).length = ints .u64 us) :
    ((cur.toList.take 0 ++ (ints .u64 zs ++ cur.toList.drop (0 + (ints .u64 zs).length))).toArray).toList.take (ints .u64 (C.fill us zs)).length = ints .u64 (C.fill us zs) := by
  rw [ints_length, C.fill_len, C.fill, if_neg (by omega)]
  rw [ints_length] at ht
  rw [ints_length]
  simp only [List.take_zero, List.nil_append, Nat.zero_add]
  rw [List.take_append, ints_length, List.take_of_length_le (by rw [ints_length]; exact h), show ints .u64 (zs ++ us.drop zs.length) = ints .u64 zs ++ ints .u64 (us.drop zs.length) from by simp [ints]]
  congr 1
  rw [show ints .u64 (us.drop zs.length) = (ints .u64 us).drop zs.length from by simp [ints, List.map_drop], ← ht, List.drop_take]
theorem Mem.setWords {w : World} {m b : Nat} {us : List Int} (h : Mem w m b us) (cs : Array Value) (zs : List Int) (hc : cs.toList.take (ints .u64 zs).length = ints .u64 zs) (hl : zs.length = us.length) (hz : ∀ u ∈ zs, M.U u) : Mem (w.setRow b cs) m b zs := by
  obtain ⟨cap, hh⟩ := h.head
  refine ⟨h.ne, ⟨cap, ?_⟩, h.row.setRow cs _ hc, hz, hl ▸ h.len, hl ▸ h.pos⟩
  rw [hl]
  exact hh.keeps ((Keeps.refl [b] w).setRow (fun _ => by simp) _) (by simpa using h.ne)
theorem fill_any (m b : Nat) (us zs : List Int) (v : Value) (n : Nat) (w : World) (h : Mem w m b us) (hv : Sl w 1 v n (ints .u64 zs)) (hz : ∀ u ∈ zs, M.U u) (hnl : n ≤ maxLen) :
    Calls Try.prog 9 #[.pointer (some ⟨m, 0, none⟩), v] w fun e w' => e = .returned (.int .i64 (if us.length < n then 14 else 0)) ∧ Mem w' m b (C.fill us zs) ∧ Keeps [b] w w' := by
  obtain ⟨cap, hc⟩ := h.at
  have hl := h.len
  have hzl := hv.ints_len
  unfold maxLen at hnl
  by_cases hlt : us.length < n
  · obtain ⟨p, c, rfl⟩ := hv.len
    have HF : Hid (C.fill us zs = us) := Lib.hid (by rw [C.fill, if_pos (by omega)])
    have HM := Lib.hid h
    have hd : decide ((us.length : Int) < (n : Int)) = true := decide_eq_true (by omega)
    clear h hv hz hzl
    go_enter Try.func9, Try.ntmps9
    go_wp2
    go_ret
    exact ⟨rfl, by rw [HF.out]; exact HM.out, Keeps.refl _ _⟩
  · have hd : decide ((us.length : Int) < (n : Int)) = false := decide_eq_false (by omega)
    rw [if_neg hlt]
    by_cases h0 : n = 0
    · subst h0
      obtain ⟨p, c, rfl⟩ := hv.len
      have HF : Hid (C.fill us zs = us) := Lib.hid (by rw [C.fill, if_neg (by omega), List.eq_nil_of_length_eq_zero hzl]; rfl)
      have HM := Lib.hid h
      clear h hv hz hzl
      go_enter Try.func9, Try.ntmps9
      go_wp2_with (refine wpList_copy_nothing rfl _ _ 22 22 rfl 38 Try.underlying22 (by kernel_rfl) _ _ _ _ _ _ rfl rfl (by simp) ?_)
      go_wp2
      go_ret
      exact ⟨rfl, by rw [HF.out]; exact HM.out, Keeps.refl _ _⟩
    · obtain ⟨b2, o2, c2, rfl, hb2, hc2⟩ := hv.some (by omega)
      obtain ⟨cur, hg, htk⟩ := h.row
      have hcs : us.length ≤ cur.size := by
        have := congrArg List.length htk
        rw [List.length_take, ints_length] at this
        have h2 : cur.toList.length = cur.size := Array.length_toList
        omega
      have HM := Lib.hid h
      have HT := Lib.hid htk
      have HL := Lib.hid hzl
      have HC : Hid (∀ j v, (ints .u64 zs)[j]? = some v → w.cell? ((⟨b2, o2, none⟩ : Addr).add j) = some v) := Lib.hid fun j u hu => by rw [add_plain]; exact hc2 j u hu
      have HZ := Lib.hid hz
      clear h htk hv hz hzl hc2
      go_enter Try.func9, Try.ntmps9
      go_wp2_with (refine wpList_copy_own rfl _ _ 22 22 rfl 38 Try.underlying22 (by kernel_rfl) b 0 _ _ ⟨b2, o2, none⟩ _ _ rfl rfl cur 38 hg (ints .u64 zs) ?c1 HC.out ?c2 (ints_oneCell .u64 zs) ?_)
      case c1 => rw [ints_length, HL.out]; exact (Nat.min_eq_left (by omega)).symm
      case c2 => rw [ints_length, HL.out]; omega
      go_wp2
      go_ret
      refine ⟨rfl, HM.out.setWords _ _ ?_ (C.fill_len _ _) (C.fill_top HM.out.top HZ.out), (Keeps.refl _ _).setRow (fun _ => by simp) _⟩
      simpa using C.fill_row hl (by rw [HL.out]; omega) HT.out
theorem fill_nil (v : Value) (w : World) :
    Calls Try.prog 9 #[.pointer none, v] w fun e w' => e = .returned (.int .i64 1) ∧ w = w' := by
  go_enter Try.func9, Try.ntmps9
  go_wp2
  go_ret
  exact ⟨rfl, rfl⟩

end Go.Proofs.Ytihlfcggggloaaa
