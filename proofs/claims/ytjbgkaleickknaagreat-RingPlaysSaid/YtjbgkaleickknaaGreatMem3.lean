import Derived.Test.YtjbgkaleickknaaGreatRows
import Derived.Test.YtjbgkaleickknaaGreatKeep
import Derived.LoopTactic
import Derived.OwnWalk
import Derived.WalkSpells
import Derived.Test.YtjbgkaleickknaaGreatMem
import Derived.Laws.CopyOwn
/-
  Contracts: slices.Clone and slices.Equal at words.
-/
namespace Go.Proofs.YtjbgkaleickknaaGreat
set_option maxRecDepth 100000
set_option linter.unusedSimpArgs false
set_option linter.unusedVariables false
open Go.ChangeShapes Go.WideShapes Go.ChangeAt Go.RowKit

theorem add_plain (b o : Nat) (i : Nat) : (⟨b, o, none⟩ : Addr).add i = ⟨b, o + i, none⟩ := by
  unfold Addr.add; split
  · subst_vars; rfl
  · rfl
theorem Keeps.of_grown {w w' : World} {row : Option Nat} (hg : w.grownBy w' row) (hr : ∀ k, row = some k → w.heap.size ≤ k) : Keeps [] w w' :=
  (Keeps.refl [] w).grown hg (fun k hk hl => by have := hr k hk; omega)
theorem empty_row (w : World) (e : TypeId) (size : Nat) : (w.alloc (.cells #[] e)).ownsRow w.heap.size e size (.slice (some ⟨w.heap.size, 0, none⟩) 0 0) 0 [] := owns_empty w e size

/-- Behind an append to a slice that isn't nil. -/
theorem owns_at {w : World} {base size n : Nat} {e : TypeId} {v : Value} {xs : List Value} (h : w.ownsRow base e size v n xs) (hn : v ≠ .slice none 0 0) : ∃ g cap, v = .slice (some ⟨g, 0, none⟩) n cap ∧ base ≤ g := by
  rcases h.2 with ⟨h1, _⟩ | ⟨g, cap, cur, h1, hb, _⟩
  · exact absurd h1 hn
  · exact ⟨g, cap, h1, hb⟩

theorem elemU64 : Elem Tryz.prog 34 (.int .u64 0) 1 8 := ⟨by kernel_rfl, rfl, by decide, by decide⟩
set_option maxHeartbeats 400000 in
theorem cloneWords_any (v : Value) (n : Nat) (us : List Int) (w : World) (h : Sl w 1 v n (ints .u64 us)) (h0 : 0 < n) (hn : n ≤ 1000000) :
    Calls Tryz.prog 80 #[v] w fun e w' => ∃ g cap, e = .returned (.slice (some ⟨g, 0, none⟩) n cap) ∧ w'.ownsRow w.heap.size 34 1 (.slice (some ⟨g, 0, none⟩) n cap) n (ints .u64 us) ∧ Keeps [] w w' ∧ w.heap.size ≤ g := by
  obtain ⟨b, o, c, rfl, hb, hc⟩ := h.some h0
  obtain ⟨i0, hi, hz, hsz, hby⟩ := elemU64.parts
  have hl := h.ints_len
  have HC : Hid (∀ j u, (ints .u64 us)[j]? = some u → (w.alloc (.cells #[] 34)).cell? ((⟨b, o, none⟩ : Addr).add j) = some u) := Lib.hid fun j u hu => by
    rw [add_plain, World.cell?_alloc_past _ _ _ hb]; exact hc j u hu
  have HL := Lib.hid hl
  clear h hc hl
  have hnil : ∀ (w : World) a l c, (binOp .eql 31 (.slice a l c) (.slice none 0 0)).run Tryz.prog w = .ok (.bool a.isNone) w := fun w a l c => Lib.run_eql_slice_nil w 31 34 a l c 0 0 Tryz.underlying31
  go_enter Tryz.func80, Tryz.ntmps80
  go_wp2_with (at_builtin; go_loud (refine wpList_append_own _ rfl _ _ 31 rfl w.heap.size 34 i0 (.int .u64 0) 1 8 Tryz.underlying31 hi hz hsz hby rfl (by decide) _ _ _ rfl (owns_empty w 34 1) ⟨b, o, none⟩ n c (ints .u64 us) rfl ?c1 HC.out (ints_oneCell .u64 us) ?c2 ?c3 ?c4 ?_))
  case c1 => rw [ints_length, HL.out]; omega
  case c2 => unfold maxLen; omega
  case c3 => omega
  case c4 => simp
  intro v' w1 hown hgrow hne
  try simp only [Nat.zero_add, List.nil_append] at hown
  have hnn : v' ≠ .slice none 0 0 := by simpa using hne
  obtain ⟨g, cap, rfl, hg⟩ := owns_at hown hnn
  clear hne hnn
  have hK : Keeps [] w w1 := ((Keeps.refl [] w).alloc _).grown hgrow (fun k hk hl => by simp [Value.ownBlock] at hk; omega)
  have HO := Lib.hid hown
  clear hown hgrow
  go_wp2
  go_ret
  exact ⟨g, cap, rfl, HO.out, hK, hg⟩

end Go.Proofs.YtjbgkaleickknaaGreat

/-
  Contracts: All, Fill, Copy and Same of package cells.
-/
namespace Go.Proofs.YtjbgkaleickknaaGreat
set_option maxRecDepth 100000
set_option linter.unusedSimpArgs false
set_option linter.unusedVariables false
open Go.ChangeShapes Go.WideShapes Go.ChangeAt Go.RowKit

theorem Mem.words {w : World} {m b : Nat} {us : List Int} (h : Mem w m b us) (cap : Nat) : Sl w 1 (.slice (some ⟨b, 0, none⟩) us.length cap) us.length (ints .u64 us) :=
  h.row.sl (by rw [ints_length]; omega)

/-- The first cells are those of l. -/
def C.fill (us zs : List Int) : List Int := if us.length < zs.length then us else zs ++ us.drop zs.length
theorem C.fill_len (us zs : List Int) : (C.fill us zs).length = us.length := by
  unfold C.fill; split
  · rfl
  · rw [List.length_append, List.length_drop]; omega

theorem C.fill_top {us zs : List Int} (h : ∀ u ∈ us, M.U u) (hz : ∀ u ∈ zs, M.U u) : ∀ u ∈ C.fill us zs, M.U u := by
  intro u hu
  unfold C.fill at hu
  split at hu
  · exact h u hu
  · rcases List.mem_append.1 hu with hu | hu
    · exact hz u hu
    · exact h u (List.mem_of_mem_drop hu)
theorem C.fill_row {us zs : List Int} {cur : Array Value} (hl : us.length ≤ 65536) (h : zs.length ≤ us.length) (ht : cur.toList.take (ints .u64 us).length = ints .u64 us) :
    ((cur.toList.take 0 ++ (ints .u64 zs ++ cur.toList.drop (0 + (ints .u64 zs).length))).toArray).toList.take (ints .u64 (C.fill us zs)).length = ints .u64 (C.fill us zs) := by
  rw [ints_length, C.fill_len, C.fill, if_neg (by omega)]
  rw [ints_length] at ht
  rw [ints_length]
  simp only [List.take_zero, List.nil_append, Nat.zero_add]
  rw [List.take_append, ints_length, List.take_of_length_le (by rw [ints_length]; exact h), show ints .u64 (zs ++ us.drop zs.length) = ints .u64 zs ++ ints .u64 (us.drop zs.length) from by simp [ints]]
  congr 1
  rw [show ints .u64 (us.drop zs.length) = (ints .u64 us).drop zs.length from by simp [ints, List.map_drop], ← ht, List.drop_take]
theorem Mem.setWords {w : World} {m b : Nat} {us : List Int} (h : Mem w m b us) (cs : Array Value) (zs : List Int) (hc : cs.toList.take (ints .u64 zs).length = ints .u64 zs) (hl : zs.length = us.length) (hz : ∀ u ∈ zs, M.U u) : Mem (w.setRow b cs) m b zs := by
  obtain ⟨cap, hh⟩ := h.head
  refine ⟨h.ne, ⟨cap, ?_⟩, h.row.setRow cs _ hc, hz, hl ▸ h.len, hl ▸ h.pos⟩
  rw [hl]
  exact hh.keeps ((Keeps.refl [b] w).setRow (fun _ => by simp) _) (by simpa using h.ne)
theorem fill_any (m b : Nat) (us zs : List Int) (v : Value) (n : Nat) (w : World) (h : Mem w m b us) (hv : Sl w 1 v n (ints .u64 zs)) (hz : ∀ u ∈ zs, M.U u) (hnl : n ≤ maxLen) :
    Calls Tryz.prog 8 #[.pointer (some ⟨m, 0, none⟩), v] w fun e w' => e = .returned (.int .i64 (if us.length < n then 14 else 0)) ∧ Mem w' m b (C.fill us zs) ∧ Keeps [b] w w' := by
  obtain ⟨cap, hc⟩ := h.at
  have hl := h.len
  have hzl := hv.ints_len
  unfold maxLen at hnl
  by_cases hlt : us.length < n
  · obtain ⟨p, c, rfl⟩ := hv.len
    have HF : Hid (C.fill us zs = us) := Lib.hid (by rw [C.fill, if_pos (by omega)])
    have HM := Lib.hid h
    have hd : decide ((us.length : Int) < (n : Int)) = true := decide_eq_true (by omega)
    clear h hv hz hzl
    go_enter Tryz.func8, Tryz.ntmps8
    go_wp2
    go_ret
    exact ⟨rfl, by rw [HF.out]; exact HM.out, Keeps.refl _ _⟩
  · have hd : decide ((us.length : Int) < (n : Int)) = false := decide_eq_false (by omega)
    rw [if_neg hlt]
    by_cases h0 : n = 0
    · subst h0
      obtain ⟨p, c, rfl⟩ := hv.len
      have HF : Hid (C.fill us zs = us) := Lib.hid (by rw [C.fill, if_neg (by omega), List.eq_nil_of_length_eq_zero hzl]; rfl)
      have HM := Lib.hid h
      clear h hv hz hzl
      go_enter Tryz.func8, Tryz.ntmps8
      go_wp2_with (refine wpList_copy_nothing rfl _ _ 31 31 rfl 34 Tryz.underlying31 (by kernel_rfl) _ _ _ _ _ _ rfl rfl (by simp) ?_)
      go_wp2
      go_ret
      exact ⟨rfl, by rw [HF.out]; exact HM.out, Keeps.refl _ _⟩
    · obtain ⟨b2, o2, c2, rfl, hb2, hc2⟩ := hv.some (by omega)
      obtain ⟨cur, hg, htk⟩ := h.row
      have hcs : us.length ≤ cur.size := by
        have := congrArg List.length htk
        rw [List.length_take, ints_length] at this
        have h2 : cur.toList.length = cur.size := Array.length_toList
        omega
      have HM := Lib.hid h
      have HT := Lib.hid htk
      have HL := Lib.hid hzl
      have HC : Hid (∀ j v, (ints .u64 zs)[j]? = some v → w.cell? ((⟨b2, o2, none⟩ : Addr).add j) = some v) := Lib.hid fun j u hu => by rw [add_plain]; exact hc2 j u hu
      have HZ := Lib.hid hz
      clear h htk hv hz hzl hc2
      go_enter Tryz.func8, Tryz.ntmps8
      go_wp2_with (refine wpList_copy_own rfl _ _ 31 31 rfl 34 Tryz.underlying31 (by kernel_rfl) b 0 _ _ ⟨b2, o2, none⟩ _ _ rfl rfl cur 34 hg (ints .u64 zs) ?c1 HC.out ?c2 (ints_oneCell .u64 zs) ?_)
      case c1 => rw [ints_length, HL.out]; exact (Nat.min_eq_left (by omega)).symm
      case c2 => rw [ints_length, HL.out]; omega
      go_wp2
      go_ret
      refine ⟨rfl, HM.out.setWords _ _ ?_ (C.fill_len _ _) (C.fill_top HM.out.top HZ.out), (Keeps.refl _ _).setRow (fun _ => by simp) _⟩
      simpa using C.fill_row hl (by rw [HL.out]; omega) HT.out
theorem fill_nil (v : Value) (w : World) :
    Calls Tryz.prog 8 #[.pointer none, v] w fun e w' => e = .returned (.int .i64 1) ∧ w = w' := by
  go_enter Tryz.func8, Tryz.ntmps8
  go_wp2
  go_ret
  exact ⟨rfl, rfl⟩

theorem run_eql_nil_pointer {P : Program} (w : World) (t e : TypeId) (p : Option Addr) (h : P.underlying t = some (.pointer e)) :
    (binOp .eql t (.pointer none) (.pointer p)).run P w = .ok (.bool p.isNone) w := by
  have h : ∀ d : Nat, (Op.equalIn (d + 1) t (.pointer none) (.pointer p)).run P w = .ok p.isNone w := fun d => by
    cases p <;> simp [Op.equalIn, run_underlying h]
  simp only [binOp]
  simp [Op.equal, Op.maxDepth, h 9999]
end Go.Proofs.YtjbgkaleickknaaGreat
