/-
  Contracts: whether there can be a queue, and what is in it, as the document says.
-/
import Derived.Test.YtejekciekcbagaaGreatQuF
import Derived.Test.YtejekciekcbagaaGreatWord
import Derived.Test.YtejekciekcbagaaGreatRef6r
import Derived.IntWalk
namespace Go.Proofs.YtejekciekcbagaaGreat
set_option maxRecDepth 100000
set_option linter.unusedSimpArgs false
set_option linter.unusedVariables false
open Go.ChangeShapes Go.WideShapes Go.ChangeAt Go.RowKit

theorem refRight9_any (at_ n : Int) (w : World) :
    Calls Tryz.prog 10 #[.int .i64 at_, .int .i64 n] w fun e w' => e = .returned (.bool (decide (quRight at_ n))) ∧ w = w' := by
  by_cases h1 : n < 2
  · have HD : Hid (decide (quRight at_ n) = false) := Lib.hid (decide_eq_false fun h => by have := h.1; omega)
    rw [HD.out]
    have d1 : decide ((2 : Int) ≤ n) = false := decide_eq_false (by omega)
    go_enter Tryz.func10, Tryz.ntmps10
    go_wp2
    go_ret
    exact ⟨rfl, rfl⟩
  have d1 : decide ((2 : Int) ≤ n) = true := decide_eq_true (by omega)
  by_cases h2 : 4096 < n
  · have HD : Hid (decide (quRight at_ n) = false) := Lib.hid (decide_eq_false fun h => by have := h.2.1; omega)
    rw [HD.out]
    have d2 : decide (n ≤ 4096) = false := decide_eq_false (by omega)
    go_enter Tryz.func10, Tryz.ntmps10
    go_wp2
    go_ret
    exact ⟨rfl, rfl⟩
  have d2 : decide (n ≤ 4096) = true := decide_eq_true (by omega)
  by_cases h3 : at_ < 0
  · have HD : Hid (decide (quRight at_ n) = false) := Lib.hid (decide_eq_false fun h => by have := h.2.2.1; omega)
    rw [HD.out]
    have d3 : decide (0 ≤ at_) = false := decide_eq_false (by omega)
    go_enter Tryz.func10, Tryz.ntmps10
    go_wp2
    go_ret
    exact ⟨rfl, rfl⟩
  have d3 : decide (0 ≤ at_) = true := decide_eq_true (by omega)
  have hn1 : 2 ≤ n := by omega
  have hn2 : n ≤ 4096 := by omega
  have ha : 0 ≤ at_ := by omega
  by_cases h4 : at_ < 65536 - 3 * n - 2
  · have HD : Hid (decide (quRight at_ n) = true) := Lib.hid (decide_eq_true ⟨hn1, hn2, ha, h4⟩)
    rw [HD.out]
    have d4 : decide (at_ < 65536 - 3 * n - 2) = true := decide_eq_true h4
    go_enter Tryz.func10, Tryz.ntmps10
    go_wp2
    go_ret
    exact ⟨rfl, rfl⟩
  · have HD : Hid (decide (quRight at_ n) = false) := Lib.hid (decide_eq_false fun h => h4 h.2.2.2)
    rw [HD.out]
    have d4 : decide (at_ < 65536 - 3 * n - 2) = false := decide_eq_false h4
    go_enter Tryz.func10, Tryz.ntmps10
    go_wp2
    go_ret
    exact ⟨rfl, rfl⟩

theorem quFollow_cyc {us : List Int} {n : Nat} {C : List Nat} (hr : ∀ x ∈ C, 1 ≤ x ∧ x ≤ n) (hc : ∀ x ∈ C, ∃ y ∈ C, quNx us 0 n (x : Int) = (y : Int)) : ∀ (f x : Nat) (out : List Int), x ∈ C → quFollow us 0 n f (x : Int) out = none
  | 0, x, out, hx => by
    have := hr x hx
    unfold quFollow
    rw [if_neg (by omega)]
  | f + 1, x, out, hx => by
    have := hr x hx
    unfold quFollow
    rw [if_neg (by omega), if_pos (by omega)]
    obtain ⟨y, hy, e⟩ := hc x hx
    rw [e]
    exact quFollow_cyc hr hc f y _ hy
/-- Where the document's All stands: seen: the nodes that came up; i: the next one. -/
structure Seen9 (us : List Int) (n : Nat) (seen : List Nat) (out : List Int) (i : Nat) (O : Option (List Int)) : Prop where
  nodup : seen.Nodup
  range : ∀ x ∈ seen, 1 ≤ x ∧ x ≤ n
  next : ∀ x ∈ seen, (∃ y ∈ seen, quNx us 0 n (x : Int) = (y : Int)) ∨ quNx us 0 n (x : Int) = (i : Int)
  lt : i < 4294967296
  first : seen = [] → out = [] ∧ O = if 1 ≤ i ∧ i ≤ n then quFollow us 0 n (n - 1) (quNx us 0 n (i : Int)) [] else none
  rest : seen ≠ [] → i ≠ 0 ∧ O = quFollow us 0 n (n - seen.length) (i : Int) out
theorem Seen9.start {us : List Int} {n i : Nat} (hi : quNode (us.getD 0 0) = (i : Int)) : Seen9 us n [] [] i (quAllOf us 0 n) := by
  refine ⟨List.nodup_nil, by simp, by simp, by have := quNode_nn (us.getD 0 0); omega, fun _ => ⟨rfl, ?_⟩, fun h => absurd rfl h⟩
  unfold quAllOf
  rw [hi]
  by_cases h : 1 ≤ i ∧ i ≤ n
  · rw [if_pos (by omega), if_pos h]
  · rw [if_neg (by omega), if_neg h]
theorem Seen9.bad {us : List Int} {n i : Nat} {seen : List Nat} {out : List Int} {O : Option (List Int)} (h : Seen9 us n seen out i O) (hi : ¬ (1 ≤ i ∧ i ≤ n)) : O = none := by
  by_cases hs : seen = []
  · rw [(h.first hs).2, if_neg hi]
  · obtain ⟨h0, hO⟩ := h.rest hs
    rw [hO]
    cases n - seen.length with
    | zero => unfold quFollow; rw [if_neg (by omega)]
    | succ f => unfold quFollow; rw [if_neg (by omega), if_neg (by omega)]
theorem Seen9.again {us : List Int} {n i : Nat} {seen : List Nat} {out : List Int} {O : Option (List Int)} (h : Seen9 us n seen out i O) (hi : i ∈ seen) : O = none := by
  obtain ⟨h0, hO⟩ := h.rest (by rintro rfl; cases hi)
  rw [hO]
  refine quFollow_cyc h.range (fun x hx => ?_) _ _ _ hi
  rcases h.next x hx with h | h
  · exact h
  · exact ⟨i, hi, h⟩
theorem Seen9.few {us : List Int} {n i : Nat} {seen : List Nat} {out : List Int} {O : Option (List Int)} (h : Seen9 us n seen out i O) (hr : 1 ≤ i ∧ i ≤ n) (hi : i ∉ seen) : seen.length < n := by
  have := nodup_len n (seen ++ [i]) (List.nodup_append.2 ⟨h.nodup, by simp, fun a ha b hb => by simp at hb; subst hb; exact fun e => hi (e ▸ ha)⟩) (fun x hx => by
    rcases List.mem_append.1 hx with hx | hx
    · exact h.range x hx
    · simp at hx; subst hx; exact hr)
  simp at this
  omega
theorem Seen9.go {us : List Int} {n i j : Nat} {seen : List Nat} {out : List Int} {O : Option (List Int)} (h : Seen9 us n seen out i O) (hr : 1 ≤ i ∧ i ≤ n) (hi : i ∉ seen) (hj : quNx us 0 n (i : Int) = (j : Int)) :
    (j = 0 → O = some (if seen = [] then out else out ++ [quTk us 0 n (i : Int)])) ∧ (j ≠ 0 → Seen9 us n (seen ++ [i]) (if seen = [] then out else out ++ [quTk us 0 n (i : Int)]) j O) := by
  have hf := h.few hr hi
  have hO : O = quFollow us 0 n (n - (seen ++ [i]).length) (j : Int) (if seen = [] then out else out ++ [quTk us 0 n (i : Int)]) := by
    by_cases hs : seen = []
    · obtain ⟨h1, h2⟩ := h.first hs
      rw [h2, if_pos hr, if_pos hs, hj, h1, hs]
      rfl
    · obtain ⟨h1, h2⟩ := h.rest hs
      rw [h2, if_neg hs, show n - seen.length = (n - (seen ++ [i]).length) + 1 by simp; omega]
      conv => lhs; unfold quFollow
      rw [if_neg (by omega), if_pos (by omega), hj]
  refine ⟨fun h0 => ?_, fun h0 => ⟨?_, ?_, ?_, ?_, fun h => by simp at h, fun _ => ⟨h0, hO⟩⟩⟩
  · rw [hO, h0]
    cases n - (seen ++ [i]).length <;> simp [quFollow]
  · exact List.nodup_append.2 ⟨h.nodup, by simp, fun a ha b hb => by simp at hb; subst hb; exact fun e => hi (e ▸ ha)⟩
  · intro x hx
    rcases List.mem_append.1 hx with hx | hx
    · exact h.range x hx
    · simp at hx; subst hx; exact hr
  · intro x hx
    rcases List.mem_append.1 hx with hx | hx
    · rcases h.next x hx with ⟨y, hy, e⟩ | e
      · exact .inl ⟨y, List.mem_append_left _ hy, e⟩
      · exact .inl ⟨i, by simp, e⟩
    · simp at hx; subst hx; exact .inr hj
  · have := quNode_nn (us.getD (0 + 2 + 2 * n + (i : Int).toNat) 0)
    unfold quNx at hj
    omega

theorem refNode9_any (u : Int) (w : World) (hu : M.U u) :
    Calls Tryz.prog 70 #[.int .u64 u] w fun e w' => e = .returned (.int .i64 (quNode u)) ∧ w = w' := by
  have HL := Lib.hid (refLo_any u w hu.nn)
  obtain ⟨x, hx⟩ : ∃ x, u % 4294967296 = x := ⟨_, rfl⟩
  have h0 : 0 ≤ x := by omega
  have h1 : x < 4294967296 := by omega
  unfold quNode
  rw [hx] at HL ⊢
  clear hx
  go_enter Tryz.func70, Tryz.ntmps70
  go_wp2_with fail
  refine HL.out.mono ?_
  rintro e w1 ⟨rfl, rfl⟩
  go_wp2
  go_ret
  exact ⟨rfl, rfl⟩
end Go.Proofs.YtejekciekcbagaaGreat

/-
  Contract: what is in a queue, as the document says.
-/
namespace Go.Proofs.YtejekciekcbagaaGreat
set_option maxRecDepth 100000
set_option linter.unusedSimpArgs false
set_option linter.unusedVariables false
open Go.ChangeShapes Go.WideShapes Go.ChangeAt Go.RowKit

def refTold9 (w w' : World) (e : Ending) (O : Option (List Int)) : Prop :=
  (O = none → e = .returned (.tuple #[.slice none 0 0, .bool false])) ∧ ∀ xs, O = some xs → ∃ l, e = .returned (.tuple #[l, .bool true]) ∧ w'.ownsRow w.heap.size 64 1 l xs.length (ints .u64 xs)
theorem refTold9.none {w w' : World} {e : Ending} (h : e = .returned (.tuple #[.slice none 0 0, .bool false])) : refTold9 w w' e none := ⟨fun _ => h, fun _ h => by cases h⟩
theorem refTold9.some {w w' : World} {e : Ending} {v : Value} {l : List Int} (h : e = .returned (.tuple #[v, .bool true])) (ho : w'.ownsRow w.heap.size 64 1 v l.length (ints .u64 l)) : refTold9 w w' e (Option.some l) := ⟨(fun h => by cases h), (fun xs hx => by cases hx; exact ⟨v, h, ho⟩)⟩
set_option maxHeartbeats 6400000 in
theorem refAll9_any (v : Value) (us : List Int) (n : Nat) (w : World) (hv : Sl w 1 v us.length (ints .u64 us)) (hl : us.length = 3 * n + 3) (hn2 : 2 ≤ n) (hn4 : n ≤ 4096) (hU : ∀ u ∈ us, M.U u) :
    Calls Tryz.prog 27 #[v, .int .i64 (n : Int)] w fun e w' => Keeps [] w w' ∧ refTold9 w w' e (quAllOf us 0 n) := by
  obtain ⟨pb, po, pc, rfl, hpb, hpc⟩ := hv.some (by omega)
  have HCe : Hid (∀ W, Keeps [] w W → ∀ j, j < us.length → W.cell? ⟨pb, po + j, none⟩ = some (.int .u64 (us.getD j 0))) := Lib.hid fun W k j hj => by
    rw [World.cell?_of_block (w := w) (k.block pb hpb (by simp))]
    exact hpc j _ (ints_at (k := .u64) hj)
  have hU' : ∀ j, j < us.length → M.U (us.getD j 0) := fun j hj => hU _ (by rw [List.getD, List.getElem?_eq_getElem hj]; exact List.getElem_mem _)
  have HNo : Hid (∀ j W, j < us.length → Calls Tryz.prog 70 #[.int .u64 (us.getD j 0)] W fun e w' => e = .returned (.int .i64 (quNode (us.getD j 0))) ∧ W = w') := Lib.hid fun j W hj => refNode9_any _ W (hU' j hj)
  rw [hl]
  obtain ⟨O, hO⟩ : ∃ O, quAllOf us 0 n = O := ⟨_, rfl⟩
  obtain ⟨i0, hi0⟩ : ∃ i0 : Nat, quNode (us.getD 0 0) = (i0 : Int) := ⟨(quNode (us.getD 0 0)).toNat, by have := quNode_nn (us.getD 0 0); omega⟩
  have HS0 : Hid (Seen9 us n [] [] i0 O) := Lib.hid (hO ▸ Seen9.start hi0)
  rw [hO]
  have c0 := HCe.out w (Keeps.refl _ _) 0 (by omega)
  rw [Nat.add_zero] at c0
  have hN0 := fun W => HNo.out 0 W (by omega)
  rw [hi0] at hN0
  obtain ⟨u0, hu0⟩ : ∃ u0, us.getD 0 0 = u0 := ⟨_, rfl⟩
  rw [hu0] at c0 hN0
  have HN0 := Lib.hid hN0
  clear hv hpc hU hU' hO hN0 hi0 hu0
  go_enter Tryz.func27, Tryz.ntmps27
  obtain ⟨W1, hW1⟩ : ∃ W1, (w.alloc (.cells #[] 64)).alloc (.cells #[] 3) = W1 := ⟨_, rfl⟩
  have k1 : Keeps [] w W1 := by rw [← hW1]; exact ((Keeps.refl _ _).alloc _).alloc _
  have o1 : W1.ownsRow w.heap.size 64 1 (.slice (some ⟨w.heap.size, 0, none⟩) 0 0) 0 [] := by rw [← hW1]; exact (owns_empty w 64 1).alloc _
  have q1 : W1.ownsRow w.heap.size 3 1 (.slice (some ⟨w.heap.size + 1, 0, none⟩) 0 0) 0 [] := by
    rw [← hW1]
    have := owns_empty (w.alloc (.cells #[] 64)) 3 1
    simp at this
    exact owns_base this (by omega)
  have c1 : W1.cell? ⟨pb, po, none⟩ = some (.int .u64 u0) := (World.cell?_of_block (w := w) (k1.block pb hpb (by simp))).trans c0
  have HK1 := Lib.hid k1
  have HO1 := Lib.hid (⟨o1, q1⟩ : _ ∧ _)
  clear k1 o1 q1 c0
  go_wp2_with fail
  try rw [hW1]
  refine (HN0.out _).mono ?_
  rintro e w2 ⟨rfl, rfl⟩
  clear hW1 c1
  go_wp2
  go_loopw [6, 7, 8] (fun ov sv iv wr => ∃ (seen : List Nat) (out : List Int) (i : Nat), iv = .int .i64 (i : Int) ∧ Seen9 us n seen out i O ∧ wr.ownsRow w.heap.size 64 1 ov out.length (ints .u64 out) ∧ wr.ownsRow w.heap.size 3 1 sv seen.length (nodes seen) ∧
    (∀ g, ov.ownBlock = some g → sv.ownBlock ≠ some g) ∧ Keeps [] w wr ∧ out.length ≤ seen.length) (fun _ sv _ _ => n + 1 - sliceLen sv)
  case atStart => exact ⟨[], [], i0, rfl, HS0.out, HO1.out.1, HO1.out.2, (by intro g h1 h2; simp [Value.ownBlock] at h1 h2; omega), HK1.out, Nat.le_refl _⟩
  case round =>
    obtain ⟨seen, out, i, rfl, hS, ho, hq, hne, hk, hol⟩ := hrel
    obtain ⟨op, oc, rfl⟩ := (Sl.of_owns ho).len
    obtain ⟨sp, sc, rfl⟩ := (Sl.of_owns hq).len
    have HS := Lib.hid hS
    have HOw := Lib.hid (⟨ho, hq, hne⟩ : _ ∧ _ ∧ _)
    have HK := Lib.hid hk
    have hi32 := hS.lt
    have hslen := nodup_len n seen hS.nodup hS.range
    clear hS ho hq hne hk
    by_cases hr : 1 ≤ i ∧ i ≤ n
    case neg =>
      have HOn : Hid (O = none) := Lib.hid (HS.out.bad hr)
      have dd : Hid (decide ((i : Int) < 1) = true ∨ decide ((i : Int) < 1) = false ∧ decide ((n : Int) < (i : Int)) = true ∧ decide (n < i) = true) := Lib.hid (by
        by_cases h : (i : Int) < 1
        · exact .inl (decide_eq_true h)
        · exact .inr ⟨decide_eq_false h, decide_eq_true (by omega), decide_eq_true (by omega)⟩)
      clear hr
      rcases dd.out with d1 | ⟨d1, d2, d2'⟩
      all_goals
        go_wp2
        go_ret2
        refine ⟨HK.out, ?_⟩
        rw [HOn.out]
        exact refTold9.none rfl
    have d1 : decide ((i : Int) < 1) = false := decide_eq_false (by omega)
    have d2 : decide ((n : Int) < (i : Int)) = false := decide_eq_false (by omega)
    have d2' : decide (n < i) = false := decide_eq_false (by omega)
    go_wp2
    go_loopw [9] (fun kv wi => ∃ k : Nat, k ≤ seen.length ∧ kv = .int .i64 (k : Int) ∧ wi = wr ∧ ∀ (p x : Nat), p < k → seen[p]? = some x → x ≠ i) (fun kv _ => seen.length - (intOf kv).toNat)
    case atStart => exact ⟨0, Nat.zero_le _, rfl, rfl, fun p x h => by omega⟩
    case round =>
      obtain ⟨k, hk, rfl, rfl, hno⟩ := hrel
      by_cases hlt : k < seen.length
      · obtain ⟨x, hx⟩ : ∃ x, seen[k]? = some x := ⟨_, List.getElem?_eq_getElem hlt⟩
        obtain ⟨sb, so, sc', he, hsb, hsc⟩ := (Sl.of_owns HOw.out.2.1).some (by omega)
        cases he
        have cx : wr.cell? ⟨sb, so + k, none⟩ = some (.int .i64 (x : Int)) := hsc k _ (by simp [nodes, ints, hx])
        have hkl : (k : Int) < (seen.length : Int) := by omega
        have HNo2 := Lib.hid hno
        have HX := Lib.hid hx
        clear hsc hno hx
        by_cases hxi : x = i
        · have HOn : Hid (O = none) := Lib.hid (HS.out.again (hxi ▸ List.mem_of_getElem? HX.out))
          subst hxi
          go_wp2
          go_ret2
          refine ⟨HK.out, ?_⟩
          rw [HOn.out]
          exact refTold9.none rfl
        · have hb : ((x : Int) == (i : Int)) = false := beq_eq_false_iff_ne.2 (by omega)
          go_wp2
          go_roundw
          case rel => exact ⟨k + 1, by omega, by go_num, trivial, fun p y hp hy => by
            by_cases h : p = k
            · subst h; rw [HX.out] at hy; cases hy; exact hxi
            · exact HNo2.out p y (by omega) hy⟩
          case measure => first | (simp [intOf]; done) | (simp [intOf]; omega)
      · obtain rfl : k = seen.length := by omega
        have hni : i ∉ seen := fun hm => by
          obtain ⟨p, hp, he⟩ := List.getElem_of_mem hm
          exact hno p i hp (by rw [List.getElem?_eq_getElem hp, he]) rfl
        clear hno hlt
        have HGo := Lib.hid (fun (j : Nat) (hj : quNx us 0 n (i : Int) = (j : Int)) => HS.out.go hr hni hj)
        have hsn := HS.out.few hr hni
        have hqs := HK.out.size
        have hY := quNode_nn (us.getD (2 + 2 * n + i) 0)
        obtain ⟨y, hy⟩ : ∃ y : Nat, quNode (us.getD (2 + 2 * n + i) 0) = (y : Int) := ⟨(quNode (us.getD (2 + 2 * n + i) 0)).toNat, by omega⟩
        have hjy : quNx us 0 n (i : Int) = (y : Int) := by unfold quNx; rw [Int.toNat_natCast, Nat.zero_add]; exact hy
        have HGy := Lib.hid (HGo.out y hjy)
        have hN := fun W => HNo.out (2 + 2 * n + i) W (by omega)
        rw [hy] at hN
        obtain ⟨u, hu⟩ : ∃ u, us.getD (2 + 2 * n + i) 0 = u := ⟨_, rfl⟩
        rw [hu] at hN
        have HN := Lib.hid hN
        have HCu : Hid (∀ W, Keeps [] w W → W.cell? ⟨pb, po + (2 + 2 * n + i), none⟩ = some (.int .u64 u)) := Lib.hid fun W k => by
          have := HCe.out W k (2 + 2 * n + i) (by omega)
          rwa [hu] at this
        have j1 : (2 : Int) + 2 * (n : Int) + (i : Int) < 3 * (n : Int) + 3 := by omega
        have j2 : (2 : Int) + (n : Int) + (i : Int) < 3 * (n : Int) + 3 := by omega
        have ty : quTk us 0 n (i : Int) = us.getD (2 + n + i) 0 := by unfold quTk; rw [Int.toNat_natCast, Nat.zero_add]
        rw [ty] at HGy
        obtain ⟨t, ht⟩ : ∃ t, us.getD (2 + n + i) 0 = t := ⟨_, rfl⟩
        have ct := HCe.out wr HK.out (2 + n + i) (by omega)
        rw [ht] at ct HGy
        clear hN hu hy hY hjy ty ht hni
        by_cases hs : seen = []
        · have d3 : decide ((0 : Int) < (seen.length : Int)) = false := decide_eq_false (by rw [hs]; simp)
          have d3' : decide (0 < seen.length) = false := decide_eq_false (by rw [hs]; simp)
          rw [if_pos hs] at HGy
          have HOut := Lib.hid HOw.out.1
          have HSe := Lib.hid HOw.out.2.1
          have HNe := Lib.hid HOw.out.2.2
          have HKw := Lib.hid HK.out
          have hsz := hqs
          clear hs ct
          go_wp2_with (at_builtin; refine append_fresh rfl _ _ 60 rfl w.heap.size 3 _ 1 8 Tryz.underlying60 elemInt' _ _ _ rfl HSe.out #[.int .i64 (i : Int)] rfl rfl (by simp [Value.oneCell']) ?c2 ?c3 ?_)
          case c2 => omega
          case c3 => exact hsz
          intro v6 w6 own6 k6 f6 ne6
          have hk6 : Keeps [] w w6 := HKw.out.step k6 (fun g hg => by
            have := HSe.out.lt g ((ownBlock_toList _ _).1 hg)
            omega)
          have e6 : nodes (seen ++ [i]) = nodes seen ++ [.int .i64 (i : Int)] := by simp [nodes, ints]
          have own7 : w6.ownsRow w.heap.size 3 1 v6 (seen ++ [i]).length (nodes (seen ++ [i])) := by
            rw [e6, List.length_append]
            exact own6
          have ou6 := owns_keeps HOut.out k6 (fun g hg hm => HNe.out g hg ((ownBlock_toList _ _).1 hm))
          have ne7 := fun g h1 (h2 : v6.ownBlock = some g) => (by
            rcases f6 g h2 with h | h
            · exact HNe.out g h1 h
            · have := (HOut.out.lt g h1).2; omega : False)
          obtain ⟨sp2, sc2, rfl⟩ := (Sl.of_owns own7).len
          have HOu := Lib.hid ou6
          have HSn := Lib.hid own7
          have HNn := Lib.hid ne7
          have HK6 := Lib.hid hk6
          have cu := HCu.out w6 hk6
          have hsl2 : (seen ++ [i]).length = seen.length + 1 := by simp
          have hni2 : (seen ++ [i]) ≠ [] := by simp
          clear own6 own7 k6 f6 ne6 ne7 hk6 e6 ou6
          go_wp2_with fail
          refine (HN.out _).mono ?_
          rintro e w7 ⟨rfl, rfl⟩
          clear cu
          by_cases hy0 : y = 0
          · have HOs := Lib.hid (HGy.out.1 hy0)
            subst hy0
            go_wp2
            go_ret2
            refine ⟨HK6.out, ?_⟩
            rw [HOs.out]
            first | exact refTold9.some rfl HOu.out | exact refTold9.some rfl (show w6.ownsRow w.heap.size 64 1 (.slice op2 (out.length + 1) oc2) (out ++ [t]).length (ints .u64 (out ++ [t])) from by simpa only [List.length_append, List.length_singleton] using HOu.out)
          · have HSs := Lib.hid (HGy.out.2 hy0)
            have hyb : ((y : Int) == 0) = false := beq_eq_false_iff_ne.2 (by omega)
            go_wp2
            go_roundw
            case rel => exact ⟨seen ++ [i], _, y, rfl, HSs.out, (by first | exact HOu.out | (simpa only [List.length_append, List.length_singleton] using HOu.out)), (by first | exact HSn.out | (simpa only [List.length_append, List.length_singleton] using HSn.out)), (fun g h1 h2 => HNn.out g (by first | exact h1 | (simpa only [List.length_append, List.length_singleton] using h1)) (by first | exact h2 | (simpa only [List.length_append, List.length_singleton] using h2))), HK6.out, by simp; omega⟩
            case measure => simp [sliceLen]; omega
        · have hsp : 0 < seen.length := List.length_pos_iff.2 hs
          have d3 : decide ((0 : Int) < (seen.length : Int)) = true := decide_eq_true (by omega)
          have d3' : decide (0 < seen.length) = true := decide_eq_true hsp
          rw [if_neg hs] at HGy
          clear hs
          go_wp2_with (at_builtin; refine append_fresh rfl _ _ 24 rfl w.heap.size 64 _ 1 8 Tryz.underlying24 elemWdQ _ _ _ rfl HOw.out.1 #[.int .u64 t] rfl rfl (by simp [Value.oneCell']) ?c2 ?c3 ?_)
          case c2 => omega
          case c3 => exact hqs
          intro v4 w4 own4 k4 f4 ne4
          have hkw : Keeps [] w w4 := HK.out.step k4 (fun g hg => by
            have := HOw.out.1.lt g ((ownBlock_toList _ _).1 hg)
            omega)
          have e4 : ints .u64 (out ++ [t]) = ints .u64 out ++ [.int .u64 t] := by simp [ints]
          have own5 : w4.ownsRow w.heap.size 64 1 v4 (out ++ [t]).length (ints .u64 (out ++ [t])) := by
            rw [e4, List.length_append]
            exact own4
          have se4 : w4.ownsRow w.heap.size 3 1 (.slice sp seen.length sc) seen.length (nodes seen) := owns_keeps HOw.out.2.1 k4 (fun g hg hm => HOw.out.2.2 g ((ownBlock_toList _ _).1 hm) hg)
          have ne5 : ∀ g, v4.ownBlock = some g → (Value.slice sp seen.length sc).ownBlock ≠ some g := fun g h1 h2 => by
            rcases f4 g h1 with h | h
            · exact HOw.out.2.2 g h h2
            · have := (HOw.out.2.1.lt g h2).2; omega
          obtain ⟨op2, oc2, rfl⟩ := (Sl.of_owns own5).len
          have HOut := Lib.hid own5
          have HSe := Lib.hid se4
          have HNe := Lib.hid ne5
          have HKw := Lib.hid hkw
          have hsz := hkw.size
          clear own4 own5 k4 f4 ne4 ne5 se4 hkw e4 ct
          go_wp2_with (at_builtin; refine append_fresh rfl _ _ 60 rfl w.heap.size 3 _ 1 8 Tryz.underlying60 elemInt' _ _ _ rfl HSe.out #[.int .i64 (i : Int)] rfl rfl (by simp [Value.oneCell']) ?c2 ?c3 ?_)
          case c2 => omega
          case c3 => exact hsz
          intro v6 w6 own6 k6 f6 ne6
          have hk6 : Keeps [] w w6 := HKw.out.step k6 (fun g hg => by
            have := HSe.out.lt g ((ownBlock_toList _ _).1 hg)
            omega)
          have e6 : nodes (seen ++ [i]) = nodes seen ++ [.int .i64 (i : Int)] := by simp [nodes, ints]
          have own7 : w6.ownsRow w.heap.size 3 1 v6 (seen ++ [i]).length (nodes (seen ++ [i])) := by
            rw [e6, List.length_append]
            exact own6
          have ou6 := owns_keeps HOut.out k6 (fun g hg hm => HNe.out g hg ((ownBlock_toList _ _).1 hm))
          have ne7 := fun g h1 (h2 : v6.ownBlock = some g) => (by
            rcases f6 g h2 with h | h
            · exact HNe.out g h1 h
            · have := (HOut.out.lt g h1).2; omega : False)
          obtain ⟨sp2, sc2, rfl⟩ := (Sl.of_owns own7).len
          have HOu := Lib.hid ou6
          have HSn := Lib.hid own7
          have HNn := Lib.hid ne7
          have HK6 := Lib.hid hk6
          have cu := HCu.out w6 hk6
          have hsl2 : (seen ++ [i]).length = seen.length + 1 := by simp
          have hni2 : (seen ++ [i]) ≠ [] := by simp
          clear own6 own7 k6 f6 ne6 ne7 hk6 e6 ou6
          go_wp2_with fail
          refine (HN.out _).mono ?_
          rintro e w7 ⟨rfl, rfl⟩
          clear cu
          by_cases hy0 : y = 0
          · have HOs := Lib.hid (HGy.out.1 hy0)
            subst hy0
            go_wp2
            go_ret2
            refine ⟨HK6.out, ?_⟩
            rw [HOs.out]
            first | exact refTold9.some rfl HOu.out | exact refTold9.some rfl (show w6.ownsRow w.heap.size 64 1 (.slice op2 (out.length + 1) oc2) (out ++ [t]).length (ints .u64 (out ++ [t])) from by simpa only [List.length_append, List.length_singleton] using HOu.out)
          · have HSs := Lib.hid (HGy.out.2 hy0)
            have hyb : ((y : Int) == 0) = false := beq_eq_false_iff_ne.2 (by omega)
            go_wp2
            go_roundw
            case rel => exact ⟨seen ++ [i], _, y, rfl, HSs.out, (by first | exact HOu.out | (simpa only [List.length_append, List.length_singleton] using HOu.out)), (by first | exact HSn.out | (simpa only [List.length_append, List.length_singleton] using HSn.out)), (fun g h1 h2 => HNn.out g (by first | exact h1 | (simpa only [List.length_append, List.length_singleton] using h1)) (by first | exact h2 | (simpa only [List.length_append, List.length_singleton] using h2))), HK6.out, by simp; omega⟩
            case measure => simp [sliceLen]; omega
end Go.Proofs.YtejekciekcbagaaGreat
