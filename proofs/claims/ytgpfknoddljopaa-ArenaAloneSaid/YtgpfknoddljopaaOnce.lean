/-
  Contracts: rows of nodes that workers have; whether each is had once (once of layer 6's statements).
-/
import Derived.Test.YtgpfknoddljopaaOps
import Derived.Test.YtgpfknoddljopaaClone2
import Derived.Test.YtgpfknoddljopaaLook
import Derived.Test.YtgpfknoddljopaaSums
import Derived.LoopTactic
namespace Go.Proofs.Ytgpfknoddljopaa
set_option maxRecDepth 100000
open Go.ChangeShapes Go.WideShapes Go.ChangeAt Go.RowKit

/-- Nodes, as cells. -/
def nodes (l : List Nat) : List Value := ints .i64 (l.map fun x : Nat => (x : Int))
theorem nodes_length (l : List Nat) : (nodes l).length = l.length := by simp [nodes, ints]
theorem nodes_at {l : List Nat} {j : Nat} (h : j < l.length) : (nodes l)[j]? = some (.int .i64 (l.getD j 0 : Nat)) := by
  simp [nodes, ints, h]
theorem nodes_append (a b : List Nat) : nodes (a ++ b) = nodes a ++ nodes b := by simp [nodes, ints]

/-- At block h lie W rows: row i holds the nodes that worker i has; all of it lies in blocks of T, no two rows in one. -/
def HasAt (w : World) (h W : Nat) (T : List Nat) (has : Nat → List Nat) : Prop :=
  h ∈ T ∧ ∃ vs : List Value, vs.length = W ∧ Row w h 47 vs ∧ ∀ i v, vs[i]? = some v → w.ownsRow 0 3 1 v (has i).length (nodes (has i)) ∧ (∀ g, v.ownBlock = some g → g ≠ h ∧ g ∈ T) ∧
    ∀ j u, vs[j]? = some u → j ≠ i → ∀ g, v.ownBlock = some g → u.ownBlock ≠ some g
theorem HasAt.keeps {S : List Nat} {w w' : World} {h W : Nat} {T : List Nat} {has : Nat → List Nat} (hh : HasAt w h W T has) (hk : Keeps S w w') (hS : ∀ k ∈ T, k ∉ S) : HasAt w' h W T has := by
  obtain ⟨h0, vs, h1, h2, h3⟩ := hh
  refine ⟨h0, vs, h1, h2.keeps hk (hS h h0), fun i v hv => ?_⟩
  obtain ⟨a, b, c⟩ := h3 i v hv
  exact ⟨owns_keeps a hk fun g hg => hS g (b g hg).2, b, c⟩

theorem elemInt' : Elem Try.prog 3 (.int .i64 0) 1 8 := ⟨by kernel_rfl, rfl, by decide, by decide⟩
theorem elemInts : Elem Try.prog 47 (.slice none 0 0) 1 24 := ⟨by kernel_rfl, rfl, by decide, by decide⟩
theorem made_ints (n : Nat) : (madeCells (Value.int .i64 0).cells (n * 1)).toList = ints .i64 (List.replicate n 0) := by
  rw [Nat.mul_one]
  apply List.ext_getElem?
  intro i
  by_cases h : i < n
  · simp [madeCells, ints, Value.cells, h, Nat.mod_one]
  · simp [madeCells, ints, Value.cells, h, Nat.mod_one]
/-- The lists one behind the other: the free nodes, then what each has. -/
def allOf (F : List Nat) (has : Nat → List Nat) (i : Nat) : List Nat := match i with
  | 0 => F
  | i + 1 => has i
theorem sum_all (f : List Nat → Nat) (F : List Nat) (has : Nat → List Nat) (W : Nat) : sumN (fun i => f (allOf F has i)) (W + 1) = f F + sumN (fun i => f (has i)) W := by
  induction W with
  | zero => simp [sumN, allOf]
  | succ W ih => rw [sumN, ih, sumN]; simp only [allOf]; omega
theorem sumN_lt (f : Nat → Nat) {i n : Nat} (h : i < n) : sumN f i + f i ≤ sumN f n := by
  induction n with
  | zero => omega
  | succ n ih =>
    simp only [sumN]
    by_cases e : i = n
    · subst e; omega
    · have := ih (by omega); omega
/-- How often each node was seen so far. -/
def seenSo (A : Nat → List Nat) (i k : Nat) (x : Nat) : Nat := sumN (fun j => (A j).count x) i + ((A i).take k).count x

theorem seenSo_next (A : Nat → List Nat) (i k : Nat) (x : Nat) (h : k < (A i).length) : seenSo A i (k + 1) x = seenSo A i k x + if (A i).getD k 0 = x then 1 else 0 := by
  unfold seenSo
  rw [List.take_succ_eq_append_getElem h, List.count_append, List.getD, List.getElem?_eq_getElem h]
  simp only [List.count_cons, List.count_nil, Option.getD_some]
  by_cases e : (A i)[k] = x
  · simp [e]; omega
  · simp [e]
theorem seenSo_all (A : Nat → List Nat) (i : Nat) (x : Nat) : seenSo A i (A i).length x = seenSo A (i + 1) 0 x := by
  simp [seenSo, sumN]
/-- A node that comes now wasn't seen. -/
theorem seenSo_none {A : Nat → List Nat} {n m : Nat} (hall : ∀ x, sumN (fun j => (A j).count x) m ≤ if 1 ≤ x ∧ x ≤ n then 1 else 0) {i k : Nat} (hi : i < m) (hk : k < (A i).length) :
    1 ≤ (A i).getD k 0 ∧ (A i).getD k 0 ≤ n ∧ seenSo A i k ((A i).getD k 0) = 0 := by
  obtain ⟨x, hx⟩ : ∃ x, (A i).getD k 0 = x := ⟨_, rfl⟩
  have h1 := hall x
  have h2 : sumN (fun j => (A j).count x) i + (A i).count x ≤ sumN (fun j => (A j).count x) m := sumN_lt (fun j => (A j).count x) hi
  have h3 := seenSo_next A i k x hk
  rw [hx, if_pos rfl] at h3
  have h4 : seenSo A i (k + 1) x ≤ seenSo A i (A i).length x := by
    unfold seenSo
    have : ((A i).take (k + 1)).count x ≤ (A i).count x := (List.take_sublist _ _).count_le x
    rw [List.take_of_length_le (Nat.le_refl _)]; omega
  have h5 : seenSo A i (A i).length x = sumN (fun j => (A j).count x) i + (A i).count x := by
    unfold seenSo; rw [List.take_of_length_le (Nat.le_refl _)]
  rw [hx]
  by_cases e : 1 ≤ x ∧ x ≤ n
  · rw [if_pos e] at h1; exact ⟨e.1, e.2, by omega⟩
  · rw [if_neg e] at h1; omega
def seenRow (n : Nat) (A : Nat → List Nat) (i k : Nat) : List Int := (List.range (n + 1)).map fun x => (seenSo A i k x : Int)
theorem seenRow_at {n : Nat} (A : Nat → List Nat) (i k : Nat) {x : Nat} (h : x ≤ n) : (ints .i64 (seenRow n A i k))[x]? = some (.int .i64 (seenSo A i k x : Nat)) := by
  simp [seenRow, ints, List.getElem?_range (show x < n + 1 by omega)]
theorem seenRow_set {n : Nat} (A : Nat → List Nat) (i k : Nat) (h : k < (A i).length) {x : Nat} (hx : (A i).getD k 0 = x) : ints .i64 (seenRow n A i (k + 1)) = (ints .i64 (seenRow n A i k)).set x (.int .i64 ((seenSo A i k x : Nat) + 1 : Int)) := by
  apply List.ext_getElem?
  intro j
  rw [List.getElem?_set]
  simp only [seenRow, ints, List.length_map, List.length_range, List.map_map, List.getElem?_map]
  by_cases hj : j < n + 1
  · rw [List.getElem?_range hj]
    by_cases e : x = j
    · subst e
      rw [if_pos rfl, if_pos hj]
      simp only [Option.map_some, Function.comp]
      rw [seenSo_next A i k x h, if_pos hx]
      simp
    · rw [if_neg e]
      simp only [Option.map_some, Function.comp]
      rw [seenSo_next A i k j h, if_neg (by rw [hx]; exact e)]
      simp
  · have : (List.range (n + 1))[j]? = none := by simp; omega
    rw [this]
    by_cases e : x = j
    · subst e; rw [if_pos rfl, if_neg hj]; rfl
    · rw [if_neg e]; rfl
theorem owns_lit (w : World) (v : Value) (e : TypeId) : (w.alloc (.cells #[v] e)).ownsRow w.heap.size e 1 (.slice (some ⟨w.heap.size, 0, none⟩) 1 1) 1 [v] :=
  ⟨rfl, .inr ⟨w.heap.size, 1, #[v], rfl, Nat.le_refl _, heap_alloc_new w _, Nat.le_refl _, by decide, rfl, rfl⟩⟩

set_option maxHeartbeats 3200000 in
theorem once_any (n W fl h ch : Nat) (T : List Nat) (has : Nat → List Nat) (F : List Nat) (fv : Value) (w : World) (hT : HasAt w h W T has) (hTl : ∀ k ∈ T, k < w.heap.size) (hF : Sl w 1 fv F.length (nodes F))
    (hall : ∀ x, F.count x + sumN (fun i => (has i).count x) W ≤ if 1 ≤ x ∧ x ≤ n then 1 else 0) (hc : F.length + sumN (fun i => (has i).length) W ≤ n) (hfl : n ≤ F.length + sumN (fun i => (has i).length) W + fl)
    (hn : n ≤ 1000) (hW : W ≤ 1000) (hfl' : fl ≤ 1000) :
    Calls Try.prog 28 #[.int .i64 (n : Int), .slice (some ⟨h, 0, none⟩) W ch, fv, .int .i64 (fl : Int)] w fun e w' => e = .returned (.bool true) ∧ Keeps [] w w' := by
  obtain ⟨w1, hrun, hrow, hk, hs⟩ := make_row (P := Try.prog) w 47 3 _ 1 8 Try.underlying47 elemInt' .i64 .i64 (n + 1) (by omega)
  rw [made_ints] at hrow
  rw [show ((n + 1 : Nat) : Int) = (n : Int) + 1 by omega] at hrun
  have HK1 := Lib.hid hk
  have HS1 := Lib.hid hs
  have HR1 := Lib.hid hrow
  have HT0 := Lib.hid hT
  have HTl := Lib.hid hTl
  have HF := Lib.hid hF
  have HAll := Lib.hid hall
  have HC := Lib.hid hc
  have HFl := Lib.hid hfl
  obtain ⟨pf, cf, rfl⟩ := hF.len
  clear hk hs hrow hT hTl hF hall hc hfl
  go_enter Try.func28, Try.ntmps28
  obtain ⟨hin, vs, hvl, hrv, hvs⟩ := HT0.out
  have hslt := fun k hk => HTl.out k hk
  have hh0 := hslt h hin
  have hone : ∀ u ∈ vs, u.oneCell' = true := fun u hu => by
    obtain ⟨i, hi⟩ := List.mem_iff_getElem?.1 hu
    obtain ⟨p, c, rfl⟩ := (Sl.of_owns (hvs i u hi).1).len
    rfl
  have hrv1 : Row (w1.alloc (.cells #[.slice pf F.length cf] 47)) h 47 vs := (hrv.keeps HK1.out (by simp)).alloc _
  go_wp2_with (at_builtin; refine wpList_append_sl rfl _ _ 58 rfl w1.heap.size 47 _ 1 24 Try.underlying58 elemInts _ _ _ rfl (owns_lit w1 (.slice pf F.length cf) 47) _ W vs rfl (hrv1.sl (by omega)) hone ?c1 ?c2 ?_)
  case c1 => omega
  case c2 => simp
  intro v' w2 own2 grow2 ne2
  obtain ⟨g, cap, rfl, hg⟩ := owns_at' own2 (by simpa using ne2)
  have hs1 := HS1.out
  have k2 : Keeps [] w1 w2 := ((Keeps.refl [] w1).alloc _).grown grow2 (fun k hk hl => by simp [Value.ownBlock] at hk; omega)
  have hw12 := k2.size
  have HGrow := Lib.hid (Row.of_owns own2)
  have HR2 := Lib.hid (HR1.out.keeps k2 (by simp))
  have HK2 := Lib.hid (HK1.out.trans k2)
  have hgs : g ≠ w.heap.size := by omega
  have hs1' : w.heap.size < w1.heap.size := by omega
  clear hs1
  -- each list, as it lies
  obtain ⟨A, hA⟩ : ∃ A, allOf F has = A := ⟨_, rfl⟩
  have hlists : ∀ i, i < W + 1 → ∃ v, (Value.slice pf F.length cf :: vs)[i]? = some v ∧ ∀ W', Keeps [w.heap.size] w2 W' → Sl W' 1 v (A i).length (nodes (A i)) := fun i hi => by
    rw [← hA]
    cases i with
    | zero => exact ⟨_, rfl, fun W' hW' => (HF.out.keeps HK2.out (by simp)).but0 hW' (fun h0 g' hg' => by
        obtain ⟨b, off, c, he, hb, -⟩ := HF.out.some (by omega)
        rw [he] at hg'; simp [Value.ownBlock] at hg'; subst hg'; simp; omega)⟩
    | succ i =>
      obtain ⟨v, hv⟩ : ∃ v, vs[i]? = some v := ⟨_, List.getElem?_eq_getElem (by omega)⟩
      obtain ⟨a, b, -⟩ := hvs i v hv
      exact ⟨v, hv, fun W' hW' => ((Sl.of_owns a).keeps HK2.out (by simp)).but hW' (fun g' hg' => by have := hslt g' (b g' hg').2; simp; omega)⟩
  have HLs := Lib.hid hlists
  have hallA : ∀ x, sumN (fun j => (A j).count x) (W + 1) ≤ if 1 ≤ x ∧ x ≤ n then 1 else 0 := fun x => by
    rw [← hA, sum_all (fun l => l.count x)]; exact HAll.out x
  have hlenA : sumN (fun j => (A j).length) (W + 1) = F.length + sumN (fun i => (has i).length) W := by rw [← hA, sum_all (fun l => l.length)]
  have HAA := Lib.hid hallA
  have HLA := Lib.hid hlenA
  clear hlists hallA hlenA hA own2 grow2 ne2 k2 hrv hrv1 hvs hone hslt hrun HR1
  have HROW0 : Hid (Row w2 w.heap.size 3 (ints .i64 (seenRow n A 0 0))) := Lib.hid (by
    rw [show seenRow n A 0 0 = List.replicate (n + 1) 0 from by
      apply List.ext_getElem?
      intro j
      simp only [seenRow, List.getElem?_map, List.getElem?_replicate]
      by_cases hj : j < n + 1
      · rw [List.getElem?_range hj, if_pos hj]; simp [seenSo, sumN]
      · rw [if_neg hj]; simp; omega]
    exact HR2.out)
  go_wp2
  go_loopw [10, 12] (fun c i wr => ∃ k : Nat, k ≤ W + 1 ∧ i = .int .i64 (k : Int) ∧ c = .int .i64 ((sumN (fun j => (A j).length) k : Nat) : Int) ∧ Keeps [w.heap.size] w2 wr ∧ Row wr w.heap.size 3 (ints .i64 (seenRow n A k 0))) (fun _ i _ => W + 1 - (intOf i).toNat)
  case atStart => exact ⟨0, Nat.zero_le _, rfl, rfl, Keeps.refl _ _, HROW0.out⟩
  case round =>
    obtain ⟨k, hk, rfl, rfl, hkr, hrow⟩ := hrel
    have HKr := Lib.hid hkr
    have HROW := Lib.hid hrow
    have hsum : sumN (fun j => (A j).length) k ≤ n := by
      have h1 : sumN (fun j => (A j).length) k ≤ sumN (fun j => (A j).length) (W + 1) := by
        by_cases e : k < W + 1
        · have := sumN_lt (fun j => (A j).length) e; omega
        · rw [show k = W + 1 by omega]; exact Nat.le_refl _
      have h2 := HLA.out
      have h3 := HC.out
      omega
    clear hkr hrow HROW0
    by_cases hlt : k < W + 1
    · obtain ⟨v, hv, hslv⟩ := HLs.out k hlt
      have hsv := hslv wr HKr.out
      obtain ⟨pv, cv, rfl⟩ := hsv.len
      have HSV := Lib.hid hslv
      have hgrow := HGrow.out.keeps HKr.out (by simpa using hgs)
      have av := hgrow.cell hv
      have HGW := Lib.hid hgrow
      have hkW : decide ((k : Int) < 1 + (W : Int)) = true := decide_eq_true (by omega)
      have hlen : sumN (fun j => (A j).length) k + (A k).length ≤ 1000 := by
        have h1 : sumN (fun j => (A j).length) k + (A k).length ≤ sumN (fun j => (A j).length) (W + 1) := sumN_lt (fun j => (A j).length) hlt
        have h2 := HLA.out
        have h3 := HC.out
        omega
      clear hsv hslv hgrow
      rename World => V
      have HROWV := Lib.hid HROW.out
      go_wp2
      go_loopw [10, 13] (fun c j wr => ∃ kk : Nat, kk ≤ (A k).length ∧ j = .int .i64 (kk : Int) ∧ c = .int .i64 ((sumN (fun j => (A j).length) k + kk : Nat) : Int) ∧ Keeps [w.heap.size] V wr ∧ Row wr w.heap.size 3 (ints .i64 (seenRow n A k kk))) (fun _ j _ => (A k).length - (intOf j).toNat)
      case atStart => exact ⟨0, Nat.zero_le _, rfl, rfl, Keeps.refl _ _, HROWV.out⟩
      case round =>
        obtain ⟨kk, hkk, rfl, rfl, hkr, hrow⟩ := hrel
        have HKi := Lib.hid hkr
        have HROWi := Lib.hid hrow
        have av := (HGW.out.keeps hkr (by simpa using hgs)).cell hv
        have hsl := HSV.out wr (HKr.out.trans hkr)
        clear hkr hrow
        by_cases hlt2 : kk < (A k).length
        · obtain ⟨b, off, cap', he, hb, hcell⟩ := hsl.some (by omega)
          cases he
          have ax := hcell kk _ (nodes_at hlt2)
          obtain ⟨x1, x2, x3⟩ := seenSo_none HAA.out hlt hlt2
          obtain ⟨x, hx⟩ : ∃ x, (A k).getD kk 0 = x := ⟨_, rfl⟩
          rw [hx] at ax x1 x2 x3
          have asn := HROWi.out.cell (seenRow_at A k kk x2)
          rw [x3] at asn
          rw [show ((0 : Nat) : Int) = 0 from rfl] at asn
          have af := HROWi.out.frozen x
          have hset := seenRow_set (n := n) A k kk hlt2 hx
          rw [x3] at hset
          rw [show ((0 : Nat) : Int) + 1 = 1 from rfl] at hset
          have HSet := Lib.hid hset
          have hxn : (x : Int) < ((n + 1 : Nat) : Int) := by omega
          clear hcell hx hset hsl
          go_wp2
          go_roundw
          case rel =>
            refine ⟨kk + 1, by omega, by go_num, by go_num, HKi.out.set (by simp) _ _, ?_⟩
            rw [HSet.out]
            exact HROWi.out.set x _
          case measure => simp [intOf]; omega
        · obtain rfl : kk = (A k).length := by omega
          clear hsl
          have hrow := HROWi.out
          have hrow2 : Row wr w.heap.size 3 (ints .i64 (seenRow n A (k + 1) 0)) := by
            rw [show seenRow n A (k + 1) 0 = seenRow n A k (A k).length from by
              unfold seenRow
              apply List.map_congr_left
              intro x _
              rw [seenSo_all]]
            exact hrow
          have HRW := Lib.hid hrow2
          clear hrow hrow2
          go_wp2
          go_roundw
          case rel => exact ⟨k + 1, by omega, by go_num, rfl, HKr.out.trans HKi.out, HRW.out⟩
          case measure => simp [intOf]; omega
    · obtain rfl : k = W + 1 := by omega
      have hsu := HLA.out
      have hc1 := HC.out
      have hc2 := HFl.out
      obtain ⟨c, hcc⟩ : ∃ c, sumN (fun j => (A j).length) (W + 1) = c := ⟨_, rfl⟩
      rw [hcc] at hsu hsum ⊢
      have e1 : decide ((c : Int) ≤ (n : Int)) = true := decide_eq_true (by omega)
      have e2 : decide ((n : Int) - (c : Int) ≤ (fl : Int)) = true := decide_eq_true (by omega)
      have hWW : ((1 + W : Nat) : Int) = ((W + 1 : Nat) : Int) := by omega
      have HKE := Lib.hid (HK2.out.step HKr.out (by simp))
      clear hcc hsu hc1 hc2
      go_wp2
      go_ret
      exact ⟨rfl, HKE.out⟩
end Go.Proofs.Ytgpfknoddljopaa
