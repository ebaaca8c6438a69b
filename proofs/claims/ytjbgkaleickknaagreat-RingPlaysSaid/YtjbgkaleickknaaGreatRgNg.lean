import Derived.Test.YtjbgkaleickknaaGreatRgNf
/-
  A ring's plays: how they begin and end; a map that tells how often each came, and how many there are.
-/
namespace Go.Proofs.YtjbgkaleickknaaGreat
set_option maxRecDepth 100000
set_option linter.unusedSimpArgs false
set_option linter.unusedVariables false
open Go Go.RowKit Go.Maps

/-- The words of a ring that begins at fr, and has nothing. -/
def rgBlk (N : Nat) (p f : Int) : List Int := p :: f :: List.replicate N 0
def rgStart (N : Nat) (p f : Int) : Nat → List Int
  | 0 => []
  | n + 1 => rgStart N p f n ++ rgBlk N p f
theorem rgStart_len (N : Nat) (p f : Int) : ∀ n, (rgStart N p f n).length = n * (N + 2)
  | 0 => by simp [rgStart]
  | n + 1 => by rw [rgStart, List.length_append, rgStart_len N p f n, Nat.add_mul]; simp [rgBlk]
theorem rgStart_at (N : Nat) (p f : Int) (j : Nat) (hj : j < N + 2) : ∀ n i, i < n → (rgStart N p f n).getD (rgAt N i + j) 0 = (rgBlk N p f).getD j 0
  | 0, i, h => by omega
  | n + 1, i, h => by
    have hl := rgStart_len N p f n
    rw [rgStart]
    by_cases e : i = n
    · subst e
      have h1 : (rgStart N p f i).length ≤ rgAt N i + j := by rw [hl]; unfold rgAt; omega
      simp only [List.getD, List.getElem?_append_right h1]
      rw [hl, show rgAt N i + j - i * (N + 2) = j by unfold rgAt; omega]
    · have h1 : rgAt N i + j < (rgStart N p f n).length := by rw [hl]; have := rgAt_apart N (show i < n by omega); unfold rgAt at *; omega
      simp only [List.getD, List.getElem?_append_left h1]
      exact rgStart_at N p f j hj n i (by omega)
theorem rgStart_mem (N : Nat) (p f : Int) : ∀ n, ∀ u ∈ rgStart N p f n, u = p ∨ u = f ∨ u = 0
  | 0, u, h => by simp [rgStart] at h
  | n + 1, u, h => by
    rw [rgStart] at h
    rcases List.mem_append.1 h with h | h
    · exact rgStart_mem N p f n u h
    · simp [rgBlk] at h
      rcases h with h | h | ⟨-, h⟩
      · exact .inl h
      · exact .inr (.inl h)
      · exact .inr (.inr h)
/-- Which of them are at it with a high number, as a row. -/
def rgBools (W : Nat) (hg : Nat → Bool) : List Value := (List.range W).map fun i => .bool (hg i)
theorem rgBools_at (W : Nat) (hg : Nat → Bool) {i : Nat} (h : i < W) : (rgBools W hg)[i]? = some (.bool (hg i)) := by simp [rgBools, h]
theorem rgBools_set (W : Nat) (hg : Nat → Bool) {i : Nat} (h : i < W) (b : Bool) : (rgBools W hg).set i (.bool b) = rgBools W (updG hg i b) := by
  apply List.ext_getElem
  · simp [rgBools]
  · intro j h1 h2
    simp only [rgBools, List.length_map, List.length_range] at h2
    by_cases e : i = j
    · subst e; simp [rgBools, updG_same]
    · rw [List.getElem_set_ne e]; simp [rgBools, updG_ne _ _ (Ne.symm e)]
theorem rgBools_none (W : Nat) : rgBools W (fun _ => false) = List.replicate W (.bool false) := by simp [rgBools, List.map_const']
def rgG0 (fr : Int) : RgG := ⟨0, 0, 0, fun _ => 0, 0, fun _ => fr, fun _ => [], fun _ => []⟩
theorem rgRow0 (fr : Int) : rgRow (rgG0 fr) = [] := rfl
theorem RgInv.init {N W : Nat} {fr : Int} (hW : 0 < W) (hr : ∀ i, i < W → dqRight (rgAt N i : Nat) N) (hf : 0 ≤ fr ∧ fr < 4294967296) : RgInv N W fr (rgStart N (rgPair fr fr) fr W) (fun _ => none) (rgG0 fr) := by
  have h0 : rgAdd fr 0 = fr := rgAdd_zero hf
  have hat := fun i j hi hj => rgStart_at N (rgPair fr fr) fr j hj W i hi
  refine ⟨⟨hr, by rw [rgStart_len], ?_, ?_, ⟨Int.le_refl _, Int.le_refl _, Int.le_refl _, by show (0 : Int) ≤ 0 + N; omega, by show (0 : Int) ≤ 1000000; decide⟩, fun x h1 h2 => ?_, fun _ => U0r, fun x y h1 h2 h3 => ?_, fun x h1 h2 => ?_, fun i h0' hi => ?_, rfl⟩, fun i s _ h => (by cases h), fun _ _ _ => rfl, fun i j s u _ _ h => (by cases h)⟩
  · have := hat 0 0 hW (by omega)
    rw [show rgAt N 0 + 0 = 0 by simp [rgAt]] at this
    rw [this]
    show rgPair fr fr = rgPair (rgAdd fr 0) (rgAdd fr 0)
    rw [h0]
  · have := hat 0 1 hW (by omega)
    rw [show rgAt N 0 + 1 = 1 by simp [rgAt]] at this
    rw [this]
    show fr = rgAdd fr 0
    rw [h0]
  · have h1' : (0 : Int) ≤ x := h1
    have h2' : x < (0 : Int) := h2
    omega
  · have h1' : (0 : Int) ≤ x := h1
    have h3' : y < (0 : Int) := h3
    omega
  · have h1' : (0 : Int) ≤ x := h1
    have h2' : x < (0 : Int) := h2
    omega
  · have ha := rgAt_apart N hi
    refine ⟨hr i hi, by rw [rgStart_len]; unfold rgAt at *; omega, hf, ?_, ?_, by simp [rgG0], fun j hj => (by simp [rgG0] at hj), fun x hx => (by simp [rgG0] at hx)⟩
    · have := hat i 0 hi (by omega)
      rw [Nat.add_zero] at this
      rw [this]
      rfl
    · rw [hat i 1 hi (by omega)]
      show fr = rgAdd fr 0
      rw [h0]
theorem sumR_zero {f : Nat → Nat} : ∀ n, (∀ j, j < n → f j = 0) → sumR f n = 0
  | 0, _ => rfl
  | n + 1, h => by rw [sumR, sumR_zero n (fun j hj => h j (by omega)), h n (by omega)]
/-- What is left in each ring. -/
def rgLeft (g : RgG) (i : Nat) : List Int := if i = 0 then rgRow g else g.lst i

theorem RgPlay.init {N W q : Nat} {fr : Int} (l gl mm b : Nat) (hW : 0 < W) (hN : N ≤ 16) (hr : ∀ i, i < W → dqRight (rgAt N i : Nat) N) (hf : 0 ≤ fr ∧ fr < 4294967296) :
    RgPlay N W q fr 0 0 ⟨l, gl, mm, b, rgStart N (rgPair fr fr) fr W, List.replicate W none, 0⟩ (fun _ => none) (rgG0 fr) (fun _ => 0) 0 (fun _ => false) := by
  refine ⟨Crew.new _ _ _ _ _ _ _, RgInv.init hW hr hf, hN, fun v => ?_, fun _ => Int.le_refl _, fun i s _ h => (by cases h), fun s h => (by cases h), fun i s _ h => (by cases h), Int.le_refl _, ⟨Int.le_refl _, Int.le_refl _⟩, ⟨Int.le_refl _, Int.le_refl _⟩, Nat.le_refl _⟩
  have : rgTot (rgG0 fr) W v = 0 := by
    unfold rgTot
    rw [rgRow0, sumR_zero W (fun j _ => by simp [rgG0])]
    rfl
  rw [this, if_neg (by omega)]
  rfl
theorem RgPlay.done {N W q : Nat} {fr : Int} {k kn : Nat} {L : LSt} {ss : Nat → Option RgS} {g : RgG} {cnt : Int → Int} {next : Int} {hg : Nat → Bool} (h : RgPlay N W q fr k kn L ss g cnt next hg) (hW : 0 < W) (hk : k = q + 60 * W) :
    (∀ i, i < W → atWork ringM (ss i) = false) ∧ (∀ i, i < W → rgAllOf (rgAt N i : Nat) N L.us = some (rgLeft g i) ∧ (∀ x ∈ rgLeft g i, 1 ≤ x ∧ x ≤ next) ∧ (rgLeft g i).length ≤ 256) ∧ ∀ v, cnt v + (sumR (fun j => (rgLeft g j).count v) W : Nat) = if 1 ≤ v ∧ v ≤ next then 1 else 0 := by
  have hidle : ∀ i, i < W → ∀ s, ss i = some s → s.over ≠ none := fun i hi s hs ho => by
    have h1 := h.steps i s hi hs ho
    have h2 := (h.inv.less hi hs ho h.n16).2.1
    omega
  have hhand : ∀ i, i < W → g.hand i = [] := fun i hi => h.inv.idle i hi (hidle i hi)
  obtain ⟨hr0, hlen, hN2, hN, -⟩ := h.inv.mem.cells hW
  obtain ⟨r1, r2, r3, r4, r5⟩ := h.inv.mem.range
  have hsum : ∀ v, sumR (fun j => (rgLeft g j).count v) W = rgTot g W v := fun v => by
    have h1 := sumR_one (f := fun j => (g.lst j).count v + (g.hand j).count v) (f' := fun j => (rgLeft g j).count v + (g.hand j).count v) W hW (fun j hj => by simp only [rgLeft]; rw [if_neg hj])
    have h2 : sumR (fun j => (rgLeft g j).count v + (g.hand j).count v) W = sumR (fun j => (rgLeft g j).count v) W := sumR_same W fun j hj => by simp [hhand j hj]
    rw [h2, h.inv.mem.own0, hhand 0 hW] at h1
    unfold rgTot
    simp [rgLeft] at h1
    simp only [rgLeft]
    omega
  refine ⟨fun i hi => ?_, fun i hi => ⟨?_, fun x hx => ?_, ?_⟩, fun v => by rw [hsum]; exact h.bal v⟩
  · cases hs : ss i with
    | none => rfl
    | some s =>
      have := hidle i hi s hs
      cases ho : s.over with
      | none => exact absurd ho this
      | some r => simp [atWork, ringM, ho]
  · by_cases e : i = 0
    · subst e
      have e0 : ((rgAt N 0 : Nat) : Int) = 0 := by simp [rgAt]
      unfold rgAllOf
      rw [e0]
      simp only [Int.toNat_zero, show ((0 : Int) + 1).toNat = 1 from rfl]
      rw [h.inv.mem.head, h.inv.mem.tail, rgH_lo, rgLo_add, rgAhead_add fr g.T g.R (by omega) (by omega), if_neg (by omega)]
      simp only [rgLeft, if_true, rgRow, rgFrom]
      congr 1
      apply List.map_congr_left
      intro j hj
      have hj := List.mem_range.1 hj
      rw [rgAdd_add]
      have := h.inv.mem.slots (g.R + j) (by omega) (by omega)
      unfold rgCell at this
      exact this
    · have hL := h.inv.mem.rings i (by omega) hi
      have hfew := hL.few
      unfold rgAllOf
      simp only [Int.toNat_natCast, show (((rgAt N i : Nat) : Int) + 1).toNat = rgAt N i + 1 by omega]
      rw [hL.head, hL.tail, rgLo_pair hL.rr, rgLo_add, rgAhead_own hL.rr _ (by omega) (by omega), if_neg (by omega)]
      simp only [rgLeft, if_neg e, Int.toNat_natCast]
      congr 1
      apply List.ext_getElem
      · simp
      · intro j h1 h2
        simp only [List.getElem_map, List.getElem_range]
        have := hL.slots j h2
        unfold rgCell at this
        rw [this, List.getD, List.getElem?_eq_getElem h2]
        rfl
  · have h1 := List.one_le_count_iff.2 hx
    have h2 := sumR_ge (f := fun j => (rgLeft g j).count x) W hi
    have h3 := hsum x
    have := h.mem (v := x) (by omega)
    exact ⟨this.1, this.2.1⟩
  · unfold rgLeft
    split
    · unfold rgRow; rw [rgFrom_len]; omega
    · have := (h.inv.mem.rings i (by omega) hi).few; omega

/-- How many have come: by choice, so that nothing reckons it. -/
theorem dist_is (cnt : Int → Int) : ∃ n, n = sumR (fun j => if cnt ((j : Int) + 1) = 0 then 0 else 1) 2000 := ⟨_, rfl⟩
noncomputable def dist (cnt : Int → Int) : Nat := (dist_is cnt).choose
theorem dist_eq (cnt : Int → Int) : dist cnt = sumR (fun j => if cnt ((j : Int) + 1) = 0 then 0 else 1) 2000 := (dist_is cnt).choose_spec
theorem dist_put (cnt : Int → Int) {v c : Int} (h1 : 1 ≤ v) (h2 : v ≤ 2000) (hc : c ≠ 0) : dist (updZ cnt v c) = if cnt v = 0 then dist cnt + 1 else dist cnt := by
  have h := sumR_one (i := (v - 1).toNat) (f := fun j => if cnt ((j : Int) + 1) = 0 then 0 else 1) (f' := fun j => if updZ cnt v c ((j : Int) + 1) = 0 then 0 else 1) 2000 (by omega) (fun j hj => by rw [updZ_ne _ _ (by omega)])
  have e : (((v - 1).toNat : Nat) : Int) + 1 = v := by omega
  simp only [e, updZ_same, if_neg hc] at h
  simp only [dist_eq]
  split
  · rename_i e0; rw [if_pos e0] at h; omega
  · rename_i e0; rw [if_neg e0] at h; omega
theorem dist_zero : dist (fun _ => 0) = 0 := (dist_eq _).trans (sumR_zero _ fun _ _ => rfl)
theorem sumR_first {f : Nat → Nat} : ∀ n m, m ≤ n → (∀ j, j < n → f j = if j < m then 1 else 0) → sumR f n = m
  | 0, m, h, _ => by simp [sumR]; omega
  | n + 1, m, h, hf => by
    rw [sumR, hf n (by omega)]
    by_cases e : m = n + 1
    · have h2 := sumR_first (f := f) n n (Nat.le_refl _) (fun j hj => by rw [hf j (by omega), if_pos (by omega), if_pos hj])
      rw [if_pos (by omega), h2, e]
    · rw [if_neg (by omega), Nat.add_zero]
      exact sumR_first n m (by omega) fun j hj => hf j (by omega)
theorem dist_all {cnt : Int → Int} {n : Nat} (hn : n ≤ 2000) (h : ∀ v, cnt v = if 1 ≤ v ∧ v ≤ (n : Int) then 1 else 0) : dist cnt = n := by
  refine (dist_eq cnt).trans (sumR_first 2000 n hn fun j hj => ?_)
  have h1 := h ((j : Int) + 1)
  by_cases e : j < n
  · rw [if_pos (by omega)] at h1
    rw [if_pos e, h1]
    rfl
  · rw [if_neg (by omega)] at h1
    rw [if_neg e, h1]
    rfl

/-- Block b is a map of at most n entries, that tells cnt; its entries are those that came. -/
def CntX (w : World) (b n : Nat) (cnt : Int → Int) (sz : Nat) : Prop := ∃ D : DataW Unit, Tidy D ∧ w.ownsMap Tryz.prog 34 (plainElem Tryz.prog 3) b n D ∧ (∀ v, M.U v → D.atKey (.int .u64 v) (.lit (.int .i64 0)) = .lit (.int .i64 (cnt v))) ∧ (∀ v, M.U v → (has D (.int .u64 v) = true ↔ cnt v ≠ 0)) ∧ size D = sz
theorem CntX.made (w : World) : CntX (w.alloc (.map #[] 0)) w.heap.size 0 (fun _ => 0) 0 := ⟨_, tidy_empty, World.ownsMap_made _ _ _ _, fun _ _ => rfl, fun _ _ => by simp [has_eq], rfl⟩
theorem CntX.cnt {w : World} {b n sz : Nat} {cnt : Int → Int} (h : CntX w b n cnt sz) : Cnt w b n cnt := by
  obtain ⟨D, h0, h1, h2, -⟩ := h; exact ⟨D, h0.isMap, h1, h2⟩
theorem CntX.lt {w : World} {b n sz : Nat} {cnt : Int → Int} (h : CntX w b n cnt sz) : b < w.heap.size := h.cnt.lt
theorem CntX.keeps {w w' : World} {S : List Nat} {b n sz : Nat} {cnt : Int → Int} (h : CntX w b n cnt sz) (hk : Keeps S w w') (hb : b ∉ S) : CntX w' b n cnt sz := by
  have hlt := h.lt
  obtain ⟨D, h0, ⟨es, clock, h1, F, hs, hD⟩, h2⟩ := h
  exact ⟨D, h0, ⟨es, clock, (hk.block b hlt hb).trans h1, F, hs, hD⟩, h2⟩
theorem CntX.mono {w : World} {b n n' sz : Nat} {cnt : Int → Int} (h : CntX w b n cnt sz) (hn : n ≤ n') : CntX w b n' cnt sz := by
  obtain ⟨D, h0, h1, h2⟩ := h; exact ⟨D, h0, h1.mono hn, h2⟩
theorem CntX.put {w : World} {b n : Nat} {cnt : Int → Int} (h : CntX w b n cnt (dist cnt)) (hn : n < maxLen) {v : Int} (hv : 1 ≤ v ∧ v ≤ 2000) (c : Int) (hc : (Lit.int .i64 c).wf = true) (hc0 : c ≠ 0) :
    ∃ w', (Instr.mapUpdate 40 (.map (some b)) (.int .u64 v) (.int .i64 c)).run Tryz.prog w = .ok () w' ∧ CntX w' b (n + 1) (updZ cnt v c) (dist (updZ cnt v c)) ∧ Keeps [b] w w' := by
  have hvU : M.U v := ⟨by omega, by omega⟩
  have hkl : WideAt.IsKeyLit (.int .u64 v) := trivial
  obtain ⟨D, h0, h1, h2, h3, h4⟩ := h
  obtain ⟨w', hrun, ho, hg⟩ := h1.update lawU Tryz.underlying40 hn (keyU hvU) (plainElem_int (H := Unit) Tryz.underlying3 hc)
  refine ⟨w', hrun, ⟨_, h0.put hkl _, ho, fun x hx => ?_, fun x hx => ?_, ?_⟩, ⟨hg.os, hg.tape, hg.output, hg.size, fun k hk hS => hg.block k hk (fun e => hS (by cases e; simp))⟩⟩
  · by_cases e : x = v
    · subst e
      rw [updZ_same]
      exact atKey_put_same h0.isMap hkl _ _
    · rw [updZ_ne _ _ e, atKey_put_other (fun he => e (by injection he))]
      exact h2 x hx
  · by_cases e : x = v
    · subst e
      rw [updZ_same, has_put_same h0.isMap hkl]
      simp [hc0]
    · rw [updZ_ne _ _ e, has_put_other (fun he => e (by injection he))]
      exact h3 x hx
  · rw [size_put h0, dist_put cnt hv.1 hv.2 hc0, h4]
    by_cases e : cnt v = 0
    · rw [if_pos e]
      have : ¬ has D (.int .u64 v) = true := fun hh => ((h3 v hvU).1 hh) e
      rw [if_neg this]
    · rw [if_neg e, if_pos ((h3 v hvU).2 e)]
theorem wpList_put_cntx (w : World) {ops : Array Oper} {rest : List Oper} {o : Oper} {a : Act} {Q : Exit → Act → World → Prop} (hg : o.guard = none) (m x vv : Operand) (hop : o.op = Op.mapUpdate 40 m x vv) (b n : Nat) (cnt : Int → Int)
    (hm : a.eval m = .map (some b)) (hc : CntX w b n cnt (dist cnt)) (hn : n < maxLen) (v c : Int) (hx : a.eval x = .int .u64 v) (hvv : a.eval vv = .int .i64 c) (hv : 1 ≤ v ∧ v ≤ 2000) (hcw : (Lit.int .i64 c).wf = true) (hc0 : c ≠ 0)
    (hK : ∀ w', CntX w' b (n + 1) (updZ cnt v c) (dist (updZ cnt v c)) → Keeps [b] w w' → wpList Tryz.prog ops Q rest (a.put o.dst undef) w') : wpList Tryz.prog ops Q (o :: rest) a w := by
  refine wpList_plain hg fun K' hK' => ?_
  obtain ⟨w', hrun, r1, r2⟩ := hc.put hn hv c hcw hc0
  unfold Oper.wp
  simp [execOp, hop, hm, hx, hvv, hrun, Result.andThen]
  exact hK' _ _ (hK w' r1 r2)
theorem CntX.len {w : World} {b n sz : Nat} {cnt : Int → Int} (h : CntX w b n cnt sz) (ty : TypeId) : (Builtin.len_ #[40] ty #[.map (some b)]).run Tryz.prog w = .ok (.int .i64 (sz : Int)) w := by
  obtain ⟨D, h0, h1, h2, h3, h4⟩ := h
  rw [← h4]
  exact h1.len Tryz.underlying40 ty

theorem append_many' {P : Program} {ops : Array Oper} {rest : List Oper} {o : Oper} {a : Act} {Q : Exit → Act → World → Prop} {w : World} (hgd : o.guard = none) (s x : Operand) (t : TypeId)
    (ho : o.op = .call { callee := .builtin .append, args := #[s, x], argTypes := #[t, t] })
    (base : Nat) (e : TypeId) (z : Value) (size bytes : Nat) (ht : P.underlying t = some (.slice e)) (hE : Elem P e z size bytes)
    (v : Value) (n : Nat) (xs : List Value) (hs : a.eval s = v) (hown : w.ownsRow base e size v n xs)
    (cs : Array Value) (m : Nat) (hx : a.eval x = .slice (some ⟨w.heap.size, 0, none⟩) m m) (hl : cs.size = m * size) (h1 : ∀ u ∈ cs.toList, u.oneCell' = true)
    (hbytes : (n + m) * bytes ≤ 140737488355328) (hbase : base ≤ w.heap.size)
    (h : ∀ v' w', w'.ownsRow base e size v' (n + m) (xs ++ cs.toList) → w.grownBy w' v.ownBlock → wpList P ops Q rest (a.put o.dst v') w') :
    wpList P ops Q (o :: rest) a (w.alloc (.cells cs e)) := by
  obtain ⟨i, hi, hz, hsz, hby⟩ := hE.parts
  have hb0 := hE.2.2.2
  have hlen : n + m ≤ 140737488355328 := Nat.le_trans (Nat.le_mul_of_pos_right _ hb0) hbytes
  refine wpList_append_own _ hgd s x t ho base e i z size bytes ht hi hz hsz hby hE.2.1 hE.2.2.1 v n xs hs (hown.alloc _) ⟨w.heap.size, 0, none⟩ m m cs.toList hx (by simp [hl]) ?_ h1 (by unfold maxLen; omega) hbytes (by simp; omega) ?_
  · intro j u hu
    have e2 : (⟨w.heap.size, 0, none⟩ : Addr).add j = ⟨w.heap.size, j, none⟩ := by unfold Addr.add; split <;> simp_all
    rw [e2, World.cell?_alloc_at _ _ _ _ rfl]
    simpa using hu
  · intro v' w' hown' hgrow _
    refine h v' w' hown' ⟨hgrow.os, hgrow.tape, hgrow.output, Nat.le_trans (by simp) hgrow.size, fun k hk hne => (hgrow.block k (by simp; omega) hne).trans (Below.heap_alloc _ _ _ hk)⟩
theorem ints_appR (k : IntKind) (xs ys : List Int) : ints k xs ++ ints k ys = ints k (xs ++ ys) := by simp [ints]
/-- The rings, as a row of structs. -/
def rgRows (N : Nat) : Nat → List Value
  | 0 => []
  | n + 1 => rgRows N n ++ [.int .i64 (rgAt N n : Nat), .int .i64 (N : Int)]
theorem rgRows_len (N : Nat) : ∀ n, (rgRows N n).length = n * 2
  | 0 => rfl
  | n + 1 => by rw [rgRows, List.length_append, rgRows_len N n]; simp; omega
theorem rgRows_at (N : Nat) : ∀ n i, i < n → (rgRows N n)[i * 2]? = some (.int .i64 (rgAt N i : Nat)) ∧ (rgRows N n)[i * 2 + 1]? = some (.int .i64 (N : Int))
  | 0, i, h => by omega
  | n + 1, i, h => by
    have hl := rgRows_len N n
    rw [rgRows]
    by_cases e : i = n
    · subst e
      constructor
      · rw [List.getElem?_append_right (by omega), hl, Nat.sub_self]; rfl
      · rw [List.getElem?_append_right (by omega), hl, show i * 2 + 1 - i * 2 = 1 by omega]; rfl
    · obtain ⟨h1, h2⟩ := rgRows_at N n i (by omega)
      exact ⟨by rw [List.getElem?_append_left (by omega)]; exact h1, by rw [List.getElem?_append_left (by omega)]; exact h2⟩
theorem rgRows_one (N : Nat) : ∀ n, ∀ u ∈ rgRows N n, u.oneCell' = true
  | 0, u, h => by cases h
  | n + 1, u, h => by
    rcases List.mem_append.1 h with h | h
    · exact rgRows_one N n u h
    · simp at h; rcases h with rfl | rfl <;> rfl
theorem elemBool : Elem Tryz.prog 4 (.bool false) 1 1 := ⟨by kernel_rfl, rfl, by decide, by decide⟩
theorem made_bools (n : Nat) : (madeCells (Value.bool false).cells (n * 1)).toList = List.replicate n (.bool false) := by
  rw [Nat.mul_one]
  apply List.ext_getElem?
  intro i
  by_cases h : i < n
  · simp [madeCells, Value.cells, h, Nat.mod_one]
  · simp [madeCells, Value.cells, h, Nat.mod_one]
theorem elemRing : Elem Tryz.prog 33 (.agg #[.int .i64 0, .int .i64 0]) 2 16 := ⟨by kernel_rfl, rfl, by decide, by decide⟩
end Go.Proofs.YtjbgkaleickknaaGreat
