/-
  Contracts: workers who take and put back as a script says (drive of layer 6's statements).
-/
import Derived.Test.YtgpfknoddljopaaArF
import Derived.Test.YtgpfknoddljopaaOnce
import Derived.Test.YtgpfknoddljopaaFresh2
import Derived.Test.YtgpfknoddljopaaDraw
import Derived.Deep.CutRange
import Derived.Deep.CutBlock
import Derived.IntWalk
import Derived.Deep.RegionLaw
namespace Go.Proofs.Ytgpfknoddljopaa
set_option maxRecDepth 100000
open Go.ChangeShapes Go.WideShapes Go.ChangeAt Go.RowKit

theorem HasAt.block {w w' : World} {h W : Nat} {T : List Nat} {has : Nat → List Nat} (hh : HasAt w h W T has) (hb : ∀ k ∈ T, w'.heap[k]? = w.heap[k]?) : HasAt w' h W T has := by
  obtain ⟨h0, vs, h1, h2, h3⟩ := hh
  refine ⟨h0, vs, h1, h2.block (hb h h0), fun i v hv => ?_⟩
  obtain ⟨a, b, c⟩ := h3 i v hv
  exact ⟨owns_block a fun g hg => hb g (b g hg).2, b, c⟩
/-- A row's head. -/
theorem owns_take {w : World} {base size n m : Nat} {e : TypeId} {p : Option Addr} {c : Nat} {xs : List Value} (h : w.ownsRow base e size (.slice p n c) n xs) (hm : m ≤ n) : w.ownsRow base e size (.slice p m c) m (xs.take (m * size)) := by
  rcases h.2 with ⟨he, h0⟩ | ⟨g, cap, cur, he, hb, hg, hnc, hcm, hcs, ht⟩
  · cases he
    obtain rfl : m = 0 := by omega
    refine ⟨?_, .inl ⟨rfl, rfl⟩⟩
    simp
  · cases he
    have hl := h.1
    have hms : m * size ≤ n * size := Nat.mul_le_mul_right _ hm
    refine ⟨by rw [List.length_take, hl]; omega, .inr ⟨g, c, cur, rfl, hb, hg, by omega, hcm, hcs, ?_⟩⟩
    rw [← ht, List.take_take]
    congr 1
    omega
/-- The row of one worker. -/
theorem HasAt.row {w : World} {h W : Nat} {T : List Nat} {has : Nat → List Nat} (hh : HasAt w h W T has) {i : Nat} (hi : i < W) :
    ∃ v, w.cell? ⟨h, i, none⟩ = some v ∧ w.frozen? ⟨h, i, none⟩ = false ∧ w.ownsRow 0 3 1 v (has i).length (nodes (has i)) ∧ ∀ g, v.ownBlock = some g → g ≠ h ∧ g ∈ T := by
  obtain ⟨h0, vs, h1, h2, h3⟩ := hh
  obtain ⟨v, hv⟩ : ∃ v, vs[i]? = some v := ⟨_, List.getElem?_eq_getElem (by omega)⟩
  exact ⟨v, h2.cell hv, h2.frozen i, (h3 i v hv).1, (h3 i v hv).2.1⟩
/-- One worker's row is another one now: in its own block, or in a new one. -/
theorem HasAt.set {w w' : World} {h W : Nat} {T : List Nat} {has : Nat → List Nat} (hh : HasAt w h W T has) {i : Nat} {v v' : Value} (hv : w.cell? ⟨h, i, none⟩ = some v) (hi : i < W) {S : List Nat} {l : List Nat} (hk : Keeps S w w') (hS : ∀ k ∈ S, k ∈ T → v.ownBlock = some k) (hlt : ∀ k ∈ T, k < w.heap.size)
    (ho : w'.ownsRow 0 3 1 v' l.length (nodes l)) (hn : ∀ g, v'.ownBlock = some g → v.ownBlock = some g ∨ w.heap.size ≤ g) :
    HasAt (w'.setCell ⟨h, i, none⟩ v') h W (v'.ownBlock.toList ++ T) (fun j => if j = i then l else has j) := by
  obtain ⟨h0, vs, h1, h2, h3⟩ := hh
  have hvi : vs[i]? = some v := by
    obtain ⟨u, hu⟩ : ∃ u, vs[i]? = some u := ⟨_, List.getElem?_eq_getElem (by omega)⟩
    have := h2.cell hu
    rw [hv] at this
    cases this
    exact hu
  have hvh := (h3 i v hvi).2.1
  have hhS : h ∉ S := fun hm => (hvh h (hS h hm h0)).1 rfl
  have hrow : Row w' h 47 vs := h2.keeps hk hhS
  have k2 : Keeps [h] w' (w'.setCell ⟨h, i, none⟩ v') := (Keeps.refl _ _).setCell (fun _ => by simp) _
  have newh : ∀ g, v'.ownBlock = some g → g ≠ h := fun g hg e => by
    rcases hn g hg with h' | h'
    · exact (hvh g h').1 e
    · have := hlt h h0; omega
  refine ⟨List.mem_append_right _ h0, vs.set i v', by simpa using h1, hrow.set i v', fun j u hu => ?_⟩
  by_cases e : j = i
  · subst e
    rw [List.getElem?_set_self (by omega)] at hu
    cases hu
    simp only [if_true]
    refine ⟨owns_keeps ho k2 (fun g hg => by simpa using newh g hg), fun g hg => ⟨newh g hg, by simp [hg]⟩, fun j' u' hu' hne g hg hg' => ?_⟩
    rw [List.getElem?_set_ne (Ne.symm hne)] at hu'
    rcases hn g hg with h' | h'
    · exact (h3 j v hvi).2.2 j' u' hu' hne g h' hg'
    · have := hlt g ((h3 j' u' hu').2.1 g hg').2
      omega
  · rw [List.getElem?_set_ne (Ne.symm e)] at hu
    obtain ⟨a, b, c⟩ := h3 j u hu
    simp only [if_neg e]
    have hgS : ∀ g, u.ownBlock = some g → g ∉ S := fun g hg hm => by
      have := hS g hm (b g hg).2
      exact c i v hvi (Ne.symm e) g hg this
    refine ⟨owns_keeps (owns_keeps a hk hgS) k2 (fun g hg => by simpa using (b g hg).1), fun g hg => ⟨(b g hg).1, List.mem_append_right _ (b g hg).2⟩, fun j' u' hu' hne g hg hg' => ?_⟩
    by_cases e2 : j' = i
    · subst e2
      rw [List.getElem?_set_self (by omega)] at hu'
      cases hu'
      rcases hn g hg' with h' | h'
      · exact c j' v hvi hne g hg h'
      · have := hlt g (b g hg).2
        omega
    · rw [List.getElem?_set_ne (Ne.symm e2)] at hu'
      exact c j' u' hu' hne g hg hg'

theorem HasAt.mono {w : World} {h W : Nat} {T T' : List Nat} {has : Nat → List Nat} (hh : HasAt w h W T has) (hT : ∀ k ∈ T, k ∈ T') : HasAt w h W T' has := by
  obtain ⟨h0, vs, h1, h2, h3⟩ := hh
  exact ⟨hT h h0, vs, h1, h2, fun i v hv => ⟨(h3 i v hv).1, fun g hg => ⟨((h3 i v hv).2.1 g hg).1, hT g ((h3 i v hv).2.1 g hg).2⟩, (h3 i v hv).2.2⟩⟩
theorem nodes_take (l : List Nat) (k : Nat) : nodes (l.take k) = (nodes l).take k := by simp [nodes, ints, List.map_take]

/-- What drive keeps: the loom, the rows of nodes, the arena's box, and which of them put back; T1: the blocks of the rows, T: all of these. -/
structure Drv (E : Nat → Prop) (l g m b h pb ab n W : Nat) (w : World) (L : LSt) (ss : Nat → Option ArS) (has : Nat → List Nat) (tag : Nat) (F : List Nat) (T : List Nat) (ps : List Bool) : Prop where
  loom : Loom (fun x => E x ∨ x ∈ pb :: ab :: T) w L
  ar : ArLoom l g m b n W L ss has tag F
  rows : HasAt w h W T has
  box : Box w ab #[.int .i64 0, .int .i64 n]
  puts : Row w pb 4 (ps.map Value.bool)
  plen : ps.length = W
  pT : pb ∉ T
  aT : ab ∉ T
  pa : pb ≠ ab
  mT : m ∉ pb :: ab :: T
  TB : ∀ x ∈ pb :: ab :: T, ¬ E x
  same : ∀ i s, i < W → ss i = some s → s.over = none → ps[i]? = some s.puts
section
variable {E : Nat → Prop} {l g m b h pb ab n W : Nat} {w w' : World} {L : LSt} {ss : Nat → Option ArS} {has : Nat → List Nat} {tag : Nat} {F : List Nat} {T : List Nat} {ps : List Bool}
theorem Drv.dom (h' : Drv E l g m b h pb ab n W w L ss has tag F T ps) : ∀ x ∈ pb :: ab :: T, x < w.heap.size := fun x hx => h'.loom.dom x (.inr hx)
/-- The loom's own doing. -/
theorem Drv.held (h' : Drv E l g m b h pb ab n W w L ss has tag F T ps) {M : LSt} {ss' : Nat → Option ArS} {has' : Nat → List Nat} {tag' : Nat} {F' : List Nat} (hl : Loom (fun x => E x ∨ x ∈ pb :: ab :: T) w' M) (hh : Held (fun x => E x ∨ x ∈ pb :: ab :: T) w w')
    (ha : ArLoom l g m b n W M ss' has' tag' F') (hr : HasAt w' h W T has') (hs : ∀ i s, i < W → ss' i = some s → s.over = none → ps[i]? = some s.puts) : Drv E l g m b h pb ab n W w' M ss' has' tag' F' T ps :=
  { h' with
    loom := hl
    ar := ha
    rows := hr
    box := h'.box.block hh.size (hh.block ab (.inr (by simp)))
    puts := h'.puts.block (hh.block pb (.inr (by simp)))
    same := hs }
theorem Drv.keeps (h' : Drv E l g m b h pb ab n W w L ss has tag F T ps) (hk : Keeps [] w w') : Drv E l g m b h pb ab n W w' L ss has tag F T ps :=
  { h' with
    loom := h'.loom.keeps hk
    rows := h'.rows.keeps hk (by simp)
    box := h'.box.keeps hk (by simp)
    puts := h'.puts.keeps hk (by simp) }
/-- A worker begins a walk. -/
theorem Drv.begun (h' : Drv E l g m b h pb ab n W w L ss has tag F T ps) {who : Nat} (hw : who < W) {t : Strand} {s : ArS} (hl : Loom (fun x => E x ∨ x ∈ pb :: ab :: T) w' { L with ts := L.ts.set who (some t) }) {X : List Nat} (hk : Keeps X w w') (hX : pb ∉ X ∧ ab ∉ X) (ht : IsAr t s) {has' : Nat → List Nat}
    (hinv : ArInv n W L.us (updO ss who (some s)) has' tag F) (hrows : HasAt w' h W T has') (hp : s.over = none → ps[who]? = some s.puts) : Drv E l g m b h pb ab n W w' { L with ts := L.ts.set who (some t) } (updO ss who (some s)) has' tag F T ps := by
  have hlen := h'.ar.len
  exact { h' with
    loom := hl
    ar := ⟨h'.ar.l, h'.ar.g, h'.ar.m, h'.ar.b, by simpa using hlen, fun i hi => by
      show ∃ o, (L.ts.set who _)[i]? = some o ∧ _
      by_cases e : i = who
      · subst e
        rw [List.getElem?_set_self (by omega), updO_same]
        exact ⟨_, rfl, t, rfl, ht⟩
      · rw [List.getElem?_set_ne (Ne.symm e), updO_ne _ _ e]
        exact h'.ar.at_ i hi, hinv⟩
    rows := hrows
    box := h'.box.keeps hk hX.2
    puts := h'.puts.keeps hk hX.1
    same := fun i u hi hu ho => by
      by_cases e : i = who
      · subst e
        rw [updO_same] at hu
        cases hu
        exact hp ho
      · rw [updO_ne _ _ e] at hu
        exact h'.same i u hi hu ho }
/-- A worker that isn't under way is said to put back, or to take. -/
theorem Drv.setPut (h' : Drv E l g m b h pb ab n W w L ss has tag F T ps) {who : Nat} (hno : ∀ s, ss who = some s → s.over.isSome = true) (P : Bool) : Drv E l g m b h pb ab n W (w.setCell ⟨pb, who, none⟩ (.bool P)) L ss has tag F T (ps.set who P) := by
  have hk : Keeps [pb] w (w.setCell ⟨pb, who, none⟩ (.bool P)) := (Keeps.refl _ _).setCell (fun _ => by simp) _
  have hmm : L.mm ∉ [pb] := by
    have := h'.mT
    rw [h'.ar.m]
    simp only [List.mem_cons, not_or] at this
    simpa using this.1
  exact { h' with
    loom := h'.loom.apart hk (fun k hk => .inr (by simp at hk; simp [hk])) hmm
    rows := h'.rows.keeps hk (fun k hk' hm => by simp at hm; subst hm; exact h'.pT hk')
    box := h'.box.keeps hk (by simpa using Ne.symm h'.pa)
    puts := by rw [List.map_set]; exact h'.puts.set who _
    plen := by simpa using h'.plen
    same := fun i s hi hs ho => by
      by_cases e : i = who
      · subst e
        have := hno s hs
        rw [ho] at this
        cases this
      · rw [List.getElem?_set_ne (Ne.symm e)]
        exact h'.same i s hi hs ho }
theorem Drv.put_at (h' : Drv E l g m b h pb ab n W w L ss has tag F T ps) {i : Nat} (hi : i < W) : ∃ p, ps[i]? = some p ∧ w.cell? ⟨pb, i, none⟩ = some (.bool p) ∧ w.frozen? ⟨pb, i, none⟩ = false := by
  obtain ⟨p, hp⟩ : ∃ p, ps[i]? = some p := ⟨_, List.getElem?_eq_getElem (by rw [h'.plen]; exact hi)⟩
  exact ⟨p, hp, h'.puts.cell (by rw [List.getElem?_map, hp]; rfl), h'.puts.frozen i⟩
theorem arTake_over {n : Nat} (h1 : 1 ≤ n) (h4 : n ≤ 4096) : (arTake 0 n).over = none := by simp only [arTake]; rw [if_pos ⟨by omega, by omega, by omega, by omega⟩]
theorem arPut_over {n y : Nat} (h1 : 1 ≤ n) (h4 : n ≤ 4096) (y1 : 1 ≤ y) (y2 : y ≤ n) : (arPut 0 n y).over = none := by simp only [arPut]; rw [if_pos ⟨⟨by omega, by omega, by omega, by omega⟩, by omega, by omega⟩]
end

theorem took_done {E : Nat → Prop} {l g m b h pb ab n W ln y who : Nat} {W9 w10 : World} {M : LSt} {ss' : Nat → Option ArS} {has : Nat → List Nat} {tag : Nat} {F : List Nat} {T : List Nat} {ps : List Bool} {v9 v10 : Value} {o : Obj}
    (hL9 : Loom (fun x => E x ∨ x ∈ pb :: ab :: T) W9 M) (hR9 : HasAt W9 h W T has) (bx9 : Box W9 ab #[.int .i64 0, .int .i64 n]) (pu9 : Row W9 pb 4 (ps.map Value.bool)) (hM : ArLoom l g m b n W M ss' (updL has who (has who ++ [y])) tag F)
    (hp : ps.length = W ∧ pb ∉ T ∧ ab ∉ T ∧ pb ≠ ab ∧ m ∉ pb :: ab :: T ∧ ∀ x ∈ pb :: ab :: T, ¬ E x) (hsame : ∀ i s, i < W → ss' i = some s → s.over = none → ps[i]? = some s.puts)
    (hv9 : W9.cell? ⟨h, who, none⟩ = some v9) (hw : who < W) (blk9 : ∀ g, v9.ownBlock = some g → g ≠ h ∧ g ∈ T) (hlen : (has who).length = ln) (k10 : Keeps v9.ownBlock.toList (W9.alloc o).drew w10)
    (own10 : w10.ownsRow 0 3 1 v10 (ln + 1) (nodes (has who) ++ [.int .i64 (y : Int)])) (f10 : ∀ k, v10.ownBlock = some k → v9.ownBlock = some k ∨ (W9.alloc o).drew.heap.size ≤ k) :
    Held E W9 (w10.setCell ⟨h, who, none⟩ v10) ∧ Drv E l g m b h pb ab n W (w10.setCell ⟨h, who, none⟩ v10) M ss' (updL has who (has who ++ [y])) tag F (v10.ownBlock.toList ++ T) ps := by
  obtain ⟨plen, pT, aT, pa, mT, TB⟩ := hp
  have hhT : h ∈ T := hR9.1
  have hdom : ∀ k ∈ pb :: ab :: T, k < W9.heap.size := fun k hk => hL9.dom k (.inr hk)
  have kA : Keeps v9.ownBlock.toList W9 w10 := (((Keeps.refl [] W9).alloc o).drew.nil).trans k10
  have kB : Keeps [h] w10 (w10.setCell ⟨h, who, none⟩ v10) := (Keeps.refl _ _).setCell (fun _ => by simp) _
  have kk : Keeps (h :: v9.ownBlock.toList) W9 (w10.setCell ⟨h, who, none⟩ v10) := (kA.mono (fun k hk _ => by simp at hk; simp [hk])).trans (kB.mono (fun k hk _ => by simp at hk; simp [hk]))
  have hXT : ∀ k ∈ h :: v9.ownBlock.toList, k ∈ T := fun k hk => by
    simp only [List.mem_cons] at hk
    rcases hk with rfl | hk
    · exact hhT
    · exact (blk9 k (by simpa using hk)).2
  have hsz : (W9.alloc o).drew.heap.size = W9.heap.size + 1 := by show (W9.alloc o).heap.size = _; simp
  have hnew : ∀ k, v10.ownBlock = some k → k ∈ T ∨ (W9.heap.size ≤ k ∧ k < w10.heap.size) := fun k hk => by
    rcases f10 k hk with h' | h'
    · exact .inl (blk9 k h').2
    · exact .inr ⟨by omega, (own10.lt k hk).2⟩
  have hs10 : (w10.setCell ⟨h, who, none⟩ v10).heap.size = w10.heap.size := by simp
  have hmm : m < W9.heap.size := by have := hL9.mem.lt.1; rw [hM.m] at this; exact this
  have hpX : ∀ k, k ∉ T → k < W9.heap.size → k ∉ v10.ownBlock.toList ++ T := fun k hkT hkl hm => by
    rcases List.mem_append.1 hm with hm | hm
    · rcases hnew k (by simpa using hm) with h' | h'
      · exact hkT h'
      · omega
    · exact hkT hm
  simp only [List.mem_cons, not_or] at mT
  refine ⟨kk.held (fun k hk => hL9.dom k (.inl hk)) (fun k hk => TB k (by simp [hXT k hk])), ?_⟩
  exact {
    loom := hL9.widenX kk (fun k hk => .inr (by simp [hXT k hk])) (by rw [hM.m]; exact fun hm => mT.2.2 (hXT m hm)) (fun k hk => by
      rcases hk with hk | hk
      · exact .inl (.inl hk)
      · simp only [List.mem_cons, List.mem_append] at hk
        rcases hk with rfl | rfl | hk | hk
        · exact .inl (.inr (by simp))
        · exact .inl (.inr (by simp))
        · rcases hnew k (by simpa using hk) with h' | h'
          · exact .inl (.inr (by simp [h']))
          · exact .inr ⟨h'.1, by rw [hs10]; exact h'.2⟩
        · exact .inl (.inr (by simp [hk])))
    ar := hM
    rows := HasAt.set hR9 hv9 hw kA (fun k hk _ => by simpa using hk) (fun k hk => hdom k (by simp [hk])) (l := has who ++ [y]) (by
      rw [nodes_append, List.length_append, hlen]; exact own10) (fun k hk => by
      rcases f10 k hk with h' | h'
      · exact .inl h'
      · exact .inr (by omega))
    box := bx9.keeps kk (fun hm => aT (hXT ab hm))
    puts := pu9.keeps kk (fun hm => pT (hXT pb hm))
    plen := plen
    pT := hpX pb pT (hdom pb (by simp))
    aT := hpX ab aT (hdom ab (by simp))
    pa := pa
    mT := by
      simp only [List.mem_cons, not_or]
      exact ⟨mT.1, mT.2.1, hpX m mT.2.2 hmm⟩
    TB := fun x hx => by
      simp only [List.mem_cons, List.mem_append] at hx
      rcases hx with rfl | rfl | hx | hx
      · exact TB _ (by simp)
      · exact TB _ (by simp)
      · rcases hnew x (by simpa using hx) with h' | h'
        · exact TB _ (by simp [h'])
        · exact fun he => by have := hL9.dom x (.inl he); omega
      · exact TB _ (by simp [hx])
    same := hsame }
theorem took_rows {E : Nat → Prop} {m h W ln y who : Nat} {W9 w10 : World} {M : LSt} {has : Nat → List Nat} {T : List Nat} {v9 v10 : Value} {o : Obj}
    (hL9 : Loom (fun x => E x ∨ x ∈ T) W9 M) (hR9 : HasAt W9 h W T has) (hM : M.mm = m) (mT : m ∉ T) (TB : ∀ x ∈ T, ¬ E x)
    (hv9 : W9.cell? ⟨h, who, none⟩ = some v9) (hw : who < W) (blk9 : ∀ g, v9.ownBlock = some g → g ≠ h ∧ g ∈ T) (hlen : (has who).length = ln) (k10 : Keeps v9.ownBlock.toList (W9.alloc o).drew w10)
    (own10 : w10.ownsRow 0 3 1 v10 (ln + 1) (nodes (has who) ++ [.int .i64 (y : Int)])) (f10 : ∀ k, v10.ownBlock = some k → v9.ownBlock = some k ∨ (W9.alloc o).drew.heap.size ≤ k) :
    Held E W9 (w10.setCell ⟨h, who, none⟩ v10) ∧ Loom (fun x => E x ∨ x ∈ v10.ownBlock.toList ++ T) (w10.setCell ⟨h, who, none⟩ v10) M ∧ HasAt (w10.setCell ⟨h, who, none⟩ v10) h W (v10.ownBlock.toList ++ T) (updL has who (has who ++ [y])) ∧
      m ∉ v10.ownBlock.toList ++ T ∧ ∀ x ∈ v10.ownBlock.toList ++ T, ¬ E x := by
  have hhT : h ∈ T := hR9.1
  have hdom : ∀ k ∈ T, k < W9.heap.size := fun k hk => hL9.dom k (.inr hk)
  have kA : Keeps v9.ownBlock.toList W9 w10 := (((Keeps.refl [] W9).alloc o).drew.nil).trans k10
  have kB : Keeps [h] w10 (w10.setCell ⟨h, who, none⟩ v10) := (Keeps.refl _ _).setCell (fun _ => by simp) _
  have kk : Keeps (h :: v9.ownBlock.toList) W9 (w10.setCell ⟨h, who, none⟩ v10) := (kA.mono (fun k hk _ => by simp at hk; simp [hk])).trans (kB.mono (fun k hk _ => by simp at hk; simp [hk]))
  have hXT : ∀ k ∈ h :: v9.ownBlock.toList, k ∈ T := fun k hk => by
    simp only [List.mem_cons] at hk
    rcases hk with rfl | hk
    · exact hhT
    · exact (blk9 k (by simpa using hk)).2
  have hsz : (W9.alloc o).drew.heap.size = W9.heap.size + 1 := by show (W9.alloc o).heap.size = _; simp
  have hnew : ∀ k, v10.ownBlock = some k → k ∈ T ∨ (W9.heap.size ≤ k ∧ k < w10.heap.size) := fun k hk => by
    rcases f10 k hk with h' | h'
    · exact .inl (blk9 k h').2
    · exact .inr ⟨by omega, (own10.lt k hk).2⟩
  have hs10 : (w10.setCell ⟨h, who, none⟩ v10).heap.size = w10.heap.size := by simp
  have hmm : m < W9.heap.size := by have := hL9.mem.lt.1; rw [hM] at this; exact this
  refine ⟨kk.held (fun k hk => hL9.dom k (.inl hk)) (fun k hk => TB k (hXT k hk)), ?_, ?_, ?_, ?_⟩
  · refine hL9.widenX kk (fun k hk => .inr (hXT k hk)) (by rw [hM]; exact fun hm => mT (hXT m hm)) (fun k hk => ?_)
    rcases hk with hk | hk
    · exact .inl (.inl hk)
    · rcases List.mem_append.1 hk with hk | hk
      · rcases hnew k (by simpa using hk) with h' | h'
        · exact .inl (.inr h')
        · exact .inr ⟨h'.1, by rw [hs10]; exact h'.2⟩
      · exact .inl (.inr hk)
  · refine HasAt.set hR9 hv9 hw kA (fun k hk _ => by simpa using hk) hdom (l := has who ++ [y]) (by
      rw [nodes_append, List.length_append, hlen]; exact own10) (fun k hk => ?_)
    rcases f10 k hk with h' | h'
    · exact .inl h'
    · exact .inr (by omega)
  · intro hm
    rcases List.mem_append.1 hm with hm | hm
    · rcases hnew m (by simpa using hm) with h' | h'
      · exact mT h'
      · omega
    · exact mT hm
  · intro x hx he
    rcases List.mem_append.1 hx with hx | hx
    · rcases hnew x (by simpa using hx) with h' | h'
      · exact TB x h' he
      · have := hL9.dom x (.inl he); omega
    · exact TB x hx he
theorem elemBool : Elem Try.prog 4 (.bool false) 1 1 := ⟨by kernel_rfl, rfl, by decide, by decide⟩
theorem made_bools (n : Nat) : (madeCells (Value.bool false).cells (n * 1)).toList = (List.replicate n false).map Value.bool := by
  rw [Nat.mul_one]
  apply List.ext_getElem?
  intro i
  by_cases h : i < n
  · simp [madeCells, Value.cells, h, Nat.mod_one]
  · simp [madeCells, Value.cells, h, Nat.mod_one]

set_option maxHeartbeats 12800000 in
theorem drive_any (E : Nat → Prop) (l g m b h ch n W q cp : Nat) (pp : Option Addr) (ys : List Int) (L : LSt) (ss : Nat → Option ArS) (has : Nat → List Nat) (tag : Nat) (F : List Nat) (T : List Nat) (w : World)
    (hL : Loom (fun x => E x ∨ x ∈ T) w L) (ha : ArLoom l g m b n W L ss has tag F) (hr : HasAt w h W T has) (hTB : ∀ x ∈ T, ¬ E x) (hm : m ∉ T) (hmw : m < w.heap.size) (hs : ∀ i s, i < W → ss i = some s → s.over.isSome = true)
    (hp : ∀ W', Held E w W' → Sl W' 1 (.slice pp q cp) q (ints .u8 ys)) (hyl : ys.length = q) (hy : ∀ y ∈ ys, 0 ≤ y ∧ y < 256) (hW : 1 ≤ W) (hW2 : W ≤ 16) (hn : 1 ≤ n) (hq : q ≤ 1000) (ht : tag ≤ 1000000) (hst : L.steps ≤ 1000000) :
    Calls Try.prog 26 #[.pointer (some ⟨l, 0, none⟩), .agg #[.int .i64 0, .int .i64 n], .slice pp q cp, .slice (some ⟨h, 0, none⟩) W ch] w fun e w' => e = .returned (.bool true) ∧
      ∃ (L' : LSt) (ss' : Nat → Option ArS) (has' : Nat → List Nat) (tag' : Nat) (F' : List Nat) (T' : List Nat), Loom (fun x => E x ∨ x ∈ T') w' L' ∧ ArLoom l g m b n W L' ss' has' tag' F' ∧ HasAt w' h W T' has' ∧ (∀ x ∈ T', ¬ E x) ∧ m ∉ T' ∧ tag' ≤ tag + q ∧ L'.steps ≤ L.steps + q ∧ Held E w w' := by
  obtain ⟨W0, hW0⟩ : ∃ W0, w.alloc (.cells #[.int .i64 0, .int .i64 n] 23) = W0 := ⟨_, rfl⟩
  have k0 : Keeps [] w W0 := by rw [← hW0]; exact (Keeps.refl _ _).alloc _
  have bx0 : Box W0 w.heap.size #[.int .i64 0, .int .i64 n] := by rw [← hW0]; exact Box.new _ _ _
  have z0 : W0.heap.size = w.heap.size + 1 := by rw [← hW0]; simp
  obtain ⟨W1, hrun, hrow, k1, z1⟩ := make_row (P := Try.prog) W0 109 4 _ 1 1 Try.underlying109 elemBool .i64 .i64 W (by omega)
  rw [made_bools] at hrow
  have k01 := k0.trans k1
  have hTlt : ∀ x ∈ T, x < w.heap.size := fun x hx => hL.dom x (.inr hx)
  have HD : Hid (Drv E l g m b h W0.heap.size w.heap.size n W W1 L ss has tag F T (List.replicate W false)) := Lib.hid
    { loom := hL.widen k01 (fun k hk => by
        have := k01.size
        rcases hk with hk | hk
        · exact .inl (.inl hk)
        · simp only [List.mem_cons] at hk
          rcases hk with rfl | rfl | hk
          · exact .inr ⟨by omega, by omega⟩
          · exact .inr ⟨by omega, by omega⟩
          · exact .inl (.inr hk))
      ar := ha
      rows := hr.keeps k01 (by simp)
      box := bx0.keeps k1 (by simp)
      puts := hrow
      plen := by simp
      pT := fun hm => by have := hTlt _ hm; omega
      aT := fun hm => by have := hTlt _ hm; omega
      pa := by omega
      mT := by simp only [List.mem_cons, not_or]; exact ⟨by omega, by omega, hm⟩
      TB := fun x hx => by
        simp only [List.mem_cons] at hx
        rcases hx with rfl | rfl | hx
        · exact fun he => by have := hL.dom _ (.inl he); omega
        · exact fun he => by have := hL.dom _ (.inl he); omega
        · exact hTB x hx
      same := fun i s hi hsi ho => by have := hs i s hi hsi; rw [ho] at this; cases this }
  obtain ⟨pb, hpb⟩ : ∃ pb, W0.heap.size = pb := ⟨_, rfl⟩
  obtain ⟨ab, hab⟩ : ∃ ab, w.heap.size = ab := ⟨_, rfl⟩
  rw [hpb] at hrun
  rw [hpb, hab] at HD
  have HEd : Hid (∀ k, E k → k < w.heap.size) := Lib.hid (fun k hk => hL.dom k (.inl hk))
  have HB1 : Hid (Held E w W1) := Lib.hid (k01.held HEd.out (by simp))
  have HP := Lib.hid hp
  have HYL := Lib.hid hyl
  have HY := Lib.hid hy
  clear hL ha hr hTB hm hmw hs hp hyl hy k0 bx0 z0 hrow k1 z1 k01 hTlt hpb
  go_enter Try.func26, Try.ntmps26
  go_wp2
  go_loopw [10] (fun i wr => ∃ k : Nat, k ≤ q ∧ i = .int .i64 (k : Int) ∧ Held E w wr ∧ ∃ (L' : LSt) (ss' : Nat → Option ArS) (has' : Nat → List Nat) (tag' : Nat) (F' : List Nat) (T' : List Nat) (ps : List Bool),
    Drv E l g m b h pb ab n W wr L' ss' has' tag' F' T' ps ∧ tag' ≤ tag + k ∧ L'.steps ≤ L.steps + k) (fun i _ => q - (intOf i).toNat)
  case atStart => exact ⟨0, Nat.zero_le _, rfl, HB1.out, L, ss, has, tag, F, T, _, HD.out, Nat.le_refl _, Nat.le_refl _⟩
  case round =>
    obtain ⟨k, hk, rfl, hbr, L', ss', has', tag', F', T', ps, hD, htg, hsp⟩ := hrel
    have HBr := Lib.hid hbr
    have HDr := Lib.hid hD
    have hsr := hbr.size
    clear hbr hD HD HB1
    by_cases hlt : k < q
    · have hsl := HP.out wr HBr.out
      obtain ⟨pb2, po, pc, he, hpb2, hpc⟩ := hsl.some (by omega)
      cases he
      have hkz : k < ys.length := by rw [HYL.out]; exact hlt
      have ay := hpc k _ (ints_at (k := .u8) hkz)
      have hyb := HY.out (ys.getD k 0) (by rw [List.getD, List.getElem?_eq_getElem hkz]; exact List.getElem_mem hkz)
      obtain ⟨y, hy⟩ : ∃ y, ys.getD k 0 = y := ⟨_, rfl⟩
      rw [hy] at ay hyb
      obtain ⟨yn, rfl⟩ : ∃ yn : Nat, y = (yn : Int) := ⟨y.toNat, by omega⟩
      clear hpc hsl
      go_wp2_with fail
      rw [show (yn : Int) % (W : Int) = ((yn % W : Nat) : Int) from (Int.natCast_emod _ _).symm]
      have hwn : yn % W < W := Nat.mod_lt _ (by omega)
      obtain ⟨who, hwho⟩ : ∃ who, yn % W = who := ⟨_, rfl⟩
      rw [hwho] at hwn ⊢
      clear hwho
      obtain ⟨o, ho, hb⟩ := HDr.out.ar.busy hwn
      have D := busy_at _ L' who o wr HDr.out.loom ho
      rw [HDr.out.ar.l, hb] at D
      obtain ⟨bb, hbb⟩ : ∃ bb, flies (ss' who) = bb := ⟨_, rfl⟩
      rw [hbb] at D hb
      have HBB := Lib.hid hbb
      have HO := Lib.hid (⟨ho, hb⟩ : _ ∧ _)
      clear ho hb hbb
      refine D.mono ?_
      clear D
      rintro e w2 ⟨rfl, k2⟩
      have HD2 := Lib.hid (HDr.out.keeps k2)
      have HB2 := Lib.hid (HBr.out.trans (k2.held (fun k hk => by have := HEd.out k hk; omega) (by simp)))
      have ay2 := (k2.cell (p := ⟨pb2, po + k, none⟩) hpb2 (by simp)).trans ay
      have hs2 := HB2.out.size
      clear k2 HDr HBr ay
      go_upto_if 36 with (fail)
      go_cut [12, 13] from 37 to 144 (fun u v w' => Held E w w' ∧ ∃ (L2 : LSt) (ss2 : Nat → Option ArS) (has2 : Nat → List Nat) (ps2 : List Bool) (s : ArS), Drv E l g m b h pb ab n W w' L2 ss2 has2 tag' F' T' ps2 ∧ L2.steps = L'.steps ∧ ss2 who = some s ∧ s.over = none)
      case first =>
        cases bb with
        | true =>
          obtain ⟨s, hs1, hs2⟩ := flies_yes HBB.out
          have HM := Lib.hid (⟨hs1, hs2⟩ : _ ∧ _)
          clear hs1 hs2
          go_wp2
          go_meet
          exact ⟨HB2.out, L', ss', has', ps, s, HD2.out, rfl, HM.out⟩
        | false =>
          have hno := flies_no HBB.out
          have HNO := Lib.hid hno
          obtain ⟨v, hv, hfz, hown, hblk⟩ := HD2.out.rows.row hwn
          obtain ⟨pv, cv, rfl⟩ := (Sl.of_owns hown).len
          obtain ⟨len, hlen⟩ : ∃ len, (has' who).length = len := ⟨_, rfl⟩
          rw [hlen] at hv hown hblk
          obtain ⟨p0, hp0, hpc, hpf⟩ := HD2.out.put_at hwn
          have hn4 := HD2.out.ar.inv.n4
          have HOwn := Lib.hid hown
          have HBlk := Lib.hid hblk
          have HLen := Lib.hid hlen
          have hhp : h ≠ pb := fun e => HD2.out.pT (e ▸ HD2.out.rows.1)
          have hhlt := HD2.out.dom h (by simp [HD2.out.rows.1])
          clear hno hown hblk hlen hp0
          by_cases hP : 128 ≤ yn ∧ 0 < len
          · obtain ⟨h128, hl0⟩ := hP
            obtain ⟨ln, hln⟩ : ∃ ln, len = ln + 1 := ⟨len - 1, by omega⟩
            have HLn := Lib.hid hln
            clear hln
            have HD3 := Lib.hid (HD2.out.setPut HNO.out true)
            have b0 := HD3.out.box.cells 0
            have b1 := HD3.out.box.cells 1
            simp at b0 b1
            have hal := HD3.out.dom ab (by simp)
            have HB3 : Hid (Held E w (w2.setCell ⟨pb, who, none⟩ (.bool true))) := Lib.hid (HB2.out.trans (((Keeps.refl [pb] w2).setCell (fun _ => by simp) _).held (fun k hk => by have := HEd.out k hk; omega) (fun k hk => by simp at hk; subst hk; exact HD2.out.TB _ (by simp))))
            obtain ⟨W3, hW3⟩ : ∃ W3, w2.setCell ⟨pb, who, none⟩ (.bool true) = W3 := ⟨_, rfl⟩
            rw [hW3] at HD3 HB3 b0 b1
            have hw3 := HB3.out.size
            obtain ⟨p3, hp3, hpc3, -⟩ := HD3.out.put_at hwn
            have hp3' : some true = some p3 := by rw [← hp3, List.getElem?_set_self (by have := HD2.out.plen; omega)]
            cases hp3'
            have hpl3 := HD3.out.dom pb (by simp)
            have dW : decide ((who : Int) < (W : Int)) = true := decide_eq_true (by omega)
            have d128 : decide ((128 : Int) ≤ (yn : Int)) = true := decide_eq_true (by omega)
            have dl0 : decide ((0 : Int) < (len : Int)) = true := decide_eq_true (by omega)
            clear hp3
            go_wp2_with fail
            clear hW3
            refine (take_any 0 n W3).mono ?_
            rintro e w4 ⟨t0, S0, rfl, -, -, k4, -⟩
            have hpc4 := (k4.cell (p := ⟨pb, who, none⟩) hpl3 (by simp)).trans hpc3
            have HD4 := Lib.hid (HD3.out.keeps k4)
            have HB4 := Lib.hid (HB3.out.trans (k4.held (fun k hk => by have := HEd.out k hk; omega) (by simp)))
            have hw4 := HB4.out.size
            have b40 := HD4.out.box.cells 0
            have b41 := HD4.out.box.cells 1
            simp at b40 b41
            obtain ⟨v4, hv4, hf4, hown4, hblk4⟩ := HD4.out.rows.row hwn
            obtain ⟨p4, c4, rfl⟩ := (Sl.of_owns hown4).len
            rw [HLen.out] at hv4 hown4 hblk4
            obtain ⟨g4, o4, c4', he, hg4, hcell⟩ := (Sl.of_owns hown4).some hl0
            cases he
            have hlx : ln < (has' who).length := by have := HLn.out; rw [HLen.out]; omega
            have ax := hcell ln _ (nodes_at hlx)
            obtain ⟨x, hx⟩ : ∃ x, (has' who).getD ln 0 = x := ⟨_, rfl⟩
            rw [hx] at ax
            have hsplit : has' who = (has' who).take ln ++ x :: [] := by
              have h1 : has' who = (has' who).take ln ++ (has' who).drop ln := (List.take_append_drop _ _).symm
              have h2 : (has' who).drop ln = [x] := by
                rw [List.drop_eq_getElem_cons hlx, List.drop_of_length_le (by have := HLn.out; rw [HLen.out]; omega)]
                rw [List.getD, List.getElem?_eq_getElem hlx] at hx
                simp at hx
                rw [hx]
              rw [h2] at h1
              exact h1
            obtain ⟨x1, x2, hinv⟩ := HD4.out.ar.inv.put hwn HNO.out _ _ _ hsplit
            rw [List.append_nil] at hinv
            have HInv := Lib.hid hinv
            have HOwn4 := Lib.hid hown4
            have HBlk4 := Lib.hid hblk4
            have HV4 := Lib.hid hv4
            have hh4 := HD4.out.dom h (by simp [HD4.out.rows.1])
            have hcap : len ≤ c4 ∧ c4 ≤ maxLen := by
              rcases hown4.2 with ⟨he, -⟩ | ⟨g', cap', cur, he, -, -, h1, h2, -⟩
              · cases he
              · cases he; exact ⟨h1, h2⟩
            have icap : (ln : Int) ≤ (c4 : Int) := by have := HLn.out; omega
            have icn : ¬ ((c4 : Int) < (ln : Int)) := by omega
            have hcn : ln ≤ c4 := by have := HLn.out; omega
            have hc0 : c4 ≠ 0 := by have := HLn.out; omega
            have ho4 : o4 = 0 := by
              rcases hown4.2 with ⟨he, -⟩ | ⟨g', cap', cur, he, -⟩
              · cases he
              · cases he; rfl
            subst ho4
            rw [Nat.zero_add] at ax
            have hlw : ln ≤ 1000000000 := by
              have h1 := HD4.out.ar.inv.lack
              have h2 : (has' who).length ≤ sumN (fun i => (has' i).length) W := sumN_one (fun i => (has' i).length) hwn
              have h3 := HLen.out
              have h4 := HLn.out
              omega
            have hwb : IntKind.i64.wrap ((len : Int) - 1) = (ln : Int) := by have := HLn.out; rw [IntWalk.i64_in _ (by omega)]; omega
            have il : (ln : Int) < (len : Int) := by have := HLn.out; omega
            have il2 : (ln : Int) ≤ (len : Int) := by omega
            clear b0 b1 hcell hx hsplit hinv hown4 hblk4 k4 hpc3 hlx
            go_wp2_with fail
            refine wp_region_mid 9 (by kernel_rfl) (by kernel_rfl) ?_
            simp only [List.take_succ_cons, List.take_zero, List.drop_succ_cons, List.drop_zero]
            repeat still_step
            refine wpStill_nil ?_
            go_wp2_with fail
            refine (put_any 0 n x w4.drew).mono ?_
            rintro e w5 ⟨t, S, rfl, ht, hI, k5, hS⟩
            have k45 : Keeps [] w4 w5 := k5.undrew
            have HD5 := Lib.hid (HD4.out.keeps k45)
            have HB5 := Lib.hid (HB4.out.trans (k45.held (fun k hk => by have := HEd.out k hk; omega) (by simp)))
            have HS := Lib.hid (fun k hk => (show w4.heap.size ≤ k from hS k hk))
            have HI := Lib.hid hI
            have HT := Lib.hid ht
            have hv5 := (k45.cell (p := ⟨h, who, none⟩) hh4 (by simp)).trans HV4.out
            have hf5 := (HD5.out.rows.row hwn)
            obtain ⟨v5, hv5', hf5, -, -⟩ := hf5
            have HK45 := Lib.hid k45
            clear hv5' ht hI hS k5 k45 hv4 hf4 ax b40 b41 hpc4
            go_wp2
            show wpStill _ _ _ _ _ _
            repeat still_step
            refine wpStill_nil ?_
            have fin : Calls Try.prog 31 #[.pointer (some ⟨l, 0, none⟩), .int .i64 (who : Int), .pointer (some ⟨t.m, 0, none⟩)] (w5.setCell ⟨h, who, none⟩ (.slice (some ⟨g4, 0, none⟩) ln c4)) fun e w' => e = .returned (.int .i64 0) ∧
                Held E w w' ∧ ∃ (L2 : LSt) (ss2 : Nat → Option ArS) (has2 : Nat → List Nat) (ps2 : List Bool) (s : ArS), Drv E l g m b h pb ab n W w' L2 ss2 has2 tag' F' T' ps2 ∧ L2.steps = L'.steps ∧ ss2 who = some s ∧ s.over = none := by
              have hhT : h ∈ T' := HD4.out.rows.1
              have kh : Keeps [h] w5 (w5.setCell ⟨h, who, none⟩ (.slice (some ⟨g4, 0, none⟩) ln c4)) := (Keeps.refl _ _).setCell (fun _ => by simp) _
              have k46 : Keeps [h] w4 (w5.setCell ⟨h, who, none⟩ (.slice (some ⟨g4, 0, none⟩) ln c4)) := HK45.out.nil.trans kh
              have rows6 : HasAt (w5.setCell ⟨h, who, none⟩ (.slice (some ⟨g4, 0, none⟩) ln c4)) h W T' (updL has' who ((has' who).take ln)) := by
                have hown5 : w5.ownsRow 0 3 1 (.slice (some ⟨g4, 0, none⟩) len c4) len (nodes (has' who)) := owns_keeps HOwn4.out HK45.out (by simp)
                have ho := owns_take hown5 (show ln ≤ len by have := HLn.out; omega)
                rw [Nat.mul_one, ← nodes_take] at ho
                have hlt : ((has' who).take ln).length = ln := by rw [List.length_take, HLen.out]; have := HLn.out; omega
                refine HasAt.mono (HasAt.set HD5.out.rows hv5 hwn (Keeps.refl [] w5) (by simp) (fun k hk => HD5.out.dom k (by simp [hk])) (v' := .slice (some ⟨g4, 0, none⟩) ln c4) (l := (has' who).take ln) (by rw [hlt]; exact ho) (fun g hg => .inl hg)) (fun k hk => ?_)
                rcases List.mem_append.1 hk with hk | hk
                · have e4 : (Value.slice (some ⟨g4, 0, none⟩) ln c4).ownBlock = some k := by simpa using hk
                  exact (HBlk4.out k e4).2
                · exact hk
              generalize (w5.setCell ⟨h, who, none⟩ (.slice (some ⟨g4, 0, none⟩) ln c4)) = W6 at *
              have hl0 := HD4.out.ar.l
              have hmT := HD4.out.mT
              simp only [List.mem_cons, not_or] at hmT
              have hI6 : t.I W6 S t.s := t.runs.frame HI.out kh (fun k hk hm => by simp at hm; subst hm; have := HS.out k hk; omega)
              have D := start_more _ L' who o t S [h] w4 W6 HD4.out.loom k46 (fun k hk => .inr (by simp at hk; subst hk; simp [hhT])) (by rw [HD4.out.ar.m]; simp; exact fun e => hmT.2.2 (e ▸ hhT)) HO.out.1 HO.out.2 hI6 HS.out
              have hn4' := HD4.out.ar.inv.n4
              have hplen := HD2.out.plen
              subst hl0
              refine D.mono fun e w' ⟨he, hl, hk⟩ => ⟨he, ?_, ?_⟩
              · have hg := HD4.out.loom.base.2.1
                have := k46.size
                refine (HB4.out.trans (k46.held (fun k hk => by have := HEd.out k hk; omega) (fun k hk => ?_))).trans (hk.held (fun k hk => by have := HEd.out k hk; omega) (fun k hk => ?_))
                · simp at hk; subst hk; exact HD4.out.TB _ (by simp [hhT])
                · simp at hk; subst hk
                  exact fun h => hg (.inl h)
              · have hg := HD4.out.loom.base.2.1
                have hgT : ∀ k, k ∈ pb :: ab :: T' → k ∉ [L'.g] := fun k hk hm => by simp only [List.mem_singleton] at hm; subst hm; exact hg (.inr hk)
                have hkk : Keeps [h, L'.g] w4 w' := (k46.mono (by simp)).trans (hk.mono (by simp))
                refine ⟨_, _, _, _, _, HD4.out.begun hwn hl hkk ⟨fun hm => ?_, fun hm => ?_⟩ HT.out HInv.out (rows6.keeps hk (fun k hk' => hgT k (by simp [hk']))) (fun _ => ?_), rfl, updO_same _ _ _, arPut_over hn hn4' x1 x2⟩
                · simp only [List.mem_cons, List.not_mem_nil, or_false] at hm
                  rcases hm with hm | hm
                  · exact hhp hm.symm
                  · exact hgT pb (by simp) (by simp [hm])
                · simp only [List.mem_cons, List.not_mem_nil, or_false] at hm
                  rcases hm with hm | hm
                  · exact HD4.out.aT (hm ▸ hhT)
                  · exact hgT ab (by simp) (by simp [hm])
                · rw [List.getElem?_set_self (by omega)]; rfl
            go_wp2_with fail
            refine fin.mono ?_
            clear fin
            rintro e w7 ⟨rfl, hfin⟩
            have HQ := Lib.hid hfin
            clear hfin
            go_wp2
            go_meet
            exact HQ.out
          · have HD3 := Lib.hid (HD2.out.setPut HNO.out false)
            have bx := HD3.out.box.cells
            have b0 := bx 0
            have b1 := bx 1
            have hal := HD3.out.dom ab (by simp)
            simp at b0 b1
            have HB3 : Hid (Held E w (w2.setCell ⟨pb, who, none⟩ (.bool false))) := Lib.hid (HB2.out.trans (((Keeps.refl [pb] w2).setCell (fun _ => by simp) _).held (fun k hk => by have := HEd.out k hk; omega) (fun k hk => by simp at hk; subst hk; exact HD2.out.TB _ (by simp))))
            obtain ⟨W3, hW3⟩ : ∃ W3, w2.setCell ⟨pb, who, none⟩ (.bool false) = W3 := ⟨_, rfl⟩
            rw [hW3] at HD3 HB3 b0 b1
            have hw3 := HB3.out.size
            have fin : ∀ (t : Strand) (S : List Nat) (W4 : World), IsAr t (arTake 0 n) → t.I W4 S t.s → Keeps [] W3 W4 → (∀ k ∈ S, W3.heap.size ≤ k) →
                Calls Try.prog 31 #[.pointer (some ⟨l, 0, none⟩), .int .i64 (who : Int), .pointer (some ⟨t.m, 0, none⟩)] W4 fun e w' => e = .returned (.int .i64 0) ∧ Held E w w' ∧ ∃ (L2 : LSt) (ss2 : Nat → Option ArS) (has2 : Nat → List Nat) (ps2 : List Bool) (s : ArS), Drv E l g m b h pb ab n W w' L2 ss2 has2 tag' F' T' ps2 ∧ L2.steps = L'.steps ∧ ss2 who = some s ∧ s.over = none := by
              intro t S W4 ht hI k4 hS
              have hl0 := HD3.out.ar.l
              have D := start_at _ L' who o t S W3 W4 HD3.out.loom k4 HO.out.1 HO.out.2 hI hS
              subst hl0
              refine D.mono fun e w' ⟨he, hl, hk⟩ => ⟨he, ?_, ?_⟩
              · have hg := HD3.out.loom.base.2.1
                have := k4.size
                refine (HB3.out.trans (k4.held (fun k hk => by have := HEd.out k hk; omega) (by simp))).trans (hk.held (fun k hk => by have := HEd.out k hk; omega) (fun k hk => ?_))
                simp at hk; subst hk
                exact fun h => hg (.inl h)
              · have hg := HD3.out.loom.base.2.1
                have hkk : Keeps [L'.g] W3 w' := k4.nil.trans hk
                refine ⟨_, _, _, _, _, HD3.out.begun hwn hl hkk ⟨fun hm => ?_, fun hm => ?_⟩ ht (HD3.out.ar.inv.take hwn HNO.out hn) (HD3.out.rows.keeps hkk (fun k hk' hm => ?_)) (fun _ => ?_), rfl, updO_same _ _ _, arTake_over hn hn4⟩
                · simp at hm; exact hg (.inr (by simp [hm]))
                · simp at hm; exact hg (.inr (by simp [hm]))
                · simp at hm; exact hg (.inr (by simp [← hm, hk']))
                · rw [List.getElem?_set_self (by have := HD2.out.plen; omega)]; rfl
            have HFin := Lib.hid fin
            have hpc3 := (HD3.out.put_at hwn)
            obtain ⟨p3, hp3, hpc3, -⟩ := hpc3
            rw [List.getElem?_set_self (by have := HD2.out.plen; omega)] at hp3
            cases hp3
            have hpl3 := HD3.out.dom pb (by simp)
            clear fin
            have dW : decide ((who : Int) < (W : Int)) = true := decide_eq_true (by omega)
            by_cases h128 : 128 ≤ yn
            case' pos =>
              have h0 : len = 0 := by omega
              subst h0
              have d128 : decide ((128 : Int) ≤ (yn : Int)) = true := decide_eq_true (by omega)
            case' neg =>
              have d128 : decide ((128 : Int) ≤ (yn : Int)) = false := decide_eq_false (by omega)
            all_goals
              clear hP h128
              go_wp2_with fail
              clear hW3
              refine (take_any 0 n W3).mono ?_
              rintro e w4 ⟨t, S, rfl, ht, hI, k4, hS⟩
              have hpc4 := (k4.cell (p := ⟨pb, who, none⟩) hpl3 (by simp)).trans hpc3
              have D := HFin.out t S w4 ht hI k4 hS
              clear ht hI k4 hS hpc3 b0 b1
              go_wp2_with fail
              refine D.mono ?_
              clear D
              rintro e w5 ⟨rfl, hfin⟩
              have HQ := Lib.hid hfin
              clear hfin
              go_wp2
              go_meet
              exact HQ.out
      case rest =>
        obtain ⟨hbc, L2, ss2, has2, ps2, s, hDc, hst2, hss2, hso2⟩ := hcut
        obtain ⟨M, s', tag2, F2, has3, hone, htag, hM, hend, -, hpu, -⟩ := hDc.ar.one (by omega) hwn hss2 hso2
        have D := pick_step _ who L2 M wc hDc.loom hone (by omega)
        rw [hDc.ar.l] at D
        have hMs := hone.steps
        obtain ⟨t', ht1, ht2⟩ := hM.worker hwn (updO_same _ _ _)
        have hMl := hM.l
        have HBc := Lib.hid hbc
        have HDc := Lib.hid hDc
        have HM := Lib.hid hM
        have HEnd := Lib.hid hend
        have HPu := Lib.hid hpu
        have HT1 := Lib.hid ht1
        have HT2 := Lib.hid ht2
        have HSt := Lib.hid (⟨hst2, hMs, htag⟩ : _ ∧ _ ∧ _)
        have HSS := Lib.hid (⟨hss2, hso2⟩ : _ ∧ _)
        have hsc := hbc.size
        clear hbc hDc hM hend hpu ht1 ht2 hst2 hMs htag hone hss2 hso2 HD2 HB2
        go_wp2_with fail
        refine D.mono ?_
        clear D
        rintro e w7 ⟨rfl, hl7, hh7⟩
        have HL7 := Lib.hid hl7
        have HB7 : Hid (Held E w w7) := Lib.hid (HBc.out.trans (hh7.narrow (fun k hk => .inl hk)))
        have HH7 := Lib.hid hh7
        have hR7 : HasAt w7 h W T' has2 := HDc.out.rows.block (fun k hk => hh7.block k (.inr (by simp [hk])))
        have HR7 := Lib.hid hR7
        have hs7 := HB7.out.size
        have hsame7 : ∀ i u, i < W → updO ss2 who (some s') i = some u → u.over = none → ps2[i]? = some u.puts := fun i u hi hu hou => by
          by_cases e : i = who
          · subst e
            rw [updO_same] at hu
            cases hu
            rw [HPu.out]
            exact HDc.out.same i s hi HSS.out.1 HSS.out.2
          · rw [updO_ne _ _ e] at hu
            exact HDc.out.same i u hi hu hou
        have HSame := Lib.hid hsame7
        have hps : ps2[who]? = some s.puts := HDc.out.same who s hwn HSS.out.1 HSS.out.2
        have HPs := Lib.hid hps
        clear hl7 hh7 hR7 hsame7 hps
        have hrs := loomResult_at _ M who (some t') w7 HL7.out HT1.out
        rw [hMl, show (some t').bind Strand.res = s'.over from HT2.out.res] at hrs
        cases hov : s'.over with
        | none =>
          rw [hov] at hrs
          have he0 := HEnd.out
          rw [hov] at he0
          cases he0 with
          | go e1 e2 =>
            subst e1 e2
            have HD7 := Lib.hid (HDc.out.held HL7.out HH7.out HM.out HR7.out HSame.out)
            go_wp2_with fail
            refine hrs.mono ?_
            clear hrs
            rintro e w8 ⟨rl, rfl, hol, k8⟩
            obtain ⟨q8, c8, rfl⟩ := (Sl.of_owns hol).len
            have HD8 := Lib.hid ((HD7.out.keeps k8).keeps ((Keeps.refl [] w8).alloc (.cells #[.int .i64 0, .int .u64 0, .slice q8 0 c8] 66)))
            have HB8 := Lib.hid (HB7.out.trans ((k8.trans ((Keeps.refl [] w8).alloc (.cells #[.int .i64 0, .int .u64 0, .slice q8 0 c8] 66))).held (fun k hk => by have := HEd.out k hk; omega) (by simp)))
            clear hol k8 HD7
            go_wp2
            go_roundw
            case rel => exact ⟨k + 1, by omega, by go_num, HB8.out, M, _, _, tag2, _, _, _, HD8.out, by have := HSt.out; omega, by have := HSt.out; omega⟩
            case measure => simp [intOf]; omega
        | some r =>
          have he0 := HEnd.out
          rw [hov] at he0
          cases he0 with
          | put e0 e1 e2 =>
            subst e1 e2
            have HD7 := Lib.hid (HDc.out.held HL7.out HH7.out HM.out HR7.out HSame.out)
            rw [hov] at hrs
            simp only [Option.getD_some, Option.isSome_some] at hrs
            go_wp2_with fail
            refine hrs.mono ?_
            clear hrs
            rintro e w8 ⟨rl, rfl, hol, k8⟩
            obtain ⟨q8, c8, rfl⟩ := (Sl.of_owns hol).len
            have ka : Keeps [] w8 (w8.alloc (.cells #[.int .i64 0, .int .u64 0, .slice q8 0 c8] 66)) := (Keeps.refl [] w8).alloc _
            have HD8 := Lib.hid ((HD7.out.keeps k8).keeps ka)
            have HB8 := Lib.hid (HB7.out.trans ((k8.trans ka).held (fun k hk => by have := HEd.out k hk; omega) (by simp)))
            have rb : Row (w8.alloc (.cells #[.int .i64 0, .int .u64 0, .slice q8 0 c8] 66)) w8.heap.size 66 [.int .i64 0, .int .u64 0, .slice q8 0 c8] := Row.new _ _ _
            obtain ⟨p8, hp8, hpc8, -⟩ := HD8.out.put_at hwn
            rw [HPs.out, e0] at hp8
            cases hp8
            obtain ⟨W9, hW9⟩ : ∃ W9, w8.alloc (.cells #[.int .i64 0, .int .u64 0, .slice q8 0 c8] 66) = W9 := ⟨_, rfl⟩
            rw [hW9] at HD8 HB8 rb hpc8
            have r0 := rb.cell (j := 0) rfl
            have r1 := rb.cell (j := 1) rfl
            have dW : decide ((who : Int) < (W : Int)) = true := decide_eq_true (by omega)
            clear hol k8 ka HD7 rb
            go_wp2
            go_roundw
            case rel => exact ⟨k + 1, by omega, by go_num, HB8.out, M, _, _, tag2, _, _, _, HD8.out, by have := HSt.out; omega, by have := HSt.out; omega⟩
            case measure => simp [intOf]; omega
          | empty e0 e1 e1' e2 =>
            subst e1 e1' e2
            have HD7 := Lib.hid (HDc.out.held HL7.out HH7.out HM.out HR7.out HSame.out)
            rw [hov] at hrs
            simp only [Option.getD_some, Option.isSome_some] at hrs
            go_wp2_with fail
            refine hrs.mono ?_
            clear hrs
            rintro e w8 ⟨rl, rfl, hol, k8⟩
            obtain ⟨q8, c8, rfl⟩ := (Sl.of_owns hol).len
            have ka : Keeps [] w8 (w8.alloc (.cells #[.int .i64 7, .int .u64 0, .slice q8 0 c8] 66)) := (Keeps.refl [] w8).alloc _
            have HD8 := Lib.hid ((HD7.out.keeps k8).keeps ka)
            have HB8 := Lib.hid (HB7.out.trans ((k8.trans ka).held (fun k hk => by have := HEd.out k hk; omega) (by simp)))
            have rb : Row (w8.alloc (.cells #[.int .i64 7, .int .u64 0, .slice q8 0 c8] 66)) w8.heap.size 66 [.int .i64 7, .int .u64 0, .slice q8 0 c8] := Row.new _ _ _
            obtain ⟨p8, hp8, hpc8, -⟩ := HD8.out.put_at hwn
            rw [HPs.out, e0] at hp8
            cases hp8
            obtain ⟨W9, hW9⟩ : ∃ W9, w8.alloc (.cells #[.int .i64 7, .int .u64 0, .slice q8 0 c8] 66) = W9 := ⟨_, rfl⟩
            rw [hW9] at HD8 HB8 rb hpc8
            have r0 := rb.cell (j := 0) rfl
            have r1 := rb.cell (j := 1) rfl
            have dW : decide ((who : Int) < (W : Int)) = true := decide_eq_true (by omega)
            clear hol k8 ka HD7 rb
            go_wp2
            go_roundw
            case rel => exact ⟨k + 1, by omega, by go_num, HB8.out, M, _, _, tag2, _, _, _, HD8.out, by have := HSt.out; omega, by have := HSt.out; omega⟩
            case measure => simp [intOf]; omega
          | take y e0 e1 e2 =>
            subst e1 e2
            rw [hov] at hrs
            simp only [Option.getD_some, Option.isSome_some] at hrs
            have hDm := HDc.out.dom
            have bx7 : Box w7 ab #[.int .i64 0, .int .i64 n] := HDc.out.box.block HH7.out.size (HH7.out.block ab (.inr (by simp)))
            have pu7 : Row w7 pb 4 (ps2.map Value.bool) := HDc.out.puts.block (HH7.out.block pb (.inr (by simp)))
            have HPB := Lib.hid (⟨bx7, pu7⟩ : _ ∧ _)
            clear bx7 pu7
            have hy1 : 1 ≤ y ∧ y ≤ n := HDc.out.ar.inv.free (by simp)
            have hn4 := HDc.out.ar.inv.n4
            go_wp2_with fail
            refine hrs.mono ?_
            clear hrs
            rintro e w8 ⟨rl, rfl, hol, k8⟩
            obtain ⟨q8, c8, rfl⟩ := (Sl.of_owns hol).len
            have ka : Keeps [] w8 (w8.alloc (.cells #[.int .i64 0, .int .u64 (y : Int), .slice q8 0 c8] 66)) := (Keeps.refl [] w8).alloc _
            have K79 := Lib.hid (k8.trans ka)
            have rb : Row (w8.alloc (.cells #[.int .i64 0, .int .u64 (y : Int), .slice q8 0 c8] 66)) w8.heap.size 66 [.int .i64 0, .int .u64 (y : Int), .slice q8 0 c8] := Row.new _ _ _
            obtain ⟨W9, hW9⟩ : ∃ W9, w8.alloc (.cells #[.int .i64 0, .int .u64 (y : Int), .slice q8 0 c8] 66) = W9 := ⟨_, rfl⟩
            rw [hW9] at K79 rb
            have hL9 := HL7.out.keeps K79.out
            have hR9 := HR7.out.keeps K79.out (by simp)
            have pu9 := HPB.out.2.keeps K79.out (by simp)
            have hpc9 : W9.cell? ⟨pb, who, none⟩ = some (.bool false) := pu9.cell (by rw [List.getElem?_map, HPs.out, e0]; rfl)
            have r0 := rb.cell (j := 0) rfl
            have r1 := rb.cell (j := 1) rfl
            have hrlt := rb.lt
            obtain ⟨v9, hv9, hf9, own9, blk9⟩ := hR9.row hwn
            obtain ⟨p9, c9, rfl⟩ := (Sl.of_owns own9).len
            obtain ⟨ln, hln⟩ : ∃ ln, (has2 who).length = ln := ⟨_, rfl⟩
            rw [hln] at own9 hv9 blk9
            have hlw : ln ≤ 1000000 := by
              have h1 := HDc.out.ar.inv.lack
              have h2 : (has2 who).length ≤ sumN (fun i => (has2 i).length) W := sumN_one (fun i => (has2 i).length) hwn
              omega
            have HOwn9 := Lib.hid own9
            have HBlk9 := Lib.hid blk9
            have HR9 := Lib.hid hR9
            have HL9 := Lib.hid hL9
            have HLn := Lib.hid hln
            have dW : decide ((who : Int) < (W : Int)) = true := decide_eq_true (by omega)
            have yw : IntKind.i64.wrap (y : Int) = (y : Int) := IntWalk.i64_in _ (by omega)
            clear hol k8 ka rb hL9 hR9 pu9 own9 blk9 hln
            have hhno : h ∉ (Value.slice p9 ln c9).ownBlock.toList := fun hm => (HBlk9.out h (by simpa using hm)).1 rfl
            have hhlt9 : h < W9.heap.size := by have := HL9.out.dom h (.inr (by simp [HR9.out.1])); exact this
            have hvA : (W9.alloc (.cells #[.int .i64 (y : Int)] 3)).drew.cell? ⟨h, who, none⟩ = some (.slice p9 ln c9) := (((Keeps.refl [] W9).alloc (.cells #[.int .i64 (y : Int)] 3)).cell (p := ⟨h, who, none⟩) hhlt9 (by simp)).trans hv9
            have hfA : (W9.alloc (.cells #[.int .i64 (y : Int)] 3)).drew.frozen? ⟨h, who, none⟩ = false := (((Keeps.refl [] W9).alloc (.cells #[.int .i64 (y : Int)] 3)).frozen (p := ⟨h, who, none⟩) hhlt9 (by simp)).trans hf9
            have hLit : ∀ j u, [Value.int .i64 (y : Int)][j]? = some u → (W9.alloc (.cells #[.int .i64 (y : Int)] 3)).drew.cell? ⟨W9.heap.size, j, none⟩ = some u := fun j u hu => by
              show (W9.alloc (.cells #[.int .i64 (y : Int)] 3)).cell? ⟨W9.heap.size, j, none⟩ = some u
              rw [World.cell?_alloc_at _ _ _ _ rfl, ← Array.getElem?_toList]; exact hu
            go_wp2_with fail
            go_region_law (first | (refine step_append_fresh (by rfl) _ _ 47 (by rfl) 0 3 _ 1 8 Try.underlying47 elemInt' _ ln (nodes (has2 who)) (by rfl) (owns_keeps HOwn9.out ((Keeps.refl [] _).drew.alloc _) (by simp)) _ [.int .i64 (y : Int)] (by rfl) rfl (by simp [Value.oneCell']) (fun j u hu => hLit j u hu) (by omega) (Nat.zero_le _) ?_; intro v10 w10 own10 k10 f10 ne10; have hv10 := (k10.cell (p := ⟨h, who, none⟩) (by simp; omega) hhno).trans hvA; have hf10 := (k10.frozen (p := ⟨h, who, none⟩) (by simp; omega) hhno).trans hfA; obtain ⟨p10, c10, rfl⟩ := (Sl.of_owns own10).len))
            all_goals
              have HQ := Lib.hid (took_done HL9.out HR9.out (HPB.out.1.keeps K79.out (by simp)) (HPB.out.2.keeps K79.out (by simp)) HM.out ⟨HDc.out.plen, HDc.out.pT, HDc.out.aT, HDc.out.pa, HDc.out.mT, HDc.out.TB⟩ HSame.out hv9 hwn HBlk9.out HLn.out k10 own10 f10)
              have HBQ := Lib.hid ((HB7.out.trans (K79.out.held (fun k hk => by have := HEd.out k hk; omega) (by simp))).trans HQ.out.1)
              clear own10 k10 f10 ne10 hv10 hf10 hvA hfA hLit hv9 hf9
              go_wp2
              go_roundw
              case rel => exact ⟨k + 1, by omega, by go_num, HBQ.out, M, _, _, tag2, _, _, _, HQ.out.2, by have := HSt.out; omega, by have := HSt.out; omega⟩
              case measure => simp [intOf]; omega
    · obtain rfl : q = k := by omega
      have hD := HDr.out
      go_wp2
      go_ret
      exact ⟨rfl, L', ss', has', tag', F', pb :: ab :: T', hD.loom, hD.ar, hD.rows.mono (fun k hk => by simp [hk]), hD.TB, hD.mT, htg, hsp, HBr.out⟩
end Go.Proofs.Ytgpfknoddljopaa
