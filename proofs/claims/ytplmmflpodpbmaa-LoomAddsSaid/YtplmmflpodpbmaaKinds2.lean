/-
  Contracts: walk.Plain goes as its machine goes.
-/
import Derived.Test.YtplmmflpodpbmaaKinds
import Derived.Test.YtplmmflpodpbmaaFresh
namespace Go.Proofs.Ytplmmflpodpbmaa
open Go.ChangeShapes Go.WideShapes Go.ChangeAt Go.RowKit

/-- The accesses that are left. -/
structure LeftAt (w : World) (v : Value) (ys : List C.Acc) : Prop where
  shape : ∃ a c, v = .slice a ys.length c ∧ ys.length ≤ c ∧ c ≤ maxLen
  sl : Sl w 4 v ys.length (accs ys)
theorem LeftAt.but {S : List Nat} {w w' : World} {v : Value} {ys : List C.Acc} (h : LeftAt w v ys) (hk : Keeps S w w') (hn : ∀ g, v.ownBlock = some g → g ∉ S) : LeftAt w' v ys := ⟨h.shape, h.sl.but hk hn⟩
theorem accs_cons4 (y : C.Acc) (ys : List C.Acc) (j : Nat) : (accs (y :: ys))[4 + j]? = (accs ys)[j]? := by
  unfold accs
  rw [List.flatMap_cons, List.getElem?_append_right (by simp)]
  congr 1
  simp
@[reducible] def plainCells (m : Nat) (left : Value) (code v : Int) (L : Value) : List Value := [.pointer (some ⟨m, 0, none⟩), left, .int .i64 code, .int .u64 v, L]

set_option maxRecDepth 100000 in
set_option maxHeartbeats 800000 in
theorem goOn_end (m p : Nat) (st : WSt) (left L : Value) (v : Int) (us : List Int) (w : World) (h : Wk w m st) (hp : Row w p 65 (plainCells m left 0 v L)) (hl : LeftAt w left []) (ho : st.over = false) (hu : 0 < st.under)
    (hL : Sl w 1 L us.length (ints .u64 us)) (hLm : ∀ g, L.ownBlock = some g → g ≠ m) (hn : us.length ≤ 10000000) :
    Calls Try.prog 28 #[.pointer (some ⟨p, 0, none⟩)] w fun e w' => e = .returned (.tuple #[]) ∧ ∃ l',
      Wk w' m { st with nxt := .nilFunc, after := .nilFunc, over := true, code := 0, v := v, l := l' } ∧ w'.ownsRow w.heap.size 33 1 l' us.length (ints .u64 us) ∧ Keeps [m] w w' := by
  have HE := Lib.hid (fun W h1 h2 => wEnd m st 0 v L us.length us W h1 ho (.inl hu) h2 hLm hn)
  obtain ⟨a, c, rfl, -, -⟩ := hl.shape
  obtain ⟨La, Lc, rfl⟩ := hL.len
  have h0 := hp.cell (j := 0) rfl
  have h1 := hp.cell (j := 1) rfl
  have h2 := hp.cell (j := 2) rfl
  have h3 := hp.cell (j := 3) rfl
  have h4 := hp.cell (j := 4) rfl
  have HW := Lib.hid h
  have HLL := Lib.hid hL
  clear h hp ho hu hL hl hLm
  go_enter Try.func28, Try.ntmps28
  go_wp2
  go_still_tail 8, (by kernel_rfl)
  change wpList _ _ _ _ _ w.drew
  go_wp2_with fail
  refine (HE.out w.drew HW.out HLL.out).mono ?_
  rintro e w1 ⟨rfl, l', hw, ho, hk⟩
  have HP := Lib.hid (⟨hw, ho, hk.undrew⟩ : _ ∧ _ ∧ _)
  clear hw hk ho
  go_wp2
  first | go_end0 | refine bodyPost_ret (results_none rfl _ _ _) rfl ?_
  exact ⟨rfl, l', HP.out⟩

set_option maxRecDepth 100000 in
set_option maxHeartbeats 1600000 in
theorem goOn_next (m p : Nat) (st : WSt) (left L : Value) (v : Int) (y : C.Acc) (ys : List C.Acc) (w : World) (h : Wk w m st) (hp : Row w p 65 (plainCells m left 0 v L)) (hl : LeftAt w left (y :: ys)) (ho : st.over = false) (hs : st.sub = none)
    (hpm : p ≠ m) (hlm : ∀ g, left.ownBlock = some g → g ≠ p) :
    Calls Try.prog 28 #[.pointer (some ⟨p, 0, none⟩)] w fun e w' => e = .returned (.tuple #[]) ∧ ∃ left',
      Wk w' m { st with x := y, nxt := .func (.func 43) #[.pointer (some ⟨p, 0, none⟩)] #[], sub := none, after := .nilFunc } ∧ Row w' p 65 (plainCells m left' 0 v L) ∧ (∀ W, LeftAt W left (y :: ys) → LeftAt W left' ys) ∧ left'.ownBlock = left.ownBlock ∧ Keeps [m, p] w w' := by
  have HE := Lib.hid (fun W h => wAsk m st y (.func 43) #[.pointer (some ⟨p, 0, none⟩)] #[] W h hs ho)
  obtain ⟨a, c, rfl, hc, hcm⟩ := hl.shape
  simp only [List.length_cons] at hc hlm
  unfold maxLen at hcm
  obtain ⟨g, off, c', he, hg, hcell⟩ := hl.sl.some (by simp)
  cases he
  have hgp := hlm g rfl
  have h0 := hp.cell (j := 0) rfl
  have h1 := hp.cell (j := 1) rfl
  have h2 := hp.cell (j := 2) rfl
  have h3 := hp.cell (j := 3) rfl
  have h4 := hp.cell (j := 4) rfl
  have fp := hp.frozen 1
  have a0 := hcell 0 _ rfl
  have a1 := hcell 1 _ rfl
  have a2 := hcell 2 _ rfl
  have a3 := hcell 3 _ rfl
  simp only [Nat.add_zero] at a0
  have hplt := hp.lt
  have HW := Lib.hid h
  have HP := Lib.hid hp
  clear h hp ho hs hl hcell hlm
  by_cases hc1 : c = 1
  · subst hc1
    have hy : ys.length = 0 := by omega
    go_enter Try.func28, Try.ntmps28
    go_wp2
    generalize hW : World.alloc _ _ = W1
    have k1 : Keeps [p] w W1 := by rw [← hW]; exact ((Keeps.refl _ _).set (by simp) _ _).alloc _
    have w1 : Wk W1 m st := HW.out.keeps k1 (by simpa using Ne.symm hpm)
    have r1 : Row W1 p 65 (plainCells m (.slice (some ⟨g, off, none⟩) 0 0) 0 v L) := by rw [← hW]; have := (HP.out.set 1 (.slice (some ⟨g, off, none⟩) 0 0)).alloc (.cells #[.int .i64 y.k, .int .i64 y.c, .int .u64 y.a, .int .u64 y.b] 35); exact this
    have b1 : Box W1 w.heap.size #[.int .i64 y.k, .int .i64 y.c, .int .u64 y.a, .int .u64 y.b] := by rw [← hW]; have := Box.new (w.setCell ⟨p, 1, none⟩ (.slice (some ⟨g, off, none⟩) 0 0)) #[.int .i64 y.k, .int .i64 y.c, .int .u64 y.a, .int .u64 y.b] 35; simpa using this
    clear hW
    have c0 := r1.cell (j := 0) rfl
    have d0 := b1.cells 0
    have d1 := b1.cells 1
    have d2 := b1.cells 2
    have d3 := b1.cells 3
    have HR1 := Lib.hid r1
    have HW1 := Lib.hid w1
    have HK1 := Lib.hid k1
    clear r1 w1 k1 b1 h0 h1 h2 h3 h4 a0 a1 a2 a3 fp
    go_still_tail 7, (by kernel_rfl)
    change wpList _ _ _ _ _ W1.drew
    go_wp2_with fail
    refine (HE.out W1.drew HW1.out).mono ?_
    rintro e w2 ⟨rfl, hw, hk⟩
    have HQ := Lib.hid (⟨hw, hk.undrew⟩ : _ ∧ _)
    clear hw hk
    go_wp2
    first | go_end0 | refine bodyPost_ret (results_none rfl _ _ _) rfl ?_
    refine ⟨rfl, _, HQ.out.1, HR1.out.keeps HQ.out.2 (by simpa using hpm), ?_, rfl, (HK1.out.mono (by simp)).trans (HQ.out.2.mono (by simp))⟩
    intro W hW
    exact ⟨⟨_, 0, by rw [hy], by omega, by unfold maxLen; omega⟩, ⟨by rw [accs_len], .inl ⟨_, _, rfl, hy⟩⟩⟩
  · go_enter Try.func28, Try.ntmps28
    go_wp2
    generalize hW : World.alloc _ _ = W1
    have k1 : Keeps [p] w W1 := by rw [← hW]; exact ((Keeps.refl _ _).set (by simp) _ _).alloc _
    have w1 : Wk W1 m st := HW.out.keeps k1 (by simpa using Ne.symm hpm)
    have r1 : Row W1 p 65 (plainCells m (.slice (some ⟨g, off + 4, none⟩) ys.length (c - 1)) 0 v L) := by rw [← hW]; have := (HP.out.set 1 (.slice (some ⟨g, off + 4, none⟩) ys.length (c - 1))).alloc (.cells #[.int .i64 y.k, .int .i64 y.c, .int .u64 y.a, .int .u64 y.b] 35); exact this
    have b1 : Box W1 w.heap.size #[.int .i64 y.k, .int .i64 y.c, .int .u64 y.a, .int .u64 y.b] := by rw [← hW]; have := Box.new (w.setCell ⟨p, 1, none⟩ (.slice (some ⟨g, off + 4, none⟩) ys.length (c - 1))) #[.int .i64 y.k, .int .i64 y.c, .int .u64 y.a, .int .u64 y.b] 35; simpa using this
    clear hW
    have c0 := r1.cell (j := 0) rfl
    have d0 := b1.cells 0
    have d1 := b1.cells 1
    have d2 := b1.cells 2
    have d3 := b1.cells 3
    have HR1 := Lib.hid r1
    have HW1 := Lib.hid w1
    have HK1 := Lib.hid k1
    clear r1 w1 k1 b1 h0 h1 h2 h3 h4 a0 a1 a2 a3 fp
    go_still_tail 7, (by kernel_rfl)
    change wpList _ _ _ _ _ W1.drew
    go_wp2_with fail
    refine (HE.out W1.drew HW1.out).mono ?_
    rintro e w2 ⟨rfl, hw, hk⟩
    have HQ := Lib.hid (⟨hw, hk.undrew⟩ : _ ∧ _)
    clear hw hk
    go_wp2
    first | go_end0 | refine bodyPost_ret (results_none rfl _ _ _) rfl ?_
    refine ⟨rfl, _, HQ.out.1, HR1.out.keeps HQ.out.2 (by simpa using hpm), ?_, rfl, (HK1.out.mono (by simp)).trans (HQ.out.2.mono (by simp))⟩
    intro W hW
    refine ⟨⟨_, _, rfl, by omega, by unfold maxLen; omega⟩, ⟨by rw [accs_len], ?_⟩⟩
    obtain ⟨g', off', c', he, hg', hcell'⟩ := hW.sl.some (by simp)
    cases he
    exact .inr ⟨g, off + 4, _, rfl, hg', fun j u hu => by rw [show off + 4 + j = off + (4 + j) by omega]; exact hcell' (4 + j) u (by rw [accs_cons4]; exact hu)⟩

theorem elemW64 : Elem Try.prog 33 (.int .u64 0) 1 8 := ⟨by kernel_rfl, rfl, by decide, by decide⟩

set_option maxHeartbeats 1600000 in
theorem note_any (m p : Nat) (left L : Value) (v0 v : Int) (won : Bool) (us : List Int) (w : World) (Q : World → Prop) (hp : Row w p 65 (plainCells m left 0 v0 L)) (hL : w.ownsRow 0 33 1 L us.length (ints .u64 us)) (hLp : ∀ g, L.ownBlock = some g → g ≠ p) (hn : us.length ≤ 1000000)
    (hG : ∀ w1 L', Row w1 p 65 (plainCells m left 0 v L') → w1.ownsRow 0 33 1 L' (us ++ [v]).length (ints .u64 (us ++ [v])) → Keeps (p :: L.ownBlock.toList) w w1 → (∀ g, L'.ownBlock = some g → L.ownBlock = some g ∨ w.heap.size ≤ g) →
      Calls Try.prog 28 #[.pointer (some ⟨p, 0, none⟩)] w1 fun e w' => e = .returned (.tuple #[]) ∧ Q w') :
    Calls Try.prog 43 #[.pointer (some ⟨p, 0, none⟩), .int .u64 v, .bool won] w fun e w' => e = .returned (.tuple #[]) ∧ Q w' := by
  obtain ⟨La, Lc, rfl⟩ := (Sl.of_owns hL).len
  have h3 := hp.cell (j := 3) rfl
  have h4 := hp.cell (j := 4) rfl
  have f3 := hp.frozen 3
  have f4 := hp.frozen 4
  have hplt := hp.lt
  have HG := Lib.hid hG
  obtain ⟨W1, hW1⟩ : ∃ W1, w.setCell ⟨p, 3, none⟩ (.int .u64 v) = W1 := ⟨_, rfl⟩
  have k1 : Keeps [p] w W1 := by rw [← hW1]; exact (Keeps.refl _ _).set (by simp) _ _
  have hs1 : w.heap.size = W1.heap.size := by rw [← hW1]; simp
  have p1 : Row W1 p 65 (plainCells m left 0 v (.slice La us.length Lc)) := by rw [← hW1]; exact hp.set 3 _
  have L1 : W1.ownsRow 0 33 1 (.slice La us.length Lc) us.length (ints .u64 us) := owns_keeps hL k1 (fun g hg => by simpa using hLp g hg)
  have HL1 := Lib.hid L1
  have HP1 := Lib.hid p1
  have HK1 := Lib.hid k1
  have HLP := Lib.hid hLp
  have HS1 := Lib.hid hs1
  have c4 := p1.cell (j := 4) rfl
  have g4 := p1.frozen 4
  have hplt1 := p1.lt
  clear hG hp hL hLp k1 p1 L1 hs1
  go_enter Try.func43, Try.ntmps43
  go_wp2_with (at_builtin; refine append_fresh rfl _ _ 22 rfl 0 33 _ 1 8 Try.underlying22 elemW64 _ _ _ rfl HL1.out #[.int .u64 v] rfl rfl (by simp [Value.oneCell']) ?c2 ?c3 ?_)
  case c2 => omega
  case c3 => omega
  intro L2 w2 own2 k2 fr2 ne2
  obtain ⟨g, cap, rfl, -⟩ := owns_at' own2 ne2
  have p2 := HP1.out.keeps k2 (by simpa using fun h => HLP.out p h rfl)
  have c4' := p2.cell (j := 4) rfl
  have g4' := p2.frozen 4
  have HP2 := Lib.hid p2
  have HK2 := Lib.hid k2
  have HO2 := Lib.hid own2
  have HF2 := Lib.hid fr2
  have hgp : g ≠ p := by
    have e := HS1.out
    rcases fr2 g rfl with h | h
    · exact HLP.out g h
    · omega
  have HGP := Lib.hid hgp
  clear p2 k2 own2 fr2 ne2 hgp c4 g4 h3 h4 f3 f4
  go_wp2_with fail
  have k3 : Keeps [p] w2 (w2.setCell ⟨p, 4, none⟩ (.slice (some ⟨g, 0, none⟩) (us.length + 1) cap)) := (Keeps.refl _ _).set (by simp) _ _
  have D := HG.out (w2.setCell ⟨p, 4, none⟩ (.slice (some ⟨g, 0, none⟩) (us.length + 1) cap)) (.slice (some ⟨g, 0, none⟩) (us.length + 1) cap) (HP2.out.set 4 _)
    (by have := owns_keeps HO2.out k3 (fun g' hg => by cases hg; simpa using HGP.out); simpa [ints] using this)
    (((HK1.out.mono (by simp)).trans (HK2.out.mono (by intro k hk _; simp at hk ⊢; exact .inr hk))).trans (k3.mono (by simp)))
    (fun g' hg => by have e := HS1.out; rcases HF2.out g' hg with h | h; exact .inl h; exact .inr (by omega))
  refine D.mono ?_
  clear D k3
  rintro e w3 ⟨rfl, hq⟩
  have HQ := Lib.hid hq
  clear hq
  go_wp2
  first | go_end0 | refine bodyPost_ret (results_none rfl _ _ _) rfl ?_
  exact ⟨rfl, HQ.out⟩

/-- What a walk of Plain knows. -/
def plainE (m : Nat) (w : World) (T : List Nat) (nx : Value) (s : PlainS) : Prop :=
  s.told.length < s.xs.length → ∃ p left L v0, nx = .func (.func 43) #[.pointer (some ⟨p, 0, none⟩)] #[] ∧ p ∈ T ∧ Row w p 65 (plainCells m left 0 v0 L) ∧ LeftAt w left (s.xs.drop (s.told.length + 1)) ∧
    (∀ g, left.ownBlock = some g → g ∈ T ∧ g ≠ p ∧ L.ownBlock ≠ some g) ∧ w.ownsRow 0 33 1 L s.told.length (ints .u64 s.told) ∧ (∀ g, L.ownBlock = some g → g ∈ T ∧ g ≠ p) ∧ s.xs.length ≤ 1000000

theorem plainE_keeps (m : Nat) : ∀ w w' T A nx s, plainE m w T nx s → Keeps A w w' → (∀ k ∈ T, k ∉ A) → plainE m w' T nx s := by
  intro w w' T A nx s h hk hT hg
  obtain ⟨p, left, L, v0, h1, h2, h4, h5, h6, h7, h8, h9⟩ := h hg
  exact ⟨p, left, L, v0, h1, h2, h4.keeps hk (hT p h2), h5.but hk (fun g hg => hT g (h6 g hg).1), h6, owns_keeps h7 hk (fun g hg => hT g (h8 g hg).1), h8, h9⟩
theorem plainNone : ∀ s v won, plainM.want s = none → plainM.give s v won = s := by
  intro s v won h
  simp only [plainM, List.getElem?_eq_none_iff] at h
  simp only [plainM]
  rw [if_neg (by omega)]

theorem plainSteps (m : Nat) : Steps1 plainM (plainE m) m := by
  intro w S T st s v won x hL hlt hltT hd hE hv hw
  obtain ⟨xs, told, held⟩ := s
  simp only [plainM] at hw
  have hlen : told.length < xs.length := (List.getElem?_eq_some_iff.1 hw).1
  obtain ⟨p, left, L, v0, hn, hpT, hrow, hleft, hlo, hown, hLo, hfew⟩ := hE hlen
  simp only at hleft hown hfew
  refine ⟨_, _, _, hn, fun _ _ => by kernel_rfl, fun w1 hw1 hk1 => ?_⟩
  have hmT : m ∉ T := hd m hL.mem
  have hpm : p ≠ m := fun h => hmT (h ▸ hpT)
  have ho : st.over = false := by
    rw [hL.over]; simp [Mach.face, plainM]; omega
  have hgive : plainM.give ⟨xs, told, held⟩ v won = ⟨xs, told ++ [v], held⟩ := by simp only [plainM]; rw [if_pos hlen]
  rw [hgive]
  have hnem : ∀ {g}, g ∈ T → g ∉ [m] := fun hg h => by simp at h; exact hmT (h ▸ hg)
  refine note_any m p left L v0 v won told w1 (fun w2 => ∃ S2 T2 st2, Lone w2 m S2 st2 1 (plainM.face ⟨xs, told ++ [v], held⟩) ∧ (∀ k ∈ S2, k < w2.heap.size) ∧ (∀ k ∈ T2, k < w2.heap.size) ∧ (∀ k ∈ S2, k ∉ T2) ∧ plainE m w2 T2 st2.nxt ⟨xs, told ++ [v], held⟩ ∧ Keeps (S ++ T) w1 w2 ∧ (∀ k ∈ S2, k ∈ S ∨ w1.heap.size ≤ k) ∧ ∀ k ∈ T2, k ∈ T ∨ w1.heap.size ≤ k)
    (hrow.keeps hk1 (hnem hpT)) (owns_keeps hown hk1 (fun g hg => hnem (hLo g hg).1)) (fun g hg => (hLo g hg).2) (by omega) ?_
  intro w2 L' hrow2 hown2 hk2 hfr
  have hmlt := hw1.lt
  have hpLT : ∀ k ∈ p :: L.ownBlock.toList, k ∈ T := by
    intro k hk
    simp only [List.mem_cons] at hk
    rcases hk with rfl | hk
    · exact hpT
    · exact (hLo k ((ownBlock_toList _ _).1 hk)).1
  have hwk2 := hw1.keeps hk2 (fun h => hmT (hpLT m h))
  have hleft2 : LeftAt w2 left (xs.drop (told.length + 1)) := (hleft.but hk1 (fun g hg => hnem (hlo g hg).1)).but hk2 (fun g hg => by
    simp only [List.mem_cons, not_or]
    exact ⟨(hlo g hg).2.1, fun h => (hlo g hg).2.2 ((ownBlock_toList _ _).1 h)⟩)
  have hplt := hltT p hpT
  have hs1 := hk1.size
  have hs2 := hk2.size
  have hLm' : ∀ g, L'.ownBlock = some g → g ≠ m ∧ g ≠ p ∧ left.ownBlock ≠ some g ∧ g ∉ S := by
    intro g hg
    rcases hfr g hg with h | h
    · exact ⟨fun e => hmT (e ▸ (hLo g h).1), (hLo g h).2, fun hl => (hlo g hl).2.2 h, fun hS => hd g hS (hLo g h).1⟩
    · refine ⟨by omega, by omega, fun hl => ?_, fun hS => ?_⟩
      · have := hltT g (hlo g hl).1
        omega
      · have := hlt g hS
        omega
  have hnew : ∀ k ∈ L'.ownBlock.toList, k ∈ T ∨ w1.heap.size ≤ k := fun k hk => by
    rcases hfr k ((ownBlock_toList _ _).1 hk) with h | h
    · exact .inl (hLo k h).1
    · exact .inr h
  have hk2T : Keeps (m :: T) w1 w2 := hk2.mono (fun k hk _ => List.mem_cons_of_mem _ (hpLT k hk))
  have hlen' : (told ++ [v]).length = told.length + 1 := by simp
  cases hys : xs.drop (told.length + 1) with
  | nil =>
    rw [hys] at hleft2
    have hxl : xs.length = told.length + 1 := by
      have := List.drop_eq_nil_iff.1 hys
      omega
    refine (goOn_end m p _ left L' v (told ++ [v]) w2 hwk2 hrow2 hleft2 ho (show (0 : Int) < 1 by decide) (Sl.of_owns hown2) (fun g hg => (hLm' g hg).1) (by omega)).mono ?_
    rintro e w3 ⟨rfl, l', h3, h4, h5⟩
    have hk3 : Keeps (m :: T) w1 w3 := hk2T.trans (h5.mono (by simp))
    have hface : plainM.face ⟨xs, told ++ [v], held⟩ = ⟨none, some ⟨0, v, told ++ [v]⟩, held⟩ := by
      simp [Mach.face, plainM, hxl]
    have hb : ∀ k ∈ l'.ownBlock.toList, w1.heap.size ≤ k ∧ k < w3.heap.size := fun k hk => by
      have := h4.lt k ((ownBlock_toList _ _).1 hk)
      omega
    refine ⟨rfl, l'.ownBlock.toList ++ S, T, _, by rw [hface]; exact hL.ending (T := l'.ownBlock.toList ++ S) (us := told ++ [v]) (by simp [hL.mem]) h3 (hL.tasks_at hd hk1 hk3) (fun g hg => by simp [hg]) (Sl.of_owns h4) (by omega) (fun g hg => ⟨by simp [hg], by have := (h4.lt g hg).1; omega⟩), ?_, ?_, ?_, ?_, ?_, ?_, fun k hk => .inl hk⟩
    · intro k hk
      rcases List.mem_append.1 hk with hk | hk
      · exact (hb k hk).2
      · exact Nat.lt_of_lt_of_le (hlt k hk) (Nat.le_trans hs1 hk3.size)
    · exact fun k hk => Nat.lt_of_lt_of_le (hltT k hk) (Nat.le_trans hs1 hk3.size)
    · intro k hk hkT
      rcases List.mem_append.1 hk with hk | hk
      · have := (hb k hk).1
        have := hltT k hkT
        omega
      · exact hd k hk hkT
    · intro h; simp only at h; omega
    · exact hk3.mono (fun k hk _ => mem_S hL.mem k hk)
    · intro k hk
      rcases List.mem_append.1 hk with hk | hk
      · exact .inr (hb k hk).1
      · exact .inl hk
  | cons y ys =>
    rw [hys] at hleft2
    have hxy : xs[told.length + 1]? = some y := by
      have := congrArg (·[0]?) hys
      simpa using this
    have hyl : told.length + 1 < xs.length := (List.getElem?_eq_some_iff.1 hxy).1
    have hys2 : xs.drop (told.length + 1 + 1) = ys := by
      have := congrArg (List.drop 1) hys
      simpa using this
    refine (goOn_next m p _ left L' v y ys w2 hwk2 hrow2 hleft2 ho rfl hpm (fun g hg => (hlo g hg).2.1)).mono ?_
    rintro e w3 ⟨rfl, left', h3, h4, h5, h6, h7⟩
    have hmp : ∀ k ∈ [m, p], k ∈ m :: T := by
      intro k hk; simp at hk ⊢; rcases hk with rfl | rfl
      · exact .inl rfl
      · exact .inr hpT
    have hk3 : Keeps (m :: T) w1 w3 := hk2T.trans (h7.mono (fun k hk _ => hmp k hk))
    have hface : plainM.face ⟨xs, told ++ [v], held⟩ = ⟨some y, none, held⟩ := by
      simp only [Mach.face, plainM, hlen', hxy]
      rw [if_neg (by omega)]
    refine ⟨rfl, S, L'.ownBlock.toList ++ T, _, by rw [hface]; exact hL.going (T := S) hL.mem h3 (by simp [Mach.face, plainM]; omega) (hL.tasks_at hd hk1 hk3) (fun g hg => hg), ?_, ?_, ?_, ?_, hk3.mono (fun k hk _ => mem_S hL.mem k hk), fun k hk => .inl hk, ?_⟩
    · exact fun k hk => Nat.lt_of_lt_of_le (hlt k hk) (Nat.le_trans hs1 hk3.size)
    · intro k hk
      rcases List.mem_append.1 hk with hk | hk
      · exact Nat.lt_of_lt_of_le (hown2.lt k ((ownBlock_toList _ _).1 hk)).2 h7.size
      · exact Nat.lt_of_lt_of_le (hltT k hk) (Nat.le_trans hs1 hk3.size)
    · intro k hk hkT
      rcases List.mem_append.1 hkT with hkT | hkT
      · exact (hLm' k ((ownBlock_toList _ _).1 hkT)).2.2.2 hk
      · exact hd k hk hkT
    · intro _
      have hl3 : LeftAt w3 left (y :: ys) := hleft2.but h7 (fun g hg => by
        simp only [List.mem_cons, List.not_mem_nil, or_false, not_or]
        exact ⟨fun e => hmT (e ▸ (hlo g hg).1), (hlo g hg).2.1⟩)
      refine ⟨p, left', L', v, rfl, by simp [hpT], h4, ?_, ?_, owns_keeps hown2 h7 ?_, ?_, hfew⟩
      · show LeftAt w3 left' (xs.drop ((told ++ [v]).length + 1))
        rw [hlen', hys2]; exact h5 w3 hl3
      · intro g hg
        rw [h6] at hg
        exact ⟨by simp [(hlo g hg).1], (hlo g hg).2.1, fun h => (hLm' g h).2.2.1 hg⟩
      · intro g hg
        simp only [List.mem_cons, List.not_mem_nil, or_false, not_or]
        exact ⟨(hLm' g hg).1, (hLm' g hg).2.1⟩
      · intro g hg
        exact ⟨by simp [hg], (hLm' g hg).2.1⟩
    · intro k hk
      rcases List.mem_append.1 hk with hk | hk
      · exact hnew k hk
      · exact .inl hk
theorem plainRuns (m : Nat) : Runs plainM (LoneI plainM (plainE m) m) m := runs_lone plainM (plainE m) m (plainE_keeps m) plainNone (plainSteps m)
end Go.Proofs.Ytplmmflpodpbmaa
