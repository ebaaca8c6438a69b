/-
  Contracts: walks in walks: who asks, how one that is under way goes into another, and goes on behind it.
-/
import Derived.Test.YtoomefclbemnlaaGreatMach4
import Derived.LoopTactic
namespace Go.Proofs.YtoomefclbemnlaaGreat
set_option maxRecDepth 100000
set_option linter.unusedSimpArgs false
set_option linter.unusedVariables false
open Go.ChangeShapes Go.WideShapes Go.ChangeAt Go.RowKit

/-- From m on, through the walks of l, each of which is in the next one, stands a. -/
inductive Chain (w : World) (a : Nat) : List Nat → Nat → Prop
  | here : Chain w a [] a
  | hop {m m' : Nat} {l : List Nat} {s : WSt} : Wk w m s → s.over = false → s.sub = some ⟨m', 0, none⟩ → Chain w a l m' → Chain w a (m :: l) m

theorem Chain.keeps {w w' : World} {a m : Nat} {l S : List Nat} (h : Chain w a l m) (hk : Keeps S w w') (hS : ∀ k ∈ l, k ∉ S) : Chain w' a l m := by
  induction h with
  | here => exact .here
  | hop h1 h2 h3 _ ih => exact .hop (h1.keeps hk (hS _ (by simp))) h2 h3 (ih fun k hk => hS k (by simp [hk]))
theorem Chain.trans {w : World} {a b m : Nat} {l l' : List Nat} (h : Chain w b l m) (h' : Chain w a l' b) : Chain w a (l ++ l') m := by
  induction h with
  | here => exact h'
  | hop h1 h2 h3 _ ih => exact .hop h1 h2 h3 ih
/-- Where a walk goes on, as its cells say. -/
theorem Wk.same {w : World} {m : Nat} {s t : WSt} (h : Wk w m s) (k : Wk w m t) : s.sub = t.sub ∧ s.over = t.over := by
  obtain ⟨-, -, -, -, -, -, a, -, -, -, b, -⟩ := h.at
  obtain ⟨-, -, -, -, -, -, a', -, -, -, b', -⟩ := k.at
  rw [a] at a'
  rw [b] at b'
  simp only [Option.some.injEq, Value.pointer.injEq, Value.bool.injEq] at a' b'
  exact ⟨a', b'⟩
theorem Chain.same {w : World} {a m : Nat} {l l' : List Nat} {sa : WSt} (ha : Wk w a sa) (hs : sa.sub = none) (h : Chain w a l m) (h' : Chain w a l' m) : l = l' := by
  induction h generalizing l' with
  | here =>
    cases h' with
    | here => rfl
    | hop h1 h2 h3 _ => rw [(ha.same h1).1] at hs; rw [hs] at h3; cases h3
  | hop h1 h2 h3 _ ih =>
    cases h' with
    | here => rw [(ha.same h1).1] at hs; rw [hs] at h3; cases h3
    | hop k1 k2 k3 k4 =>
      have := (h1.same k1).1
      rw [h3, k3] at this
      cases this
      rw [ih k4]
/-- How far it is. -/
noncomputable def chainLen (w : World) (a : Nat) (v : Value) : Nat := open Classical in if h : ∃ l m, v = .pointer (some ⟨m, 0, none⟩) ∧ Chain w a l m then h.choose.length else 0
theorem chainLen_eq {w : World} {a m : Nat} {l : List Nat} {sa : WSt} (ha : Wk w a sa) (hs : sa.sub = none) (h : Chain w a l m) : chainLen w a (.pointer (some ⟨m, 0, none⟩)) = l.length := by
  unfold chainLen
  have hx : ∃ l' m', Value.pointer (some ⟨m, 0, none⟩) = .pointer (some ⟨m', 0, none⟩) ∧ Chain w a l' m' := ⟨l, m, rfl, h⟩
  rw [dif_pos hx]
  obtain ⟨m', e, h'⟩ := hx.choose_spec
  cases e
  rw [Chain.same ha hs h h']

set_option maxHeartbeats 800000 in
theorem wAskerIn (a m : Nat) (l : List Nat) (sa : WSt) (fn : Fn) (fi ca : Array Value) (w : World) (hc : Chain w a l m) (ha : Wk w a sa) (hs : sa.sub = none) (hn : sa.nxt = .func fn fi ca) :
    Calls Tryz.prog 56 #[.pointer (some ⟨m, 0, none⟩)] w fun e w' => e = .returned (.pointer (some ⟨a, 0, none⟩)) ∧ w = w' := by
  obtain ⟨-, -, -, -, -, h5, h6, -, -, -, h10, -, -, -⟩ := ha.at
  rw [hs] at h6
  rw [hn] at h5
  have hfn := nextIsThere'
  have HL := Lib.hid (fun l m h => chainLen_eq (l := l) (m := m) ha hs h)
  have HA := Lib.hid ha
  have HC := Lib.hid hc
  obtain ⟨ov, hov⟩ : ∃ b, sa.over = b := ⟨_, rfl⟩
  rw [hov] at h10
  clear ha hs hn hc hov
  go_enter Tryz.func56, Tryz.ntmps56
  go_wp2
  go_loop [0] (fun i => ∃ l' m', Chain w a l' m' ∧ i = .pointer (some ⟨m', 0, none⟩)) (fun i => chainLen w a i)
  case atStart => exact ⟨l, m, HC.out, rfl⟩
  case round =>
    obtain ⟨l', m', hc', rfl⟩ := hrel
    have HC' := Lib.hid hc'
    cases hc' with
    | here =>
      cases ov
      all_goals
        go_wp2
        go_ret
        exact ⟨rfl, rfl⟩
    | hop k1 k2 k3 k4 =>
      obtain ⟨-, -, -, -, -, -, c6, -, -, -, c10, -, -, -⟩ := k1.at
      rw [k3] at c6
      rw [k2] at c10
      have HK := Lib.hid k4
      clear k1 k2 k3 k4
      go_wp2
      go_round
      case rel => exact ⟨_, _, HK.out, rfl⟩
      case measure => rw [HL.out _ _ HK.out, HL.out _ _ HC'.out]; simp

theorem wWantIn (p m : Nat) (l : List Nat) (s : WSt) (w : World) (hc : Chain w m l p) (h : Wk w m s) (hs : s.sub = none) (fn : Fn) (fi ca : Array Value) (hn : s.nxt = .func fn fi ca) :
    Calls Tryz.prog 21 #[.pointer (some ⟨p, 0, none⟩)] w fun e w' => e = .returned (.tuple #[s.x.val, .bool true]) ∧ Keeps [] w w' := by
  have HA := Lib.hid (fun W (hk : Keeps [] w W) => wAskerIn m p l s fn fi ca W (hc.keeps hk (by simp)) (h.keeps hk (by simp)) hs hn)
  obtain ⟨-, h1, h2, h3, h4, -⟩ := h.at
  have hlt := h.lt
  have HW := Lib.hid h
  clear h hs hn hc
  go_enter Tryz.func21, Tryz.ntmps21
  go_wp2_with fail
  refine (HA.out _ ((Keeps.refl [] w).alloc _)).mono ?_
  rintro e w1 ⟨rfl, rfl⟩
  go_wp2
  refine bodyPost_ret (v := .tuple #[s.x.val, .bool true]) (by simp [results, Tryz.results21, go_sem]) rfl ⟨rfl, ?_⟩
  exact (Keeps.refl _ _).alloc _

/-- From where the pointer shows on, through n walks that go on, us is held; it stands in blocks of B. -/
inductive Helds (w : World) : Nat → List Nat → Option Addr → List Int → Prop
  | none : Helds w 0 [] none []
  | over {m : Nat} {s : WSt} : Wk w m s → s.over = true → Helds w 0 [m] (some ⟨m, 0, none⟩) []
  | hop {m n : Nat} {s : WSt} {B : List Nat} {us rest : List Int} : Wk w m s → s.over = false → Sl w 1 s.tasks us.length (ints .u64 us) → us.length ≤ 10000000 → Helds w n B s.sub rest → Helds w (n + 1) (m :: (s.tasks.ownBlock.toList ++ B)) (some ⟨m, 0, none⟩) (us ++ rest)
theorem Helds.keeps {w w' : World} {n : Nat} {B S : List Nat} {a : Option Addr} {us : List Int} (h : Helds w n B a us) (hk : Keeps S w w') (hS : ∀ k ∈ B, k ∉ S) : Helds w' n B a us := by
  induction h with
  | none => exact .none
  | over h1 h2 => exact .over (h1.keeps hk (hS _ (by simp))) h2
  | hop h1 h2 h3 h4 _ ih => exact .hop (h1.keeps hk (hS _ (by simp))) h2 (h3.but hk (fun g hg => hS g (by simp [hg]))) h4 (ih fun k hk => hS k (by simp [hk]))
theorem Helds.same {w : World} {n n' : Nat} {B B' : List Nat} {a : Option Addr} {us us' : List Int} (h : Helds w n B a us) (h' : Helds w n' B' a us') : n = n' := by
  induction h generalizing n' B' us' with
  | none => cases h' with | none => rfl
  | over h1 h2 =>
    cases h' with
    | over => rfl
    | hop k1 k2 => rw [(h1.same k1).2, k2] at h2; cases h2
  | hop h1 h2 h3 h4 _ ih =>
    cases h' with
    | over k1 k2 => rw [(h1.same k1).2, k2] at h2; cases h2
    | hop k1 k2 k3 k4 k5 => rw [(h1.same k1).1] at ih; rw [ih k5]
noncomputable def heldLen (w : World) (v : Value) : Nat := open Classical in if h : ∃ n B a us, v = .pointer a ∧ Helds w n B a us then h.choose else 0
theorem heldLen_eq {w : World} {n : Nat} {B : List Nat} {a : Option Addr} {us : List Int} (h : Helds w n B a us) : heldLen w (.pointer a) = n := by
  unfold heldLen
  have hx : ∃ n B a' us, Value.pointer a = .pointer a' ∧ Helds w n B a' us := ⟨n, B, a, us, rfl, h⟩
  rw [dif_pos hx]
  obtain ⟨B', a', us', e, h'⟩ := hx.choose_spec
  cases e
  exact (h.same h').symm
theorem ints_app7 (k : IntKind) (a b : List Int) : ints k (a ++ b) = ints k a ++ ints k b := by simp [ints]

set_option maxHeartbeats 1600000 in
theorem wHeldIn (m n : Nat) (s : WSt) (B : List Nat) (us rest : List Int) (w : World) (h : Wk w m s) (hl : Sl w 1 s.tasks us.length (ints .u64 us)) (hH : Helds w n B s.sub rest) (hn : us.length + rest.length ≤ 10000000) :
    Calls Tryz.prog 25 #[.pointer (some ⟨m, 0, none⟩)] w fun e w' => ∃ t, e = .returned t ∧ w'.ownsRow w.heap.size 49 1 t (us ++ rest).length (ints .u64 (us ++ rest)) ∧ Keeps [] w w' := by
  have HC := Lib.hid (fun W h => cloneWords_sl s.tasks us.length us W h (by omega))
  obtain ⟨h0, -, -, -, -, -, h6, -⟩ := h.at
  have HL := Lib.hid hl
  have HW := Lib.hid h
  have HH := Lib.hid hH
  have HN := Lib.hid hn
  have hlt := h.lt
  clear h hl hH hn
  go_enter Tryz.func25, Tryz.ntmps25
  go_wp2_with fail
  refine (HC.out _ HL.out).mono ?_
  rintro e w1 ⟨t, rfl, ho, k1⟩
  obtain ⟨q, c', rfl⟩ := (Sl.of_owns ho).len
  have w1k := HW.out.keeps k1 (by simp)
  obtain ⟨-, -, -, -, -, -, a6, -⟩ := w1k.at
  have HO := Lib.hid ho
  have HK := Lib.hid k1
  clear ho k1 w1k h0 h6
  go_wp2
  go_loopw [3, 4] (fun lv sv wr => ∃ done k C a r, us ++ rest = done ++ r ∧ Helds w k C a r ∧ sv = .pointer a ∧ wr.ownsRow w.heap.size 49 1 lv done.length (ints .u64 done) ∧ Keeps [] w wr) (fun lv sv _ => heldLen w sv)
  case atStart => exact ⟨us, n, B, s.sub, rest, rfl, HH.out, rfl, HO.out, HK.out⟩
  case round =>
    obtain ⟨done, k, C, a, r, he, hH, rfl, hown, hkr⟩ := hrel
    have hlen : done.length + r.length ≤ 10000000 := by
      have := congrArg List.length he
      simp only [List.length_append] at this
      have := HN.out
      omega
    have HE := Lib.hid he
    have HH' := Lib.hid hH
    obtain ⟨pv, cv, rfl⟩ := (Sl.of_owns hown).len
    have HOwn := Lib.hid hown
    have HKr := Lib.hid hkr
    have hsz := hkr.size
    clear he hown
    cases hH with
    | none =>
      clear hkr
      go_wp2
      go_ret
      exact ⟨_, rfl, by rw [HE.out, List.append_nil]; exact HOwn.out, HKr.out⟩
    | over h1 h2 =>
      obtain ⟨-, -, -, -, -, -, -, -, -, -, c10, -, -, -⟩ := (h1.keeps hkr (by simp)).at
      rw [h2] at c10
      clear hkr h1 h2
      go_wp2
      go_ret
      exact ⟨_, rfl, by rw [HE.out, List.append_nil]; exact HOwn.out, HKr.out⟩
    | hop h1 h2 h3 h4 h5 =>
      rename_i m' n' s' B' us' rest'
      obtain ⟨c0, -, -, -, -, -, c6, -, -, -, c10, -, -, -⟩ := (h1.keeps hkr (by simp)).at
      rw [h2] at c10
      have hy := h3.keeps hkr (by simp)
      obtain ⟨yp, yc, hyv⟩ := hy.len
      rw [hyv] at c0 hy
      have HY := Lib.hid hy
      have H1 := Lib.hid h1
      have H5 := Lib.hid h5
      have hl' : done.length + us'.length ≤ 10000000 := by simp only [List.length_append] at hlen; omega
      clear hkr h1 h2 h3 h5 hy hyv hlen
      go_wp2_with (at_builtin; refine wpList_append_sl rfl _ _ 24 rfl w.heap.size 49 _ 1 8 Tryz.underlying24 elemWd _ _ _ rfl HOwn.out _ _ _ rfl HY.out (ints_one _ _) ?c2 ?c3 ?_)
      case c2 => omega
      case c3 => exact hsz
      intro v2 w4 own4 g4 ne4
      have k4 : Keeps [] w w4 := HKr.out.step ((Keeps.refl _ _).grown g4 (fun k hk _ => by simpa using hk) : Keeps (Value.slice pv done.length cv).ownBlock.toList wr w4) (fun g hg => by
        have := HOwn.out.lt g ((ownBlock_toList _ _).1 hg)
        omega)
      obtain ⟨-, -, -, -, -, -, d6, -⟩ := (H1.out.keeps k4 (by simp)).at
      have HO4 := Lib.hid own4
      have HK4 := Lib.hid k4
      clear own4 g4 ne4 k4 c0 c6
      go_wp2
      go_roundw
      case rel => exact ⟨done ++ us', n', B', _, rest', by rw [HE.out, List.append_assoc], H5.out, rfl, by rw [List.length_append, ints_app7]; exact HO4.out, HK4.out⟩
      case measure => rw [heldLen_eq H5.out, heldLen_eq HH'.out]; omega

theorem run_eq_nil_pointer' {P : Program} (w : World) (t e : TypeId) (p : Option Addr) (h : P.underlying t = some (.pointer e)) :
    (binOp .eql t (.pointer none) (.pointer p)).run P w = .ok (.bool p.isNone) w := by
  have h : ∀ d : Nat, (Op.equalIn (d + 1) t (.pointer none) (.pointer p)).run P w = .ok p.isNone w := fun d => by
    cases p <;> simp [Op.equalIn, run_underlying h]
  simp only [binOp]
  simp [Op.equal, Op.maxDepth, h 9999]
theorem run_eq_pointers {P : Program} {w : World} {t e : TypeId} {z a b : Nat} {ta tb : TypeId} {xs ys : List Value} (ht : P.underlying t = some (.pointer e)) (hi : (P.info? e).map (·.size) = some z) (hz : z ≠ 0) (hne : a ≠ b) (ha : Row w a ta xs) (hb : Row w b tb ys) :
    (binOp .eql t (.pointer (some ⟨a, 0, none⟩)) (.pointer (some ⟨b, 0, none⟩))).run P w = .ok (.bool false) w := by
  obtain ⟨j, hj, rfl⟩ := Option.map_eq_some_iff.1 hi
  obtain ⟨ca, h1, -⟩ := ha
  obtain ⟨cb, h2, -⟩ := hb
  have h : ∀ d : Nat, (Op.equalIn (d + 1) t (.pointer (some ⟨a, 0, none⟩)) (.pointer (some ⟨b, 0, none⟩))).run P w = .ok false w := fun d => by
    simp [Op.equalIn, run_underlying ht, sizeOf, typeInfo, hj, hz, run_sameAddr_other w (a := ⟨a, 0, none⟩) (b := ⟨b, 0, none⟩) (by simp [hne]) h1 h2]
  simp only [binOp]
  simp [Op.equal, Op.maxDepth, h 9999]
theorem walkPtrsEq {w : World} {a b : Nat} {s t : WSt} (hne : a ≠ b) (ha : Wk w a s) (hb : Wk w b t) : (binOp .eql 32 (.pointer (some ⟨a, 0, none⟩)) (.pointer (some ⟨b, 0, none⟩))).run Tryz.prog w = .ok (.bool false) w :=
  run_eq_pointers Tryz.underlying32 (e := 105) (z := 14) (by kernel_rfl) (by decide) hne ha hb

set_option maxHeartbeats 800000 in
/-- One that went into no other one doesn't lead to another. -/
theorem wLeadsIn (m o : Nat) (s so : WSt) (w : World) (hm : Wk w m s) (ho : Wk w o so) (hne : m ≠ o) (hsub : s.sub = none) (hout : ∃ p n c, so.outer = .slice p n c) :
    Calls Tryz.prog 112 #[.pointer (some ⟨m, 0, none⟩), .pointer (some ⟨o, 0, none⟩)] w fun e w' => e = .returned (.bool false) ∧ w = w' := by
  have h8 := ho.at.2.2.2.2.2.2.2.2.1
  obtain ⟨p, n, c, hout⟩ := hout
  rw [hout] at h8
  by_cases hn : n = 0
  · subst hn
    have hq := walkPtrs hne hm ho
    clear hm ho hout hsub
    go_enter Tryz.func112, Tryz.ntmps112
    go_wp2
    go_ret
    exact ⟨rfl, rfl⟩
  · have hd : decide (n = 0) = false := by simpa using hn
    have hb0 : ((n : Int) == 0) = false := by simpa using hn
    have hq := walkPtrs hne hm ho
    have hqe := walkPtrsEq hne hm ho
    have hqn := fun (w : World) (p : Option Addr) => run_eq_nil_pointer' (P := Tryz.prog) w 32 105 p Tryz.underlying32
    obtain ⟨-, -, -, -, -, -, h6, -, -, -, h10, -, -, -⟩ := hm.at
    rw [hsub] at h6
    cases hov : s.over
    all_goals
      rw [hov] at h10
      clear hm ho hout hsub hov hn
      go_enter Tryz.func112, Tryz.ntmps112
      go_wp2
      refine wp_loop_rounds 2 ?_
      rw [rounds_succ]
      go_wp2
      try rw [rounds_succ]
      try go_wp2
      go_ret
      exact ⟨rfl, rfl⟩

set_option maxHeartbeats 1600000 in
/-- One that is under way, whoever went into it, goes into a new one that goes on. -/
theorem wIntoIn (m o : Nat) (s so : WSt) (fn : Fn) (fi ca : Array Value) (w : World) (hm : Wk w m s) (ho : Wk w o so) (hne : m ≠ o)
    (sOver : s.over = false) (sOuter : s.outer = .slice none 0 0) (oOver : so.over = false) (oSub : so.sub = none) (sSub : s.sub = none) (oOuter : ∃ p n c, so.outer = .slice p n c) :
    Calls Tryz.prog 72 #[.pointer (some ⟨o, 0, none⟩), .pointer (some ⟨m, 0, none⟩), .func fn fi ca] w fun e w' => e = .returned (.tuple #[]) ∧ ∃ q,
      Wk w' o { so with nxt := .nilFunc, sub := some ⟨m, 0, none⟩, after := .func fn fi ca } ∧ Wk w' m { s with outer := q } ∧ w'.ownsRow w.heap.size 32 1 q 1 [.pointer (some ⟨o, 0, none⟩)] ∧ Keeps [m, o] w w' := by
  have h10 := ho.at.2.2.2.2.2.2.2.2.2.2.1
  rw [oOver] at h10
  have hlt := hm.lt
  have hlto := ho.lt
  have HL := Lib.hid (fun W (hW : Wk W o so) => wLeave o so W hW oSub)
  have HR := Lib.hid (fun W (hW : Wk W m s) => wResultNot m s W hW sOver)
  have HD := Lib.hid (fun W h1 h2 => wLeadsIn m o s { so with nxt := .nilFunc, sub := none, after := .nilFunc } W h1 h2 hne sSub oOuter)
  have HM := Lib.hid hm
  have HO := Lib.hid ho
  have HSO := Lib.hid sOuter
  have hfn := afterIsThere
  clear hm ho sOver sOuter oOver oSub sSub oOuter
  go_enter Tryz.func72, Tryz.ntmps72
  go_wp2_with fail
  refine (HL.out _ (HO.out.alloc _)).mono ?_
  rintro e w1 ⟨rfl, ho1, k1⟩
  have hb := ((Box.new w #[.func fn fi ca] 103).keeps k1 (by simp; omega)).cells 0
  have hm1 := (HM.out.alloc (.cells #[.func fn fi ca] 103)).keeps k1 (by simpa using hne)
  have K1 := Lib.hid (((Keeps.refl [o] w).alloc (.cells #[.func fn fi ca] 103)).trans k1)
  have hb1 : w.heap.size < w1.heap.size := Nat.lt_of_lt_of_le (by simp) k1.size
  clear k1
  go_wp2_with fail
  refine (HR.out _ hm1).mono ?_
  rintro e w3 ⟨rfl, k3⟩
  have hb3 := (k3.cell (p := ⟨w.heap.size, 0, none⟩) hb1 (by simp)).trans hb
  have hm3 := hm1.keeps k3 (by simp)
  have ho3 := ho1.keeps k3 (by simp)
  have HK := Lib.hid (K1.out.trans (k3.mono (by simp)))
  have hz3 := k3.size
  clear hb k3 hm1 ho1
  have HM3 := Lib.hid hm3
  have HO3 := Lib.hid ho3
  clear hm3 ho3
  have hz1 : w.heap.size < w3.heap.size := Nat.lt_of_lt_of_le hb1 hz3
  go_wp2_with fail
  refine (HD.out _ (HM3.out.alloc _) (HO3.out.alloc _)).mono ?_
  rintro e w5 ⟨rfl, rfl⟩
  obtain ⟨W4, hW4⟩ : ∃ W, w3.alloc (.cells #[.int .i64 0, .int .u64 0, .slice none 0 0] 56) = W := ⟨_, rfl⟩
  have hk4 : Keeps [] w3 W4 := by rw [← hW4]; exact (Keeps.refl _ _).alloc _
  have hb4 := (hk4.cell (p := ⟨w.heap.size, 0, none⟩) hz1 (by simp)).trans hb3
  have hm4 := HM3.out.keeps hk4 (by simp)
  have ho4 := HO3.out.keeps hk4 (by simp)
  have f6 := ho4.fr 6
  have f7 := ho4.fr 7
  obtain ⟨-, -, -, -, -, -, a6, a7, -⟩ := ho4.at
  have HK4 := Lib.hid (HK.out.trans (hk4.mono (by simp)))
  have ho5 := ho4.intoSub ⟨m, 0, none⟩ (.func fn fi ca)
  obtain ⟨W5, hW5⟩ : ∃ W, (W4.setCell ⟨o, 6, none⟩ (.pointer (some ⟨m, 0, none⟩))).setCell ⟨o, 7, none⟩ (.func fn fi ca) = W := ⟨_, rfl⟩
  rw [hW5] at ho5
  have hk5 : Keeps [o] W4 W5 := by rw [← hW5]; exact ((Keeps.refl _ _).set (by simp) _ _).set (by simp) _ _
  obtain ⟨W6, hW6⟩ : ∃ W, W5.drew = W := ⟨_, rfl⟩
  have hk5 : Keeps [o] W4 W6 := by rw [← hW6]; exact hk5.drew
  have ho5 : Wk W6 o { so with nxt := .nilFunc, sub := some ⟨m, 0, none⟩, after := .func fn fi ca } := by rw [← hW6]; exact ho5.keeps ((Keeps.refl [] _).drew) (by simp)
  have hm5 := hm4.keeps hk5 (by simpa using hne)
  have h8 := hm5.at.2.2.2.2.2.2.2.2.1
  rw [HSO.out] at h8
  have f8 := hm5.fr 8
  have HM4 := Lib.hid hm4
  have HO4 := Lib.hid ho4
  have HM5 := Lib.hid hm5
  have HO5 := Lib.hid ho5
  have HK5 := Lib.hid (HK4.out.trans (hk5.mono (by simp)))
  clear hm4 ho4 hm5 ho5 hk5 hk4 hb3
  go_wp2_with fail
  go_region
  go_wp2_with (at_builtin; refine append_fresh rfl _ _ 50 rfl w.heap.size 32 _ 1 8 Tryz.underlying50 elemWalk _ 0 [] rfl (World.ownsRow_nil _ _ _ _) #[.pointer (some ⟨o, 0, none⟩)] rfl rfl (by simp [Value.oneCell']) ?c2 ?c3 ?_)
  case c2 => simp
  case c3 => exact HK5.out.size
  intro q w6 hq k6 hn6 _
  obtain ⟨qp, qc, rfl⟩ := (Sl.of_owns hq).len
  have HM6 := Lib.hid (HM5.out.keeps k6 (by simp [Value.ownBlock]))
  have HO6 := Lib.hid (HO5.out.keeps k6 (by simp [Value.ownBlock]))
  have HK6 := Lib.hid (HK5.out.trans (k6.mono (by simp [Value.ownBlock])))
  have f8' := HM6.out.fr 8
  have a8' := HM6.out.at.2.2.2.2.2.2.2.2.1
  have HQ := Lib.hid hq
  have HN := Lib.hid hn6
  have HS := Lib.hid HK5.out.size
  clear hq k6 hn6
  go_wp2
  first | go_end0 | refine bodyPost_ret (results_none rfl _ _ _) rfl ?_
  have kq : Keeps [m] w6 (w6.setCell ⟨m, 8, none⟩ (.slice qp 1 qc)) := (Keeps.refl _ _).set (by simp) _ _
  refine ⟨rfl, _, HO6.out.keeps kq (by simpa using Ne.symm hne), HM6.out.outerAt _, ?_, (HK6.out.mono (by simp)).trans (kq.mono (by simp))⟩
  have hl := HQ.out
  refine owns_keeps (by simpa using hl) kq (fun g hg => ?_)
  have := hl.lt g hg
  simp
  omega

set_option maxHeartbeats 1600000 in
theorem wBackT (m o : Nat) (s so : WSt) (F : FuncId) (fi ca : Array Value) (n : Nat) (us : List Int) (Sx : List Nat) (w : World) (R : World → WSt → Prop) (R' : World → Prop) (hm : Wk w m s) (ho : Wk w o so) (hne : m ≠ o)
    (hsub : so.sub = some ⟨m, 0, none⟩) (hout : s.outer = .slice none 0 0) (hov : so.over = false) (haf : so.after = .func (.func F) fi ca) (hu : so.under = 0) (hcf : ∀ args w, (callFunc F args).run Tryz.prog w = .ok (.enter F args) w)
    (hl : Sl w 1 s.l n (ints .u64 us)) (hn : n ≤ 10000000) (hlb : ∀ g, s.l.ownBlock = some g → g ≠ m ∧ g ≠ o) (hSx : ∀ k ∈ Sx, k < w.heap.size)
    (hF : ∀ w1 q c, Wk w1 o { so with nxt := .nilFunc, sub := none, after := .nilFunc, under := 1 } → Wk w1 m s → Keeps [m, o] w w1 → Sl w1 1 (.slice q n c) n (ints .u64 us) → Calls Tryz.prog F (fi.push (.agg #[.int .i64 s.code, .int .u64 s.v, .slice q n c]) ++ ca) w1 fun e w2 => e = .returned (.tuple #[]) ∧
      ∃ so2, Wk w2 o so2 ∧ so2.under = 1 ∧ Keeps Sx w1 w2 ∧ (∃ s2, Wk w2 m s2 ∧ s2.code = s.code ∧ s2.v = s.v ∧ s2.l = s.l) ∧ R w2 so2)
    (hT : ∀ w2 so2 w3, R w2 so2 → Keeps [o] w2 w3 → Wk w3 o { so2 with under := 0 } → Calls Tryz.prog 100 #[.pointer (some ⟨o, 0, none⟩)] w3 fun e w4 => e = .returned (.tuple #[]) ∧ R' w4) :
    Calls Tryz.prog 141 #[.pointer (some ⟨o, 0, none⟩), .pointer (some ⟨m, 0, none⟩)] w fun e w' => e = .returned (.tuple #[]) ∧ R' w' := by
  have hq := fun W => walkPtr W ⟨m, 0, none⟩
  obtain ⟨-, -, -, -, -, -, h6, h7, -, -, h10, -, -, -⟩ := ho.at
  rw [hsub] at h6
  rw [haf] at h7
  rw [hov] at h10
  have hlto := ho.lt
  have hltm := hm.lt
  have HM := Lib.hid hm
  have HO := Lib.hid ho
  have HL := Lib.hid (fun W h1 h2 => wLeaveSub m o s so W h1 h2 hne hsub hout)
  have HH : Hid (_ ∧ _ ∧ _ ∧ _) := Lib.hid ⟨hl, hn, hlb, hSx⟩
  have HF := Lib.hid hF
  have HT := Lib.hid hT
  have HCF := Lib.hid hcf
  have HU := Lib.hid hu
  clear hm ho hsub hout hov haf hu hcf hl hn hlb hSx hF hT
  go_enter Tryz.func141, Tryz.ntmps141
  go_wp2_with fail
  go_quiet (fail)
  go_wp2_with fail
  generalize hW : World.alloc _ _ = W1
  have k1 : Keeps [] w W1 := by rw [← hW]; exact (((Keeps.refl _ _).alloc _).drewN).alloc _
  have b0 : Box W1 w.heap.size #[.pointer (some ⟨m, 0, none⟩)] := by rw [← hW]; exact ((Box.new w #[.pointer (some ⟨m, 0, none⟩)] 32).keeps ((Keeps.refl [] _).drewN) (by simp)).alloc _
  have b1 : Box W1 (w.heap.size + 1) #[.func (.func F) fi ca] := by rw [← hW]; have := Box.new ((w.alloc (.cells #[.pointer (some ⟨m, 0, none⟩)] 32)).drewN nq) #[.func (.func F) fi ca] 103; simpa [World.drewN] using this
  clear hW
  refine (HL.out W1 (HM.out.keeps k1 (by simp)) (HO.out.keeps k1 (by simp))).mono ?_
  rintro e w2 ⟨rfl, ho2, hm2, k2⟩
  have c0 := b0.keeps k2 (by simp; omega)
  have c1 := b1.keeps k2 (by simp; omega)
  have hk2 : Keeps [m, o] w w2 := (k1.mono (by simp)).trans k2
  have D := wDoT o _ 162 #[.pointer (some ⟨w.heap.size + 1, 0, none⟩), .pointer (some ⟨w.heap.size, 0, none⟩)] w2 R R' ho2 (by show 0 ≤ so.under; rw [HU.out]; exact Int.le_refl 0) (by show so.under ≤ 1000; rw [HU.out]; decide) (fun _ _ => by kernel_rfl) (fun w3 h3 k3 =>
    have hm3 := hm2.keeps k3 (by simpa using hne)
    have e1 := (c1.keeps k3 (by simp; omega))
    have e0 := (c0.keeps k3 (by simp; omega))
    have hk3 : Keeps [m, o] w w3 := hk2.trans (k3.mono (by simp))
    (wBack1 m (w.heap.size + 1) w.heap.size s F fi ca n us w3 (fun w' => ∃ so2, Wk w' o so2 ∧ so2.under = 1 ∧ (∃ w4, Keeps [] w3 w4 ∧ Keeps Sx w4 w') ∧ (∃ s2, Wk w' m s2 ∧ s2.code = s.code ∧ s2.v = s.v ∧ s2.l = s.l) ∧ R w' so2) HCF.out hm3 (e1.cells 0) (e0.cells 0) e1.lt e0.lt
      (HH.out.1.but hk3 (fun g hg => by have := HH.out.2.2.1 g hg; simp [this.1, this.2])) HH.out.2.1
      (fun w4 q c k4 hq4 => ((HF.out w4 q c (by have := h3.keeps k4 (by simp); simpa [HU.out] using this) (hm3.keeps k4 (by simp)) (hk3.trans (k4.mono (by simp))) hq4).mono fun e w5 ⟨he, so2, a, b, d, f, g⟩ => ⟨he, so2, a, b, ⟨w4, k4, d⟩, f, g⟩))
      (fun w' ⟨so2, a, b, ⟨w4, k4, d⟩, ⟨s2, f1, f2, f3, f4⟩, g⟩ => by
        have n0 : w.heap.size ∉ Sx := fun h => by have := HH.out.2.2.2 _ h; omega
        have n1 : w.heap.size + 1 ∉ Sx := fun h => by have := HH.out.2.2.2 _ h; omega
        refine ⟨((e1.keeps k4 (by simp)).keeps d n1).cells 0, ((e0.keeps k4 (by simp)).keeps d n0).cells 0, ?_⟩
        obtain ⟨-, -, -, -, -, -, -, -, -, -, -, x1, x2, x3⟩ := f1.at
        rw [f2] at x1
        rw [f3] at x2
        rw [f4] at x3
        exact ⟨x1, x2, x3⟩)).mono fun e w5 ⟨he, so2, a, b, _, _, g⟩ => ⟨he, so2, a, by simpa [HU.out] using b, g⟩)
    (fun w4 s2 w5 hR k h => HT.out w4 s2 w5 hR k (by simpa [HU.out] using h))
  have HD := Lib.hid D
  have HC1 := Lib.hid (c1.cells 0)
  clear D b0 b1 k1 k2 ho2 hm2 c0 c1
  go_wp2_with fail
  refine HD.out.mono ?_
  rintro e w5 ⟨rfl, hR⟩
  have HP := Lib.hid hR
  clear hR
  go_wp2
  first | go_end0 | refine bodyPost_ret (results_none rfl _ _ _) rfl ?_
  exact ⟨rfl, HP.out⟩

set_option maxHeartbeats 800000 in
/-- One that has ended tells the one that went into it. -/
theorem wTellT (m o g cap : Nat) (ty : TypeId) (s : WSt) (w : World) (R' : World → Prop) (hm : Wk w m s) (hs : s.over = true) (hu0 : s.under = 0) (hout : s.outer = .slice (some ⟨g, 0, none⟩) 1 cap) (hg : Row w g ty [.pointer (some ⟨o, 0, none⟩)]) (hgm : g ≠ m)
    (hB : ∀ w1, Wk w1 m { s with outer := .slice none 0 0 } → Keeps [m] w w1 → Calls Tryz.prog 141 #[.pointer (some ⟨o, 0, none⟩), .pointer (some ⟨m, 0, none⟩)] w1 fun e w' => e = .returned (.tuple #[]) ∧ R' w') :
    Calls Tryz.prog 100 #[.pointer (some ⟨m, 0, none⟩)] w fun e w' => e = .returned (.tuple #[]) ∧ R' w' := by
  obtain ⟨-, -, -, -, -, -, -, -, h8, h9, h10, -, -, -⟩ := hm.at
  have f8 := hm.fr 8
  rw [hs] at h10
  rw [hu0] at h9
  rw [hout] at h8
  have W1 : Keeps [m] w (w.setCell ⟨m, 8, none⟩ (.slice none 0 0)) := (Keeps.refl _ _).set (by simp) _ _
  have HB := Lib.hid (hB _ (hm.outerAt _) W1)
  have hg0 : (w.setCell ⟨m, 8, none⟩ (.slice none 0 0)).cell? ⟨g, 0, none⟩ = some (.pointer (some ⟨o, 0, none⟩)) := (hg.keeps W1 (by simpa using hgm)).cell (j := 0) rfl
  clear hs hu0 hout hm W1 hg hB
  go_enter Tryz.func100, Tryz.ntmps100
  go_wp2
  refine wp_loop_rounds 2 ?_
  rw [rounds_succ]
  go_wp2_with fail
  refine HB.out.mono ?_
  rintro e w1 ⟨rfl, hR⟩
  have HP := Lib.hid hR
  clear hR
  go_wp2
  rw [rounds_succ]
  go_wp2
  first | go_end0 | refine bodyPost_ret (results_none rfl _ _ _) rfl ?_
  exact ⟨rfl, HP.out⟩

set_option maxHeartbeats 1600000 in
theorem wGiveIn (p m : Nat) (l : List Nat) (s : WSt) (F : FuncId) (fi ca : Array Value) (v : Int) (won : Bool) (w : World) (R : World → WSt → Prop) (R' : World → Prop) (hc : Chain w m l p) (h : Wk w m s) (hs : s.sub = none) (hn : s.nxt = .func (.func F) fi ca) (hu : s.under = 0)
    (hcf : ∀ args w, (callFunc F args).run Tryz.prog w = .ok (.enter F args) w)
    (hF : ∀ w1, Wk w1 m { s with nxt := .nilFunc, sub := none, after := .nilFunc, under := 1 } → Keeps [m] w w1 → Calls Tryz.prog F (fi ++ (#[.int .u64 v, .bool won] ++ ca)) w1 fun e w2 => e = .returned (.tuple #[]) ∧ ∃ s2, Wk w2 m s2 ∧ s2.under = 1 ∧ R w2 s2)
    (hT : ∀ w2 s2 w3, R w2 s2 → Keeps [m] w2 w3 → Wk w3 m { s2 with under := 0 } → Calls Tryz.prog 100 #[.pointer (some ⟨m, 0, none⟩)] w3 fun e w4 => e = .returned (.tuple #[]) ∧ R' w4) :
    Calls Tryz.prog 26 #[.pointer (some ⟨p, 0, none⟩), .int .u64 v, .bool won] w fun e w' => e = .returned (.tuple #[]) ∧ R' w' := by
  have HA := Lib.hid (fun W (hk : Keeps [] w W) => wAskerIn m p l s (.func F) fi ca W (hc.keeps hk (by simp)) (h.keeps hk (by simp)) hs hn)
  have HL := Lib.hid (fun W h => wLeave m s W h hs)
  have HF := Lib.hid hF
  have HT := Lib.hid hT
  have HCF := Lib.hid hcf
  have HU := Lib.hid hu
  have HW := Lib.hid h
  have hlt := h.lt
  have h5 := h.at.2.2.2.2.2.1
  rw [hn] at h5
  clear hF hT hcf hu h hs hn hc
  go_enter Tryz.func26, Tryz.ntmps26
  go_wp2_with fail
  refine (HA.out _ (((Keeps.refl [] w).alloc _).alloc _)).mono ?_
  rintro e w0 ⟨rfl, rfl⟩
  go_wp2_with fail
  generalize hW : World.alloc _ _ = W1
  have k1 : Keeps [] w W1 := by rw [← hW]; exact (((Keeps.refl _ _).alloc _).alloc _).alloc _
  have w1 : Wk W1 m s := HW.out.keeps k1 (by simp)
  have b0 : Box W1 w.heap.size #[.int .u64 v] := by rw [← hW]; exact ((Box.new _ _ _).alloc _).alloc _
  have b1 : Box W1 (w.heap.size + 1) #[.bool won] := by rw [← hW]; have := (Box.new (w.alloc (.cells #[.int .u64 v] 49)) #[.bool won] 4).alloc (.cells #[.func (.func F) fi ca] 69); simpa using this
  have b2 : Box W1 (w.heap.size + 2) #[.func (.func F) fi ca] := by rw [← hW]; have := (Box.new ((w.alloc (.cells #[.int .u64 v] 49)).alloc (.cells #[.bool won] 4)) #[.func (.func F) fi ca] 69); simpa using this
  clear hW
  refine (HL.out _ w1).mono ?_
  rintro e w2 ⟨rfl, w2k, k2⟩
  have HK := Lib.hid (k1.nil.trans k2)
  have HC0 := Lib.hid (b0.keeps k2 (by simp; omega))
  have HC1 := Lib.hid (b1.keeps k2 (by simp; omega))
  have HC2 := Lib.hid (b2.keeps k2 (by simp; omega))
  have HW2 := Lib.hid w2k
  clear k1 k2 w1 b0 b1 b2 w2k h5
  have D := wDoT m _ 60 #[.pointer (some ⟨w.heap.size + 2, 0, none⟩), .pointer (some ⟨w.heap.size, 0, none⟩), .pointer (some ⟨w.heap.size + 1, 0, none⟩)] w2 R R' HW2.out (by show 0 ≤ s.under; rw [HU.out]; exact Int.le_refl 0) (by show s.under ≤ 1000; rw [HU.out]; decide) (fun _ _ => by kernel_rfl) (fun w3 h3 k3 => wGive1 F fi ca v won _ _ _ w3 _ (fun _ _ h => h.1) HCF.out ((HC2.out.keeps k3 (by simp; omega)).cells 0) ((HC0.out.keeps k3 (by simp; omega)).cells 0) ((HC1.out.keeps k3 (by simp; omega)).cells 0)
    ((HF.out w3 (by have := h3; simpa [HU.out] using this) (HK.out.trans k3)).mono fun e w4 ⟨he, s2, a, b, d⟩ => ⟨he, s2, a, by simpa [HU.out] using b, d⟩))
    (fun w4 s2 w5 hR k h => HT.out w4 s2 w5 hR k (by simpa [HU.out] using h))
  have HD := Lib.hid D
  clear D
  go_wp2_with fail
  refine HD.out.mono ?_
  rintro e w5 ⟨rfl, hR⟩
  have HP := Lib.hid hR
  clear hR
  go_wp2
  first | go_end0 | refine bodyPost_ret (results_none rfl _ _ _) rfl ?_
  exact ⟨rfl, HP.out⟩
end Go.Proofs.YtoomefclbemnlaaGreat
