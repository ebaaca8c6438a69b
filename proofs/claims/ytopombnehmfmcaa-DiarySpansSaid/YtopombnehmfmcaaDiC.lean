import Derived.Test.YtopombnehmfmcaaDiB
import Derived.Test.YtopombnehmfmcaaDiA
/-
  Contracts of package diary: Most, Of.
-/
namespace Go.Proofs.Ytopombnehmfmcaa
set_option maxRecDepth 100000
set_option linter.unusedSimpArgs false
set_option linter.unusedVariables false
open Go.ChangeShapes Go.WideShapes Go.ChangeAt Go.RowKit

theorem diOwnsBase {w : World} {B C size n : Nat} {e : TypeId} {v : Value} {xs : List Value} (h : w.ownsRow B e size v n xs) (hB : C ≤ B) : w.ownsRow C e size v n xs := by
  refine ⟨h.1, ?_⟩
  rcases h.2 with h | ⟨g, cap, cur, hv, hb, rest⟩
  · exact .inl h
  · exact .inr ⟨g, cap, cur, hv, Nat.le_trans hB hb, rest⟩
theorem sort_len (l : List Int) : (l.mergeSort fun x y => decide (x ≤ y)).length = l.length := List.length_mergeSort l
theorem sort_perm (l : List Int) : (l.mergeSort fun x y => decide (x ≤ y)).Perm l := List.mergeSort_perm l _
theorem sort_sorted (l : List Int) : (l.mergeSort fun x y => decide (x ≤ y)).Pairwise (· ≤ ·) := by
  have := List.pairwise_mergeSort (le := fun x y : Int => decide (x ≤ y)) (fun a b c h1 h2 => by simp at h1 h2 ⊢; omega) (fun a b => by simp; omega) l
  exact this.imp (fun h => by simpa using h)
theorem diGone_le (E : List Int) (v : Int) : diGone E v ≤ E.length := List.countP_le_length
theorem diGone_mono (E : List Int) (u v : Int) (h : u ≤ v) : diGone E u ≤ diGone E v := List.countP_mono_left fun x _ hx => by simp at hx ⊢; omega
theorem diGone_cut {E : List Int} (hE : E.Pairwise (· ≤ ·)) (v : Int) (i : Nat) (hi : i < E.length) : E.getD i 0 < v ↔ i < diGone E v := by
  have := sorted_cut hE (fun x => decide (x < v)) (fun a b hab hb => by simp at hb ⊢; omega) i hi
  unfold diGone
  simpa using this
theorem sorted_getD {B : List Int} (hB : B.Pairwise (· ≤ ·)) (i j : Nat) (hij : i ≤ j) (hj : j < B.length) : B.getD i 0 ≤ B.getD j 0 := by
  by_cases h : i = j
  · subst h; exact Int.le_refl _
  · have e1 : B.getD i 0 = B[i]'(by omega) := by simp [List.getD_eq_getElem?_getD, show i < B.length by omega]
    have e2 : B.getD j 0 = B[j] := by simp [List.getD_eq_getElem?_getD, hj]
    rw [e1, e2]
    exact List.pairwise_iff_getElem.1 hB i j (by omega) hj (by omega)
theorem diMoTo_le (B E : List Int) (n : Nat) : diMoTo B E n ≤ n := by
  induction n with
  | zero => exact Int.le_refl _
  | succ n ih => unfold diMoTo; omega

set_option maxHeartbeats 4000000 in
theorem diMost_any (v : Value) (l : List DSp) (w : World) (h : SpsAt w v l) (hl : l.length ≤ 1000000) :
    Calls Try.prog 15 #[v] w fun e w' => e = .returned (.int .i64 (diMost l : Int)) ∧ Keeps [] w w' := by
  have HBo := Lib.hid (diBounds_any v l w h hl)
  have hb := diLos_le l
  have he := diHis_le l
  obtain ⟨B, hB⟩ : ∃ B, (diLos l).mergeSort (fun x y => decide (x ≤ y)) = B := ⟨_, rfl⟩
  obtain ⟨E, hE⟩ : ∃ E, (diHis l).mergeSort (fun x y => decide (x ≤ y)) = E := ⟨_, rfl⟩
  have lB : B.length = (diLos l).length := by rw [← hB]; exact sort_len _
  have lE : E.length = (diHis l).length := by rw [← hE]; exact sort_len _
  have pB : B.Perm (diLos l) := by rw [← hB]; exact sort_perm _
  have pE : E.Perm (diHis l) := by rw [← hE]; exact sort_perm _
  have sB : B.Pairwise (· ≤ ·) := by rw [← hB]; exact sort_sorted _
  have sE : E.Pairwise (· ≤ ·) := by rw [← hE]; exact sort_sorted _
  have HFin := Lib.hid (diMost_code l B E pB pE sB)
  rw [hB, hE, ← lB, ← lE] at HBo
  rw [← lB] at hb
  rw [← lE] at he
  clear hB hE lB lE pB pE
  obtain ⟨p, c, rfl⟩ := h.sl.len
  have HSB := Lib.hid sB
  have HSE := Lib.hid sE
  clear h sB sE
  go_enter Try.func15, Try.ntmps15
  go_wp2_with fail
  refine HBo.out.mono ?_
  rintro e w1 ⟨bv, cv, rfl, slB, slE, k1⟩
  obtain ⟨bp, bc, rfl⟩ := slB.len
  obtain ⟨cp, cc, rfl⟩ := slE.len
  have HFB := Lib.hid (slFace slB)
  have HFE := Lib.hid (slFace slE)
  have HK1 := Lib.hid k1
  clear slB slE k1
  go_wp2
  go_loopw [5, 6, 16] (fun most gone i wr => ∃ k q : Nat, k ≤ B.length ∧ i = .int .i64 (k : Int) ∧ most = .int .i64 (diMoTo B E k) ∧ gone = .int .i64 (q : Int) ∧ q ≤ E.length ∧ Hid (∀ j, k ≤ j → j < B.length → q ≤ diGone E (B.getD j 0)) ∧ Keeps [] w1 wr) (fun _ _ i _ => B.length - (intOf i).toNat)
  case atStart => exact ⟨0, 0, Nat.zero_le _, rfl, rfl, rfl, Nat.zero_le _, Lib.hid (fun _ _ _ => Nat.zero_le _), Keeps.refl _ _⟩
  case round =>
    obtain ⟨k, q, hk, rfl, rfl, rfl, hq, hql, hkp⟩ := hrel
    have hM0 := diMoTo_pos B E k
    have hM1 := diMoTo_le B E k
    obtain ⟨M, hM⟩ : ∃ M, diMoTo B E k = M := ⟨_, rfl⟩
    rw [hM] at hM0 hM1 ⊢
    by_cases hlt : k < B.length
    · rcases HFB.out with h0 | ⟨b, off, hbp, hbl, hc⟩
      · omega
      subst hbp
      have cb := (hkp.cell (p := ⟨b, off + k, none⟩) hbl (by simp)).trans (hc _ _ (ints_at hlt))
      obtain ⟨u, hu⟩ : ∃ u, B.getD k 0 = u := ⟨_, rfl⟩
      rw [hu] at cb
      have hqu : q ≤ diGone E u := by rw [← hu]; exact hql.out k (Nat.le_refl _) hlt
      have HK := Lib.hid hkp
      have HU := Lib.hid hu
      have HM := Lib.hid hM
      clear hbl hc hkp hu hM hql
      go_wp2
      go_loopw [6] (fun gone wr2 => ∃ q2 : Nat, q2 ≤ E.length ∧ gone = .int .i64 (q2 : Int) ∧ q2 ≤ diGone E u ∧ Keeps [] w1 wr2) (fun gone _ => E.length - (intOf gone).toNat)
      case atStart => exact ⟨q, hq, rfl, hqu, HK.out⟩
      case round =>
        obtain ⟨q2, hq2, rfl, hqu2, hkp2⟩ := hrel
        have HK2 := Lib.hid hkp2
        by_cases hlt2 : q2 < E.length
        · rcases HFE.out with h0 | ⟨b2, off2, hcp2, hbl2, hc2⟩
          · omega
          subst hcp2
          have ce := (hkp2.cell (p := ⟨b2, off2 + q2, none⟩) hbl2 (by simp)).trans (hc2 _ _ (ints_at hlt2))
          have hcut := diGone_cut HSE.out u q2 hlt2
          obtain ⟨x, hx⟩ : ∃ x, E.getD q2 0 = x := ⟨_, rfl⟩
          rw [hx] at ce hcut
          have hi2 : decide ((q2 : Int) < (E.length : Int)) = true := by simp; omega
          clear hkp2 hbl2 hc2 hx
          by_cases hxu : x < u
          · have hxu' : decide (x < u) = true := by simpa using hxu
            have hq3 : q2 + 1 ≤ diGone E u := hcut.1 hxu
            clear hcut
            go_wp2
            go_roundw
            case rel => exact ⟨q2 + 1, by omega, by go_num, hq3, by first | exact HK2.out | exact HK2.out.drew | exact HK2.out.drewN⟩
            case measure => simp [intOf]; omega
          · have hxu' : decide (x < u) = false := by simpa using hxu
            have hq3 : q2 = diGone E u := by have : ¬ q2 < diGone E u := fun h => hxu (hcut.2 h); omega
            have HQ3 := Lib.hid hq3
            clear hcut hq3 hqu2
            go_wp2
            go_roundw
            case rel =>
              refine ⟨k + 1, q2, by omega, by go_num, ?_, rfl, hq2, Lib.hid (fun j hj1 hj2 => ?_), by first | exact HK2.out | exact HK2.out.drew | exact HK2.out.drewN⟩
              · unfold diMoTo
                rw [HU.out, HM.out, ← HQ3.out]
              · rw [HQ3.out, ← HU.out]
                exact diGone_mono E _ _ (sorted_getD HSB.out k j (by omega) hj2)
            case measure => simp [intOf]; omega
        · have hle := diGone_le E u
          have hq3 : q2 = diGone E u := by omega
          have hi2 : decide ((q2 : Int) < (E.length : Int)) = false := by simp; omega
          have HQ3 := Lib.hid hq3
          clear hq3 hqu2 hle hkp2
          go_wp2
          go_roundw
          case rel =>
            refine ⟨k + 1, q2, by omega, by go_num, ?_, rfl, hq2, Lib.hid (fun j hj1 hj2 => ?_), by first | exact HK2.out | exact HK2.out.drew | exact HK2.out.drewN⟩
            · unfold diMoTo
              rw [HU.out, HM.out, ← HQ3.out]
            · rw [HQ3.out, ← HU.out]
              exact diGone_mono E _ _ (sorted_getD HSB.out k j (by omega) hj2)
          case measure => simp [intOf]; omega
    · obtain rfl : k = B.length := by omega
      have HK := Lib.hid hkp
      have hfin := HFin.out
      rw [hM] at hfin
      have HFin2 := Lib.hid hfin
      clear hkp hfin hM hql
      go_wp2
      go_ret
      exact ⟨by rw [← HFin2.out]; rfl, HK1.out.trans HK.out⟩

/-- The spans of a worker. -/
def diMine (l : List DSp) (who : Int) : List DSp := l.filter fun s => decide (s.who = who)
theorem diMine_snoc (l : List DSp) (who : Int) (k : Nat) (x : DSp) (hx : l[k]? = some x) : diMine (l.take (k + 1)) who = diMine (l.take k) who ++ if x.who = who then [x] else [] := by
  unfold diMine
  rw [take_succ_at l k x hx, List.filter_append, List.filter_cons]
  by_cases h : x.who = who <;> simp [h]
theorem diMine_le (l : List DSp) (who : Int) : (diMine l who).length ≤ l.length := List.length_filter_le _ _
/-- L says what M says, span by span, in lists of its own. -/
def Copies (B : Nat) (w : World) (M L : List DSp) : Prop := L.length = M.length ∧ ∀ i, i < M.length → Copied B w (M.getD i default) (L.getD i default)
theorem Copies.keeps {B : Nat} {w w' : World} {S : List Nat} {M L : List DSp} (h : Copies B w M L) (k : Keeps S w w') (hS : ∀ i, i < M.length → (∀ g, (Value.slice (L.getD i default).call.p (L.getD i default).call.n (L.getD i default).call.c).ownBlock = some g → g ∉ S) ∧ ∀ g, (Value.slice (L.getD i default).res.p (L.getD i default).res.n (L.getD i default).res.c).ownBlock = some g → g ∉ S) : Copies B w' M L :=
  ⟨h.1, fun i hi => (h.2 i hi).keeps k (hS i hi).1 (hS i hi).2⟩
theorem Copies.keeps0 {B : Nat} {w w' : World} {M L : List DSp} (h : Copies B w M L) (k : Keeps [] w w') : Copies B w' M L := h.keeps k (fun i hi => ⟨by simp, by simp⟩)
/-- A row of spans is written: the lists are other rows. -/
theorem Copies.apart {B b n : Nat} {w w' : World} {v : Value} {xs : List Value} {M L : List DSp} (h : Copies B w M L) (hv : w.ownsRow b 41 10 v n xs) (k : Keeps v.ownBlock.toList w w') : Copies B w' M L :=
  h.keeps k fun i hi => ⟨fun g hg hm => owns_ne (h.2 i hi).own1 hv (by decide) hg (Option.mem_toList.1 hm), fun g hg hm => owns_ne (h.2 i hi).own2 hv (by decide) hg (Option.mem_toList.1 hm)⟩
theorem Copies.snoc {B : Nat} {w : World} {M L : List DSp} {x y : DSp} (h : Copies B w M L) (hc : Copied B w x y) : Copies B w (M ++ [x]) (L ++ [y]) := by
  refine ⟨by simp [h.1], fun i hi => ?_⟩
  rw [getD_push, getD_push, h.1]
  by_cases he : i = M.length
  · rw [if_pos he, if_pos he]; exact hc
  · rw [if_neg he, if_neg he]; exact h.2 i (by simp at hi; omega)
theorem Copied.apart {B b n : Nat} {w w' : World} {v : Value} {xs : List Value} {x y : DSp} (h : Copied B w x y) (hv : w.ownsRow b 41 10 v n xs) (k : Keeps v.ownBlock.toList w w') : Copied B w' x y :=
  h.keeps k (fun g hg hm => owns_ne h.own1 hv (by decide) hg (Option.mem_toList.1 hm)) (fun g hg hm => owns_ne h.own2 hv (by decide) hg (Option.mem_toList.1 hm))

set_option maxHeartbeats 4000000 in
theorem diOf_any (v : Value) (l : List DSp) (who : Int) (w : World) (h : SpsAt w v l) (hl : l.length ≤ 1000000) :
    Calls Try.prog 17 #[v, .int .i64 who] w fun e w' => ∃ v' L, e = .returned v' ∧ w'.ownsRow w.heap.size 41 10 v' L.length (spCells L) ∧ Copies w.heap.size w' (diMine l who) L ∧ Keeps [] w w' := by
  obtain ⟨p, c, rfl⟩ := h.sl.len
  have HF := Lib.hid (slFace h.sl)
  have HA := Lib.hid h.at_
  clear h
  go_enter Try.func17, Try.ntmps17
  go_wp2
  go_loopw [5, 10] (fun o i wr => ∃ (k : Nat) (op : Option Addr) (oc : Nat) (L : List DSp) (n : Nat), k ≤ l.length ∧ i = .int .i64 (k : Int) ∧ o = .slice op n oc ∧ n ≤ k ∧ L.length = n ∧ wr.ownsRow w.heap.size 41 10 (.slice op n oc) n (spCells L) ∧ Copies w.heap.size wr (diMine (l.take k) who) L ∧ Keeps [] w wr) (fun _ i _ => l.length - (intOf i).toNat)
  case atStart => exact ⟨0, none, 0, [], 0, Nat.zero_le _, rfl, rfl, Nat.le_refl _, rfl, World.ownsRow_nil _ _ _ _, ⟨by simp [diMine], fun i hi => by simp [diMine] at hi⟩, Keeps.refl _ _⟩
  case round =>
    obtain ⟨k, op, oc, L, n, hk, rfl, rfl, hnk, hLn, hO, hCs, hkp⟩ := hrel
    by_cases hlt : k < l.length
    · rcases HF.out with h0 | ⟨bb, off, rfl, hb, hc⟩
      · omega
      obtain ⟨x, hx⟩ : ∃ x, l[k]? = some x := ⟨_, List.getElem?_eq_getElem hlt⟩
      have cc := SpsAt.cells (c := c) hb hc k x hx hkp
      have hxa := HA.out x (List.mem_of_getElem? hx)
      have HCp := Lib.hid (fun W (kW : Keeps [] w W) => diCopied x W (hxa.1.keeps kW) (hxa.2.keeps kW))
      have hst := diMine_snoc l who k x hx
      obtain ⟨x1, x2, x3, x4, ⟨x5, x6, xp, xn, xc, xvs⟩, ⟨x8, x9, yp, yn, yc, yls⟩⟩ := x
      simp only [DSp.val] at HCp cc hst
      have q0 := cc 0 _ (by omega) rfl
      have q1 := cc 1 _ (by omega) rfl
      have q2 := cc 2 _ (by omega) rfl
      have q3 := cc 3 _ (by omega) rfl
      have q4 := cc 4 _ (by omega) rfl
      have q5 := cc 5 _ (by omega) rfl
      have q6 := cc 6 _ (by omega) rfl
      have q7 := cc 7 _ (by omega) rfl
      have q8 := cc 8 _ (by omega) rfl
      have q9 := cc 9 _ (by omega) rfl
      rw [Nat.add_zero] at q0
      have HK := Lib.hid hkp
      have HO := Lib.hid hO
      have HCs := Lib.hid hCs
      have HSt := Lib.hid hst
      have sz := hkp.size
      clear hx hb hc hkp cc hst hO hCs hxa
      by_cases ho : x1 = who
      · have ho' : (x1 == who) = true := by simp [ho]
        have HW := Lib.hid ho
        clear ho
        go_wp2_with (first
          | (go_at_call 19; refine (HCp.out _ (HK.out.trans ((Keeps.refl _ _).alloc _))).mono ?_; rintro e w2 ⟨y, rfl, hcp, k2⟩; have hk2 : Keeps [] wr w2 := ((Keeps.refl [] wr).alloc _).trans k2; have hO2 := Lib.hid (diOwnsKeeps HO.out hk2 (by simp)); have sz2 := hk2.size; have HCpd := Lib.hid hcp; have HK2 := Lib.hid hk2; clear hk2 k2 hcp)
          | (at_builtin; refine append_fresh rfl _ _ 34 rfl w.heap.size 41 _ 10 112 Try.underlying34 elemSp _ _ _ rfl hO2.out #[.int .i64 y.who, .int .i64 y.nth, .int .i64 y.lo, .int .i64 y.hi, .int .i64 y.call.kind, .int .u64 y.call.task, .slice y.call.p y.call.n y.call.c, .int .i64 y.res.code, .int .u64 y.res.v, .slice y.res.p y.res.n y.res.c] rfl rfl (by simp [Value.oneCell']) (by omega) (by omega) ?_; intro v10 w10 own10 k10 f10 ne10; have hk10 : Keeps (Value.slice op n oc).ownBlock.toList w2 w10 := k10; obtain ⟨p10, c10, rfl⟩ := (Sl.of_owns own10).len))
        go_roundw
        case rel =>
          have hcs2 := (HCs.out.keeps0 HK2.out).apart hO2.out hk10
          have hcp2 := (HCpd.out.apart hO2.out hk10).base (show w.heap.size ≤ _ by simp; omega)
          refine ⟨k + 1, p10, c10, L ++ [y], n + 1, by omega, by go_num, rfl, by omega, by simp [hLn], ?_, ?_, ?_⟩
          · rw [spCells_snoc]; exact own10
          · rw [HSt.out, if_pos HW.out]; exact hcs2.snoc hcp2
          · exact (HK.out.trans HK2.out).step hk10 (fun g hg => (HO.out.lt g (Option.mem_toList.1 hg)).1)
        case measure => simp [intOf]; omega
      · have ho' : (x1 == who) = false := by simp [ho]
        have HW := Lib.hid ho
        clear ho
        go_wp2
        go_roundw
        case rel =>
          refine ⟨k + 1, op, oc, L, n, by omega, by go_num, rfl, by omega, hLn, diOwnsKeeps HO.out ((Keeps.refl [] _).alloc _) (by simp), ?_, HK.out.trans ((Keeps.refl [] _).alloc _)⟩
          rw [HSt.out, if_neg HW.out, List.append_nil]
          exact HCs.out.keeps0 ((Keeps.refl [] _).alloc _)
        case measure => simp [intOf]; omega
    · obtain rfl : k = l.length := by omega
      rw [List.take_length] at hCs
      have HO := Lib.hid hO
      have HCs := Lib.hid hCs
      have HK := Lib.hid hkp
      clear hO hCs hkp
      subst hLn
      go_wp2
      go_ret
      exact ⟨_, L, rfl, HO.out, HCs.out, HK.out⟩
end Go.Proofs.Ytopombnehmfmcaa
