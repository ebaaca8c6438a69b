/-
  A queue's Take does a step of its machine.
-/
import Derived.Test.YtoomefclbemnlaaGreatQuS
namespace Go.Proofs.YtoomefclbemnlaaGreat
set_option maxRecDepth 100000
set_option linter.unusedSimpArgs false
set_option linter.unusedVariables false
open Go.ChangeShapes Go.WideShapes Go.ChangeAt Go.RowKit

set_option maxHeartbeats 6400000 in
theorem quTake_step (m : Nat) (w : World) (T : List Nat) (F : FuncId) (fi ca : Array Value) (s : QuS) (st : WSt) (v : Int) (won : Bool) (hw : Wk w m st) (ho : st.over = false) (hs : st.sub = none) (hu : st.under = 1) (hT : ∀ k ∈ T, k < w.heap.size ∧ k ≠ m) (hE : quE m w T (.func (.func F) fi ca) st.outer s) (hv : M.U v)
    (hov : s.over = none) (hsub : s.sub = none) (hputs : s.puts = false) :
    Calls Tryz.prog F (fi ++ (#[.int .u64 v, .bool won] ++ ca)) w fun e w' => e = .returned (.tuple #[]) ∧ GoesN quNest arenaM quJ (quE m) m st (quNest.held s) T (quGiveTake s v won) w w' := by
  obtain ⟨hOk, p, hpT, hn, -, hP⟩ := hE hov
  obtain ⟨en, nd, nx, tl, tk, hK⟩ := hP hputs
  injection hn with e1 e2 e3
  injection e1 with e1
  subst e1 e2 e3
  have hpm := (hT p hpT).2
  have hTm : ∀ k ∈ T, k ≠ m := fun k hk => (hT k hk).2
  have hup : (0 : Int) < st.under := by rw [hu]; decide
  clear hE hP
  obtain ⟨at_, n, puts, l, nodes, k, step, sub, h, t, x, sv, code, inn, over⟩ := s
  simp only at hov hsub hputs
  subst hov hsub hputs
  obtain ⟨hr, uh, ut, ux, uv, -, htake⟩ := hOk
  obtain ⟨hat⟩ := htake rfl
  clear htake
  simp only at hr uh ut ux uv hat
  have a0 : 0 ≤ at_ := hr.2.2.1
  have a1 : at_ < 65536 := by have := hr.2.2.2; have := hr.1; omega
  have hn4 : n ≤ 4096 := hr.2.1
  rcases hat with ⟨a, h1, -⟩ | ⟨-, hin, hat⟩
  · cases h1
  subst hin
  have hout : st.outer = .slice none 0 0 := hK.none_ rfl
  have hheld : ∀ st', quHeld (⟨at_, n, false, l, nodes, k, st', none, h, t, x, sv, code, false, none⟩ : QuS) = [] := fun st' => by simp [quHeld]
  have hrow : Row w p 90 (quTCells m at_ n at_ en nd nx (quM 43 p) (quM 44 p) tl tk) := hK.row
  have nwn : ∀ u, ¬ quWrong n u → 0 ≤ quNode u ∧ quNode u ≤ 4294967296 := fun u hu => by unfold quWrong at hu; have := quNode_nn u; omega
  -- the head is read
  have readHead : ∀ (stp : Int), step = stp → Calls Tryz.prog 89 #[.pointer (some ⟨p, 0, none⟩), .int .u64 v, .bool won] w fun e w' => e = .returned (.tuple #[]) ∧ GoesN quNest arenaM quJ (quE m) m st (quNest.held ⟨at_, n, false, l, nodes, k, stp, none, h, t, x, sv, code, false, none⟩) T (quHead ⟨at_, n, false, l, nodes, k, stp, none, h, t, x, sv, code, false, none⟩ v) w w' := by
    intro stp hst
    subst hst
    by_cases hwv : quWrong n v
    · refine (quReadEndBad m p at_ n at_ en nd nx _ _ _ _ st w v won hw hrow hpm ho hup hv hwv).mono ?_
      rintro e w2 ⟨rfl, hA⟩
      rw [show quHead ⟨at_, n, false, l, nodes, k, step, none, h, t, x, sv, code, false, none⟩ v = ⟨at_, n, false, l, nodes, k, 2, none, v, t, x, sv, code, false, some ⟨9, 0, []⟩⟩ by simp [quHead, hwv, quEnd]]
      exact ⟨rfl, qu_ends hpT rfl (hheld _) hs hout hA⟩
    · have nn := nwn v hwv
      refine quReadEnd 43 m p at_ n at_ en nd nx _ _ _ w v won _ hrow hv hwv (fun _ _ => by kernel_rfl) (fun W1 k1 r1 => ?_)
      refine (quLoadTail m p at_ n at_ v (quNode v) nx _ _ tl tk _ st W1 (hw.keeps k1 (by simpa using Ne.symm hpm)) r1 hpm ho hs a0 a1).mono ?_
      rintro e w2 ⟨rfl, hA0⟩
      have hA := hA0.from (k1.mono (by simp))
      rw [show quHead ⟨at_, n, false, l, nodes, k, step, none, h, t, x, sv, code, false, none⟩ v = ⟨at_, n, false, l, nodes, k, 2, none, v, t, x, sv, code, false, none⟩ by simp [quHead, hwv]]
      refine ⟨rfl, qu_asks (s' := ⟨at_, n, false, l, nodes, k, 2, none, v, t, x, sv, code, false, none⟩) hpT hT rfl rfl (by simp [quWantTake]) (by simp [quHeld]) hA (fun _ => ⟨⟨hr, hv, ut, ux, uv, fun h => (by cases h), fun _ => ⟨.inr ⟨rfl, rfl, .inr (.inl ⟨.inl rfl, hwv⟩)⟩⟩⟩, p, hpT, by simp [quFn], fun h => (by cases h), fun _ => ⟨v, quNode v, nx, tl, tk, ⟨hA.2.1, (fun _ => ⟨rfl, rfl⟩), (fun h => by simp at h), (fun h => by simp at h), (fun h => by simp at h), fun h => (by cases h), fun _ => hout⟩⟩⟩)⟩
  rcases hat with h1 | ⟨h24, hwh⟩ | ⟨h50, hwx⟩ | ⟨h56, hwh, hwx⟩
  · subst h1
    rw [show quGiveTake ⟨at_, n, false, l, nodes, k, 1, none, h, t, x, sv, code, false, none⟩ v won = quHead ⟨at_, n, false, l, nodes, k, 1, none, h, t, x, sv, code, false, none⟩ v by simp [quGiveTake]]
    exact readHead 1 rfl
  · obtain ⟨hen, hnd⟩ := hK.head ⟨by simp only; omega, by simp only; omega⟩
    simp only at hen hnd
    subst hen hnd
    have nn := nwn en hwh
    rcases h24 with h24 | h24 | h24
    · subst h24
      refine (quReadTail m p at_ n at_ en (quNode en) nx _ _ tl tk _ st w v won hw hrow hpm ho hs hr nn.1 nn.2).mono ?_
      rintro e w2 ⟨rfl, hA⟩
      refine ⟨rfl, qu_asks (s' := ⟨at_, n, false, l, nodes, k, 3, none, en, v, x, sv, code, false, none⟩) hpT hT rfl rfl (by simp [quWantTake]) (by simp [quHeld]) hA (fun _ => ⟨⟨hr, uh, hv, ux, uv, fun h => (by cases h), fun _ => ⟨.inr ⟨rfl, rfl, .inr (.inl ⟨.inr (.inl rfl), hwh⟩)⟩⟩⟩, p, hpT, by simp [quFn], fun h => (by cases h), fun _ => ⟨en, quNode en, nx, v, tk, ⟨hA.2.1, (fun _ => ⟨rfl, rfl⟩), (fun h => by simp at h), (fun _ => rfl), (fun h => by simp at h), fun h => (by cases h), fun _ => hout⟩⟩⟩)⟩
    · subst h24
      have htl := hK.tail (.inl rfl)
      simp only at htl
      subst htl
      refine (quReadNext m p at_ n at_ en (quNode en) nx _ _ _ _ st w v won hw hrow hpm ho hs).mono ?_
      rintro e w2 ⟨rfl, hA⟩
      refine ⟨rfl, qu_asks (s' := ⟨at_, n, false, l, nodes, k, 4, none, en, tl, v, sv, code, false, none⟩) hpT hT rfl rfl (by simp [quWantTake]) (by simp [quHeld]) hA (fun _ => ⟨⟨hr, uh, ut, hv, uv, fun h => (by cases h), fun _ => ⟨.inr ⟨rfl, rfl, .inr (.inl ⟨.inr (.inr rfl), hwh⟩)⟩⟩⟩, p, hpT, by simp [quFn], fun h => (by cases h), fun _ => ⟨en, quNode en, v, tl, tk, ⟨hA.2.1, (fun _ => ⟨rfl, rfl⟩), (fun _ => rfl), (fun _ => rfl), (fun h => by simp at h), fun h => (by cases h), fun _ => hout⟩⟩⟩)⟩
    · subst h24
      have htl := hK.tail (.inr rfl)
      have hnx := hK.next (.inl rfl)
      simp only at htl hnx
      subst htl hnx
      by_cases hvt : v = en
      · subst hvt
        refine quReadAgainSame 44 m p at_ n at_ v (quNode v) nx _ _ _ w won _ hrow (fun _ _ => by kernel_rfl) ?_
        rw [show quGiveTake ⟨at_, n, false, l, nodes, k, 4, none, v, tl, nx, sv, code, false, none⟩ v won = quFive ⟨at_, n, false, l, nodes, k, 4, none, v, tl, nx, sv, code, false, none⟩ by simp [quGiveTake]]
        by_cases hz : quNode nx = 0
        · by_cases hl : quNode tl = quNode v
          · rw [show quFive ⟨at_, n, false, l, nodes, k, 4, none, v, tl, nx, sv, code, false, none⟩ = ⟨at_, n, false, l, nodes, k, 4, none, v, tl, nx, sv, code, false, some ⟨5, 0, []⟩⟩ by simp [quFive, hz, hl, quEnd]]
            refine (quChooseEmpty m p at_ n at_ v (quNode v) nx _ _ tl tk _ st w hw hrow hpm ho hup hz hl ux ut).mono ?_
            rintro e w2 ⟨rfl, hA⟩
            exact ⟨rfl, qu_ends hpT rfl (by simp [quHeld]) hs hout hA⟩
          · rw [show quFive ⟨at_, n, false, l, nodes, k, 4, none, v, tl, nx, sv, code, false, none⟩ = ⟨at_, n, false, l, nodes, k, 1, none, v, tl, nx, sv, code, false, none⟩ by simp [quFive, hz, hl]]
            refine (quChooseAgain m p at_ n at_ v (quNode v) nx _ _ tl tk _ st w hw hrow hpm ho hs hz hl ux ut).mono ?_
            rintro e w2 ⟨rfl, hA⟩
            refine ⟨rfl, qu_asks (s' := ⟨at_, n, false, l, nodes, k, 1, none, v, tl, nx, sv, code, false, none⟩) hpT hT rfl rfl (by simp [quWantTake]) (by simp [quHeld]) hA (fun _ => ⟨⟨hr, uh, ut, ux, uv, fun h => (by cases h), fun _ => ⟨.inr ⟨rfl, rfl, .inl rfl⟩⟩⟩, p, hpT, by simp [quFn], fun h => (by cases h), fun _ => ⟨v, quNode v, nx, tl, tk, ⟨hA.2.1, (fun h => by simp at h), (fun h => by simp at h), (fun h => by simp at h), (fun h => by simp at h), fun h => (by cases h), fun _ => hout⟩⟩⟩)⟩
        · by_cases hb : quWrong n nx
          · rw [show quFive ⟨at_, n, false, l, nodes, k, 4, none, v, tl, nx, sv, code, false, none⟩ = ⟨at_, n, false, l, nodes, k, 4, none, v, tl, nx, sv, code, false, some ⟨9, 0, []⟩⟩ by simp [quFive, hz, hb, quEnd]]
            by_cases hl : quNode tl = quNode v
            · refine (quChooseMoveBad m p at_ n at_ v (quNode v) nx _ _ tl tk _ st w hw hrow hpm ho hup hz hb hl ux ut).mono ?_
              rintro e w2 ⟨rfl, hA⟩
              exact ⟨rfl, qu_ends hpT rfl (by simp [quHeld]) hs hout hA⟩
            · refine (quChooseBad m p at_ n at_ v (quNode v) nx _ _ tl tk _ st w hw hrow hpm ho hup hz hb hl ux ut).mono ?_
              rintro e w2 ⟨rfl, hA⟩
              exact ⟨rfl, qu_ends hpT rfl (by simp [quHeld]) hs hout hA⟩
          · by_cases hl : quNode tl = quNode v
            · rw [show quFive ⟨at_, n, false, l, nodes, k, 4, none, v, tl, nx, sv, code, false, none⟩ = ⟨at_, n, false, l, nodes, k, 50, none, v, tl, nx, sv, code, false, none⟩ by simp [quFive, hz, hl, hb]]
              refine (quChooseMove m p at_ n at_ v (quNode v) nx _ _ tl tk _ st w hw hrow hpm ho hs hz hb hl a0 a1 ux ut).mono ?_
              rintro e w2 ⟨rfl, hA⟩
              refine ⟨rfl, qu_asks (s' := ⟨at_, n, false, l, nodes, k, 50, none, v, tl, nx, sv, code, false, none⟩) hpT hT rfl rfl (by simp [quWantTake]) (by simp [quHeld]) hA (fun _ => ⟨⟨hr, uh, ut, ux, uv, fun h => (by cases h), fun _ => ⟨.inr ⟨rfl, rfl, .inr (.inr (.inl ⟨rfl, hb⟩))⟩⟩⟩, p, hpT, by simp [quFn], fun h => (by cases h), fun _ => ⟨v, quNode v, nx, tl, tk, ⟨hA.2.1, (fun h => by simp at h), (fun h => by simp at h), (fun h => by simp at h), (fun h => by simp at h), fun h => (by cases h), fun _ => hout⟩⟩⟩)⟩
            · rw [show quFive ⟨at_, n, false, l, nodes, k, 4, none, v, tl, nx, sv, code, false, none⟩ = ⟨at_, n, false, l, nodes, k, 5, none, v, tl, nx, sv, code, false, none⟩ by simp [quFive, hz, hl, hb]]
              refine (quChooseTask m p at_ n at_ v (quNode v) nx _ _ tl tk _ st w hw hrow hpm ho hs hz hb hl hr ux ut).mono ?_
              rintro e w2 ⟨rfl, hA⟩
              refine ⟨rfl, qu_asks (s' := ⟨at_, n, false, l, nodes, k, 5, none, v, tl, nx, sv, code, false, none⟩) hpT hT rfl rfl (by simp [quWantTake]) (by simp [quHeld]) hA (fun _ => ⟨⟨hr, uh, ut, ux, uv, fun h => (by cases h), fun _ => ⟨.inr ⟨rfl, rfl, .inr (.inr (.inr ⟨.inl rfl, hwh, hb⟩))⟩⟩⟩, p, hpT, by simp [quFn], fun h => (by cases h), fun _ => ⟨v, quNode v, nx, tl, tk, ⟨hA.2.1, (fun _ => ⟨rfl, rfl⟩), (fun _ => rfl), (fun h => by simp at h), (fun h => by simp at h), fun h => (by cases h), fun _ => hout⟩⟩⟩)⟩
      · rw [show quGiveTake ⟨at_, n, false, l, nodes, k, 4, none, en, tl, nx, sv, code, false, none⟩ v won = quHead ⟨at_, n, false, l, nodes, k, 4, none, en, tl, nx, sv, code, false, none⟩ v by simp [quGiveTake, hvt]]
        exact quReadAgainNew m p at_ n at_ en (quNode en) nx _ _ _ _ w v won _ hrow hvt (readHead 4 rfl)
  · subst h50
    rw [show quGiveTake ⟨at_, n, false, l, nodes, k, 50, none, h, t, x, sv, code, false, none⟩ v won = ⟨at_, n, false, l, nodes, k, 1, none, h, t, x, sv, code, false, none⟩ by simp [quGiveTake]]
    refine (quAnew m p at_ n at_ en nd nx _ _ _ _ st w v won hw hrow hpm ho hs).mono ?_
    rintro e w2 ⟨rfl, hA⟩
    refine ⟨rfl, qu_asks (s' := ⟨at_, n, false, l, nodes, k, 1, none, h, t, x, sv, code, false, none⟩) hpT hT rfl rfl (by simp [quWantTake]) (by simp [quHeld]) hA (fun _ => ⟨⟨hr, uh, ut, ux, uv, fun h => (by cases h), fun _ => ⟨.inr ⟨rfl, rfl, .inl rfl⟩⟩⟩, p, hpT, by simp [quFn], fun h => (by cases h), fun _ => ⟨en, nd, nx, tl, tk, ⟨hA.2.1, (fun h => by simp at h), (fun h => by simp at h), (fun h => by simp at h), (fun h => by simp at h), fun h => (by cases h), fun _ => hout⟩⟩⟩)⟩
  · obtain ⟨hen, hnd⟩ := hK.head ⟨by simp only; omega, by simp only; omega⟩
    have hnx := hK.next (.inr (by simpa using h56))
    simp only at hen hnd hnx
    subst hen hnd hnx
    have nn := nwn en hwh
    have hwh' : 1 ≤ quNode en ∧ quNode en ≤ n := by unfold quWrong at hwh; omega
    rcases h56 with h56 | h56
    · subst h56
      rw [show quGiveTake ⟨at_, n, false, l, nodes, k, 5, none, en, t, nx, sv, code, false, none⟩ v won = ⟨at_, n, false, l, nodes, k, 6, none, en, t, nx, v, code, false, none⟩ by simp [quGiveTake]]
      refine (quClaim m p at_ n at_ en (quNode en) nx _ _ tl tk _ st w v won hw hrow hpm ho hs ux uh).mono ?_
      rintro e w2 ⟨rfl, hA⟩
      refine ⟨rfl, qu_asks (s' := ⟨at_, n, false, l, nodes, k, 6, none, en, t, nx, v, code, false, none⟩) hpT hT rfl rfl (by simp [quWantTake]) (by simp [quHeld]) hA (fun _ => ⟨⟨hr, uh, ut, ux, hv, fun h => (by cases h), fun _ => ⟨.inr ⟨rfl, rfl, .inr (.inr (.inr ⟨.inr rfl, hwh, hwx⟩))⟩⟩⟩, p, hpT, by simp [quFn], fun h => (by cases h), fun _ => ⟨en, quNode en, nx, tl, v, ⟨hA.2.1, (fun _ => ⟨rfl, rfl⟩), (fun _ => rfl), (fun h => by simp at h), (fun _ => rfl), fun h => (by cases h), fun _ => hout⟩⟩⟩)⟩
    · subst h56
      have htk := hK.task rfl
      simp only at htk
      subst htk
      cases won with
      | false =>
        rw [show quGiveTake ⟨at_, n, false, l, nodes, k, 6, none, en, t, nx, tk, code, false, none⟩ v false = ⟨at_, n, false, l, nodes, k, 1, none, en, t, nx, tk, code, false, none⟩ by simp [quGiveTake]]
        refine (quClaimedNo m p at_ n at_ en (quNode en) nx _ _ tl tk _ st w v hw hrow hpm ho hs).mono ?_
        rintro e w2 ⟨rfl, hA⟩
        refine ⟨rfl, qu_asks (s' := ⟨at_, n, false, l, nodes, k, 1, none, en, t, nx, tk, code, false, none⟩) hpT hT rfl rfl (by simp [quWantTake]) (by simp [quHeld]) hA (fun _ => ⟨⟨hr, uh, ut, ux, uv, fun h => (by cases h), fun _ => ⟨.inr ⟨rfl, rfl, .inl rfl⟩⟩⟩, p, hpT, by simp [quFn], fun h => (by cases h), fun _ => ⟨en, quNode en, nx, tl, tk, ⟨hA.2.1, (fun h => by simp at h), (fun h => by simp at h), (fun h => by simp at h), (fun h => by simp at h), fun h => (by cases h), fun _ => hout⟩⟩⟩)⟩
      | true =>
        rw [show quGiveTake ⟨at_, n, false, l, nodes, k, 6, none, en, t, nx, tk, code, false, none⟩ v true = ⟨at_, n, false, l, nodes, k, 6, some (arPut (at_ + 2) n (quNode en)), en, t, nx, tk, code, true, none⟩ by simp [quGiveTake]]
        refine (quClaimed m p at_ n at_ en (quNode en) nx _ _ tl tk _ st w v hw hrow hpm ho hs hout hr hwh'.1 hwh'.2).mono ?_
        rintro e w2 ⟨rfl, w1, tv, ov, g, o, b, htv, hwt, ⟨hg, hoo, hb⟩, hbo, hdis, k1, b', S2, i1, i2, i3, i4, i5⟩
        have hmlt := hw.lt
        have hplt := hrow.lt
        have z1 := k1.size
        have z5 := i5.size
        have hgl := hwt.row.lt
        have hol := hwt.wk.lt
        have hbl := hwt.box.lt
        have htvl := fun y hy => htv.lt y hy
        have kall : Keeps [m, p] w w2 := (k1.mono (by simp)).trans i5
        have htv2 : w2.ownsRow w.heap.size 49 1 tv 1 [.int .u64 tk] := owns_keeps htv i5 (fun y hy => by have := (htvl y hy).1; simp; omega)
        have hwt2 : quWatch w2 m p g o b ov := hwt.keeps i5 (by simp; omega) (by simp; omega) (by simp; omega)
        have hovok : (arPut (at_ + 2) n (quNode en)).over = none := by simp [arPut, hr.ar, hwh']
        have haok : arOk (arPut (at_ + 2) n (quNode en)) := ⟨hr.ar, fun _ => hwh', .inl rfl, (show M.U 0 from ⟨by decide, by decide⟩), (show M.U 0 from ⟨by decide, by decide⟩), fun h => absurd rfl h⟩
        refine ⟨rfl, kall.mono (by intro k hk _; simp at hk; rcases hk with rfl | rfl; simp; simp [hpT]), tv, ov, .inr (.inl ⟨b', arPut (at_ + 2) n (quNode en), S2, _, _, _, g :: o :: b :: T, by simp [quNest], rfl, .inr ⟨by simp [quNest, quHeld], by simpa [quNest, quHeld, ints] using htv2⟩, i1, quInner m b', i2, fun y hy => ⟨Nat.le_trans z1 (i3 y hy), .inr (fun h => by have := (htvl y h).2; have := i3 y hy; omega), fun hT2 => ?_⟩, fun _ => ⟨⟨hr, uh, ut, ux, uv, fun h => (by cases h), fun _ => ⟨.inl ⟨_, rfl, hovok, haok, rfl, rfl⟩⟩⟩, p, by simp [hpT], by simp [quFn], fun h => (by cases h), fun _ => ⟨en, quNode en, nx, tl, tk, ⟨i4, fun _ => ⟨rfl, rfl⟩, fun _ => rfl, fun h => by simp at h, fun _ => rfl, fun _ => ⟨g, o, b, hwt2, by simp, hbo, by omega, by omega, by omega⟩, fun h => (by cases h)⟩⟩⟩, fun y hy => ?_, fun y hy => ?_⟩)⟩
        · have hh := i3 y hy
          simp only [List.mem_cons] at hT2
          rcases hT2 with rfl | rfl | rfl | hT2
          · omega
          · omega
          · omega
          · have := (hT y hT2).1; omega
        · simp only [List.mem_cons] at hy
          rcases hy with rfl | rfl | rfl | hy
          · omega
          · omega
          · omega
          · have := (hT y hy).1; omega
        · simp only [List.mem_cons] at hy
          rcases hy with rfl | rfl | rfl | hy
          · exact ⟨by omega, .inr ⟨by omega, .inr (fun h => (hdis _ h).1 rfl)⟩⟩
          · exact ⟨by omega, .inr ⟨by omega, .inr (fun h => (hdis _ h).2.1 rfl)⟩⟩
          · exact ⟨by omega, .inr ⟨by omega, .inr (fun h => (hdis _ h).2.2 rfl)⟩⟩
          · exact ⟨(hT y hy).2, .inl hy⟩

theorem nodes_at_ok {nodes : List Int} {n : Int} (h : ∀ i ∈ nodes, 1 ≤ i ∧ i ≤ n) {j : Nat} (hj : j < nodes.length) : 1 ≤ nodes.getD j 0 ∧ nodes.getD j 0 ≤ n := by
  rw [show nodes.getD j 0 = nodes[j] by simp [List.getD, hj]]; exact h _ (List.getElem_mem hj)
theorem arPut_ok {at_ n i : Int} (hr : arRight at_ n) (h1 : 1 ≤ i) (h2 : i ≤ n) : (arPut at_ n i).over = none ∧ arOk (arPut at_ n i) :=
  ⟨by simp [arPut, hr, h1, h2], hr, fun _ => ⟨h1, h2⟩, .inl rfl, (show M.U 0 from ⟨by decide, by decide⟩), (show M.U 0 from ⟨by decide, by decide⟩), fun h => absurd rfl h⟩
theorem arTake_ok {at_ n : Int} (hr : arRight at_ n) : (arTake at_ n).over = none ∧ arOk (arTake at_ n) :=
  ⟨by simp [arTake, hr], hr, fun h => (by cases h), .inl rfl, (show M.U 0 from ⟨by decide, by decide⟩), (show M.U 0 from ⟨by decide, by decide⟩), fun h => absurd rfl h⟩

set_option maxHeartbeats 3200000 in
/-- It puts nodes back: from where its record says that those from k on are there still. -/
theorem quPutBack_goes (m p : Nat) (w W : World) (T : List Nat) (at_ n : Int) (l nodes : List Int) (k : Nat) (h t x sv code : Int) (en nd nx : Int) (tv : Value) (q : Option Addr) (nl nc : Nat) (dn : Int) (st : WSt) (hw : Wk W m st) (ho : st.over = false) (hs : st.sub = none) (hu : st.under = 1)
    (hT : ∀ k ∈ T, k < w.heap.size ∧ k ≠ m) (hpT : p ∈ T) (hr : quRight at_ n) (uh : M.U h) (ut : M.U t) (ux : M.U x) (uv : M.U sv) (few : 1 ≤ l.length ∧ l.length ≤ 300) (words : ∀ u ∈ l, M.U u) (nodesOk : ∀ i ∈ nodes, 1 ≤ i ∧ i ≤ n) (hlt : nodes.length < l.length) (hk : k ≤ nodes.length)
    (hkW : Keeps [p] w W) (hrow : Row W p 80 (quPCells m at_ n (at_ + 1) en nd nx (quM 32 p) (quM 33 p) tv (.slice q nl nc) dn code))
    (hcap : nl ≤ nc) (hnl : nl = nodes.length - k) (hSl : Sl W 1 (.slice q nl nc) nl (ints .i64 (nodes.drop k))) (hnIn : ∀ g, (Value.slice q nl nc).ownBlock = some g → g ∈ T ∧ g ≠ p)
    (hts : Sl W 1 tv l.length (ints .u64 l)) (htIn : ∀ g, tv.ownBlock = some g → g ∈ T ∧ g ≠ p) (hseen : quSeen W m p T st.outer) :
    Calls Tryz.prog 118 #[.pointer (some ⟨p, 0, none⟩)] W fun e w' => e = .returned (.tuple #[]) ∧ GoesN quNest arenaM quJ (quE m) m st l T (quBack ⟨at_, n, true, l, nodes, k, 10, none, h, t, x, sv, code, false, none⟩) w w' := by
  have hpm := (hT p hpT).2
  have hTm : ∀ k ∈ T, k ≠ m := fun k hk => (hT k hk).2
  have hTW : ∀ k ∈ T, k < W.heap.size ∧ k ≠ m := fun k hk => ⟨Nat.lt_of_lt_of_le (hT k hk).1 hkW.size, (hT k hk).2⟩
  have hkW' : Keeps (m :: T) w W := hkW.mono (by intro k hk _; simp at hk; subst hk; simp [hpT])
  have hheld : quNest.held (⟨at_, n, true, l, nodes, k, 10, none, h, t, x, sv, code, false, none⟩ : QuS) = l := by simp [quNest, quHeld]
  by_cases he : k = nodes.length
  · have h0 : nl = 0 := by omega
    subst h0
    rw [show quBack ⟨at_, n, true, l, nodes, k, 10, none, h, t, x, sv, code, false, none⟩ = ⟨at_, n, true, l, nodes, k, 10, none, h, t, x, sv, code, false, some ⟨code, 0, []⟩⟩ by simp [quBack, he, quEnd]]
    refine (quPutBackEnd m p at_ n (at_ + 1) en nd nx _ _ tv dn code q nc _ st W hw hrow hpm ho (by rw [hu]; decide)).mono ?_
    rintro e w2 ⟨rfl, hA⟩
    have hG := qu_ends_seen (s := ⟨at_, n, true, l, nodes, k, 10, none, h, t, x, sv, code, false, none⟩) (s' := ⟨at_, n, true, l, nodes, k, 10, none, h, t, x, sv, code, false, some ⟨code, 0, []⟩⟩) hpT hTW rfl hs hseen hA
    rw [hheld] at hG
    exact ⟨rfl, GoesN.from _ _ _ _ hG hkW'⟩
  · have hlt' : k < nodes.length := by omega
    obtain ⟨j, rfl⟩ : ∃ j, nl = j + 1 := ⟨nl - 1, by omega⟩
    obtain ⟨nb, no, rfl, hnb, hnown, hcell⟩ := sl_at hSl (by omega)
    have nk := nodes_at_ok nodesOk hlt'
    have hg0 : (nodes.drop k).getD 0 0 = nodes.getD k 0 := by simp [List.getD]
    have c0 := hcell 0 (by omega)
    rw [hg0] at c0
    rw [show quBack ⟨at_, n, true, l, nodes, k, 10, none, h, t, x, sv, code, false, none⟩ = ⟨at_, n, true, l, nodes, k + 1, 10, some (arPut (at_ + 2) n (nodes.getD k 0)), h, t, x, sv, code, false, none⟩ by simp [quBack, he]]
    have hsl : ∃ q i c, st.outer = .slice q i c := by obtain ⟨g, o, b, h1, -⟩ := hseen; obtain ⟨c, h⟩ := h1.ov_; exact ⟨_, _, _, h⟩
    refine (quPutBackMore m p at_ n (at_ + 1) en nd nx _ _ tv dn code nb no nc j _ st W (nodes.getD k 0) hw hrow hpm ho hs hsl hr c0 nk.1 nk.2 (by omega) hcap).mono ?_
    rintro e w2 ⟨rfl, o, ho1, b, S2, i1, i2, i3, i4, i5⟩
    have hnbT := hnIn nb hnown
    obtain ⟨a1, a2⟩ := arPut_ok hr.ar nk.1 nk.2
    have hG : GoesN quNest arenaM quJ (quE m) m st (quNest.held (⟨at_, n, true, l, nodes, k, 10, none, h, t, x, sv, code, false, none⟩ : QuS)) T ⟨at_, n, true, l, nodes, k + 1, 10, some (arPut (at_ + 2) n (nodes.getD k 0)), h, t, x, sv, code, false, none⟩ W w2 :=
      qu_into (e := 80) hpT hTW rfl rfl (by simp [quHeld]) ⟨b, S2, i1, i2, i3, i4, i5⟩ (fun _ => ⟨⟨hr, uh, ut, ux, uv, fun _ => ⟨few, words, nodesOk, .inl ⟨_, rfl, a1, a2, rfl, hlt, .inr ⟨rfl, by show k + 1 ≤ nodes.length; omega⟩⟩⟩, fun h => by cases h⟩, p, hpT, by simp [quFn], fun _ => ⟨en, nd, nx, tv, _, dn, code, ⟨i4, fun h => by simp at h, fun h => by simp at h, hts.but i5 (fun g hg => by have := htIn g hg; simp; exact ⟨hTm g this.1, this.2⟩), htIn, fun h => by simp at h, fun _ => ⟨_, j, nc - 1, rfl, by omega, by simp; omega, ?_⟩, fun g hg => by cases hg; exact hnbT, fun h => by simp at h, fun h => by simp at h, fun _ => rfl, (fun h => by simp at h), hseen.keeps i5 (fun k hk' hne => by simp; exact ⟨hTm k hk', hne⟩)⟩⟩, fun h => by cases h⟩)
    · rw [hheld] at hG
      exact ⟨rfl, GoesN.from _ _ _ _ hG hkW'⟩
    · simp only [if_true]
      refine ⟨by simp [ints]; omega, .inr ⟨nb, o, nc - 1, rfl, Nat.lt_of_lt_of_le hnb i5.size, fun i u hu => ?_⟩⟩
      have hil : i < j := by
        have := (List.getElem?_eq_some_iff.1 hu).1
        simp [ints] at this
        omega
      rcases ho1 with h0 | h0
      · omega
      · subst h0
        have hc := hcell (i + 1) (by omega)
        have hc2 := (i5.cell (p := ⟨nb, no + (i + 1), none⟩) hnb (by simp; exact ⟨hTm nb hnbT.1, hnbT.2⟩)).trans hc
        rw [show no + 1 + i = no + (i + 1) by omega, hc2, ← hu]
        simp [ints, List.getD, List.getElem?_drop, show k + (i + 1) = k + 1 + i by omega, show k + 1 + i < nodes.length by omega]

set_option maxHeartbeats 6400000 in
theorem quLeft_step (m : Nat) (w : World) (T : List Nat) (F : FuncId) (fi ca : Array Value) (s : QuS) (st : WSt) (a : ArS) (v : Int) (won : Bool) (r : Rs) (rq : Option Addr) (rc : Nat) (hw : Wk w m st) (ho : st.over = false) (hs : st.sub = none) (hu : st.under = 1) (hT : ∀ k ∈ T, k < w.heap.size ∧ k ≠ m) (hE : quE m w T (.func (.func F) fi ca) st.outer s) (hv : M.U v)
    (hov : s.over = none) (hsub : s.sub = some a) (ha : a.over = none) (hres : (arGive a v won).over = some r) :
    Calls Tryz.prog F (fi.push (.agg #[.int .i64 r.code, .int .u64 r.v, .slice rq r.l.length rc]) ++ ca) w fun e w' => e = .returned (.tuple #[]) ∧ GoesN quNest arenaM quJ (quE m) m st (quNest.held s) T (quLeft s r) w w' := by
  obtain ⟨hOk, p, hpT, hn, hP, hP'⟩ := hE hov
  injection hn with e1 e2 e3
  injection e1 with e1
  subst e1 e2 e3
  have hpm := (hT p hpT).2
  have hTm : ∀ k ∈ T, k ≠ m := fun k hk => (hT k hk).2
  have hup : (0 : Int) < st.under := by rw [hu]; decide
  clear hE
  obtain ⟨at_, n, puts, l, nodes, k, step, sub, h, t, x, sv, code, inn, over⟩ := s
  simp only at hov hsub
  subst hov hsub
  obtain ⟨hr, uh, ut, ux, uv, hput, htake⟩ := hOk
  simp only at hr uh ut ux uv
  have hn4 : n ≤ 4096 := hr.2.1
  cases puts with
  | false =>
    obtain ⟨en, nd, nx, tl, tk, hK⟩ := hP' rfl
    obtain ⟨hat⟩ := htake rfl
    rcases hat with ⟨a', h1, h2, h3, hin, hst⟩ | ⟨h1, -⟩
    · simp only at hin hst
      subst hin hst
      have htk := hK.task rfl
      simp only at htk
      subst htk
      have hrow : Row w p 90 (quTCells m at_ n at_ en nd nx (quM 43 p) (quM 44 p) tl tk) := hK.row
      refine (quTakeFinish m p at_ n at_ en nd nx _ _ tl tk _ st w r.code r.v rq r.l.length rc hw hrow hpm ho hup).mono ?_
      rintro e w2 ⟨rfl, hA⟩
      refine ⟨rfl, qu_ends_seen hpT hT ?_ hs (hK.seen rfl) hA⟩
      simp [quLeft, quEnd]
    · cases h1
  | true =>
    obtain ⟨en, nd, nx, tv, nv, dn, cd, hK⟩ := hP rfl
    obtain ⟨few, words, nodesOk, hat⟩ := hput rfl
    simp only at few words nodesOk hat
    rcases hat with ⟨a', h1, h2, h3, hin, hlt, hph⟩ | ⟨h1, -⟩
    · cases h1
      subst hin
      have hts : Sl w 1 tv l.length (ints .u64 l) := hK.tasks
      obtain ⟨rl, rU, rn⟩ := arRes_give h3 ha hres
      have hsl : ∃ q i c, st.outer = .slice q i c := by obtain ⟨g, o, b, h1, -⟩ := hK.seen; obtain ⟨c, h⟩ := h1.ov_; exact ⟨_, _, _, h⟩
      rcases hph with ⟨hst, hap, han, hk0⟩ | ⟨hst, hk⟩
      · -- it takes nodes
        subst hst hk0
        obtain ⟨hown, hdn⟩ := hK.grows rfl
        simp only at hown hdn
        subst hdn
        have hrow : Row w p 80 (quPCells m at_ n (at_ + 1) en nd nx (quM 32 p) (quM 33 p) tv nv 0 cd) := hK.row
        by_cases hc : r.code = 0
        · have hrn := rn hap hc
          rw [han] at hrn
          obtain ⟨tq, tc, htv⟩ := hts.len
          subst htv
          rw [hc]
          have hnp : ∀ g, nv.ownBlock = some g → g ≠ p := fun g hg => (hK.nodesIn g hg).2
          have nodesOk' : ∀ i ∈ nodes ++ [r.v], 1 ≤ i ∧ i ≤ n := fun i hi => by
            rcases List.mem_append.1 hi with h | h
            · exact nodesOk i h
            · simp at h; subst h; exact hrn
          obtain ⟨more, hmore⟩ : ∃ b, decide (nodes.length + 1 < l.length) = b := ⟨_, rfl⟩
          have hown' : w.ownsRow 0 3 1 nv nodes.length (ints .i64 nodes) := hown
          refine quTook more m p at_ n (at_ + 1) en nd nx _ _ nv 0 cd _ w r.v rq r.l.length rc tq l.length tc nodes.length nodes _ hrow hown' hnp (by omega) (by omega) (by omega) (by omega) hmore (fun W nv' kW rW oW fW => ?_)
          -- what it knows then
          have hwW : Wk W m st := hw.keeps kW (by simp only [List.mem_cons, ownBlock_toList, not_or]; exact ⟨Ne.symm hpm, fun h => hTm m (hK.nodesIn m h).1 rfl⟩)
          obtain ⟨hap1, T', hT', hsn⟩ := hK.apart rfl
          have hsnW : quSeen W m p T' st.outer := hsn.keeps kW (fun k hk' hne => by simp only [List.mem_cons, ownBlock_toList, not_or]; exact ⟨hne, (hT' k hk').2⟩)
          have htsW : Sl W 1 (.slice tq l.length tc) l.length (ints .u64 l) := hts.but kW (fun g hg => by simp only [List.mem_cons, ownBlock_toList, not_or]; exact ⟨(hK.tasksIn g hg).2, fun h => hap1 g h hg⟩)
          have zW := kW.size
          have kWT : Keeps (m :: T) w W := kW.mono (fun k hk' _ => by
            rcases List.mem_cons.1 hk' with rfl | h
            · exact List.mem_cons_of_mem _ hpT
            · exact List.mem_cons_of_mem _ (hK.nodesIn k ((ownBlock_toList _ _).1 h)).1)
          have hnv' : ∀ g, nv'.ownBlock = some g → (g ∈ T ∨ w.heap.size ≤ g) ∧ g ≠ p ∧ g ≠ m ∧ g < W.heap.size := fun g hg => by
            have hgl := (oW.lt g hg).2
            rcases fW g hg with h | h
            · have := hK.nodesIn g h
              exact ⟨.inl this.1, this.2, hTm g this.1, hgl⟩
            · have := (hT p hpT).1; have := hw.lt; exact ⟨.inr h, by omega, by omega, hgl⟩
          have hT2 : ∀ k ∈ nv'.ownBlock.toList ++ T, k < W.heap.size ∧ k ≠ m := fun k hk' => by
            rcases List.mem_append.1 hk' with h | h
            · have := hnv' k ((ownBlock_toList _ _).1 h); exact ⟨this.2.2.2, this.2.2.1⟩
            · exact ⟨Nat.lt_of_lt_of_le (hT k h).1 zW, hTm k h⟩
          have hT3 : ∀ k ∈ nv'.ownBlock.toList ++ T, k ≠ m ∧ (k ∈ T ∨ w.heap.size ≤ k) := fun k hk' => by
            refine ⟨(hT2 k hk').2, ?_⟩
            rcases List.mem_append.1 hk' with h | h
            · exact (hnv' k ((ownBlock_toList _ _).1 h)).1
            · exact .inl h
          have hT'2 : ∀ k ∈ T', k ∈ nv'.ownBlock.toList ++ T := fun k hk' => List.mem_append_right _ (hT' k hk').1
          have hTn : ∀ k ∈ T', nv'.ownBlock ≠ some k := fun k hk' h => by
            rcases fW k h with h | h
            · exact (hT' k hk').2 h
            · have := (hT k (hT' k hk').1).1; omega
          have hlen' : (nodes ++ [r.v]).length = nodes.length + 1 := by simp
          cases more with
          | true =>
            have hm := of_decide_eq_true hmore
            rw [show quLeft ⟨at_, n, true, l, nodes, 0, 1, some a, h, t, x, sv, code, false, none⟩ r = ⟨at_, n, true, l, nodes ++ [r.v], 0, 1, some (arTake (at_ + 2) n), h, t, x, sv, code, false, none⟩ by simp [quLeft, hc, hm]]
            obtain ⟨b1, b2⟩ := arTake_ok hr.ar
            refine (quTakeNode m p at_ n (at_ + 1) en nd nx _ _ _ nv' 0 cd _ st W hwW rW hpm ho hs hsl hr).mono ?_
            rintro e w2 ⟨rfl, b, S2, i1, i2, i3, i4, i5⟩
            refine ⟨rfl, kWT.trans (i5.mono (by intro k hk' _; simp at hk'; rcases hk' with rfl | rfl; simp; simp [hpT])), st.tasks, st.outer, .inr (.inl ⟨b, arTake (at_ + 2) n, S2, _, _, _, nv'.ownBlock.toList ++ T, by simp [quNest], rfl, .inl ⟨rfl, by simp [quNest, quHeld]⟩, i1, quInner m b, i2, fun y hy => ⟨Nat.le_trans zW (i3 y hy), .inl rfl, fun h => by have := (hT2 y h).1; have := i3 y hy; omega⟩, fun _ => ⟨⟨hr, uh, ut, ux, uv, fun _ => ⟨few, words, nodesOk', .inl ⟨_, rfl, b1, b2, rfl, by show (nodes ++ [r.v]).length < l.length; omega, .inl ⟨rfl, rfl, rfl, rfl⟩⟩⟩, fun h => by cases h⟩, p, List.mem_append_right _ hpT, by simp [quFn], fun _ => ⟨en, nd, nx, _, nv', 0, cd, ⟨i4, fun h => by simp at h, fun h => by simp at h, ?_, fun g hg => ⟨List.mem_append_right _ (hK.tasksIn g hg).1, (hK.tasksIn g hg).2⟩, fun _ => ⟨?_, rfl⟩, fun h => by simp at h, fun g hg => ⟨List.mem_append_left _ ((ownBlock_toList _ _).2 hg), (hnv' g hg).2.1⟩, fun h => by simp at h, fun h => by simp at h, fun h => by simp at h, fun _ => ⟨?_, T', fun k hk' => ⟨hT'2 k hk', hTn k hk'⟩, ?_⟩, ?_⟩⟩, fun h => by cases h⟩, fun k hk' => Nat.lt_of_lt_of_le (hT2 k hk').1 i5.size, fun k hk' => ⟨(hT3 k hk').1, (hT3 k hk').2.imp_right fun h => ⟨h, .inl rfl⟩⟩⟩)⟩
            · exact htsW.but i5 (fun g hg => by have := hK.tasksIn g hg; simp; exact ⟨hTm g this.1, this.2⟩)
            · simp only [hlen']
              exact owns_keeps oW i5 (fun g hg => by have := hnv' g hg; simp; exact ⟨this.2.2.1, this.2.1⟩)
            · intro g hg hg'
              rcases fW g hg with h | h
              · exact hap1 g h hg'
              · have := (hT g (hK.tasksIn g hg').1).1; omega
            · exact hsnW.keeps i5 (fun k hk' hne => by simp; exact ⟨hTm k (hT' k hk').1, hne⟩)
            · exact (hsnW.keeps i5 (fun k hk' hne => by simp; exact ⟨hTm k (hT' k hk').1, hne⟩)).mono hT'2
          | false =>
            have hm := of_decide_eq_false hmore
            rw [show quLeft ⟨at_, n, true, l, nodes, 0, 1, some a, h, t, x, sv, code, false, none⟩ r = ⟨at_, n, true, l, nodes ++ [r.v], 0, 20, none, h, t, x, sv, code, false, none⟩ by simp [quLeft, hc, hm]]
            obtain ⟨nq, nc, hnvs⟩ := (Sl.of_owns oW).len
            subst hnvs
            have hcapn : nodes.length + 1 ≤ nc := by
              rcases oW.2 with ⟨h1, h2⟩ | ⟨g0, cap, cur, h1, hbg, hg0, hnc, hcm, hcs, htake⟩
              · omega
              · cases h1; first | exact hnc | omega
            have hSlW := Sl.of_owns oW
            obtain ⟨nb, no, rfl, hnb, hnown, hcell⟩ := sl_at hSlW (by omega)
            obtain ⟨tb, to, rfl, htb, htown, htcell⟩ := sl_at htsW (by omega)
            have nk := nodes_at_ok nodesOk' (j := 0) (by simp)
            have hnbp := hnv' nb hnown
            have htbT := hK.tasksIn tb htown
            refine (quFill m p at_ n (at_ + 1) en nd nx _ _ cd tb to l.length tc nb no (nodes.length + 1) nc 0 _ st W ((nodes ++ [r.v]).getD 0 0) (l.getD 0 0) hwW rW hpm ho hs hr (by omega) (by omega) (by omega) (by omega) (by omega) (by omega) (hcell 0 (by omega)) hnb (Ne.symm hnbp.2.1) (Ne.symm hnbp.2.2.1) (htcell 0 (by omega)) htb (Ne.symm htbT.2) (Ne.symm (hTm tb htbT.1))).mono ?_
            rintro e w2 ⟨rfl, i1, i4, i5⟩
            refine ⟨rfl, kWT.trans (i5.mono (by intro k hk' _; simp at hk'; rcases hk' with rfl | rfl; simp; simp [hpT])), st.tasks, st.outer, .inl ⟨_, _, _, _, nb :: T, by simp [quNest], by simp [quNest, quWantPut], rfl, .inl ⟨rfl, by simp [quNest, quHeld]⟩, i1, fun _ => ⟨⟨hr, uh, ut, ux, uv, fun _ => ⟨few, words, nodesOk', .inr ⟨rfl, by show (nodes ++ [r.v]).length = l.length; omega, .inl ⟨.inl rfl, rfl, by show 0 < (nodes ++ [r.v]).length; omega⟩⟩⟩, fun h => by cases h⟩, p, List.mem_cons_of_mem _ hpT, by simp [quFn], fun _ => ⟨en, nd, nx, _, _, _, cd, ⟨i4, fun h => by simp at h, fun h => by simp at h, ?_, fun g hg => ⟨List.mem_cons_of_mem _ (hK.tasksIn g hg).1, (hK.tasksIn g hg).2⟩, fun h => by simp at h, fun _ => ⟨_, nodes.length + 1, nc, rfl, hcapn, by simp, ?_⟩, fun g hg => ⟨by rw [hnown] at hg; cases hg; simp, (hnv' g hg).2.1⟩, fun _ => rfl, fun h => by simp at h, fun h => by simp at h, fun h => by simp at h, ?_⟩⟩, fun h => by cases h⟩, fun k hk' => ?_, fun k hk' => ?_⟩⟩
            · exact htsW.but i5 (fun g hg => by have := hK.tasksIn g hg; simp; exact ⟨hTm g this.1, this.2⟩)
            · simp only [show ¬ ((20 : Int) = 10) by decide, if_false, List.drop_zero]
              exact hSlW.but i5 (fun g hg => by have := hnv' g hg; simp; exact ⟨this.2.2.1, this.2.1⟩)
            · exact (hsnW.keeps i5 (fun k hk' hne => by simp; exact ⟨hTm k (hT' k hk').1, hne⟩)).mono (fun k hk' => List.mem_cons_of_mem _ (hT' k hk').1)
            · refine Nat.lt_of_lt_of_le (hT2 k ?_).1 i5.size
              rcases List.mem_cons.1 hk' with rfl | h
              · exact List.mem_append_left _ ((ownBlock_toList _ _).2 hnown)
              · exact List.mem_append_right _ h
            · have := hT3 k (by
                rcases List.mem_cons.1 hk' with rfl | h
                · exact List.mem_append_left _ ((ownBlock_toList _ _).2 hnown)
                · exact List.mem_append_right _ h)
              exact ⟨this.1, this.2.imp_right fun h => ⟨h, .inl rfl⟩⟩
        · rw [show quLeft ⟨at_, n, true, l, nodes, 0, 1, some a, h, t, x, sv, code, false, none⟩ r = quBack ⟨at_, n, true, l, nodes, 0, 10, none, h, t, x, sv, r.code, false, none⟩ by simp [quLeft, hc]]
          obtain ⟨nq, nc, hnvs⟩ := (Sl.of_owns hown).len
          have hnvs' : nv = .slice nq nodes.length nc := hnvs
          subst hnvs'
          have hcapn : nodes.length ≤ nc := by
            rcases hown.2 with ⟨h1, h2⟩ | ⟨g0, cap, cur, h1, hbg, hg0, hnc, hcm, hcs, htake⟩
            · omega
            · cases h1; first | exact hnc | omega
          rw [show quNest.held (⟨at_, n, true, l, nodes, 0, 1, some a, h, t, x, sv, code, false, none⟩ : QuS) = l by simp [quNest, quHeld]]
          refine quTookBad m p at_ n (at_ + 1) en nd nx _ _ tv _ 0 cd _ w r.code r.v rq r.l.length rc _ hrow hc (fun W kW rW => ?_)
          exact quPutBack_goes m p w W T at_ n l nodes 0 h t x sv r.code en nd nx tv nq nodes.length nc 0 st (hw.keeps kW (by simpa using Ne.symm hpm)) ho hs hu hT hpT hr uh ut ux uv few words nodesOk hlt (Nat.zero_le _) kW rW hcapn (by omega) ((Sl.of_owns hown).but kW (fun g hg => by simpa using (hK.nodesIn g hg).2)) hK.nodesIn (hts.but kW (fun g hg => by simpa using (hK.tasksIn g hg).2)) hK.tasksIn (hK.seen.keeps kW (fun k hk' hne => by simpa using hne))
      · -- it puts nodes back
        subst hst
        obtain ⟨q, nl, nc, hnv, hcap, hnl, hSl⟩ := hK.nodes (by simp)
        simp only [if_true] at hnl hSl
        subst hnv
        have hcd := hK.code rfl
        simp only at hcd
        subst hcd
        rw [show quLeft ⟨at_, n, true, l, nodes, k, 10, some a, h, t, x, sv, cd, false, none⟩ r = quBack ⟨at_, n, true, l, nodes, k, 10, none, h, t, x, sv, cd, false, none⟩ by simp [quLeft]]
        refine quIsBack m p at_ n (at_ + 1) en nd nx _ _ tv _ dn cd _ w r.code r.v rq r.l.length rc _ hK.row (fun W kW => ?_)
        rw [show quNest.held (⟨at_, n, true, l, nodes, k, 10, some a, h, t, x, sv, cd, false, none⟩ : QuS) = l by simp [quNest, quHeld]]
        exact quPutBack_goes m p w W T at_ n l nodes k h t x sv cd en nd nx tv q nl nc dn st (hw.keeps kW (by simp)) ho hs hu hT hpT hr uh ut ux uv few words nodesOk hlt hk (kW.mono (by simp)) (hK.row.keeps kW (by simp)) hcap hnl (hSl.but kW (by simp)) hK.nodesIn (hts.but kW (by simp)) hK.tasksIn (hK.seen.keeps kW (by simp))
    · cases h1
end Go.Proofs.YtoomefclbemnlaaGreat
