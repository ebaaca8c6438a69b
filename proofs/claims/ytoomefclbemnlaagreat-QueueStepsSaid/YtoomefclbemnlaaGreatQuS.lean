/-
  A queue's Put does a step of its machine.
-/
import Derived.Test.YtoomefclbemnlaaGreatQuP
namespace Go.Proofs.YtoomefclbemnlaaGreat
set_option maxRecDepth 100000
set_option linter.unusedSimpArgs false
set_option linter.unusedVariables false
open Go.ChangeShapes Go.WideShapes Go.ChangeAt Go.RowKit

/-- Where the words of a slice lie. -/
theorem sl_at {w : World} {q : Option Addr} {nl nc : Nat} {xs : List Int} {kd : IntKind} (h : Sl w 1 (.slice q nl nc) nl (ints kd xs)) (hl : 0 < nl) : ∃ b o, q = some ⟨b, o, none⟩ ∧ b < w.heap.size ∧ (Value.slice q nl nc).ownBlock = some b ∧ ∀ j, j < nl → w.cell? ⟨b, o + j, none⟩ = some (.int kd (xs.getD j 0)) := by
  have hn := h.ints_len
  obtain ⟨b, off, cap, hv, hb, hc⟩ := h.some hl
  cases hv
  exact ⟨b, off, rfl, hb, rfl, fun j hj => hc j _ (ints_at (by omega))⟩
/-- It knows the same, but for its record. -/
theorem QuPutKnows.to {m p : Nat} {w w2 : World} {T : List Nat} {ov : Value} {s s' : QuS} {en nd nx en' nd' nx' : Int} {tv nv : Value} {dn cd dn' cd' : Int} (h : QuPutKnows m p w T ov s en nd nx tv nv dn cd) (hk : Keeps [m, p] w w2) (hT : ∀ k ∈ T, k ≠ m)
    (hrow : Row w2 p 80 (quPCells m s.at_ s.n (s.at_ + 1) en' nd' nx' (quM 32 p) (quM 33 p) tv nv dn' cd'))
    (e1 : s'.at_ = s.at_) (e2 : s'.n = s.n) (e3 : s'.l = s.l) (e4 : s'.nodes = s.nodes) (s1 : s.step ≠ 1) (s10 : s.step ≠ 10) (t1 : s'.step ≠ 1) (t10 : s'.step ≠ 10)
    (tail : s'.step = 4 ∨ s'.step = 5 ∨ s'.step = 6 ∨ s'.step = 7 → en' = s'.t ∧ nd' = quNode s'.t) (next : s'.step = 5 ∨ s'.step = 6 → nx' = s'.x) (count : s'.step = 20 ∨ s'.step = 21 → dn' = (s'.k : Int)) (count2 : s'.step = 22 → dn' = ((s'.k + 1 : Nat) : Int)) :
    QuPutKnows m p w2 T ov s' en' nd' nx' tv nv dn' cd' where
  row := by rw [e1, e2]; exact hrow
  tail := tail
  next := next
  tasks := by rw [e3]; exact h.tasks.but hk (fun g hg => by have := h.tasksIn g hg; simp; exact ⟨hT g this.1, this.2⟩)
  tasksIn := h.tasksIn
  grows := fun e => absurd e t1
  nodes := fun _ => by
    obtain ⟨q, nl, nc, a, b, c, d⟩ := h.nodes s1
    rw [if_neg s10] at c d
    rw [if_neg t10, e4]
    exact ⟨q, nl, nc, a, b, c, d.but hk (fun g hg => by have := h.nodesIn g hg; simp; exact ⟨hT g this.1, this.2⟩)⟩
  nodesIn := h.nodesIn
  count := count
  count2 := count2
  code := fun e => absurd e t10
  apart := fun e => absurd e t1
  seen := h.seen.keeps hk (fun k hk' hne => by simp; exact ⟨hT k hk', hne⟩)

set_option maxHeartbeats 6400000 in
theorem quPut_step (m : Nat) (w : World) (T : List Nat) (F : FuncId) (fi ca : Array Value) (s : QuS) (st : WSt) (v : Int) (won : Bool) (hw : Wk w m st) (ho : st.over = false) (hs : st.sub = none) (hu : st.under = 1) (hT : ∀ k ∈ T, k < w.heap.size ∧ k ≠ m) (hE : quE m w T (.func (.func F) fi ca) st.outer s) (hv : M.U v)
    (hov : s.over = none) (hsub : s.sub = none) (hputs : s.puts = true) :
    Calls Tryz.prog F (fi ++ (#[.int .u64 v, .bool won] ++ ca)) w fun e w' => e = .returned (.tuple #[]) ∧ GoesN quNest arenaM quJ (quE m) m st (quNest.held s) T (quGivePut s v won) w w' := by
  obtain ⟨hOk, p, hpT, hn, hP, -⟩ := hE hov
  obtain ⟨en, nd, nx, tv, nv, dn, cd, hK⟩ := hP hputs
  injection hn with e1 e2 e3
  injection e1 with e1
  subst e1 e2 e3
  have hpm := (hT p hpT).2
  have hTm : ∀ k ∈ T, k ≠ m := fun k hk => (hT k hk).2
  have hup : (0 : Int) < st.under := by rw [hu]; decide
  clear hE hP
  obtain ⟨at_, n, puts, l, nodes, k, step, sub, h, t, x, sv, code, inn, over⟩ := s
  simp only at hov hsub hputs
  subst hov hsub hputs
  obtain ⟨hr, uh, ut, ux, uv, hput, -⟩ := hOk
  obtain ⟨few, words, nodesOk, hat⟩ := hput rfl
  clear hput
  simp only at hr uh ut ux uv few words nodesOk hat
  have a0 : 0 ≤ at_ := hr.2.2.1
  have a1 : at_ < 65536 := by have := hr.2.2.2; have := hr.1; omega
  have hn4 : n ≤ 4096 := hr.2.1
  rcases hat with ⟨a, h1, -⟩ | ⟨-, hlen, hat⟩
  · cases h1
  have U0 : M.U 0 := ⟨by decide, by decide⟩
  have nodeOk : ∀ j, j < nodes.length → 1 ≤ nodes.getD j 0 ∧ nodes.getD j 0 ≤ n := fun j hj => by
    rw [show nodes.getD j 0 = nodes[j] by simp [List.getD, hj]]; exact nodesOk _ (List.getElem_mem hj)
  have hs1 : step ≠ 1 := by omega
  have hs10 : step ≠ 10 := by omega
  obtain ⟨q, nl, nc, hnv, hcap, hnl, hSl⟩ := hK.nodes hs1
  rw [if_neg hs10] at hnl hSl
  simp only [Nat.sub_zero, List.drop_zero] at hnl hSl
  subst hnv
  obtain ⟨nb, no, rfl, hnb, hnown, hcell⟩ := sl_at hSl (by omega)
  have hnbT := hK.nodesIn nb hnown
  have hnl6 : nl ≤ 1000000 := by omega
  have hrow : Row w p 80 (quPCells m at_ n (at_ + 1) en nd nx (quM 32 p) (quM 33 p) tv (.slice (some ⟨nb, no, none⟩) nl nc) dn cd) := hK.row
  have nwn : ∀ u, ¬ quWrong n u → 0 ≤ quNode u ∧ quNode u ≤ 4294967296 := fun u hu => by unfold quWrong at hu; have := quNode_nn u; omega
  -- the tail is read
  have readTail : ∀ (stp : Int), step = stp → (stp = 3 ∨ stp = 5) → inn = false → Calls Tryz.prog 89 #[.pointer (some ⟨p, 0, none⟩), .int .u64 v, .bool won] w fun e w' => e = .returned (.tuple #[]) ∧ GoesN quNest arenaM quJ (quE m) m st (quNest.held ⟨at_, n, true, l, nodes, k, stp, none, h, t, x, sv, code, false, none⟩) T (quTail ⟨at_, n, true, l, nodes, k, stp, none, h, t, x, sv, code, false, none⟩ v) w w' := by
    intro stp hst hs35 hin
    subst hst hin
    by_cases hwv : quWrong n v
    · refine (quReadEndBad m p at_ n (at_ + 1) en nd nx _ _ _ _ st w v won hw hrow hpm ho hup hv hwv).mono ?_
      rintro e w2 ⟨rfl, hA⟩
      rw [show quTail ⟨at_, n, true, l, nodes, k, step, none, h, t, x, sv, code, false, none⟩ v = ⟨at_, n, true, l, nodes, k, 4, none, h, v, x, sv, code, false, some ⟨9, 0, []⟩⟩ by simp [quTail, hwv, quEnd]]
      exact ⟨rfl, qu_ends_seen hpT hT rfl hs hK.seen hA⟩
    · have nn := nwn v hwv
      refine quReadEnd 32 m p at_ n (at_ + 1) en nd nx _ _ _ w v won _ hrow hv hwv (fun _ _ => by kernel_rfl) (fun W1 k1 r1 => ?_)
      refine (quLoadNext m p at_ n (at_ + 1) v (quNode v) nx _ _ _ _ st W1 (hw.keeps k1 (by simpa using Ne.symm hpm)) r1 hpm ho hs hr nn.1 nn.2).mono ?_
      rintro e w2 ⟨rfl, hA0⟩
      have hA := hA0.from (k1.mono (by simp))
      rw [show quTail ⟨at_, n, true, l, nodes, k, step, none, h, t, x, sv, code, false, none⟩ v = ⟨at_, n, true, l, nodes, k, 4, none, h, v, x, sv, code, false, none⟩ by simp [quTail, hwv]]
      refine ⟨rfl, qu_asks (s' := ⟨at_, n, true, l, nodes, k, 4, none, h, v, x, sv, code, false, none⟩) hpT hT rfl rfl (by simp [quWantPut]) (by simp [quHeld]) hA (fun _ => ⟨⟨hr, uh, hv, ux, uv, fun _ => ⟨few, words, nodesOk, .inr ⟨rfl, hlen, .inr (.inr (.inl ⟨.inl rfl, rfl, hwv⟩))⟩⟩, fun h => by cases h⟩, p, hpT, by simp [quFn], fun _ => ⟨v, quNode v, nx, tv, _, dn, cd, hK.to hA.2.2 hTm hA.2.1 rfl rfl rfl rfl (by simp; try omega) (by simp; try omega) (by simp) (by simp) (fun _ => ⟨rfl, rfl⟩) (fun h => by simp at h) (fun h => by simp at h) (fun h => by simp at h)⟩, fun h => by cases h⟩)⟩
  rcases hat with ⟨h20, hin, hkl⟩ | ⟨h3, hin⟩ | ⟨h45, hin, hwt⟩ | ⟨h6, hin, hwt, hxn⟩ | ⟨h7, hin, hwt⟩
  · -- it fills its nodes
    subst hin
    have nk := nodeOk k hkl
    have hnlk : k < nl := by omega
    rcases h20 with h20 | h20 | h20
    · subst h20
      have hdn : dn = (k : Int) := hK.count (.inl rfl)
      subst hdn
      refine (quFilled m p at_ n (at_ + 1) en nd nx _ _ tv cd nb no nl nc k _ st w v won (nodes.getD k 0) hw hrow hpm ho hs hr (by omega) (by omega) hnlk hnl6 (hcell k hnlk) hnb (Ne.symm hnbT.2) (Ne.symm (hTm nb hnbT.1))).mono ?_
      rintro e w2 ⟨rfl, hA⟩
      refine ⟨rfl, qu_asks (s' := ⟨at_, n, true, l, nodes, k, 21, none, h, t, x, sv, code, false, none⟩) hpT hT rfl rfl (by simp [quWantPut]) (by simp [quHeld]) hA (fun _ => ⟨⟨hr, uh, ut, ux, uv, fun _ => ⟨few, words, nodesOk, .inr ⟨rfl, hlen, .inl ⟨.inr (.inl rfl), rfl, hkl⟩⟩⟩, fun h => by cases h⟩, p, hpT, by simp [quFn], fun _ => ⟨en, nd, nx, tv, _, _, cd, hK.to hA.2.2 hTm hA.2.1 rfl rfl rfl rfl (by simp; try omega) (by simp; try omega) (by simp) (by simp) (fun h => by simp at h) (fun h => by simp at h) (fun _ => rfl) (fun h => by simp at h)⟩, fun h => by cases h⟩)⟩
    · subst h20
      have hdn : dn = (k : Int) := hK.count (.inr rfl)
      subst hdn
      by_cases hl : k + 1 < nl
      · have nk2 := nodeOk (k + 1) (by omega)
        refine (quChainMore m p at_ n (at_ + 1) en nd nx _ _ tv cd nb no nl nc k _ st w v won (nodes.getD k 0) (nodes.getD (k + 1) 0) hw hrow hpm ho hs hr hv (by omega) (by omega) (by omega) (by omega) hl hnl6 (hcell k hnlk) (hcell (k + 1) hl) hnb (Ne.symm hnbT.2) (Ne.symm (hTm nb hnbT.1))).mono ?_
        rintro e w2 ⟨rfl, hA⟩
        refine ⟨rfl, qu_asks (s' := ⟨at_, n, true, l, nodes, k, 22, none, h, t, v, sv, code, false, none⟩) hpT hT rfl rfl (by simp [quWantPut]) (by simp [quHeld]) hA (fun _ => ⟨⟨hr, uh, ut, hv, uv, fun _ => ⟨few, words, nodesOk, .inr ⟨rfl, hlen, .inl ⟨.inr (.inr rfl), rfl, hkl⟩⟩⟩, fun h => by cases h⟩, p, hpT, by simp [quFn], fun _ => ⟨en, nd, nx, tv, _, _, cd, hK.to hA.2.2 hTm hA.2.1 rfl rfl rfl rfl (by simp; try omega) (by simp; try omega) (by simp) (by simp) (fun h => by simp at h) (fun h => by simp at h) (fun h => by simp at h) (fun _ => rfl)⟩, fun h => by cases h⟩)⟩
      · have hz : nodes.getD (k + 1) 0 = 0 := by simp [List.getD, show ¬ k + 1 < nodes.length by omega]
        refine (quChainLast m p at_ n (at_ + 1) en nd nx _ _ tv cd nb no nl nc k _ st w v won (nodes.getD k 0) hw hrow hpm ho hs hr hv (by omega) (by omega) (by omega) hnl6 (hcell k hnlk) hnb (Ne.symm hnbT.2) (Ne.symm (hTm nb hnbT.1))).mono ?_
        rintro e w2 ⟨rfl, hA⟩
        refine ⟨rfl, qu_asks (s' := ⟨at_, n, true, l, nodes, k, 22, none, h, t, v, sv, code, false, none⟩) hpT hT rfl rfl (by rw [if_pos rfl]; simp only [quWantPut, hz]; simp) (by simp [quHeld]) hA (fun _ => ⟨⟨hr, uh, ut, hv, uv, fun _ => ⟨few, words, nodesOk, .inr ⟨rfl, hlen, .inl ⟨.inr (.inr rfl), rfl, hkl⟩⟩⟩, fun h => by cases h⟩, p, hpT, by simp [quFn], fun _ => ⟨en, nd, nx, tv, _, _, cd, hK.to hA.2.2 hTm hA.2.1 rfl rfl rfl rfl (by simp; try omega) (by simp; try omega) (by simp) (by simp) (fun h => by simp at h) (fun h => by simp at h) (fun h => by simp at h) (fun _ => rfl)⟩, fun h => by cases h⟩)⟩
    · subst h20
      have hdn : dn = ((k + 1 : Nat) : Int) := hK.count2 rfl
      subst hdn
      by_cases hl : k + 1 < nl
      · have nk2 := nodeOk (k + 1) (by omega)
        have hKt : Sl w 1 tv l.length (ints .u64 l) := hK.tasks
        obtain ⟨tq, tc, htv⟩ := hKt.len
        rw [htv] at hKt
        obtain ⟨tb, to, rfl, htb, htown, htcell⟩ := sl_at hKt (by omega)
        subst htv
        have htbT := hK.tasksIn tb htown
        rw [show quGivePut ⟨at_, n, true, l, nodes, k, 22, none, h, t, x, sv, code, false, none⟩ v won = ⟨at_, n, true, l, nodes, k + 1, 20, none, h, t, x, sv, code, false, none⟩ by simp [quGivePut]; omega]
        refine quChainedMore m p at_ n (at_ + 1) en nd nx _ _ _ cd nb no nl nc (k + 1) _ w v won _ hrow hl hnl6 (fun W kW => ?_)
        refine (quFill m p at_ n (at_ + 1) en nd nx _ _ cd tb to l.length tc nb no nl nc (k + 1) _ st W (nodes.getD (k + 1) 0) (l.getD (k + 1) 0) (hw.keeps kW (by simp)) (hrow.keeps kW (by simp)) hpm ho hs hr (by omega) (by omega) hl (by omega) hnl6 (by omega) ((kW.cell hnb (by simp)).trans (hcell (k + 1) hl)) (Nat.lt_of_lt_of_le hnb kW.size) (Ne.symm hnbT.2) (Ne.symm (hTm nb hnbT.1)) ((kW.cell htb (by simp)).trans (htcell (k + 1) (by omega))) (Nat.lt_of_lt_of_le htb kW.size) (Ne.symm htbT.2) (Ne.symm (hTm tb htbT.1))).mono ?_
        rintro e w2 ⟨rfl, hA0⟩
        have hA := hA0.from (kW.mono (by simp))
        refine ⟨rfl, qu_asks (s' := ⟨at_, n, true, l, nodes, k + 1, 20, none, h, t, x, sv, code, false, none⟩) hpT hT rfl rfl (by simp [quWantPut]) (by simp [quHeld]) hA (fun _ => ⟨⟨hr, uh, ut, ux, uv, fun _ => ⟨few, words, nodesOk, .inr ⟨rfl, hlen, .inl ⟨.inl rfl, rfl, (by show k + 1 < nodes.length; omega)⟩⟩⟩, fun h => by cases h⟩, p, hpT, by simp [quFn], fun _ => ⟨en, nd, nx, _, _, _, cd, hK.to hA.2.2 hTm hA.2.1 rfl rfl rfl rfl (by simp; try omega) (by simp; try omega) (by simp) (by simp) (fun h => by simp at h) (fun h => by simp at h) (fun _ => rfl) (fun h => by simp at h)⟩, fun h => by cases h⟩)⟩
      · rw [show quGivePut ⟨at_, n, true, l, nodes, k, 22, none, h, t, x, sv, code, false, none⟩ v won = ⟨at_, n, true, l, nodes, k + 1, 3, none, h, t, x, sv, code, false, none⟩ by simp [quGivePut]; omega]
        refine quChainedDone m p at_ n (at_ + 1) en nd nx _ _ _ cd nb no nl nc (k + 1) _ w v won _ hrow hl hnl6 (fun W kW => ?_)
        refine (quBegin m p at_ n (at_ + 1) en nd nx _ _ _ _ st W (hw.keeps kW (by simp)) (hrow.keeps kW (by simp)) hpm ho hs).mono ?_
        rintro e w2 ⟨rfl, hA0⟩
        have hA := hA0.from (kW.mono (by simp))
        refine ⟨rfl, qu_asks (s' := ⟨at_, n, true, l, nodes, k + 1, 3, none, h, t, x, sv, code, false, none⟩) hpT hT rfl rfl (by simp [quWantPut]) (by simp [quHeld]) hA (fun _ => ⟨⟨hr, uh, ut, ux, uv, fun _ => ⟨few, words, nodesOk, .inr ⟨rfl, hlen, .inr (.inl ⟨rfl, rfl⟩)⟩⟩, fun h => by cases h⟩, p, hpT, by simp [quFn], fun _ => ⟨en, nd, nx, tv, _, _, cd, hK.to hA.2.2 hTm hA.2.1 rfl rfl rfl rfl (by simp; try omega) (by simp; try omega) (by simp) (by simp) (fun h => by simp at h) (fun h => by simp at h) (fun h => by simp at h) (fun h => by simp at h)⟩, fun h => by cases h⟩)⟩
  · subst h3 hin
    rw [show quGivePut ⟨at_, n, true, l, nodes, k, 3, none, h, t, x, sv, code, false, none⟩ v won = quTail ⟨at_, n, true, l, nodes, k, 3, none, h, t, x, sv, code, false, none⟩ v by simp [quGivePut]]
    exact readTail 3 rfl (.inl rfl) rfl
  · subst hin
    rcases h45 with h45 | h45
    · subst h45
      obtain ⟨hen, hnd⟩ := hK.tail (.inl rfl)
      simp only at hen hnd
      subst hen hnd
      refine (quReadNext m p at_ n (at_ + 1) en (quNode en) nx _ _ _ _ st w v won hw hrow hpm ho hs).mono ?_
      rintro e w2 ⟨rfl, hA⟩
      refine ⟨rfl, qu_asks (s' := ⟨at_, n, true, l, nodes, k, 5, none, h, en, v, sv, code, false, none⟩) hpT hT rfl rfl (by simp [quWantPut]) (by simp [quHeld]) hA (fun _ => ⟨⟨hr, uh, ut, hv, uv, fun _ => ⟨few, words, nodesOk, .inr ⟨rfl, hlen, .inr (.inr (.inl ⟨.inr rfl, rfl, hwt⟩))⟩⟩, fun h => by cases h⟩, p, hpT, by simp [quFn], fun _ => ⟨en, quNode en, v, tv, _, dn, cd, hK.to hA.2.2 hTm hA.2.1 rfl rfl rfl rfl (by simp; try omega) (by simp; try omega) (by simp) (by simp) (fun _ => ⟨rfl, rfl⟩) (fun _ => rfl) (fun h => by simp at h) (fun h => by simp at h)⟩, fun h => by cases h⟩)⟩
    · subst h45
      obtain ⟨hen, hnd⟩ := hK.tail (.inr (.inl rfl))
      have hnx := hK.next (.inl rfl)
      simp only at hen hnd hnx
      by_cases hvt : v = t
      · subst hen hnd hnx hvt
        refine quReadAgainSame 33 m p at_ n (at_ + 1) v (quNode v) nx _ _ _ w won _ hrow (fun _ _ => by kernel_rfl) ?_
        have nn := nwn v hwt
        by_cases hz : quNode nx = 0
        · have nk := nodeOk 0 (by omega)
          rw [show quGivePut ⟨at_, n, true, l, nodes, k, 5, none, h, v, nx, sv, code, false, none⟩ v won = ⟨at_, n, true, l, nodes, k, 6, none, h, v, nx, sv, code, false, none⟩ by simp [quGivePut, hz]; have := hr.1; omega]
          refine (quLink m p at_ n (at_ + 1) v (quNode v) nx _ _ tv dn cd nb no nl nc _ st w (nodes.getD 0 0) hw hrow hpm ho hs hr ux hz nn.1 nn.2 (by omega) (by omega) (by omega) hnl6 (hcell 0 (by omega)) hnb (Ne.symm (hTm nb hnbT.1))).mono ?_
          rintro e w2 ⟨rfl, hA⟩
          refine ⟨rfl, qu_asks (s' := ⟨at_, n, true, l, nodes, k, 6, none, h, v, nx, sv, code, false, none⟩) hpT hT rfl rfl (by simp [quWantPut, hz]) (by simp [quHeld]) hA (fun _ => ⟨⟨hr, uh, ut, ux, uv, fun _ => ⟨few, words, nodesOk, .inr ⟨rfl, hlen, .inr (.inr (.inr (.inl ⟨rfl, rfl, hwt, (by show quNode nx ≤ n; rw [hz]; have := hr.1; omega)⟩)))⟩⟩, fun h => by cases h⟩, p, hpT, by simp [quFn, hz], fun _ => ⟨v, quNode v, nx, tv, _, dn, cd, hK.to hA.2.2 hTm hA.2.1 rfl rfl rfl rfl (by simp; try omega) (by simp; try omega) (by simp) (by simp) (fun _ => ⟨rfl, rfl⟩) (fun _ => rfl) (fun h => by simp at h) (fun h => by simp at h)⟩, fun h => by cases h⟩)⟩
        · refine quLinkMove m p at_ n (at_ + 1) v (quNode v) nx _ _ tv _ dn cd _ w _ hrow ux hz (fun W kW => ?_)
          by_cases hb : n < quNode nx
          · rw [show quGivePut ⟨at_, n, true, l, nodes, k, 5, none, h, v, nx, sv, code, false, none⟩ v won = ⟨at_, n, true, l, nodes, k, 6, none, h, v, nx, sv, code, false, some ⟨9, 0, []⟩⟩ by simp [quGivePut, hb, quEnd]]
            refine (quMoveTailBad m p at_ n (at_ + 1) v (quNode v) nx _ _ _ _ st W v (hw.keeps kW (by simp)) (hrow.keeps kW (by simp)) hpm ho hup ux (.inr hb)).mono ?_
            rintro e w2 ⟨rfl, hA0⟩
            exact ⟨rfl, qu_ends_seen hpT hT rfl hs hK.seen (hA0.from (kW.mono (by simp)))⟩
          · rw [show quGivePut ⟨at_, n, true, l, nodes, k, 5, none, h, v, nx, sv, code, false, none⟩ v won = ⟨at_, n, true, l, nodes, k, 6, none, h, v, nx, sv, code, false, none⟩ by simp [quGivePut, hb]]
            refine (quMoveTail m p at_ n (at_ + 1) v (quNode v) nx _ _ _ _ st W v (hw.keeps kW (by simp)) (hrow.keeps kW (by simp)) hpm ho hs ux hv (by unfold quWrong; have := quNode_nn nx; omega) a0 a1).mono ?_
            rintro e w2 ⟨rfl, hA0⟩
            have hA := hA0.from (kW.mono (by simp))
            refine ⟨rfl, qu_asks (s' := ⟨at_, n, true, l, nodes, k, 6, none, h, v, nx, sv, code, false, none⟩) hpT hT rfl rfl (by simp [quWantPut, hz]) (by simp [quHeld]) hA (fun _ => ⟨⟨hr, uh, ut, ux, uv, fun _ => ⟨few, words, nodesOk, .inr ⟨rfl, hlen, .inr (.inr (.inr (.inl ⟨rfl, rfl, hwt, (by show quNode nx ≤ n; omega)⟩)))⟩⟩, fun h => by cases h⟩, p, hpT, by simp [quFn, hz], fun _ => ⟨v, quNode v, nx, tv, _, dn, cd, hK.to hA.2.2 hTm hA.2.1 rfl rfl rfl rfl (by simp; try omega) (by simp; try omega) (by simp) (by simp) (fun _ => ⟨rfl, rfl⟩) (fun _ => rfl) (fun h => by simp at h) (fun h => by simp at h)⟩, fun h => by cases h⟩)⟩
      · rw [show quGivePut ⟨at_, n, true, l, nodes, k, 5, none, h, t, x, sv, code, false, none⟩ v won = quTail ⟨at_, n, true, l, nodes, k, 5, none, h, t, x, sv, code, false, none⟩ v by simp [quGivePut, hvt]]
        exact quReadAgainNew m p at_ n (at_ + 1) en nd nx _ _ _ _ w v won _ hrow (by rw [hen]; exact hvt) (readTail 5 rfl (.inr rfl) rfl)
  · subst h6 hin
    obtain ⟨hen, hnd⟩ := hK.tail (.inr (.inr (.inl rfl)))
    have hnx := hK.next (.inr rfl)
    simp only at hen hnd hnx
    subst hen hnd hnx
    by_cases hz : quNode nx = 0
    · rw [show quFn ⟨at_, n, true, l, nodes, k, 6, none, h, en, nx, sv, code, false, none⟩ = 69 by simp [quFn, hz]]
      cases won with
      | false =>
        rw [show quGivePut ⟨at_, n, true, l, nodes, k, 6, none, h, en, nx, sv, code, false, none⟩ v false = ⟨at_, n, true, l, nodes, k, 3, none, h, en, nx, sv, code, false, none⟩ by simp [quGivePut]]
        refine quLinkedNo m p at_ n (at_ + 1) en (quNode en) nx _ _ tv _ dn cd _ w v _ hrow (fun W kW => ?_)
        refine (quBegin m p at_ n (at_ + 1) en (quNode en) nx _ _ _ _ st W (hw.keeps kW (by simp)) (hrow.keeps kW (by simp)) hpm ho hs).mono ?_
        rintro e w2 ⟨rfl, hA0⟩
        have hA := hA0.from (kW.mono (by simp))
        refine ⟨rfl, qu_asks (s' := ⟨at_, n, true, l, nodes, k, 3, none, h, en, nx, sv, code, false, none⟩) hpT hT rfl rfl (by simp [quWantPut]) (by simp [quHeld]) hA (fun _ => ⟨⟨hr, uh, ut, ux, uv, fun _ => ⟨few, words, nodesOk, .inr ⟨rfl, hlen, .inr (.inl ⟨rfl, rfl⟩)⟩⟩, fun h => by cases h⟩, p, hpT, by simp [quFn], fun _ => ⟨en, quNode en, nx, tv, _, dn, cd, hK.to hA.2.2 hTm hA.2.1 rfl rfl rfl rfl (by simp; try omega) (by simp; try omega) (by simp) (by simp) (fun h => by simp at h) (fun h => by simp at h) (fun h => by simp at h) (fun h => by simp at h)⟩, fun h => by cases h⟩)⟩
      | true =>
        have nk := nodeOk (nodes.length - 1) (by omega)
        rw [show quGivePut ⟨at_, n, true, l, nodes, k, 6, none, h, en, nx, sv, code, false, none⟩ v true = ⟨at_, n, true, l, nodes, k, 7, none, h, en, nx, sv, code, true, none⟩ by simp [quGivePut, hz]]
        refine (quLinked m p at_ n (at_ + 1) en (quNode en) nx _ _ tv dn cd nb no nl nc (nl - 1) _ st w v (nodes.getD (nodes.length - 1) 0) hw hrow hpm ho hs ut a0 a1 (by omega) (by omega) (by omega) hnl6 (by rw [hcell (nl - 1) (by omega), hnl]) hnb (Ne.symm (hTm nb hnbT.1))).mono ?_
        rintro e w2 ⟨rfl, tt, htt, hA⟩
        have hk2 := hA.2.2
        refine ⟨rfl, hk2.mono (by intro k hk _; simp at hk; rcases hk with rfl | rfl; simp; simp [hpT]), tt, st.outer, .inl ⟨_, _, _, _, T, by simp [quNest], by simp [quNest, quWantPut], rfl, .inr ⟨by simp [quNest, quHeld], by simpa [quNest, quHeld, ints] using htt⟩, hA.1, fun _ => ⟨⟨hr, uh, ut, ux, uv, fun _ => ⟨few, words, nodesOk, .inr ⟨rfl, hlen, .inr (.inr (.inr (.inr ⟨rfl, rfl, hwt⟩)))⟩⟩, fun h => by cases h⟩, p, hpT, by simp [quFn], fun _ => ⟨en, quNode en, nx, tv, _, dn, cd, hK.to hk2 hTm hA.2.1 rfl rfl rfl rfl (by simp) (by simp) (by simp) (by simp) (fun _ => ⟨rfl, rfl⟩) (fun h => by simp at h) (fun h => by simp at h) (fun h => by simp at h)⟩, fun h => by cases h⟩, fun k hk' => Nat.lt_of_lt_of_le (hT k hk').1 hk2.size, fun k hk' => ⟨(hT k hk').2, .inl hk'⟩⟩⟩
    · rw [show quFn ⟨at_, n, true, l, nodes, k, 6, none, h, en, nx, sv, code, false, none⟩ = 106 by simp [quFn, hz]]
      rw [show quGivePut ⟨at_, n, true, l, nodes, k, 6, none, h, en, nx, sv, code, false, none⟩ v won = ⟨at_, n, true, l, nodes, k, 3, none, h, en, nx, sv, code, false, none⟩ by simp [quGivePut, hz]]
      refine (quAnew m p at_ n (at_ + 1) en (quNode en) nx _ _ _ _ st w v won hw hrow hpm ho hs).mono ?_
      rintro e w2 ⟨rfl, hA⟩
      refine ⟨rfl, qu_asks (s' := ⟨at_, n, true, l, nodes, k, 3, none, h, en, nx, sv, code, false, none⟩) hpT hT rfl rfl (by simp [quWantPut]) (by simp [quHeld]) hA (fun _ => ⟨⟨hr, uh, ut, ux, uv, fun _ => ⟨few, words, nodesOk, .inr ⟨rfl, hlen, .inr (.inl ⟨rfl, rfl⟩)⟩⟩, fun h => by cases h⟩, p, hpT, by simp [quFn], fun _ => ⟨en, quNode en, nx, tv, _, dn, cd, hK.to hA.2.2 hTm hA.2.1 rfl rfl rfl rfl (by simp; try omega) (by simp; try omega) (by simp) (by simp) (fun h => by simp at h) (fun h => by simp at h) (fun h => by simp at h) (fun h => by simp at h)⟩, fun h => by cases h⟩)⟩
  · subst h7 hin
    rw [show quGivePut ⟨at_, n, true, l, nodes, k, 7, none, h, t, x, sv, code, true, none⟩ v won = ⟨at_, n, true, l, nodes, k, 7, none, h, t, x, sv, code, true, some ⟨0, 0, []⟩⟩ by simp [quGivePut, quEnd]]
    refine (quPutFinish m p at_ n (at_ + 1) en nd nx _ _ tv _ dn cd _ st w v won hw hrow hpm ho hup).mono ?_
    rintro e w2 ⟨rfl, hA⟩
    exact ⟨rfl, qu_ends_seen hpT hT rfl hs hK.seen hA⟩
end Go.Proofs.YtoomefclbemnlaaGreat
