/-
  The document's frame of a queue goes as the queue's machine: what it is told; how it is made.
-/
import Derived.Test.YtoomefclbemnlaaGreatRef9w
import Derived.Test.YtoomefclbemnlaaGreatRef9a
namespace Go.Proofs.YtoomefclbemnlaaGreat
set_option maxRecDepth 100000
set_option linter.unusedSimpArgs false
set_option linter.unusedVariables false
open Go.ChangeShapes Go.WideShapes Go.ChangeAt Go.RowKit

theorem quFrame_row {p : Nat} {w w' : World} {lv nv : Value} {base : Nat} {s s' : QuS} {S : List Nat} (hown : w.ownsRow base 3 1 nv s.nodes.length (ints .i64 s.nodes)) (hb1 : p < base) (hb2 : base ≤ w.heap.size) (hsl : Sl w 1 lv s.l.length (ints .u64 s.l)) (hlv : s.l ≠ [] → ∀ g, lv.ownBlock = some g → g < p)
    (hr : Row w' p 85 (quCells s' lv nv (.pointer none))) (hk : Keeps S w w') (hS : ∀ k ∈ S, p ≤ k ∧ nv.ownBlock ≠ some k) (hn : s'.nodes = s.nodes) (hl : s'.l = s.l) (hok : s'.over = none → QuOk s' ∧ s'.sub = none) (hf : QuFine s') (hz : ∀ r, s'.over = some r → r.l = []) :
    refQuJ p lv w' (p :: nv.ownBlock.toList) s' := by
  refine ⟨nv, base, ?_, hb1, Nat.le_trans hb2 hk.size, ?_, by rw [hl]; exact hlv, fun h => (hok h).1, hz, hf, .inr ⟨?_, hr, rfl⟩⟩
  · rw [hn]; exact owns_keeps hown hk (fun g hg hm => (hS g hm).2 hg)
  · rw [hl]; exact hsl.but0 hk (fun h0 g hg hm => by
      have h1 : s.l ≠ [] := by intro h; rw [h] at h0; simp at h0
      have := hlv h1 g hg
      have := (hS g hm).1
      omega)
  · cases ho : s'.over with
    | none => exact .inr (hok ho).2
    | some r => exact .inl (by simp)

set_option maxHeartbeats 1600000 in
/-- A Put that goes by itself. -/
theorem refQu_givePut (p : Nat) (lv nv : Value) (s : QuS) (w : World) (v : Int) (won : Bool) (hrow : Row w p 85 (quCells s lv nv (.pointer none))) (hnv : ∃ q c, nv = .slice q s.nodes.length c) (hk : QuOk s) (hf : QuFine s) (ho : s.over = none) (hs : s.sub = none) (hp : s.puts = true) (hU : M.U v) :
    Calls Tryz.prog 41 #[.pointer (some ⟨p, 0, none⟩), .int .u64 v, .bool won] w fun e w' => e = .returned (.tuple #[]) ∧ Row w' p 85 (quCells (quGivePut s v won) lv nv (.pointer none)) ∧ Keeps [p] w w' := by
  have hkk : s.k ≤ 300 := by have := hf.1; have := hf.2.1; omega
  rcases (hk.put hp).at_ with ⟨a, ha, -⟩ | ⟨-, hl, hc⟩
  · rw [hs] at ha; cases ha
  rcases hc with ⟨h1 | h1 | h1, hi, hkl⟩ | ⟨h1, hi⟩ | ⟨h1 | h1, hi, hw⟩ | ⟨h1, hi, hw, hx⟩ | ⟨h1, hi, hw⟩
  · have e : quGivePut s v won = { s with step := 21 } := by simp [quGivePut, h1]
    rw [e]; exact rq_p20 s v won hrow hnv ho hp h1 hU hk.uh hk.ut hk.ux hkk
  · have e : quGivePut s v won = { s with x := v, step := 22 } := by simp [quGivePut, h1]
    rw [e]; exact rq_p21 s v won hrow hnv ho hp h1 hU hk.uh hk.ut hk.ux hkk
  · by_cases he : s.k + 1 = s.nodes.length
    · have e : quGivePut s v won = { s with k := s.k + 1, step := 3 } := by simp [quGivePut, h1, he]
      rw [e]; exact rq_p22e s v won hrow hnv ho hp h1 hU hk.uh hk.ut hk.ux hkk he
    · have e : quGivePut s v won = { s with k := s.k + 1, step := 20 } := by simp [quGivePut, h1, he]
      rw [e]; exact rq_p22m s v won hrow hnv ho hp h1 hU hk.uh hk.ut hk.ux hkk he
  · by_cases hwv : quWrong s.n v
    · have e : quGivePut s v won = quEnd { s with t := v, step := 4 } 9 0 := by simp [quGivePut, h1, quTail, hwv]
      rw [e]; exact rq_p3w s v won hrow hnv ho hp h1 hU hk.uh hk.ut hk.ux hkk hwv
    · have e : quGivePut s v won = { s with t := v, step := 4 } := by simp [quGivePut, h1, quTail, hwv]
      rw [e]; exact rq_p3o s v won hrow hnv ho hp h1 hU hk.uh hk.ut hk.ux hkk hwv
  · have e : quGivePut s v won = { s with x := v, step := 5 } := by simp [quGivePut, h1]
    rw [e]; exact rq_p4 s v won hrow hnv ho hp h1 hU hk.uh hk.ut hk.ux hkk
  · by_cases hvt : v = s.t
    · by_cases hg : s.n < quNode s.x
      · have e : quGivePut s v won = quEnd { s with step := 6 } 9 0 := by simp [quGivePut, h1, hvt, hg]
        rw [e]; exact rq_p5x s v won hrow hnv ho hp h1 hU hk.uh hk.ut hk.ux hkk hvt hg
      · have e : quGivePut s v won = { s with step := 6 } := by simp [quGivePut, h1, hvt, hg]
        rw [e]; exact rq_p5n s v won hrow hnv ho hp h1 hU hk.uh hk.ut hk.ux hkk hvt hg
    · by_cases hwv : quWrong s.n v
      · have e : quGivePut s v won = quEnd { s with t := v, step := 4 } 9 0 := by simp [quGivePut, h1, quTail, hwv, hvt]
        rw [e]; exact rq_p5w s v won hrow hnv ho hp h1 hU hk.uh hk.ut hk.ux hkk hvt hwv
      · have e : quGivePut s v won = { s with t := v, step := 4 } := by simp [quGivePut, h1, quTail, hwv, hvt]
        rw [e]; exact rq_p5o s v won hrow hnv ho hp h1 hU hk.uh hk.ut hk.ux hkk hvt hwv
  · by_cases hz : quNode s.x = 0
    · cases won with
      | true =>
        have e : quGivePut s v true = { s with inn := true, step := 7 } := by simp [quGivePut, h1, hz]
        rw [e]; exact rq_p6w s v true hrow hnv ho hp h1 hU hk.uh hk.ut hk.ux hkk hz rfl
      | false =>
        have e : quGivePut s v false = { s with step := 3 } := by simp [quGivePut, h1, hz]
        rw [e]; exact rq_p6l s v false hrow hnv ho hp h1 hU hk.uh hk.ut hk.ux hkk hz rfl
    · have e : quGivePut s v won = { s with step := 3 } := by simp [quGivePut, h1, hz]
      rw [e]; exact rq_p6x s v won hrow hnv ho hp h1 hU hk.uh hk.ut hk.ux hkk hz
  · have e : quGivePut s v won = quEnd s 0 0 := by simp [quGivePut, h1]
    rw [e]; exact rq_p7 s v won hrow hnv ho hp h1 hU hk.uh hk.ut hk.ux hkk

set_option maxHeartbeats 1600000 in
/-- A Take that goes by itself; at its last step it may go into the arena. -/
theorem refQu_giveTake (p : Nat) (lv nv : Value) (s : QuS) (w : World) (v : Int) (won : Bool) (hrow : Row w p 85 (quCells s lv nv (.pointer none))) (hnv : ∃ q c, nv = .slice q s.nodes.length c) (hk : QuOk s) (hf : QuFine s) (ho : s.over = none) (hs : s.sub = none) (hp : s.puts = false) (hU : M.U v) (hnw : ¬ (s.step = 6 ∧ won = true)) :
    Calls Tryz.prog 41 #[.pointer (some ⟨p, 0, none⟩), .int .u64 v, .bool won] w fun e w' => e = .returned (.tuple #[]) ∧ Row w' p 85 (quCells (quGiveTake s v won) lv nv (.pointer none)) ∧ Keeps [p] w w' := by
  have hkk : s.k ≤ 300 := by have := hf.1; have := hf.2.1; omega
  rcases (hk.take hp).at_ with ⟨a, ha, -⟩ | ⟨-, hi, hc⟩
  · rw [hs] at ha; cases ha
  rcases hc with h1 | ⟨h1 | h1 | h1, hw⟩ | ⟨h1, hw⟩ | ⟨h1 | h1, hw, hx⟩
  · by_cases hwv : quWrong s.n v
    · have e : quGiveTake s v won = quEnd { s with h := v, step := 2 } 9 0 := by simp [quGiveTake, h1, quHead, hwv]
      rw [e]; exact rq_t1w s v won hrow hnv ho hp h1 hU hk.uh hk.ut hk.ux hkk hwv
    · have e : quGiveTake s v won = { s with h := v, step := 2 } := by simp [quGiveTake, h1, quHead, hwv]
      rw [e]; exact rq_t1o s v won hrow hnv ho hp h1 hU hk.uh hk.ut hk.ux hkk hwv
  · have e : quGiveTake s v won = { s with t := v, step := 3 } := by simp [quGiveTake, h1]
    rw [e]; exact rq_t2 s v won hrow hnv ho hp h1 hU hk.uh hk.ut hk.ux hkk
  · have e : quGiveTake s v won = { s with x := v, step := 4 } := by simp [quGiveTake, h1]
    rw [e]; exact rq_t3 s v won hrow hnv ho hp h1 hU hk.uh hk.ut hk.ux hkk
  · by_cases hvh : v = s.h
    · have e0 : quGiveTake s v won = quFive s := by simp [quGiveTake, h1, hvh]
      by_cases hz : quNode s.x = 0
      · by_cases hl : quNode s.t = quNode s.h
        · have e : quGiveTake s v won = quEnd s 5 0 := by rw [e0]; simp [quFive, hz, hl]
          rw [e]; exact rq_t4e s v won hrow hnv ho hp h1 hU hk.uh hk.ut hk.ux hkk hvh hz hl
        · have e : quGiveTake s v won = { s with step := 1 } := by rw [e0]; simp [quFive, hz, hl]
          rw [e]; exact rq_t4r s v won hrow hnv ho hp h1 hU hk.uh hk.ut hk.ux hkk hvh hz hl
      · by_cases hwx : quWrong s.n s.x
        · have e : quGiveTake s v won = quEnd s 9 0 := by rw [e0]; simp [quFive, hz, hwx]
          rw [e]; exact rq_t4x s v won hrow hnv ho hp h1 hU hk.uh hk.ut hk.ux hkk hvh hz hwx
        · by_cases hl : quNode s.t = quNode s.h
          · have e : quGiveTake s v won = { s with step := 50 } := by rw [e0]; simp [quFive, hz, hwx, hl]
            rw [e]; exact rq_t4l s v won hrow hnv ho hp h1 hU hk.uh hk.ut hk.ux hkk hvh hz hwx hl
          · have e : quGiveTake s v won = { s with step := 5 } := by rw [e0]; simp [quFive, hz, hwx, hl]
            rw [e]; exact rq_t4n s v won hrow hnv ho hp h1 hU hk.uh hk.ut hk.ux hkk hvh hz hwx hl
    · by_cases hwv : quWrong s.n v
      · have e : quGiveTake s v won = quEnd { s with h := v, step := 2 } 9 0 := by simp [quGiveTake, h1, quHead, hwv, hvh]
        rw [e]; exact rq_t4w s v won hrow hnv ho hp h1 hU hk.uh hk.ut hk.ux hkk hvh hwv
      · have e : quGiveTake s v won = { s with h := v, step := 2 } := by simp [quGiveTake, h1, quHead, hwv, hvh]
        rw [e]; exact rq_t4o s v won hrow hnv ho hp h1 hU hk.uh hk.ut hk.ux hkk hvh hwv
  · have e : quGiveTake s v won = { s with step := 1 } := by simp [quGiveTake, h1]
    rw [e]; exact rq_t50 s v won hrow hnv ho hp h1 hU hk.uh hk.ut hk.ux hkk
  · have e : quGiveTake s v won = { s with v := v, step := 6 } := by simp [quGiveTake, h1]
    rw [e]; exact rq_t5 s v won hrow hnv ho hp h1 hU hk.uh hk.ut hk.ux hkk
  · cases won with
    | true => exact absurd ⟨h1, rfl⟩ hnw
    | false =>
      have e : quGiveTake s v false = { s with step := 1 } := by simp [quGiveTake, h1]
      rw [e]; exact rq_t6l s v false hrow hnv ho hp h1 hU hk.uh hk.ut hk.ux hkk rfl
end Go.Proofs.YtoomefclbemnlaaGreat

/-
  The document's frame of a queue goes as the queue's machine: Give in all; how it is made; what is seen of it.
-/
namespace Go.Proofs.YtoomefclbemnlaaGreat
set_option maxRecDepth 100000
set_option linter.unusedSimpArgs false
set_option linter.unusedVariables false
open Go.ChangeShapes Go.WideShapes Go.ChangeAt Go.RowKit

theorem owns9 {w : World} {base size n : Nat} {e : TypeId} {v : Value} {xs : List Value} (h : w.ownsRow base e size v n xs) (hn : 0 < n) : ∃ g c, v = .slice (some ⟨g, 0, none⟩) n c ∧ Row w g e xs ∧ base ≤ g := by
  have h' := h
  rcases h.2 with ⟨-, h0⟩ | ⟨g, cap, cur, rfl, hb, hg, rest⟩
  · omega
  · exact ⟨g, cap, rfl, Row.of_owns h', hb⟩
theorem quGiveTake_sub (s : QuS) (v : Int) (won : Bool) (hs : s.sub = none) (hn : ¬ (s.step = 6 ∧ won = true)) (hk : s.step = 1 ∨ s.step = 2 ∨ s.step = 3 ∨ s.step = 4 ∨ s.step = 50 ∨ s.step = 5 ∨ s.step = 6) : (quGiveTake s v won).sub = none := by
  rcases hk with h | h | h | h | h | h | h
  · simp only [quGiveTake, h, if_true]; unfold quHead; split <;> first | rfl | exact hs
  · simp [quGiveTake, h, hs]
  · simp [quGiveTake, h, hs]
  · by_cases hv : v = s.h
    · rw [show quGiveTake s v won = quFive s by simp [quGiveTake, h, hv]]
      unfold quFive
      repeat' split
      all_goals first | rfl | exact hs
    · rw [show quGiveTake s v won = quHead s v by simp [quGiveTake, h, hv]]
      unfold quHead; split <;> first | rfl | exact hs
  · simp [quGiveTake, h, hs]
  · simp [quGiveTake, h, hs]
  · cases won with
    | true => exact absurd ⟨h, rfl⟩ hn
    | false => simp [quGiveTake, h, hs]

set_option maxHeartbeats 3200000 in
theorem refQu_give (p : Nat) (lv : Value) (s : QuS) (w : World) (S : List Nat) (v : Int) (won : Bool) (h : refQuJ p lv w S s) (hU : M.U v) :
    Calls Tryz.prog 41 #[.pointer (some ⟨p, 0, none⟩), .int .u64 v, .bool won] w fun e w' => e = .returned (.tuple #[]) ∧ ∃ S', refQuJ p lv w' S' (queueM.give s v won) ∧ Keeps (if (queueM.res s).isSome then [] else S) w w' ∧ ∀ k ∈ S', k ∈ S ∨ w.heap.size ≤ k := by
  cases ho : s.over with
  | some r =>
    have e : queueM.give s v won = s := queueM_give_over s v won (by rw [ho]; rfl)
    have e2 : (queueM.res s).isSome = true := by show s.over.isSome = true; rw [ho]; rfl
    rw [e, if_pos e2]
    obtain ⟨nv, sv, hrow⟩ := h.row
    have c14 := hrow.cell (j := 14) (u := .bool true) (by simp [quCells, ho])
    have H0 := Lib.hid h
    clear hrow e e2 ho h
    go_enter Tryz.func41, Tryz.ntmps41
    go_wp2
    first | go_end0 | refine bodyPost_ret (results_none rfl _ _ _) rfl ?_
    exact ⟨rfl, S, H0.out, Keeps.refl _ _, fun k hk => .inl hk⟩
  | none =>
    have e2 : ¬ (queueM.res s).isSome = true := by show ¬ s.over.isSome = true; rw [ho]; simp
    rw [if_neg e2]
    obtain ⟨nv, base, hown, hb1, hb2, hsl, hlv, hok, hz, hf, hc⟩ := h
    have hk := hok ho
    have hnv := (Sl.of_owns hown).len
    have hpn : ∀ g, nv.ownBlock = some g → p < g := fun g hg => Nat.lt_of_lt_of_le hb1 (hown.lt g hg).1
    have hpp : nv.ownBlock ≠ some p := fun h => Nat.lt_irrefl _ (hpn p h)
    rcases hc with ⟨q, a, -, hs, ha, hrow, hj, hpq, hnq, rfl⟩ | ⟨h | hs, hrow, rfl⟩
    · -- it is in the arena
      have hak := quSub_arOk s a hk hs
      have eg := queueM_give_sub s a v won ho hs
      have ega : arenaM.give a v won = arGive a v won := by simp [arenaM, ha]
      have hpq' : p ≠ q := by omega
      have two : ∀ {s' : QuS} {w' : World}, Row w' p 85 (quCells s' lv nv (.pointer none)) → Keeps [p, q] w w' → s'.nodes = s.nodes → s'.l = s.l → (s'.over = none → QuOk s' ∧ s'.sub = none) → QuFine s' → (∀ r, s'.over = some r → r.l = []) →
          ∃ S', refQuJ p lv w' S' s' ∧ Keeps (p :: q :: nv.ownBlock.toList) w w' ∧ ∀ k ∈ S', k ∈ p :: q :: nv.ownBlock.toList ∨ w.heap.size ≤ k := fun {s' w'} h1 h2 h3 h4 h5 h6 h7 =>
        ⟨_, quFrame_row hown hb1 hb2 hsl hlv h1 h2 (fun k hk => by simp at hk; rcases hk with rfl | rfl; exact ⟨Nat.le_refl _, hpp⟩; exact ⟨by omega, hnq⟩) h3 h4 h5 h6 h7, h2.mono (by simp), fun k hk => .inl (by simp at hk ⊢; rcases hk with h | h; exact .inl h; exact .inr (.inr h))⟩
      cases hg : (arenaM.give a v won).over with
      | none =>
        rw [hg] at eg
        simp only at eg
        rw [eg]
        refine (rq_sub_on (p := p) (q := q) (w := w) (lv := lv) (nv := nv) s a v won hrow hj hpq' ho ha hU hg).mono ?_
        rintro e w' ⟨rfl, h1, h2, h3⟩
        refine ⟨rfl, p :: q :: nv.ownBlock.toList, ⟨nv, base, owns_keeps hown h3 (fun g hg hm => by simp at hm; subst hm; exact hnq hg), hb1, Nat.le_trans hb2 h3.size, hsl.but0 h3 (fun h0 g hg hm => ?_), hlv, fun _ => quSub_ok s a v won hk hs ha hU hg, hz, hf, .inl ⟨q, _, ho, rfl, hg, h1, h2, hpq, hnq, rfl⟩⟩, h3.mono (by simp), fun k hk => .inl hk⟩
        simp at hm; subst hm
        have := hlv (by intro h; rw [h] at h0; simp at h0) g hg
        omega
      | some r =>
        rw [hg] at eg
        simp only at eg
        obtain ⟨hrl, hru, hrn⟩ := arRes_give (v := v) (won := won) (r := r) hak ha (by rw [← ega]; exact hg)
        obtain ⟨rc, rv, rl⟩ := r
        simp only at hrl hru hrn
        subst hrl
        have hpure := quLeft_ok s a ⟨rc, rv, []⟩ hk ho hs hru hrn hf
        rw [← eg] at hpure
        rw [eg] at hpure ⊢
        cases hp : s.puts with
        | false =>
          have e : quLeft s ⟨rc, rv, []⟩ = quEnd s rc (if rc = 0 then s.v else 0) := by simp [quLeft, hp]
          rw [e] at hpure ⊢
          by_cases hrc : rc = 0
          · rw [if_pos hrc] at hpure ⊢
            refine (rq_left_t_ok (p := p) (q := q) (w := w) (lv := lv) (nv := nv) s a v rc rv won hrow hj hpq' hnv ho ha hU hg hp hrc).mono ?_
            rintro e w' ⟨rfl, h1, h2⟩
            exact ⟨rfl, two h1 h2 rfl rfl (fun h => by cases h) hpure.2.1 hpure.2.2⟩
          · rw [if_neg hrc] at hpure ⊢
            refine (rq_left_t_err (p := p) (q := q) (w := w) (lv := lv) (nv := nv) s a v rc rv won hrow hj hpq' hnv ho ha hU hg hp hrc).mono ?_
            rintro e w' ⟨rfl, h1, h2⟩
            exact ⟨rfl, two h1 h2 rfl rfl (fun h => by cases h) hpure.2.1 hpure.2.2⟩
        | true =>
          have hP := hk.put hp
          rcases hP.at_ with ⟨a', ha', -, -, hi, hl, hst⟩ | ⟨h, -⟩
          · obtain rfl : a = a' := by rw [hs] at ha'; cases ha'; rfl
            have hk3 : s.k ≤ 300 := by have := hf.1; have := hf.2.1; omega
            -- a node is put back
            have back : ∀ {s' : QuS} {w' : World} {z nb nc : Nat}, nv = .slice (some ⟨nb, 0, none⟩) s.nodes.length nc → Row w' p 85 (quCells s' lv nv (.pointer (some ⟨z, 0, none⟩))) → refArJ z w' [z] (arPut (s.at_ + 2) s.n (s.nodes.getD s.k 0)) → Keeps [p, q] w w' → w.heap.size ≤ z → s'.nodes = s.nodes → s'.l = s.l → s'.over = none → s'.sub = some (arPut (s.at_ + 2) s.n (s.nodes.getD s.k 0)) → QuOk s' → QuFine s' → s.k < s.nodes.length →
                ∃ S', refQuJ p lv w' S' s' ∧ Keeps (p :: q :: nv.ownBlock.toList) w w' ∧ ∀ k ∈ S', k ∈ p :: q :: nv.ownBlock.toList ∨ w.heap.size ≤ k := fun {s' w' z nb nc} hv h1 h2 h3 h4 h5 h6 h7 h8 h9 h10 h11 => by
              have hkS : ∀ k ∈ [p, q], p ≤ k ∧ nv.ownBlock ≠ some k := fun k hk => by simp at hk; rcases hk with rfl | rfl; exact ⟨Nat.le_refl _, hpp⟩; exact ⟨by omega, hnq⟩
              have hy := hP.nodes (s.nodes.getD s.k 0) (by rw [List.getD, List.getElem?_eq_getElem h11]; exact List.getElem_mem h11)
              have hplt := hrow.lt
              refine ⟨p :: z :: nv.ownBlock.toList, ⟨nv, base, by rw [h5]; exact owns_keeps hown h3 (fun g hg hm => (hkS g hm).2 hg), hb1, Nat.le_trans hb2 h3.size, by
                rw [h6]; exact hsl.but0 h3 (fun h0 g hg hm => by
                  have := hlv (by intro h; rw [h] at h0; simp at h0) g hg
                  have := (hkS g hm).1; omega), by rw [h6]; exact hlv, fun _ => h9, fun r h => (by rw [h7] at h; cases h), h10, .inl ⟨z, _, h7, h8, (arPut_okI hk.right.ar hy.1 hy.2).1, h1, h2, by omega, fun h => by have := (hown.lt z h).2; omega, rfl⟩⟩, h3.mono (by simp), fun k hk => ?_⟩
              simp at hk ⊢
              rcases hk with h | h | h
              · exact .inl (.inl h)
              · exact .inr (by omega)
              · exact .inl (.inr (.inr h))
            rcases hst with ⟨h1, hap, han, hk0⟩ | ⟨h10, hkl⟩
            · by_cases hrc : rc = 0
              · subst hrc
                have hb := hrn hap rfl
                rw [han] at hb
                have hn4 := hk.right.2.1
                by_cases hm : s.nodes.length + 1 < s.l.length
                · have e : quLeft s ⟨0, rv, []⟩ = { s with sub := some (arTake (s.at_ + 2) s.n), nodes := s.nodes ++ [rv] } := by simp [quLeft, hp, h1, hm]
                  rw [e] at hpure ⊢
                  refine (rq_left_p_more (p := p) (q := q) (w := w) (lv := lv) (nv := nv) s a v rv won base hrow hj hpq' ho ha hU hg hown ⟨hb1, hb2⟩ hnq hsl.len ⟨by omega, by omega⟩ hf.2.1 hm hk.right hp h1).mono ?_
                  rintro e w' ⟨rfl, nv', z, g1, g2, g3, g4, g5, g6, g7⟩
                  have hplt := hrow.lt
                  refine ⟨rfl, p :: z :: nv'.ownBlock.toList, ⟨nv', base, by simpa using g3, hb1, Nat.le_trans hb2 g5.size, hsl.but0 g5 (fun h0 g hg hm => ?_), hlv, hpure.1, hpure.2.2, hpure.2.1, .inl ⟨z, _, ho, rfl, (arTake_ok hk.right.ar).1, g1, g2, by omega, g4, rfl⟩⟩, g5, fun k hk => ?_⟩
                  · have hgp := hlv (by intro h; rw [h] at h0; simp at h0) g hg
                    simp at hm
                    rcases hm with h | h | h
                    · omega
                    · omega
                    · have := hpn g h; omega
                  · simp at hk ⊢
                    rcases hk with h | h | h
                    · exact .inl (.inl h)
                    · exact .inr (by omega)
                    · rcases g7 k h with h | h
                      · exact .inl (.inr (.inr h))
                      · exact .inr h
                · have e : quLeft s ⟨0, rv, []⟩ = { s with sub := none, nodes := s.nodes ++ [rv], step := 20 } := by simp [quLeft, hp, h1, hm]
                  rw [e] at hpure ⊢
                  refine (rq_left_p_last (p := p) (q := q) (w := w) (lv := lv) (nv := nv) s a v rv won base hrow hj hpq' ho ha hU hg hown ⟨hb1, hb2⟩ hnq hsl.len ⟨by omega, by omega⟩ hf.2.1 hm hp h1).mono ?_
                  rintro e w' ⟨rfl, nv', g1, g3, g5, g7⟩
                  refine ⟨rfl, p :: nv'.ownBlock.toList, ⟨nv', base, by simpa using g3, hb1, Nat.le_trans hb2 g5.size, hsl.but0 g5 (fun h0 g hg hm => ?_), hlv, hpure.1, hpure.2.2, hpure.2.1, .inr ⟨.inr rfl, g1, rfl⟩⟩, g5, fun k hk => ?_⟩
                  · have hgp := hlv (by intro h; rw [h] at h0; simp at h0) g hg
                    simp at hm
                    rcases hm with h | h | h
                    · omega
                    · omega
                    · have := hpn g h; omega
                  · simp at hk ⊢
                    rcases hk with h | h
                    · exact .inl (.inl h)
                    · rcases g7 k h with h | h
                      · exact .inl (.inr (.inr h))
                      · exact .inr h
              · by_cases hkn : s.k = s.nodes.length
                · have e : quLeft s ⟨rc, rv, []⟩ = quEnd { s with code := rc, step := 10 } rc 0 := by simp [quLeft, hp, h1, hrc, quBack, hkn, quEnd]
                  rw [e] at hpure ⊢
                  refine (rq_left_p_none (p := p) (q := q) (w := w) (lv := lv) (nv := nv) s a v rc rv won hrow hj hpq' hnv ho ha hU hg hp h1 hrc hkn).mono ?_
                  rintro e w' ⟨rfl, g1, g2⟩
                  exact ⟨rfl, two g1 g2 rfl rfl (fun h => by cases h) hpure.2.1 hpure.2.2⟩
                · have hlt : s.k < s.nodes.length := by have := hf.1; omega
                  obtain ⟨nb, nc, hv9, hrn9, hbn⟩ := owns9 hown (by omega)
                  have e : quLeft s ⟨rc, rv, []⟩ = { s with code := rc, step := 10, sub := some (arPut (s.at_ + 2) s.n (s.nodes.getD s.k 0)), k := s.k + 1 } := by simp [quLeft, hp, h1, hrc, quBack, hkn]
                  rw [e] at hpure ⊢
                  have hnbq : nb ≠ q := fun h => hnq (by rw [hv9, h]; rfl)
                  rw [hv9] at hrow
                  refine (rq_left_p_noneback (p := p) (q := q) (w := w) (lv := lv) s a v rc rv won nb nc (s.nodes.getD s.k 0) hrow hj hpq' ho ha hU hg (hrn9.cell (ints_at (k := .i64) hlt)) ⟨hrn9.lt, by omega, hnbq⟩ hlt hk.right hk3 hp h1 hrc).mono ?_
                  rintro e w' ⟨rfl, z, g1, g2, g3, g4⟩
                  exact ⟨rfl, back hv9 (by rw [hv9]; exact g1) g2 g3 g4 rfl rfl ho rfl (hpure.1 ho) hpure.2.1 hlt⟩
            · by_cases hkn : s.k = s.nodes.length
              · have e : quLeft s ⟨rc, rv, []⟩ = quEnd s s.code 0 := by simp [quLeft, hp, h10, quBack, hkn, quEnd]
                rw [e] at hpure ⊢
                refine (rq_left_p_end (p := p) (q := q) (w := w) (lv := lv) (nv := nv) s a v rc rv won hrow hj hpq' hnv ho ha hU hg hp h10 hkn).mono ?_
                rintro e w' ⟨rfl, g1, g2⟩
                exact ⟨rfl, two g1 g2 rfl rfl (fun h => by cases h) hpure.2.1 hpure.2.2⟩
              · have hlt : s.k < s.nodes.length := by have := hf.1; omega
                obtain ⟨nb, nc, hv9, hrn9, hbn⟩ := owns9 hown (by omega)
                have e : quLeft s ⟨rc, rv, []⟩ = { s with sub := some (arPut (s.at_ + 2) s.n (s.nodes.getD s.k 0)), k := s.k + 1 } := by simp [quLeft, hp, h10, quBack, hkn]
                rw [e] at hpure ⊢
                have hnbq : nb ≠ q := fun h => hnq (by rw [hv9, h]; rfl)
                rw [hv9] at hrow
                refine (rq_left_p_back (p := p) (q := q) (w := w) (lv := lv) s a v rc rv won nb nc (s.nodes.getD s.k 0) hrow hj hpq' ho ha hU hg (hrn9.cell (ints_at (k := .i64) hlt)) ⟨hrn9.lt, by omega, hnbq⟩ hlt hk.right hk3 hp h10).mono ?_
                rintro e w' ⟨rfl, z, g1, g2, g3, g4⟩
                exact ⟨rfl, back hv9 (by rw [hv9]; exact g1) g2 g3 g4 rfl rfl ho rfl (hpure.1 ho) hpure.2.1 hlt⟩
          · rw [hs] at h; cases h
    · exact absurd ho h
    · -- it goes by itself
      have eg := queueM_give_none s v won ho hs
      rw [eg]
      have one : ∀ {s' : QuS} {w' : World}, Row w' p 85 (quCells s' lv nv (.pointer none)) → Keeps [p] w w' → s'.nodes = s.nodes → s'.l = s.l → (s'.over = none → QuOk s' ∧ s'.sub = none) → QuFine s' → (∀ r, s'.over = some r → r.l = []) →
          ∃ S', refQuJ p lv w' S' s' ∧ Keeps (p :: nv.ownBlock.toList) w w' ∧ ∀ k ∈ S', k ∈ p :: nv.ownBlock.toList ∨ w.heap.size ≤ k := fun {s' w'} h1 h2 h3 h4 h5 h6 h7 =>
        ⟨_, quFrame_row hown hb1 hb2 hsl hlv h1 h2 (fun k hk => by simp at hk; subst hk; exact ⟨Nat.le_refl _, hpp⟩) h3 h4 h5 h6 h7, h2.mono (by simp), fun k hk => .inl hk⟩
      cases hp : s.puts with
      | true =>
        simp only [if_true]
        obtain ⟨g1, g2, g3, -, g5, g6⟩ := quGivePut_ok s v won hk hp ho hs hU hf
        refine (refQu_givePut p lv nv s w v won hrow hnv hk hf ho hs hp hU).mono ?_
        rintro e w' ⟨rfl, h1, h2⟩
        exact ⟨rfl, one h1 h2 g5 g6 g1 g2 g3⟩
      | false =>
        simp only [Bool.false_eq_true, if_false]
        obtain ⟨g1, g2, g3, -, g5, g6⟩ := quGiveTake_ok s v won hk hp ho hs hU hf
        by_cases hnw : s.step = 6 ∧ won = true
        · obtain ⟨h6, rfl⟩ := hnw
          have e : quGiveTake s v true = { s with inn := true, sub := some (arPut (s.at_ + 2) s.n (quNode s.h)) } := by simp [quGiveTake, h6]
          rw [e] at g1 g2 g3 ⊢
          refine (rq_t6w (p := p) (w := w) (lv := lv) (nv := nv) s v hrow ho hp h6 hk.uh hk.right).mono ?_
          rintro e w' ⟨rfl, z, f1, f2, f3, f4⟩
          have hplt := hrow.lt
          rcases (hk.take hp).at_ with ⟨a, ha', -⟩ | ⟨-, -, hc⟩
          · rw [hs] at ha'; cases ha'
          have hnh : ¬ quWrong s.n s.h := by
            rcases hc with h | ⟨h | h | h, -⟩ | ⟨h, -⟩ | ⟨h | h, hw, -⟩
            all_goals first | exact hw | (rw [h6] at h; cases h)
          have hnb := quNode_ok hnh
          refine ⟨rfl, p :: z :: nv.ownBlock.toList, ⟨nv, base, owns_keeps hown f3 (fun g hg hm => by simp at hm; subst hm; exact hpp hg), hb1, Nat.le_trans hb2 f3.size, hsl.but0 f3 (fun h0 g hg hm => ?_), hlv, fun h => g1 h, g3, g2, .inl ⟨z, _, ho, rfl, (arPut_okI hk.right.ar hnb.1 hnb.2).1, f1, f2, by omega, fun h => by have := (hown.lt z h).2; omega, rfl⟩⟩, f3.mono (by simp), fun k hk => ?_⟩
          · simp at hm; subst hm
            have := hlv (by intro h; rw [h] at h0; simp at h0) g hg
            omega
          · simp at hk ⊢
            rcases hk with h | h | h
            · exact .inl (.inl h)
            · exact .inr (by omega)
            · exact .inl (.inr h)
        · refine (refQu_giveTake p lv nv s w v won hrow hnv hk hf ho hs hp hU hnw).mono ?_
          rintro e w' ⟨rfl, h1, h2⟩
          refine ⟨rfl, one h1 h2 g5 g6 (fun h => ⟨g1 h, quGiveTake_sub s v won hs hnw ?_⟩) g2 g3⟩
          rcases (hk.take hp).at_ with ⟨a, ha', -⟩ | ⟨-, -, hc⟩
          · rw [hs] at ha'; cases ha'
          rcases hc with h | ⟨h | h | h, -⟩ | ⟨h, -⟩ | ⟨h | h, -, -⟩ <;> simp [h]

theorem refQuRuns (p : Nat) (lv : Value) (n : Nat) : RefRuns queueM (fun w S s => refQuJ p lv w S s ∧ (s.l.length = n)) (refQuR lv n) p 38 39 40 41 where
  lt := fun {w S s} h k hk => by
    obtain ⟨⟨nv, base, hown, -, -, -, -, -, -, -, hc⟩, -⟩ := h
    rcases hc with ⟨q, a, -, -, -, hrow, hj, -, -, rfl⟩ | ⟨-, hrow, rfl⟩
    · simp at hk
      rcases hk with rfl | rfl | h
      · exact hrow.lt
      · exact hj.2.1.lt
      · exact (hown.lt k h).2
    · simp at hk
      rcases hk with rfl | h
      · exact hrow.lt
      · exact (hown.lt k h).2
  frame := fun {w w' S T s} h hk hT hR => by
    obtain ⟨⟨nv, base, hown, hb1, hb2, hsl, hlv, hok, hz, hf, hc⟩, hn⟩ := h
    have hsl' : Sl w' 1 lv s.l.length (ints .u64 s.l) := hsl.but0 hk (fun h0 g hg hm => hR g hm ⟨by omega, hg⟩)
    refine ⟨⟨nv, base, ?_, hb1, Nat.le_trans hb2 hk.size, hsl', hlv, hok, hz, hf, ?_⟩, hn⟩
    · rcases hc with ⟨q, a, -, -, -, hrow, hj, -, -, rfl⟩ | ⟨-, hrow, rfl⟩
      · exact owns_keeps hown hk (fun g hg => hT g (by simp [hg]))
      · exact owns_keeps hown hk (fun g hg => hT g (by simp [hg]))
    · rcases hc with ⟨q, a, h1, h2, h3, hrow, hj, h6, h7, rfl⟩ | ⟨h1, hrow, rfl⟩
      · exact .inl ⟨q, a, h1, h2, h3, hrow.keeps hk (hT p (by simp)), ⟨hj.1, hj.2.1.keeps hk (hT q (by simp)), hj.2.2⟩, h6, h7, rfl⟩
      · exact .inr ⟨h1, hrow.keeps hk (hT p (by simp)), rfl⟩
  stays := fun s v won h => by
    have h' : s.over.isSome = true := h
    show (queueM.give s v won).over.isSome = true
    rw [queueM_give_over s v won h']
    exact h'
  few := fun {w S s} h => by
    obtain ⟨⟨nv, base, -, -, -, -, -, hok, -, hf, -⟩, -⟩ := h
    rw [queueM_held]
    unfold quHeld
    split
    · simp
    · rename_i hh
      split
      · rename_i hp
        have ho : s.over = none := by
          cases ho : s.over with
          | none => rfl
          | some r => exact absurd (.inl (by rw [ho]; rfl)) hh
        have := ((hok ho).put hp).few.2
        omega
      · simp
  want := fun w S s h => refQu_want p lv s w S h.1
  over := fun w S s h => refQu_over p lv s w S h.1
  held := fun w S s h => refQu_held p lv s w S h.1
  give := fun w S s v won h hv => (refQu_give p lv s w S v won h.1 hv).mono fun e w' ⟨a, S', b, c, d⟩ => ⟨a, S', ⟨b, by rw [queueM_give_l]; exact h.2⟩, c, d⟩
set_option maxHeartbeats 3200000 in
set_option maxRecDepth 100000 in
theorem seen_line {σ : Type} (K : Mach σ) (J : World → List Nat → σ → Prop) (R : Nat → Prop) (p : Nat) (hR : RefRuns K J R p 38 39 40 41) (vt : Value) (s : σ) (ts : List (Int × Bool)) (S0 : List Nat) (w : World) (hJ : J w S0 s)
    (ht : Sl w 2 vt ts.length (tolds ts)) (htS : ts.length ≠ 0 → ∀ g, vt.ownBlock = some g → g ∉ S0) (hv : ∀ t ∈ ts, M.U t.1) (hn : ts.length ≤ 1000000) (hRo : ∀ k, R k → k < w.heap.size) :
    Calls Tryz.prog 12 #[.pointer (some ⟨p, 0, none⟩), vt] w fun e w' => ∃ v, e = .returned v ∧ SeenAt w' (fun k => k ∈ S0 ∨ w.heap.size ≤ k) v (K.trace s ts) ∧ Keeps S0 w w' := by
  obtain ⟨pt, ct, rfl⟩ := ht.len
  have HT := Lib.hid ht
  have HTS := Lib.hid htS
  have HV := Lib.hid hv
  have HJ := Lib.hid hJ
  have HRO := Lib.hid hRo
  clear ht htS hv hJ hRo
  go_enter Tryz.func12, Tryz.ntmps12
  go_wp2
  go_loopw [5, 6] (fun v i wr => ∃ k : Nat, k ≤ ts.length + 1 ∧ i = .int .i64 k ∧ SeenInv K J s ts S0 w 65 k v wr) (fun _ i _ => ts.length + 1 - (intOf i).toNat)
  case atStart =>
    refine ⟨0, Nat.zero_le _, rfl, S0, [], hR.frame HJ.out ((Keeps.refl [] w).alloc _) (by simp) (by simp), owns_empty w 65 10, rfl, by simp, by simp, (Keeps.refl _ _).alloc _, fun j h => .inl h, fun g hg => ?_⟩
    intro h
    have := hR.lt HJ.out g h
    simp [Value.ownBlock] at hg
    omega
  case round =>
    obtain ⟨k, hk, rfl, S, gs, hJ, ho, hf, hg, hnone, hK, hnew, hvS⟩ := hrel
    have hgl : gs.length = min k (ts.length + 1) := by rw [← K.trace_len s ts, ← List.length_take, ← hf, List.length_map]
    obtain ⟨qv, cv, rfl⟩ := (Sl.of_owns ho).len
    have hvlt := ho.lt
    have HO := Lib.hid ho
    have HF := Lib.hid hf
    have HG := Lib.hid hg
    have HNONE := Lib.hid hnone
    have HK := Lib.hid hK
    have HN := Lib.hid hnew
    have HVS := Lib.hid hvS
    have HJ1 := Lib.hid hJ
    have HVLT := Lib.hid hvlt
    clear hJ ho hf hg hnone hK hnew hvS hvlt
    by_cases hlt : k ≤ ts.length
    · have HGL : Hid (gs.length = k) := Lib.hid (by omega)
      clear hgl
      obtain ⟨sk, hsk⟩ : ∃ sk, K.goes s (ts.take k) = sk := ⟨_, rfl⟩
      have HSK := Lib.hid hsk
      rw [hsk] at HJ1 HNONE
      obtain ⟨x, hx⟩ : ∃ x, (K.want sk).getD zacc = x := ⟨_, rfl⟩
      obtain ⟨bw, hbw⟩ : ∃ bw, (K.want sk).isSome = bw := ⟨_, rfl⟩
      obtain ⟨rr, hrr⟩ : ∃ rr, (K.res sk).getD Rs.zero = rr := ⟨_, rfl⟩
      obtain ⟨br, hbr⟩ : ∃ br, (K.res sk).isSome = br := ⟨_, rfl⟩
      have HWant := hR.want wr S sk HJ1.out
      rw [hx, hbw] at HWant
      have HRes := fun w1 hI => hR.over w1 S sk hI
      rw [hrr, hbr] at HRes
      have HResH := Lib.hid HRes
      have HX := Lib.hid hx
      have HBW := Lib.hid hbw
      have HRR := Lib.hid hrr
      have HBR := Lib.hid hbr
      have hwr : wr.heap.size = wr.heap.size := rfl
      clear hsk hx hbw hrr hbr HRes
      go_wp2_with fail
      refine HWant.mono ?_
      clear HWant
      rintro e w1 ⟨rfl, k1⟩
      have HJ2 := Lib.hid (hR.frame HJ1.out k1 (by simp) (by simp))
      have HK1 := Lib.hid k1
      have hs1 := k1.size
      clear k1
      obtain ⟨W1, hW1⟩ : ∃ W1, w1.alloc (.cells #[.int .i64 x.k, .int .i64 x.c, .int .u64 x.a, .int .u64 x.b] 60) = W1 := ⟨_, rfl⟩
      have hb1 : Box W1 w1.heap.size #[.int .i64 x.k, .int .i64 x.c, .int .u64 x.a, .int .u64 x.b] := by rw [← hW1]; exact Box.new _ _ _
      have hk1 : Keeps [] w1 W1 := by rw [← hW1]; exact (Keeps.refl _ _).alloc _
      have HB1 := Lib.hid hb1
      have HK1' := Lib.hid hk1
      have HJ3 := Lib.hid (hR.frame HJ2.out hk1 (by simp) (by simp))
      clear hb1 hk1 HJ2
      go_wp2_with fail
      clear hW1
      refine (HResH.out _ HJ3.out).mono ?_
      rintro e w2 ⟨ql, nl, cl, rfl, k2, hres⟩
      obtain ⟨W, hW⟩ : ∃ W, w2.alloc (.cells #[.int .i64 rr.code, .int .u64 rr.v, .slice ql nl cl] 56) = W := ⟨_, rfl⟩
      have hb2 : Box W w2.heap.size #[.int .i64 rr.code, .int .u64 rr.v, .slice ql nl cl] := by rw [← hW]; exact Box.new _ _ _
      have hk2 : Keeps [] w2 W := by rw [← hW]; exact (Keeps.refl _ _).alloc _
      have hbA : Box W w1.heap.size #[.int .i64 x.k, .int .i64 x.c, .int .u64 x.a, .int .u64 x.b] := (HB1.out.keeps k2 (by simp)).keeps hk2 (by simp)
      have hkk : Keeps [] wr W := ((HK1.out.trans HK1'.out).trans k2).trans hk2
      have HRESL : Hid (∀ r, K.res sk = some r → Sl W 1 (.slice ql nl cl) r.l.length (ints .u64 r.l) ∧ r.l.length ≤ maxLen ∧ ∀ g, (Value.slice ql nl cl).ownBlock = some g → g ∈ S ∨ wr.heap.size ≤ g) := Lib.hid fun r hr =>
        ⟨(hres r hr).1.but hk2 (by simp), (hres r hr).2.1, fun g hg => ((hres r hr).2.2 g hg).imp id (fun h => Nat.le_trans (Nat.le_trans HK1.out.size HK1'.out.size) h)⟩
      go_upto_region 7 with (fail)
      have a0 := hbA.cells 0
      have a1 := hbA.cells 1
      have a2 := hbA.cells 2
      have a3 := hbA.cells 3
      have r0 := hb2.cells 0
      have r1 := hb2.cells 1
      have r2 := hb2.cells 2
      have la := hbA.lt
      have lr := hb2.lt
      have HJ4 := Lib.hid (hR.frame HJ3.out (k2.trans hk2) (by simp) (by simp))
      have HOW := Lib.hid (owns_keeps HO.out hkk (by simp))
      have HKK := Lib.hid hkk
      have hs2 : w1.heap.size ≤ w2.heap.size := Nat.le_trans HK1'.out.size k2.size
      clear hbA hb2 hk2 k2 hres HB1 HJ3 HK1 HK1' HResH hkk hW
      simp at a0 a1 a2 a3 r0 r1 r2
      have HSC : Hid (∀ h, seenCells ⟨K.want sk, K.res sk, K.held sk⟩ (.slice ql nl cl) h = [.int .i64 x.k, .int .i64 x.c, .int .u64 x.a, .int .u64 x.b, .bool bw, .int .i64 rr.code, .int .u64 rr.v, .slice ql nl cl, .bool br, h]) := Lib.hid fun h => by
        unfold seenCells; simp only [HX.out, HBW.out, HRR.out, HBR.out]
      obtain ⟨L, hL⟩ : ∃ L, (Value.slice qv gs.length cv).ownBlock.toList = L := ⟨_, rfl⟩
      have hLm : ∀ g ∈ L, w.heap.size ≤ g ∧ g < wr.heap.size ∧ g ∉ S := fun g hg => by
        rw [← hL] at hg
        have e : (Value.slice qv gs.length cv).ownBlock = some g := by simpa using hg
        exact ⟨(HVLT.out g e).1, (HVLT.out g e).2, HVS.out g e⟩
      have hwr1 : wr.heap.size ≤ w1.heap.size := hs1
      have na : w1.heap.size ∉ L := fun h => by have := (hLm _ h).2.1; omega
      have nb : w2.heap.size ∉ L := fun h => by have := (hLm _ h).2.1; omega
      have HL := Lib.hid hL
      have HLM := Lib.hid hLm
      clear hL
      have hHeld : ∀ W', Keeps L W W' → Calls Tryz.prog 40 #[.pointer (some ⟨p, 0, none⟩)] W' fun e w' => ∃ q c, e = .returned (.slice q (K.held sk).length c) ∧ Sl w' 1 (.slice q (K.held sk).length c) (K.held sk).length (ints .u64 (K.held sk)) ∧ Keeps [] W' w' :=
        fun W' hW' => hR.held W' S sk (hR.frame HJ4.out hW' (fun k hk h => (hLm k h).2.2 hk) (fun k hk h => by have := HRO.out k h; have := (hLm k hk).1; omega))
      have HHeld := Lib.hid hHeld
      have HVW : Hid (∀ g, (Value.slice qv gs.length cv).ownBlock = some g → g < W.heap.size) := Lib.hid fun g hg => (HOW.out.lt g hg).2
      have HFEW := Lib.hid (hR.few HJ4.out)
      have HBB : Hid (w.heap.size ≤ W.heap.size) := Lib.hid (Nat.le_trans HK.out.size HKK.out.size)
      obtain ⟨N, hN⟩ : ∃ N, W.heap.size = N := ⟨_, rfl⟩
      rw [hN] at la lr
      have HN3 := Lib.hid hN
      clear hN hHeld hLm
      have hkeep : Keeps L W W := Keeps.refl _ _
      have hownW := HOW.out
      go_cut [5] from 12 to 55 (fun v w' => SeenMid W w.heap.size 65 (.slice qv gs.length cv) gs.length (seenRows gs) ⟨K.want sk, K.res sk, K.held sk⟩ (.slice ql nl cl) v w')
      case first =>
        have hcell : ∀ b o, b < N → b ∉ L → W.cell? ⟨b, o, none⟩ = W.cell? ⟨b, o, none⟩ := fun _ _ _ _ => rfl
        (go_region_held3 (fun w' => Keeps L W w' ∧ ∀ b o, b < N → b ∉ L → w'.cell? ⟨b, o, none⟩ = W.cell? ⟨b, o, none⟩)
            (first
              | exact ⟨by assumption, by assumption⟩
              | exact heldOf HN3.out (Keeps.drew (by assumption))
              | (go_split_ands; exact heldOf HN3.out (Keeps.alloc (by assumption) _))
              | (go_split_ands; exact heldOf HN3.out (Keeps.trans (by assumption) hk2.nil))
              | (go_split_ands; exact heldOf HN3.out (Keeps.trans (by assumption) k7)))
            (first
              | (go_at_call 40; go_split_ands; refine (HHeld.out _ (by assumption)).mono ?_; rintro e w4 ⟨qh, ch, rfl, hsl, hk2⟩; have own4 := owns_keeps (first_own (by first | exact hownW | exact World.ownsRow.alloc hownW _)) hk2 (by simp))
              | (go_split_ands; (refine step_append_empty (by rfl) _ _ 24 (by rfl) 49 _ 1 8 Tryz.underlying24 elemU _ (by rfl) _ (K.held sk).length (ints .u64 (K.held sk)) (by rfl) (by first | exact hsl | exact hsl.but ((Keeps.refl [] _).alloc _) (by simp)) (ints_one .u64 _) (by have := HFEW.out; omega) ?_); intro v5 w5 hs5 hk2 hf5; have hk45 := hk2; have own5 := owns_keeps (first_own (by first | exact own4 | exact World.ownsRow.alloc own4 _)) hk2 (by simp); obtain ⟨p5, c5, rfl⟩ := hs5.len)
              | (go_split_ands; (refine step_append_fresh (by rfl) _ _ 34 (by rfl) w.heap.size 65 _ 10 112 Tryz.underlying34 elemSeen _ gs.length (seenRows gs) (by rfl) (World.ownsRow.alloc own5 _) _ (seenCells ⟨K.want sk, K.res sk, K.held sk⟩ (.slice ql nl cl) (.slice p5 (K.held sk).length c5)) (by rfl) rfl (by simp [Value.oneCell']) (fun j u hu => by rw [World.cell?_alloc_at _ _ _ _ rfl, ← Array.getElem?_toList]; rw [HSC.out] at hu; exact hu) (by have := HGL.out; omega) (Nat.le_trans HBB.out (Keeps.size (S := L) (by assumption))) ?_); intro v7 w7 own7 k7 f7 ne7; rw [HL.out] at k7)))
        all_goals
          go_split_ands
          go_wp2_with fail
          go_meet
          exact SeenMid.mk HVW.out (by rw [HL.out]; assumption) hk45 hs5 hf5 own7 (by rw [HL.out]; exact k7) f7 ne7
      case rest =>
        have hnow : SeenNow K J s ts S0 w 65 k (.slice qv gs.length cv) wr S sk gs := ⟨HJ1.out, HO.out, HF.out, HG.out, HNONE.out, HK.out, HN.out, HVS.out⟩
        have hmid := hcut
        clear hcut
        have hkL : Keeps L W wc := by obtain ⟨_, _, _, _, _, h, _⟩ := hmid; rw [← HL.out]; exact h
        have hJc : J wc S sk := hR.frame HJ4.out hkL (fun k hk h => (HLM.out k h).2.2 hk) (fun k hk h => by have := HRO.out k h; have := (HLM.out k hk).1; omega)
        obtain ⟨hh, hn2⟩ := hnow.snoc hlt HSK.out HKK.out hJc (fun g hg => hR.lt HJ4.out g hg) ⟨_, _, _, rfl⟩ HRESL.out HFEW.out hmid
        have hKw : Keeps S0 w wc := hn2.keeps
        have hST := hR.stays sk
        clear hnow hkL hJc hmid hkeep hownW HL HLM HSC HKK HHeld HRESL HFEW HVW HBB HOW HN3 HJ4 HJ1 HO HF HG HNONE HK HN HVS HVLT HX HBW HRR HBR la lr na nb a0 a1 a2 a3 r0 r1 r2 hs1 hs2 hwr1 hwr
        have HN2 := Lib.hid hn2
        have HKW := Lib.hid hKw
        have HST := Lib.hid hST
        clear hn2 hKw hST
        by_cases hl2 : k < ts.length
        · have hsl : Sl wc 2 (.slice pt ts.length ct) ts.length (tolds ts) := HT.out.but0 HKW.out HTS.out
          obtain ⟨bt, ot, ct', he, hbt, hct⟩ := hsl.some (by omega)
          cases he
          obtain ⟨⟨tv, tw⟩, htk⟩ : ∃ t, ts[k]? = some t := ⟨_, List.getElem?_eq_getElem hl2⟩
          have hu : M.U tv := HV.out (tv, tw) (List.mem_of_getElem? htk)
          have t0 := hct (k * 2) _ (tolds_at ts k _ htk).1
          have t1 := hct (k * 2 + 1) _ (tolds_at ts k _ htk).2
          have t1' : wc.cell? ⟨bt, ot + k * 2 + 1, none⟩ = some (.bool tw) := by rw [← t1, Nat.add_assoc]
          have hgo : K.goes s (ts.take (k + 1)) = K.give sk tv tw := by
            rw [K.goes_succ s ts hl2, HSK.out]
            have := (List.getElem?_eq_some_iff.1 htk).2
            rw [this]
          have HGO := Lib.hid hgo
          have HGive := Lib.hid (fun W hI => hR.give W S sk tv tw hI hu)
          have i0 : (0 : Int) ≤ (k : Int) := by omega
          have i1 : (k : Int) < (ts.length : Int) := by omega
          clear hgo hsl hct hu htk t1
          go_wp2_with fail
          go_still_tail 11, (by kernel_rfl)
          change wpList _ _ _ _ _ wc.drew
          go_wp2_with fail
          refine (HGive.out wc.drew (hR.frame HN2.out.j (Keeps.refl [] wc).drew (by simp) (by simp))).mono ?_
          rintro e w7 ⟨rfl, S7, hI7, k7, n7⟩
          have HP := Lib.hid (show SeenInv K J s ts S0 w 65 (k + 1) u5 w7 from (HN2.out.give (HST.out tv tw) hI7 k7.undrew n7).inv HGO.out)
          clear hI7 k7 n7
          go_wp2
          go_roundw
          case rel => exact ⟨k + 1, by omega, by go_num, HP.out⟩
          case measure => simp [intOf]; omega
        · obtain rfl : k = ts.length := by omega
          have hgo : K.goes s (ts.take (ts.length + 1)) = sk := by
            rw [List.take_of_length_le (by omega)]
            have := HSK.out
            rwa [List.take_of_length_le (Nat.le_refl _)] at this
          have HP := Lib.hid (show SeenInv K J s ts S0 w 65 (ts.length + 1) u5 wc from HN2.out.inv hgo)
          clear hgo
          go_wp2
          go_roundw
          case rel => exact ⟨ts.length + 1, by omega, by go_num, HP.out⟩
          case measure => simp [intOf]
    · obtain rfl : k = ts.length + 1 := by omega
      go_wp2
      go_ret
      have hfull : (K.trace s ts).take (ts.length + 1) = K.trace s ts := List.take_of_length_le (by rw [K.trace_len]; exact Nat.le_refl _)
      exact ⟨_, rfl, seen_done HO.out (by omega) (by rw [HF.out, hfull]) HG.out (fun g hg => (HVLT.out g hg).1), HK.out⟩

theorem refQuEnd9 (p : Nat) (s : QuS) (lv nv sv : Value) (code v : Int) (w : World) (h : Row w p 85 (quCells s lv nv sv)) :
    Calls Tryz.prog 36 #[.pointer (some ⟨p, 0, none⟩), .int .i64 code, .int .u64 v] w fun e w' => e = .returned (.tuple #[]) ∧ Row w' p 85 (quCells (quEnd s code v) lv nv (.pointer none)) ∧ Keeps [p] w w' := by
  have h14 := h.cell (j := 14) rfl
  have h15 := h.cell (j := 15) rfl
  have h16 := h.cell (j := 16) rfl
  have h17 := h.cell (j := 17) rfl
  have h7 := h.cell (j := 7) rfl
  have f7 := h.frozen 7
  have f14 := h.frozen 14
  have f15 := h.frozen 15
  have f16 := h.frozen 16
  have f17 := h.frozen 17
  have HR := Lib.hid h
  clear h
  go_enter Tryz.func36, Tryz.ntmps36
  go_wp2
  first | go_end0 | refine bodyPost_ret (results_none rfl _ _ _) rfl ?_
  refine ⟨rfl, ?_⟩
  apply Did.fin (hr := HR.out)
  · repeat (first | with_reducible apply Did.set | with_reducible apply Did.drew | with_reducible apply Did.drewN | with_reducible apply Did.alloc | with_reducible exact Did.refl)
  · kernel_rfl
end Go.Proofs.YtoomefclbemnlaaGreat

/-
  The document's frame of a queue is made.
-/
namespace Go.Proofs.YtoomefclbemnlaaGreat
set_option maxRecDepth 100000
set_option linter.unusedSimpArgs false
set_option linter.unusedVariables false
open Go.ChangeShapes Go.WideShapes Go.ChangeAt Go.RowKit

theorem quTake_ok {at_ n : Int} (hr : quRight at_ n) : QuOk (quTake at_ n) := by
  have e : quTake at_ n = quZero at_ n false [] := by simp [quTake, hr]
  rw [e]
  have U0 : M.U 0 := ⟨by decide, by decide⟩
  exact ⟨hr, U0, U0, U0, U0, fun h => (by cases h), fun _ => ⟨.inr ⟨rfl, rfl, .inl rfl⟩⟩⟩
theorem quPut_ok {at_ n : Int} {l : List Int} (hr : quRight at_ n) (h1 : 1 ≤ l.length) (h3 : l.length ≤ 300) (hU : ∀ u ∈ l, M.U u) : QuOk (quPut at_ n l) := by
  have hne : l ≠ [] := by intro h; rw [h] at h1; simp at h1
  have e : quPut at_ n l = { quZero at_ n true l with sub := some (arTake (at_ + 2) n) } := by simp [quPut, hr, hne, show ¬ 300 < l.length by omega]
  rw [e]
  have U0 : M.U 0 := ⟨by decide, by decide⟩
  obtain ⟨b1, b2⟩ := arTake_ok hr.ar
  exact ⟨hr, U0, U0, U0, U0, fun _ => ⟨⟨h1, h3⟩, hU, fun i hi => (by cases hi), .inl ⟨_, rfl, b1, b2, rfl, h1, .inl ⟨rfl, rfl, rfl, rfl⟩⟩⟩, fun h => (by cases h)⟩

theorem quMade9 {p : Nat} {W : World} {s : QuS} {lv : Value} (hr : Row W p 85 (quCells s lv (.slice none 0 0) (.pointer none))) (hn : s.nodes = []) (hk : s.k = 0) (hl : Sl W 1 lv s.l.length (ints .u64 s.l)) (hlv : s.l ≠ [] → ∀ g, lv.ownBlock = some g → g < p) (hp : s.puts = false → s.l = []) (ho : (s.over = none → QuOk s) ∧ (∀ r, s.over = some r → r.l = []) ∧ (s.over ≠ none ∨ s.sub = none)) : refQuJ p lv W [p] s := by
  have hlt := hr.lt
  exact ⟨.slice none 0 0, p + 1, by rw [hn]; exact ⟨rfl, .inl ⟨rfl, rfl⟩⟩, Nat.lt_succ_self _, hlt, hl, hlv, ho.1, ho.2.1, ⟨by rw [hk]; exact Nat.zero_le _, by rw [hn]; simp, fun h => ⟨hn, hp h, hk⟩⟩, .inr ⟨ho.2.2, hr, rfl⟩⟩

set_option maxHeartbeats 1600000 in
theorem refQuTake_any (at_ n : Int) (w : World) :
    Calls Tryz.prog 14 #[.int .i64 at_, .int .i64 n] w fun e w' => ∃ p, e = .returned (.pointer (some ⟨p, 0, none⟩)) ∧ refQuJ p (.slice none 0 0) w' [p] (quTake at_ n) ∧ Keeps [] w w' ∧ w.heap.size ≤ p := by
  have HR := Lib.hid (fun W => refRight9_any at_ n W)
  obtain ⟨W0, hW0⟩ : ∃ W0, w.alloc (.cells #[.int .i64 at_, .int .i64 n, .bool false, .slice none 0 0, .slice none 0 0, .int .i64 0, .int .i64 1, .pointer none, .int .u64 0, .int .u64 0, .int .u64 0, .int .u64 0, .int .i64 0, .bool false, .bool false, .int .i64 0, .int .u64 0, .slice none 0 0] 85) = W0 := ⟨_, rfl⟩
  have r0 : Row W0 w.heap.size 85 (quCells (quZero at_ n false []) (.slice none 0 0) (.slice none 0 0) (.pointer none)) := by rw [← hW0]; exact Row.new _ _ _
  have HK : Hid (Keeps [] w W0) := Lib.hid (by rw [← hW0]; exact (Keeps.refl _ _).alloc _)
  have hz0 : W0.heap.size = w.heap.size + 1 := by rw [← hW0]; simp
  have HE := Lib.hid (fun W (h : Keeps [] W0 W) => refQuEnd9 w.heap.size _ _ _ _ 2 0 W (r0.keeps h (by simp)))
  have HR0 := Lib.hid r0
  have HSl : Hid (∀ W, Sl W 1 (.slice none 0 0) 0 (ints .u64 [])) := Lib.hid fun W => ⟨rfl, .inl ⟨_, _, rfl, rfl⟩⟩
  clear r0
  by_cases hr : quRight at_ n
  · have hd : decide (quRight at_ n) = true := decide_eq_true hr
    rw [hd] at HR
    have HT : Hid (quTake at_ n = quZero at_ n false []) := Lib.hid (by simp [quTake, hr])
    have HH := Lib.hid hr
    clear hr hd HE
    go_enter Tryz.func14, Tryz.ntmps14
    go_wp2_with fail
    refine (HR.out W0).mono ?_
    rintro e w1 ⟨rfl, rfl⟩
    go_wp2
    go_ret
    refine ⟨w.heap.size, rfl, ?_, HK.out, Nat.le_refl _⟩
    rw [HT.out]
    exact quMade9 HR0.out rfl rfl (HSl.out _) (fun h => absurd rfl h) (fun _ => rfl) ⟨fun _ => HT.out ▸ quTake_ok HH.out, fun r h => (by cases h), .inr rfl⟩
  · have hd : decide (quRight at_ n) = false := decide_eq_false hr
    rw [hd] at HR
    have HT : Hid (quTake at_ n = quEnd (quZero at_ n false []) 2 0) := Lib.hid (by simp [quTake, hr])
    clear hr hd
    go_enter Tryz.func14, Tryz.ntmps14
    go_wp2_with fail
    refine (HR.out W0).mono ?_
    rintro e w1 ⟨rfl, rfl⟩
    go_wp2_with fail
    refine (HE.out _ (Keeps.refl _ _)).mono ?_
    rintro e w1 ⟨rfl, r1, k1⟩
    have HR1 := Lib.hid r1
    have HK1 := Lib.hid k1
    clear r1 k1
    go_wp2
    go_ret
    refine ⟨w.heap.size, rfl, ?_, HK.out.step HK1.out (by simp), Nat.le_refl _⟩
    rw [HT.out]
    exact quMade9 HR1.out rfl rfl (HSl.out _) (fun h => absurd rfl h) (fun _ => rfl) ⟨fun h => (by cases h), fun r h => (by cases h; rfl), .inl (by simp [quEnd])⟩

set_option maxHeartbeats 3200000 in
theorem refQuPut_any (at_ n : Int) (lq : Option Addr) (lc : Nat) (l : List Int) (w : World) (hl : Sl w 1 (.slice lq l.length lc) l.length (ints .u64 l)) (hm : l.length ≤ 320) (hU : ∀ u ∈ l, M.U u) :
    Calls Tryz.prog 11 #[.int .i64 at_, .int .i64 n, .slice lq l.length lc] w fun e w' => ∃ p S, e = .returned (.pointer (some ⟨p, 0, none⟩)) ∧ refQuJ p (.slice lq l.length lc) w' S (quPut at_ n l) ∧ Keeps [] w w' ∧ ∀ k ∈ S, w.heap.size ≤ k := by
  have HR := Lib.hid (fun W => refRight9_any at_ n W)
  obtain ⟨W0, hW0⟩ : ∃ W0, w.alloc (.cells #[.int .i64 at_, .int .i64 n, .bool true, .slice lq l.length lc, .slice none 0 0, .int .i64 0, .int .i64 1, .pointer none, .int .u64 0, .int .u64 0, .int .u64 0, .int .u64 0, .int .i64 0, .bool false, .bool false, .int .i64 0, .int .u64 0, .slice none 0 0] 85) = W0 := ⟨_, rfl⟩
  have r0 : Row W0 w.heap.size 85 (quCells (quZero at_ n true l) (.slice lq l.length lc) (.slice none 0 0) (.pointer none)) := by rw [← hW0]; exact Row.new _ _ _
  have k0 : Keeps [] w W0 := by rw [← hW0]; exact (Keeps.refl _ _).alloc _
  have HK : Hid (Keeps [] w W0) := Lib.hid k0
  have hz0 : W0.heap.size = w.heap.size + 1 := by rw [← hW0]; simp
  have HE := Lib.hid (fun c W (h : Keeps [] W0 W) => refQuEnd9 w.heap.size _ _ _ _ c 0 W (r0.keeps h (by simp)))
  have HR0 := Lib.hid r0
  have HL : Hid (l ≠ [] → ∀ g, (Value.slice lq l.length lc).ownBlock = some g → g < w.heap.size) := Lib.hid (fun hne g hg => by
    rcases hl.2 with ⟨p, c, -, h⟩ | ⟨b, off, cap, h, hb, -⟩
    · exact absurd (List.eq_nil_of_length_eq_zero h) hne
    · rw [h] at hg; simp [Value.ownBlock] at hg; omega)
  have HSl : Hid (∀ S W, Keeps S W0 W → (∀ g, (Value.slice lq l.length lc).ownBlock = some g → g < w.heap.size → g ∉ S) → Sl W 1 (.slice lq l.length lc) l.length (ints .u64 l)) := Lib.hid (fun S W h hS => (hl.keeps k0 (by simp)).but0 h (fun h0 g hg hgm => hS g hg (HL.out (by intro h; rw [h] at h0; simp at h0) g hg) hgm))
  have HU := Lib.hid hU
  clear r0 k0 hl hU
  by_cases hr : quRight at_ n
  · have hd : decide (quRight at_ n) = true := decide_eq_true hr
    rw [hd] at HR
    have HH := Lib.hid hr
    clear hr hd
    by_cases h0 : l.length = 0
    · have HT : Hid (quPut at_ n l = quEnd (quZero at_ n true l) 2 0) := Lib.hid (by simp [quPut, List.eq_nil_of_length_eq_zero h0])
      have d0 : ((l.length : Int) == 0) = true := by simp [h0]
      clear h0
      go_enter Tryz.func11, Tryz.ntmps11
      go_wp2_with fail
      refine (HR.out W0).mono ?_
      rintro e w1 ⟨rfl, rfl⟩
      go_wp2_with fail
      refine (HE.out _ _ (Keeps.refl _ _)).mono ?_
      rintro e w1 ⟨rfl, r1, k1⟩
      have HR1 := Lib.hid r1
      have HK1 := Lib.hid k1
      clear r1 k1
      go_wp2
      go_ret
      refine ⟨w.heap.size, [w.heap.size], rfl, ?_, HK.out.step HK1.out (by simp), by simp⟩
      rw [HT.out]
      exact quMade9 HR1.out rfl rfl (HSl.out _ _ HK1.out (fun g hg h => by simp; omega)) HL.out (fun h => by cases h) ⟨fun h => (by cases h), fun r h => (by cases h; rfl), .inl (by simp [quEnd])⟩
    · have d0 : ((l.length : Int) == 0) = false := by simpa using h0
      by_cases h3 : 300 < l.length
      · have HT : Hid (quPut at_ n l = quEnd (quZero at_ n true l) 14 0) := Lib.hid (by
          have h1 : ¬ (¬ quRight at_ n ∨ l.length = 0) := fun h => h.elim (fun h => h HH.out) h0
          simp only [quPut, if_neg h1, if_pos h3])
        have d3 : decide ((300 : Int) < (l.length : Int)) = true := decide_eq_true (by omega)
        clear h0
        go_enter Tryz.func11, Tryz.ntmps11
        go_wp2_with fail
        refine (HR.out W0).mono ?_
        rintro e w1 ⟨rfl, rfl⟩
        go_wp2_with fail
        refine (HE.out _ _ (Keeps.refl _ _)).mono ?_
        rintro e w1 ⟨rfl, r1, k1⟩
        have HR1 := Lib.hid r1
        have HK1 := Lib.hid k1
        clear r1 k1
        go_wp2
        go_ret
        refine ⟨w.heap.size, [w.heap.size], rfl, ?_, HK.out.step HK1.out (by simp), by simp⟩
        rw [HT.out]
        exact quMade9 HR1.out rfl rfl (HSl.out _ _ HK1.out (fun g hg h => by simp; omega)) HL.out (fun h => by cases h) ⟨fun h => (by cases h), fun r h => (by cases h; rfl), .inl (by simp [quEnd])⟩
      · have HT : Hid (quPut at_ n l = { quZero at_ n true l with sub := some (arTake (at_ + 2) n) }) := Lib.hid (by
          have h1 : ¬ (¬ quRight at_ n ∨ l.length = 0) := fun h => h.elim (fun h => h HH.out) h0
          simp only [quPut, if_neg h1, if_neg h3])
        have HO := Lib.hid (quPut_ok HH.out (by omega) (by omega) HU.out)
        have d3 : decide ((300 : Int) < (l.length : Int)) = false := decide_eq_false (by omega)
        obtain ⟨r1, r2, r3, r4⟩ := HH.out
        have wa : IntKind.i64.wrap (at_ + 2) = at_ + 2 := IntWalk.i64_in _ (by omega)
        have c7 := HR0.out.cell (j := 7) rfl
        have c0 := HR0.out.cell (j := 0) rfl
        clear h0 r1 r2 r3 r4
        go_enter Tryz.func11, Tryz.ntmps11
        go_wp2_with fail
        refine (HR.out W0).mono ?_
        rintro e w1 ⟨rfl, rfl⟩
        go_wp2_with fail
        refine (refTake_any _ _ _).mono ?_
        rintro e w3 ⟨z, rfl, jz, kz, hz⟩
        have hr3 := HR0.out.keeps kz (by simp)
        have d7 := hr3.cell (j := 7) (u := .pointer none) rfl
        have e7 := hr3.frozen 7
        have HZ := Lib.hid (⟨jz, kz, hz, hr3⟩ : _ ∧ _ ∧ _ ∧ _)
        clear jz kz hz hr3
        go_wp2_with fail
        go_ret
        obtain ⟨jz, kz, hz, hr3⟩ := HZ.out
        have hzw : w.heap.size < z := by have : W0.heap.size ≤ z := hz; omega
        obtain ⟨W5, hW5⟩ : ∃ W5, w3.setCell ⟨w.heap.size, 7, none⟩ (.pointer (some ⟨z, 0, none⟩)) = W5 := ⟨_, rfl⟩
        have k5 : Keeps [w.heap.size] w3 W5 := by rw [← hW5]; exact (Keeps.refl _ _).set (by simp) _ _
        have r5 : Row W5 w.heap.size 85 (quCells (quPut at_ n l) (.slice lq l.length lc) (.slice none 0 0) (.pointer (some ⟨z, 0, none⟩))) := by rw [← hW5, HT.out]; exact hr3.set 7 _
        have j5 := jz.did k5 (by omega)
        have kA : Keeps [w.heap.size] W0 W5 := (kz.mono (by simp)).trans k5
        have hso := HSl.out _ _ kA (fun g hg h => by simp; omega)
        have kW : Keeps [] w W5 := HK.out.step kA (by simp)
        rw [hW5]
        refine ⟨w.heap.size, [w.heap.size, z], rfl, ?_, kW, by simp; omega⟩
        rw [HT.out] at r5 HO ⊢
        exact ⟨.slice none 0 0, w.heap.size + 1, ⟨rfl, .inl ⟨rfl, rfl⟩⟩, Nat.lt_succ_self _, r5.lt, hso, HL.out, fun _ => HO.out, fun r h => (by cases h), ⟨Nat.zero_le _, Nat.zero_le _, fun h => (by cases h)⟩, .inl ⟨z, _, rfl, rfl, (arTake_ok HH.out.ar).1, r5, j5, hzw, by simp [Value.ownBlock], rfl⟩⟩
  · have hd : decide (quRight at_ n) = false := decide_eq_false hr
    rw [hd] at HR
    have HT : Hid (quPut at_ n l = quEnd (quZero at_ n true l) 2 0) := Lib.hid (by simp [quPut, hr])
    clear hr hd
    go_enter Tryz.func11, Tryz.ntmps11
    go_wp2_with fail
    refine (HR.out W0).mono ?_
    rintro e w1 ⟨rfl, rfl⟩
    go_wp2_with fail
    refine (HE.out _ _ (Keeps.refl _ _)).mono ?_
    rintro e w1 ⟨rfl, r1, k1⟩
    have HR1 := Lib.hid r1
    have HK1 := Lib.hid k1
    clear r1 k1
    go_wp2
    go_ret
    refine ⟨w.heap.size, [w.heap.size], rfl, ?_, HK.out.step HK1.out (by simp), by simp⟩
    rw [HT.out]
    exact quMade9 HR1.out rfl rfl (HSl.out _ _ HK1.out (fun g hg h => by simp; omega)) HL.out (fun h => by cases h) ⟨fun h => (by cases h), fun r h => (by cases h; rfl), .inl (by simp [quEnd])⟩

theorem quArena_none (at_ n : Int) (w : World) (hr : ¬ quRight at_ n) :
    Calls Tryz.prog 6 #[.agg #[.int .i64 at_, .int .i64 n]] w fun e w' => e = .returned (.agg #[.int .i64 0, .int .i64 0]) ∧ Keeps [] w w' := by
  have HR := Lib.hid (fun W => quRight_any at_ n W)
  rw [decide_eq_false hr] at HR
  clear hr
  obtain ⟨W2, hW2⟩ : ∃ W2, (w.alloc (.cells #[.int .i64 at_, .int .i64 n] 23)).alloc (.cells #[.int .i64 0, .int .i64 0] 28) = W2 := ⟨_, rfl⟩
  have hb : Box W2 w.heap.size #[.int .i64 at_, .int .i64 n] := by rw [← hW2]; exact (Box.new _ _ _).alloc _
  have hr2 : Row W2 (w.heap.size + 1) 28 [.int .i64 0, .int .i64 0] := by rw [← hW2]; have := Row.new (w.alloc (.cells #[.int .i64 at_, .int .i64 n] 23)) #[.int .i64 0, .int .i64 0] 28; simpa using this
  have hk1 : Keeps [] w W2 := by rw [← hW2]; exact ((Keeps.refl _ _).alloc _).alloc _
  have c0 := hb.cells 0
  have c1 := hb.cells 1
  have hz : (w.alloc (.cells #[.int .i64 at_, .int .i64 n] 23)).heap.size = w.heap.size + 1 := by simp
  have HK := Lib.hid hk1
  have HR2 := Lib.hid hr2
  clear hb hk1 hr2
  go_enter Tryz.func6, Tryz.ntmps6
  go_wp2_with fail
  refine (HR.out W2).mono ?_
  rintro e w3 ⟨rfl, k3⟩
  have hr3 := HR2.out.keeps k3 (by simp)
  have e0 := hr3.cell (j := 0) rfl
  have e1 := hr3.cell (j := 1) rfl
  have g0 := hr3.frozen 0
  have g1 := hr3.frozen 1
  have hlt := hr3.lt
  have HK3 := Lib.hid (HK.out.trans k3)
  clear hr3 k3 c0 c1
  go_wp2
  refine bodyPost_ret (v := .agg #[.int .i64 0, .int .i64 0]) (by simp [results, Tryz.results6, go_sem, e0, e1, hlt]) rfl ⟨rfl, ?_⟩
  exact (HK3.out.step (S := [w.heap.size + 1]) (((Keeps.refl _ _).set (by simp) _ _).set (by simp) _ _) (by simp))
theorem quCellsOf_any (at_ n : Int) (w : World) :
    Calls Tryz.prog 8 #[.agg #[.int .i64 at_, .int .i64 n]] w fun e w' => e = .returned (.int .i64 (if quRight at_ n then 3 * n + 3 else 0)) ∧ Keeps [] w w' := by
  have HR := Lib.hid (fun W => quRight_any at_ n W)
  obtain ⟨W1, hW1⟩ : ∃ W1, w.alloc (.cells #[.int .i64 at_, .int .i64 n] 23) = W1 := ⟨_, rfl⟩
  have bq : Box W1 w.heap.size #[.int .i64 at_, .int .i64 n] := by rw [← hW1]; exact Box.new _ _ _
  have k1 : Keeps [] w W1 := by rw [← hW1]; exact (Keeps.refl _ _).alloc _
  have c0 := bq.cells 0
  have c1 := bq.cells 1
  have HB := Lib.hid bq
  have HK := Lib.hid k1
  clear bq k1
  by_cases hr : quRight at_ n
  · rw [decide_eq_true hr] at HR
    rw [if_pos hr]
    obtain ⟨r1, r2, -, -⟩ := hr
    have w1 : IntKind.i64.wrap (3 * n) = 3 * n := IntWalk.i64_in _ (by omega)
    have w2 : IntKind.i64.wrap (3 * n + 3) = 3 * n + 3 := IntWalk.i64_in _ (by omega)
    clear r1 r2
    go_enter Tryz.func8, Tryz.ntmps8
    go_wp2_with fail
    refine (HR.out _).mono ?_
    rintro e w3 ⟨rfl, k3⟩
    have d1 := (HB.out.keeps k3 (by simp)).cells 1
    have HK3 := Lib.hid (HK.out.trans k3)
    clear k3 c0 c1
    go_wp2
    go_ret
    exact ⟨rfl, HK3.out⟩
  · rw [decide_eq_false hr] at HR
    rw [if_neg hr]
    clear hr
    go_enter Tryz.func8, Tryz.ntmps8
    go_wp2_with fail
    refine (HR.out _).mono ?_
    rintro e w3 ⟨rfl, k3⟩
    have HK3 := Lib.hid (HK.out.trans k3)
    clear k3 c0 c1
    go_wp2
    go_ret
    exact ⟨rfl, HK3.out⟩
end Go.Proofs.YtoomefclbemnlaaGreat
