/-
  Contracts: each step of a ring's Push and Pop goes as the machine's.
-/
import Derived.Test.YtekpfhlaohcgeaaGreatRgP
namespace Go.Proofs.YtekpfhlaohcgeaaGreat
set_option maxRecDepth 100000
set_option linter.unusedSimpArgs false
set_option linter.unusedVariables false
open Go.ChangeShapes Go.WideShapes Go.ChangeAt Go.RowKit

theorem rgE_mk {m p : Nat} {w : World} {T : List Nat} {F : FuncId} {ov : Value} {s : RgS} {hd sl fi tl u n : Int} {tk : Value} (hok : rgOk s) (hp : p ∈ T) (hF : F = rgFn s) (kn : RgKnows w m p T ov s hd sl fi tl u n tk) : rgE m w T (.func (.func F) #[.pointer (some ⟨p, 0, none⟩)] #[]) ov s :=
  fun _ => ⟨hok, p, hd, sl, fi, tl, u, n, tk, hp, by rw [hF], kn⟩
theorem RgKnows.step {m p : Nat} {w w2 : World} {T : List Nat} {ov : Value} {s s' : RgS} {hd sl fi tl u n hd' sl' fi' tl' u' n' : Int} {tk : Value} (kn : RgKnows w m p T ov s hd sl fi tl u n tk) (hT : ∀ k ∈ T, k < w.heap.size ∧ k ≠ m) (hk : Keeps [m, p] w w2)
    (row : Row w2 p (rgTy s'.kind) (rgCells m s'.at_ s'.size hd' sl' fi' tl' (rgLk s'.kind p) (rgTr s'.kind p) tk (rgRest s' u' n'))) (he : s'.took = s.took) (hkind : s'.kind = s.kind)
    (head : ((s'.kind = 1 ∨ s'.kind = 2) ∧ s'.step ≠ 1 ∨ s'.kind = 3 ∧ (s'.step = 4 ∨ s'.step = 5)) → hd' = s'.h ∧ sl' = rgHi s'.h ∧ fi' = rgLo s'.h)
    (first : s'.kind = 3 → s'.step = 6 ∨ s'.step = 60 ∨ s'.step = 7 ∨ s'.step = 8 ∨ s'.step = 9 → fi' = s'.t) (tail : s'.kind = 1 → s'.step = 3 ∨ s'.step = 4 → tl' = s'.t) (end_ : s'.kind = 3 → s'.step ≠ 1 → u' = s'.u)
    (count : s'.kind = 3 → s'.step = 5 ∨ s'.step = 6 ∨ s'.step = 60 ∨ s'.step = 7 ∨ s'.step = 8 ∨ s'.step = 9 → n' = s'.n) : RgKnows w2 m p T ov s' hd' sl' fi' tl' u' n' tk where
  row := row
  took := by
    rw [he]
    exact owns_keeps kn.took hk (fun g hg => by have := kn.own g hg; have := hT g this.1; simp; exact ⟨this.2, by omega⟩)
  own := kn.own
  head := head
  first := first
  tail := tail
  end_ := end_
  count := count
  seen := fun e => (kn.seen (hkind ▸ e)).keeps hk (fun _ h => h) (fun k hk hp _ => by simp; exact ⟨(hT k hk).2, hp⟩) (fun x hx => .inl hx)
  unseen := fun e => kn.unseen (hkind ▸ e)

set_option maxHeartbeats 3200000 in
/-- A push's step. -/
theorem rgPush_goes (m p : Nat) (w : World) (T : List Nat) (s : RgS) (st : WSt) (v hd sl fi tl u n : Int) (tk : Value) (won : Bool) (hw : Wk w m st) (ho : st.over = false) (hs : st.sub = none) (hu : st.under = 1) (hT : ∀ k ∈ T, k < w.heap.size ∧ k ≠ m) (hv : M.U v)
    (hov : s.over = none) (hk : s.kind = 1) (hok : rgOk s) (hpT : p ∈ T) (kn : RgKnows w m p T st.outer s hd sl fi tl u n tk) :
    Calls Tryz.prog (rgFn s) #[.pointer (some ⟨p, 0, none⟩), .int .u64 v, .bool won] w fun e w' => e = .returned (.tuple #[]) ∧ GoesO ringM (rgE m) m st (ringM.held s) T (rgGive s v won) w w' := by
  obtain ⟨at_, size, kind, task, target, step, h, t, su, sn, k, took, over⟩ := s
  simp only at hov hk
  subst hov hk
  have hok0 := hok
  obtain ⟨hr, ut, uh, wt, wu, hst⟩ := hok
  simp only at hr ut uh wt wu hst
  have hst : (step = 1 ∨ step = 2 ∨ step = 3 ∨ step = 4 ∨ step = 5) ∧ took = [] ∧ k = 0 ∨ step = 6 ∧ k = (took.length : Int) ∧ k < size / 2 := by
    rcases hst with ⟨-, h⟩ | ⟨h, -⟩ | ⟨h, -⟩
    · exact h
    · simp at h
    · simp at h
  have hpm := (hT p hpT).2
  have hsz : 2 ≤ size ∧ size ≤ 256 := by have := hr.1; omega
  have a0 := hr.2.1
  have a1 : at_ < 65536 := by have := hr.2.2; omega
  have hrow : Row w p (rgTy 1) (rgCells m at_ size hd sl fi tl (.func (.func 39) #[.pointer (some ⟨p, 0, none⟩)] #[]) (.func (.func 40) #[.pointer (some ⟨p, 0, none⟩)] #[]) tk [.int .u64 task]) := by simpa [rgLk, rgTr, rgRest] using kn.row
  have htkm : ∀ g, tk.ownBlock = some g → g ≠ p ∧ g ≠ m := fun g hg => ⟨(kn.own g hg).2, (hT g (kn.own g hg).1).2⟩
  have hseen := kn.seen (by simp)
  have hover : 0 < st.under := by omega
  have hhi := rgHi_range uh
  have hlo := rgLo_range h
  rcases hst with ⟨h1 | h1 | h1 | h1 | h1, rfl, rfl⟩ | ⟨h1, h2, h3⟩
  · subst h1
    refine (rgReadHead_any m p at_ size hd sl fi tl v won _ _ tk _ _ st w hw hrow hpm ho hs a0 a1 hv).mono ?_
    rintro e w2 ⟨rfl, h2⟩
    have hg : rgGive ⟨at_, size, 1, task, target, 1, h, t, su, sn, 0, [], none⟩ v won = ⟨at_, size, 1, task, target, 2, v, t, su, sn, 0, [], none⟩ := by simp [rgGive, rgPushGive]
    rw [hg]
    exact ⟨rfl, rg_asks hpT hT rfl (by simp [rgWant]) rfl h2 (rgE_mk ⟨hr, ut, hv, wt, wu, .inl ⟨rfl, .inl ⟨by simp, rfl, rfl⟩⟩⟩ hpT (by simp [rgFn]) (kn.step hT h2.2.2 (u' := 0) (n' := 0) (by simpa [rgLk, rgTr, rgRest] using h2.2.1) rfl rfl (fun _ => ⟨rfl, rfl, rfl⟩) (by simp) (by simp) (by simp) (by simp)))⟩
  · subst h1
    obtain ⟨rfl, rfl, rfl⟩ := kn.head (by simp)
    refine rgReadTail_any m p at_ size hd _ _ tl v won 39 _ tk _ _ w _ hrow hv (fun _ _ => by kernel_rfl) (fun W1 k1 hr1 => ?_)
    have hw1 := hw.keeps k1 (by simpa using Ne.symm hpm)
    by_cases hA : M.aheadI (rgLo v) (rgHi hd) < size
    · refine (rgPushRoom m p at_ size hd _ _ _ task _ _ tk _ st W1 hw1 hr1 hpm ho hs hr (rgLo_range v) hhi hlo hA).mono ?_
      rintro e w2 ⟨rfl, h2⟩
      replace h2 := h2.from (k1.mono (by simp))
      have hg : rgGive ⟨at_, size, 1, task, target, 2, hd, t, su, sn, 0, [], none⟩ v won = ⟨at_, size, 1, task, target, 3, hd, rgLo v, su, sn, 0, [], none⟩ := by simp [rgGive, rgPushGive, hA]
      rw [hg]
      exact ⟨rfl, rg_asks hpT hT rfl (by simp [rgWant]) rfl h2 (rgE_mk ⟨hr, ut, uh, rgLo_range v, wu, .inl ⟨rfl, .inl ⟨by simp, rfl, rfl⟩⟩⟩ hpT (by simp [rgFn]) (kn.step hT h2.2.2 (u' := 0) (n' := 0) (by simpa [rgLk, rgTr, rgRest] using h2.2.1) rfl rfl (fun _ => ⟨rfl, rfl, rfl⟩) (by simp) (fun _ _ => rfl) (by simp) (by simp)))⟩
    · by_cases hB : rgHi hd = rgLo hd
      · have hr1' := hr1
        rw [hB] at hr1' hA
        refine (rgPushTurn m p at_ size hd _ _ task _ _ tk _ st W1 hw1 hr1' hpm ho hs hr (rgLo_range v) hlo hlo hA).mono ?_
        rintro e w2 ⟨rfl, h2⟩
        replace h2 := h2.from (k1.mono (by simp))
        have hg : rgGive ⟨at_, size, 1, task, target, 2, hd, t, su, sn, 0, [], none⟩ v won = ⟨at_, size, 1, task, target, 5, hd, rgLo v, su, sn, 0, [], none⟩ := by simp [rgGive, rgPushGive, hB, hA]
        rw [hg]
        exact ⟨rfl, rg_asks hpT hT rfl (by simp [rgWant]) rfl h2 (rgE_mk ⟨hr, ut, uh, rgLo_range v, wu, .inl ⟨rfl, .inl ⟨by simp, rfl, rfl⟩⟩⟩ hpT (by simp [rgFn]) (kn.step hT h2.2.2 (u' := 0) (n' := 0) (by simpa [rgLk, rgTr, rgRest] using h2.2.1) rfl rfl (fun _ => ⟨rfl, hB.symm, rfl⟩) (by simp) (by simp) (by simp) (by simp)))⟩
      · refine (rgPushBusy m p at_ size hd _ _ _ task _ _ tk _ st W1 hw1 hr1 hpm ho hs (rgLo_range v) hhi hlo hA hB hover).mono ?_
        rintro e w2 ⟨rfl, h2⟩
        replace h2 := h2.from (k1.mono (by simp))
        exact ⟨rfl, rg_ends_seen' hpT hT (by simp [rgGive, rgPushGive, hA, hB]) hs hrow hseen kn.own h2⟩
  · subst h1
    obtain rfl := kn.tail rfl (.inl rfl)
    refine (rgPushLaid m p at_ size hd sl fi tl task _ _ tk v won _ st w hw hrow hpm ho hs hr wt).mono ?_
    rintro e w2 ⟨rfl, h2⟩
    have hg : rgGive ⟨at_, size, 1, task, target, 3, h, tl, su, sn, 0, [], none⟩ v won = ⟨at_, size, 1, task, target, 4, h, tl, su, sn, 0, [], none⟩ := by simp [rgGive, rgPushGive]
    rw [hg]
    exact ⟨rfl, rg_asks hpT hT rfl (by simp [rgWant]) rfl h2 (rgE_mk ⟨hr, ut, uh, wt, wu, .inl ⟨rfl, .inl ⟨by simp, rfl, rfl⟩⟩⟩ hpT (by simp [rgFn]) (kn.step hT h2.2.2 (u' := 0) (n' := 0) (by simpa [rgLk, rgTr, rgRest] using h2.2.1) rfl rfl (fun _ => kn.head (by simp)) (by simp) (fun _ _ => rfl) (by simp) (by simp)))⟩
  · subst h1
    refine (rgPushFinish m p at_ size hd sl fi tl task _ _ tk v won _ st w hw hrow hpm ho hs hover).mono ?_
    rintro e w2 ⟨rfl, h2⟩
    exact ⟨rfl, rg_ends_seen' hpT hT (by simp [rgGive, rgPushGive]) hs hrow hseen kn.own h2⟩
  · subst h1
    obtain ⟨rfl, rfl, rfl⟩ := kn.head (by simp)
    cases won with
    | true =>
      obtain ⟨q, c, rfl⟩ := (Sl.of_owns kn.took).len
      refine rgTriedWon_any m p at_ size hd _ _ tl v 40 _ _ _ _ w _ hrow (fun _ _ => by kernel_rfl) ?_
      refine (rgPushNext m p at_ size hd _ _ tl task _ _ q 0 c _ st w hw hrow hpm ho hs hr hlo (by decide)).mono ?_
      rintro e w2 ⟨rfl, h2⟩
      have hg : rgGive ⟨at_, size, 1, task, target, 5, hd, t, su, sn, 0, [], none⟩ v true = ⟨at_, size, 1, task, target, 6, hd, t, su, sn, 0, [], none⟩ := by simp [rgGive, rgPushGive]
      rw [hg]
      exact ⟨rfl, rg_asks hpT hT rfl (by simp [rgWant]) rfl h2 (rgE_mk ⟨hr, ut, uh, wt, wu, .inl ⟨rfl, .inr ⟨rfl, rfl, by show (0 : Int) < size / 2; omega⟩⟩⟩ hpT (by simp [rgFn]) (kn.step hT h2.2.2 (u' := 0) (n' := 0) (by simpa [rgLk, rgTr, rgRest] using h2.2.1) rfl rfl (fun _ => ⟨rfl, rfl, rfl⟩) (by simp) (by simp) (by simp) (by simp)))⟩
    | false =>
      refine (rgTriedLost_any m p at_ size hd _ _ tl v _ _ tk _ _ st w hw hrow hpm ho hs a0 a1 hv).mono ?_
      rintro e w2 ⟨rfl, h2⟩
      have hg : rgGive ⟨at_, size, 1, task, target, 5, hd, t, su, sn, 0, [], none⟩ v false = ⟨at_, size, 1, task, target, 2, v, t, su, sn, 0, [], none⟩ := by simp [rgGive, rgPushGive]
      rw [hg]
      exact ⟨rfl, rg_asks hpT hT rfl (by simp [rgWant]) rfl h2 (rgE_mk ⟨hr, ut, hv, wt, wu, .inl ⟨rfl, .inl ⟨by simp, rfl, rfl⟩⟩⟩ hpT (by simp [rgFn]) (kn.step hT h2.2.2 (u' := 0) (n' := 0) (by simpa [rgLk, rgTr, rgRest] using h2.2.1) rfl rfl (fun _ => ⟨rfl, rfl, rfl⟩) (by simp) (by simp) (by simp) (by simp)))⟩
  · subst h1
    subst h2
    obtain ⟨rfl, rfl, rfl⟩ := kn.head (by simp)
    by_cases hl : (took.length : Int) + 1 = size / 2
    · refine (rgPushLoadedLast m p at_ size hd _ _ tl task _ _ tk v won took 0 _ st w hw hrow hpm ho hs hr kn.took (Nat.zero_le _) htkm hl hover).mono ?_
      rintro e w2 ⟨rfl, t2, l', h2, h4, h5, h6⟩
      exact ⟨rfl, rg_ends_seen (A := []) hpT hT (us := took ++ [v]) (by simp [rgGive, rgPushGive, hl]) (by simp; omega) hs hrow hseen kn.own h2 h4 h5 h6⟩
    · refine (rgPushLoadedMore m p at_ size hd _ _ tl task _ _ tk v won took 0 _ st w hw hrow hpm ho hs hr hlo kn.took (Nat.zero_le _) htkm (by omega)).mono ?_
      rintro e w2 ⟨rfl, h2⟩
      have hg : rgGive ⟨at_, size, 1, task, target, 6, hd, t, su, sn, (took.length : Int), took, none⟩ v won = ⟨at_, size, 1, task, target, 6, hd, t, su, sn, (took.length : Int) + 1, took ++ [v], none⟩ := by simp [rgGive, rgPushGive, hl]
      rw [hg]
      refine ⟨rfl, rg_took hpT hT rfl (by simp [rgWant]) (by simp [ringM, rgHeld]) (by simp; omega) kn.own h2 fun tk' hk hr2 ht2 hb2 => ?_⟩
      refine rgE_mk (u := 0) (n := 0) ⟨hr, ut, uh, wt, wu, .inl ⟨rfl, .inr ⟨rfl, by simp, by show (took.length : Int) + 1 < size / 2; omega⟩⟩⟩ (List.mem_append_right _ hpT) (by simp [rgFn]) ⟨by simpa [rgLk, rgTr, rgRest] using hr2, ht2, fun g hg => ⟨List.mem_append_left _ ((ownBlock_toList _ _).2 hg), (hb2 g hg).2⟩, fun _ => ⟨rfl, rfl, rfl⟩, by simp, by simp, by simp, by simp, fun _ => ?_, by simp⟩
      exact hseen.keeps hk (fun k hk => List.mem_append_right _ hk) (fun k hk hp hn => by simp only [List.mem_append, List.mem_cons, List.not_mem_nil, or_false, not_or]; exact ⟨⟨(hT k hk).2, hp⟩, fun h => hn ((ownBlock_toList _ _).1 h)⟩) (fun x hx => (hb2 x hx).1)
end Go.Proofs.YtekpfhlaohcgeaaGreat
