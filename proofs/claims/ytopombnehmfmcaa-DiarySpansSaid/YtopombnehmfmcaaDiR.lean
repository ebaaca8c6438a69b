import Derived.Test.YtopombnehmfmcaaDiY
import Derived.Test.YtopombnehmfmcaaMach
/-
  The document's own words for diaries: comparisons; a worker's events.
-/
namespace Go.Proofs.Ytopombnehmfmcaa
set_option maxRecDepth 100000
set_option linter.unusedSimpArgs false
set_option linter.unusedVariables false
open Go.ChangeShapes Go.WideShapes Go.ChangeAt Go.RowKit

theorem ev_at (l : List DEv) (i j : Nat) (x : DEv) (h : l[i]? = some x) (hj : j < 10) : (evCells l)[i * 10 + j]? = [Value.int .i64 x.step, .int .i64 x.who, .int .i64 x.nth, .bool x.ends, .int .i64 x.call.kind, .int .u64 x.call.task, .slice x.call.p x.call.n x.call.c, .int .i64 x.res.code, .int .u64 x.res.v, .slice x.res.p x.res.n x.res.c][j]? := flat_at 10 _ (fun _ => rfl) l i j x h hj

/-- Events that can be read. -/
structure EvsAt (w : World) (v : Value) (l : List DEv) : Prop where
  sl : Sl w 10 v l.length (evCells l)
  at_ : ∀ e ∈ l, e.call.At w ∧ e.res.At w
structure SpsAt (w : World) (v : Value) (l : List DSp) : Prop where
  sl : Sl w 10 v l.length (spCells l)
  at_ : ∀ e ∈ l, e.call.At w ∧ e.res.At w
theorem DCall.At.keeps {w w' : World} {x : DCall} (h : x.At w) (k : Keeps [] w w') : x.At w' := ⟨h.1.keeps k (by simp), h.2⟩
theorem DRes.At.keeps {w w' : World} {x : DRes} (h : x.At w) (k : Keeps [] w w') : x.At w' := ⟨h.1.keeps k (by simp), h.2⟩
theorem EvsAt.keeps {w w' : World} {v : Value} {l : List DEv} (h : EvsAt w v l) (k : Keeps [] w w') : EvsAt w' v l := ⟨h.sl.keeps k (by simp), fun e he => ⟨(h.at_ e he).1.keeps k, (h.at_ e he).2.keeps k⟩⟩
theorem SpsAt.keeps {w w' : World} {v : Value} {l : List DSp} (h : SpsAt w v l) (k : Keeps [] w w') : SpsAt w' v l := ⟨h.sl.keeps k (by simp), fun e he => ⟨(h.at_ e he).1.keeps k, (h.at_ e he).2.keeps k⟩⟩
theorem slFace {w : World} {size n c : Nat} {p : Option Addr} {xs : List Value} (h : Sl w size (.slice p n c) n xs) : n = 0 ∨ ∃ b off, p = some ⟨b, off, none⟩ ∧ b < w.heap.size ∧ ∀ j u, xs[j]? = some u → w.cell? ⟨b, off + j, none⟩ = some u := by
  rcases h.2 with ⟨_, _, _, h⟩ | ⟨b, off, cap, h1, h2, h3⟩
  · exact .inl h
  · cases h1; exact .inr ⟨b, off, rfl, h2, h3⟩

theorem refSameCall (a b : DCall) (w : World) (ha : a.At w) (hb : b.At w) : Calls Try.prog 22 #[a.val, b.val] w fun e w' => e = .returned (.bool (a.same b)) ∧ Keeps [] w w' := by
  obtain ⟨kind, task, p, n, c, vs⟩ := a
  obtain ⟨kind', task', p', n', c', vs'⟩ := b
  obtain ⟨ha, hn⟩ := ha
  obtain ⟨hb, hm⟩ := hb
  simp only [DCall.val] at ha hb hn hm ⊢
  have k0 := Keeps.alloc (Keeps.alloc (Keeps.refl [] w) (.cells #[.int .i64 kind, .int .u64 task, .slice p n c] 27)) (.cells #[.int .i64 kind', .int .u64 task', .slice p' n' c'] 27)
  have C := sameInts_any (.slice p n c) (.slice p' n' c') n n' vs vs' _ (by unfold maxLen; omega) (by unfold maxLen; omega) (ha.keeps k0 (by simp)) (hb.keeps k0 (by simp))
  have HC := Lib.hid C
  have HK := Lib.hid k0
  clear ha hb C k0
  go_enter Try.func22, Try.ntmps22
  by_cases h1 : kind = kind'
  · have h1' : (kind == kind') = true := by simp [h1]
    have H1 := Lib.hid h1
    clear h1
    by_cases h2 : task = task'
    · have h2' : (task == task') = true := by simp [h2]
      have H2 := Lib.hid h2
      clear h2
      go_wp2_with (go_at_call 30; refine HC.out.mono ?_; rintro e w1 ⟨rfl, q, hw1⟩)
      go_ret
      exact ⟨ret_bool (by simp only [DCall.same, H1.out, H2.out, beq_self_eq_true, Bool.true_and]; exact (beq_dec _ _).symm), by rw [← hw1]; exact HK.out.drewN⟩
    · have h2' : (task == task') = false := by simp [h2]
      have H2 := Lib.hid h2
      clear h2
      go_wp2
      go_ret
      exact ⟨ret_bool (by simp [DCall.same, H1.out, H2.out]), HK.out⟩
  · have h1' : (kind == kind') = false := by simp [h1]
    have H1 := Lib.hid h1
    clear h1
    go_wp2
    go_ret
    exact ⟨ret_bool (by simp [DCall.same, H1.out]), HK.out⟩
theorem refSameResult (a b : DRes) (w : World) (ha : a.At w) (hb : b.At w) : Calls Try.prog 21 #[a.val, b.val] w fun e w' => e = .returned (.bool (a.same b)) ∧ Keeps [] w w' := by
  obtain ⟨kind, task, p, n, c, vs⟩ := a
  obtain ⟨kind', task', p', n', c', vs'⟩ := b
  obtain ⟨ha, hn⟩ := ha
  obtain ⟨hb, hm⟩ := hb
  simp only [DRes.val] at ha hb hn hm ⊢
  have k0 := Keeps.alloc (Keeps.alloc (Keeps.refl [] w) (.cells #[.int .i64 kind, .int .u64 task, .slice p n c] 31)) (.cells #[.int .i64 kind', .int .u64 task', .slice p' n' c'] 31)
  have C := sameWords_any (.slice p n c) (.slice p' n' c') n n' vs vs' _ (by unfold maxLen; omega) (by unfold maxLen; omega) (ha.keeps k0 (by simp)) (hb.keeps k0 (by simp))
  have HC := Lib.hid C
  have HK := Lib.hid k0
  clear ha hb C k0
  go_enter Try.func21, Try.ntmps21
  by_cases h1 : kind = kind'
  · have h1' : (kind == kind') = true := by simp [h1]
    have H1 := Lib.hid h1
    clear h1
    by_cases h2 : task = task'
    · have h2' : (task == task') = true := by simp [h2]
      have H2 := Lib.hid h2
      clear h2
      go_wp2_with (go_at_call 29; refine HC.out.mono ?_; rintro e w1 ⟨rfl, q, hw1⟩)
      go_ret
      exact ⟨ret_bool (by simp only [DRes.same, H1.out, H2.out, beq_self_eq_true, Bool.true_and]; exact (beq_dec _ _).symm), by rw [← hw1]; exact HK.out.drewN⟩
    · have h2' : (task == task') = false := by simp [h2]
      have H2 := Lib.hid h2
      clear h2
      go_wp2
      go_ret
      exact ⟨ret_bool (by simp [DRes.same, H1.out, H2.out]), HK.out⟩
  · have h1' : (kind == kind') = false := by simp [h1]
    have H1 := Lib.hid h1
    clear h1
    go_wp2
    go_ret
    exact ⟨ret_bool (by simp [DRes.same, H1.out]), HK.out⟩
def natInts (ks : List Nat) : List Value := ints .i64 (ks.map fun k : Nat => (k : Int))
theorem natInts_snoc (ks : List Nat) (k : Nat) : natInts (ks ++ [k]) = natInts ks ++ [.int .i64 (k : Int)] := by simp [natInts, ints]
theorem diOwn_le (l : List DEv) (who : Int) (k : Nat) : (diOwn l who k).length ≤ k := by
  induction k with
  | zero => exact Nat.le_refl _
  | succ k ih => simp only [diOwn, List.length_append]; split <;> simp <;> omega
set_option maxHeartbeats 800000 in
theorem refOwn (v : Value) (l : List DEv) (who : Int) (w : World) (h : EvsAt w v l) (hl : l.length ≤ 100000) :
    Calls Try.prog 20 #[v, .int .i64 who] w fun e w' => ∃ v', e = .returned v' ∧ w'.ownsRow w.heap.size 3 1 v' (diOwn l who l.length).length (natInts (diOwn l who l.length)) ∧ Keeps [] w w' := by
  obtain ⟨p, c, rfl⟩ := h.sl.len
  have HF := Lib.hid (slFace h.sl)
  clear h
  go_enter Try.func20, Try.ntmps20
  go_wp2
  go_loopw [5, 6] (fun o i wr => ∃ k : Nat, k ≤ l.length ∧ i = .int .i64 (k : Int) ∧ wr.ownsRow w.heap.size 3 1 o (diOwn l who k).length (natInts (diOwn l who k)) ∧ Keeps [] w wr) (fun _ i _ => l.length - (intOf i).toNat)
  case atStart => exact ⟨0, Nat.zero_le _, rfl, owns_empty w 3 1, (Keeps.refl _ _).alloc _⟩
  case round =>
    obtain ⟨k, hk, rfl, hown, hkp⟩ := hrel
    by_cases hlt : k < l.length
    · rcases HF.out with h0 | ⟨b, off, rfl, hb, hc⟩
      · omega
      obtain ⟨x, hx⟩ : ∃ x, l[k]? = some x := ⟨_, List.getElem?_eq_getElem hlt⟩
      have hxd : l.getD k default = x := by rw [List.getD_eq_getElem?_getD, hx]; rfl
      have c1 := (hkp.cell (p := ⟨b, off + (k * 10 + 1), none⟩) hb (by simp)).trans (hc _ _ ((ev_at l k 1 x hx (by omega)).trans rfl))
      rw [← Nat.add_assoc] at c1
      have hle := diOwn_le l who k
      have HO := Lib.hid hown
      have HK := Lib.hid hkp
      have HX := Lib.hid hx
      have HXD := Lib.hid hxd
      have HHB := Lib.hid hb
      have hdec : diOwn l who (k + 1) = diOwn l who k ++ if x.who = who then [k] else [] := by simp only [diOwn]; rw [hxd]
      have HD := Lib.hid hdec
      clear hown hkp hx hxd hb hc hdec
      by_cases he : x.who = who
      · have he' : (x.who == who) = true := by simp [he]
        have HE := Lib.hid he
        clear he
        have hs := HK.out.size
        go_wp2_with (at_builtin; refine append_fresh rfl _ _ 25 rfl w.heap.size 3 _ 1 8 Try.underlying25 elemInt15 _ _ _ rfl HO.out #[.int .i64 (k : Int)] rfl rfl (by simp [Value.oneCell']) (by omega) (by omega) ?_; intro v10 w10 own10 k10 f10 ne10)
        go_roundw
        case rel =>
          refine ⟨k + 1, by omega, by go_num, ?_, ?_⟩
          · rw [HD.out, if_pos HE.out, natInts_snoc, List.length_append]; exact own10
          · exact (HK.out.nil.trans k10).mono fun g hg hgs => absurd ((HO.out.lt g (Option.mem_toList.1 hg)).1) (by omega)
        case measure => simp [intOf]; omega
      · have he' : (x.who == who) = false := by simp [he]
        have HE := Lib.hid he
        clear he
        go_wp2
        go_roundw
        case rel => exact ⟨k + 1, by omega, by go_num, by rw [HD.out, if_neg HE.out, List.append_nil]; exact HO.out, HK.out⟩
        case measure => simp [intOf]; omega
    · obtain rfl : k = l.length := by omega
      have HO := Lib.hid hown
      have HK := Lib.hid hkp
      clear hown hkp
      go_wp2
      go_ret
      exact ⟨_, rfl, HO.out, HK.out⟩
end Go.Proofs.Ytopombnehmfmcaa
