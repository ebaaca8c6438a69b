/-
  Contracts: the document's Init and Free of an arena; copy into the midst of a row.
-/
import Derived.Test.YtejekciekcbagaaGreatArF
import Derived.Test.YtejekciekcbagaaGreatRef6r
import Derived.Test.YtejekciekcbagaaGreatMem3
namespace Go.Proofs.YtejekciekcbagaaGreat
set_option maxRecDepth 100000
set_option linter.unusedSimpArgs false
set_option linter.unusedVariables false
open Go.ChangeShapes Go.WideShapes Go.ChangeAt Go.RowKit

theorem take_over_at {α : Type} (cur xs news : List α) (off : Nat) (h : cur.take xs.length = xs) (ho : off + news.length ≤ xs.length) :
    (cur.take off ++ (news ++ cur.drop (off + news.length))).take xs.length = xs.take off ++ (news ++ xs.drop (off + news.length)) := by
  obtain ⟨N, hN⟩ : ∃ N, xs.length = N := ⟨_, rfl⟩
  rw [hN] at h ho ⊢
  subst h
  have hc : N ≤ cur.length := by rw [List.length_take] at hN; omega
  have e1 : (cur.take off).length = off := by rw [List.length_take]; omega
  have e2 : (cur.take off).take N = cur.take off := by rw [List.take_take]; congr 1; omega
  have e3 : (cur.take N).take off = cur.take off := by rw [List.take_take]; congr 1; omega
  have e4 : news.take (N - off) = news := List.take_of_length_le (by omega)
  rw [List.take_append, List.take_append, e1, e2, e3, e4, List.drop_take, Nat.sub_sub]
/-- copy(d, x), d a part of a row, x any slice that can be read and isn't longer. -/
theorem wpList_copy_at {P : Program} {w : World} {ops : Array Oper} {rest : List Oper} {o : Oper} {a : Act} {Q : Exit → Act → World → Prop} (hgd : o.guard = none) (d x : Operand) (t : TypeId)
    (ho : o.op = .call { callee := .builtin .copy, args := #[d, x], argTypes := #[t, t] })
    (e : TypeId) (ht : P.underlying t = some (.slice e)) (hsz : (P.info? e).map (·.size) = some 1)
    (g doff n cap : Nat) (xs : List Value) (hd : a.eval d = .slice (some ⟨g, doff, none⟩) n cap) (hrow : Row w g e xs) (hxn : doff + n ≤ xs.length)
    (b m c : Nat) (news : List Value) (hx : a.eval x = .slice (some ⟨b, 0, none⟩) m c) (hy : Row w b e news) (hnl : news.length = m) (h1 : ∀ u ∈ news, u.oneCell' = true) (hmn : m ≤ n)
    (h : ∀ w', Row w' g e (xs.take doff ++ (news ++ xs.drop (doff + m))) → Keeps [g] w w' → w.heap.size = w'.heap.size → wpList P ops Q rest (a.put o.dst (goInt m)) w') :
    wpList P ops Q (o :: rest) a w := by
  obtain ⟨cur, hg, htk⟩ := hrow
  have hcs : xs.length ≤ cur.size := by
    have := congrArg List.length htk
    have h2 : cur.toList.length = cur.size := Array.length_toList
    rw [List.length_take] at this; omega
  refine wpList_copy_own hgd d x t t ho e ht hsz g doff n cap ⟨b, 0, none⟩ m c hd hx cur e hg news (by rw [hnl]; exact (Nat.min_eq_left hmn).symm) (fun j u hu => by rw [add_flat, Nat.zero_add]; exact hy.cell hu) (by omega) h1 ?_
  rw [hnl]
  refine h _ ?_ ((Keeps.refl _ _).setRow (fun _ => by simp) _) (by simp [World.setRow])
  refine Row.setRow ⟨cur, hg, htk⟩ _ _ ?_
  have := take_over_at cur.toList xs news doff htk (by omega)
  rw [hnl] at this
  have hlen : (xs.take doff ++ (news ++ xs.drop (doff + m))).length = xs.length := by
    simp only [List.length_append, List.length_take, List.length_drop]; omega
  rw [hlen]
  simpa using this
theorem laidAt_all (us zs : List Int) (a : Nat) (h : a + zs.length ≤ us.length) : us.take a ++ (zs ++ us.drop (a + zs.length)) = laidAt us zs a zs.length := by
  have e1 : (us.take a).length = a := by rw [List.length_take]; omega
  apply List.ext_getElem?
  intro j
  simp only [laidAt, List.getElem?_map]
  by_cases hj : j < us.length
  · rw [List.getElem?_range hj]
    simp only [Option.map_some]
    by_cases h1 : j < a
    · rw [List.getElem?_append_left (by omega), List.getElem?_take, if_pos h1, if_neg (by omega), List.getD, List.getElem?_eq_getElem hj]; rfl
    · rw [List.getElem?_append_right (by omega), e1]
      by_cases h2 : j - a < zs.length
      · rw [List.getElem?_append_left h2, if_pos (by omega), List.getD, List.getElem?_eq_getElem h2]; rfl
      · rw [List.getElem?_append_right (by omega), List.getElem?_drop, if_neg (by omega), show a + zs.length + (j - a - zs.length) = j by omega, List.getD, List.getElem?_eq_getElem hj]; rfl
  · have h0 : (List.range us.length)[j]? = none := by simp; omega
    rw [h0, List.getElem?_eq_none (by simp only [List.length_append, List.length_drop, e1]; omega)]; rfl
theorem ints_take (k : IntKind) (us : List Int) (n : Nat) : (ints k us).take n = ints k (us.take n) := by simp [ints, List.map_take]
theorem ints_drop (k : IntKind) (us : List Int) (n : Nat) : (ints k us).drop n = ints k (us.drop n) := by simp [ints, List.map_drop]
theorem ints_app (k : IntKind) (a b : List Int) : ints k a ++ ints k b = ints k (a ++ b) := by simp [ints]

/-- The free nodes of an arena from first on. -/
def arFree (n f : Nat) : List Nat := List.range' f (n + 1 - f)
theorem arFree_at (n f k : Nat) : (arFree n f)[k]? = if f + k ≤ n then some (f + k) else none := by
  unfold arFree
  by_cases h : k < n + 1 - f
  · rw [List.getElem?_range' h, if_pos (by omega)]; simp
  · rw [List.getElem?_eq_none (by simp; omega), if_neg (by omega)]
theorem arFree_len (n f : Nat) : (arFree n f).length = n + 1 - f := by simp [arFree]
theorem arFree_mem {n f x : Nat} (h1 : 1 ≤ f) (h : x ∈ arFree n f) : 1 ≤ x ∧ x ≤ n := by
  unfold arFree at h
  rw [List.mem_range'_1] at h
  omega
theorem arFree_head {n f : Nat} : (arFree n f).headD 0 = if f ≤ n then f else 0 := by
  have := arFree_at n f 0
  rw [Nat.add_zero] at this
  cases hF : arFree n f with
  | nil => rw [hF] at this; by_cases h : f ≤ n; rw [if_pos h] at this; cases this; rw [if_neg h]; rfl
  | cons y ys => rw [hF] at this; by_cases h : f ≤ n; rw [if_pos h] at this; rw [if_pos h]; simpa using this; rw [if_neg h] at this; cases this
theorem arFree_nodup (n f : Nat) : (arFree n f).Nodup := List.nodup_range'
/-- A number that a link tells. -/
theorem arLink_num {n f i : Nat} (hn : n ≤ 4096) (hf : f ≤ n + 1) : arLink n f n i % 4294967296 = arLink n f n i := by
  unfold arLink
  split
  · split <;> omega
  · split <;> omega
theorem arChain {n f : Nat} (h1 : 1 ≤ f) : ∀ k x, (arFree n f)[k]? = some x → arLink n f n x = (((arFree n f)[k + 1]?).getD 0 : Nat) := by
  intro k x h
  rw [arFree_at] at h
  by_cases h2 : f + k ≤ n
  · rw [if_pos h2] at h
    obtain rfl : f + k = x := by simpa using h
    rw [arFree_at]
    unfold arLink
    rw [if_neg (by omega)]
    by_cases h3 : f + k < n
    · rw [if_pos (by omega), if_pos (by omega)]
      show ((f + k : Nat) : Int) + 1 = ((f + (k + 1) : Nat) : Int)
      omega
    · rw [if_neg (by omega), if_neg (by omega)]; rfl
  · rw [if_neg h2] at h; cases h

/-- All, and the room behind what it tells. -/
theorem all_own (m b : Nat) (us : List Int) (w : World) (h : Mem w m b us) :
    Calls Tryz.prog 22 #[.pointer (some ⟨m, 0, none⟩)] w fun e w' => ∃ g cap, e = .returned (.slice (some ⟨g, 0, none⟩) us.length cap) ∧ w'.ownsRow w.heap.size 64 1 (.slice (some ⟨g, 0, none⟩) us.length cap) us.length (ints .u64 us) ∧ Keeps [] w w' ∧ w.heap.size ≤ g := by
  obtain ⟨cap, hc⟩ := h.at
  have hl := h.len
  have hp := h.pos
  have C := cloneWords_any _ us.length us w (h.words cap) hp (by omega)
  clear h
  go_enter Tryz.func22, Tryz.ntmps22
  go_wp2_with (go_at_call 43; refine C.mono ?_; rintro e w1 ⟨g, cap', rfl, ho, hk, hg⟩)
  have HO := Lib.hid ho
  clear ho
  go_wp2
  go_ret
  exact ⟨g, cap', rfl, HO.out, hk, hg⟩

set_option maxHeartbeats 1600000 in
theorem refInit_any (n f : Nat) (w : World) (hn : n ≤ 4096) (f1 : 1 ≤ f) (f2 : f ≤ n + 1) :
    Calls Tryz.prog 69 #[.int .i64 (n : Int), .int .i64 (f : Int)] w fun e w' => ∃ g, e = .returned (.slice (some ⟨g, 0, none⟩) (n + 1) (n + 1)) ∧ Row w' g 64 (ints .u64 (arRow n f n)) ∧ Keeps [] w w' ∧ w.heap.size ≤ g := by
  obtain ⟨w1, hrun, hrow, hk1, hs1⟩ := make_row (P := Tryz.prog) w 24 64 _ 1 8 Tryz.underlying24 elemWord .i64 .i64 (n + 1) (by omega)
  rw [made_words] at hrow
  rw [show ((n + 1 : Nat) : Int) = (n : Int) + 1 by omega] at hrun
  have HROW := Lib.hid hrow
  have HK1 := Lib.hid hk1
  clear hk1 hrow
  go_enter Tryz.func69, Tryz.ntmps69
  by_cases hfn : f ≤ n
  case' neg =>
    have hfn1 := Lib.hid (show f = n + 1 by omega)
    have HROW2 : Hid (Row w1 w.heap.size 64 (ints .u64 (arRow n f f))) := Lib.hid (by have := HROW.out; rw [arRow_zero] at this; rw [hfn1.out]; exact this)
    have HK4 : Hid (Keeps [] w w1) := Lib.hid HK1.out
    have d3 : decide ((f : Int) ≤ (n : Int)) = false := decide_eq_false (by omega)
    go_wp2
    clear hfn1 hfn d3
  case' pos =>
    have r3 := HROW.out
    have p0 := r3.cell (j := 0) (u := .int .u64 0) (by simp [ints, List.replicate_succ])
    have pf := r3.frozen 0
    obtain ⟨w4, hw4⟩ : ∃ w4, w1.setCell ⟨w.heap.size, 0, none⟩ (.int .u64 (f : Int)) = w4 := ⟨_, rfl⟩
    have k4 : Keeps [w.heap.size] w1 w4 := by rw [← hw4]; exact (Keeps.refl _ _).setCell (fun _ => by simp) _
    have HROW2 : Hid (Row w4 w.heap.size 64 (ints .u64 (arRow n f f))) := Lib.hid (by
      rw [← arRow_one f1 hfn, ints_set, ← hw4]; exact r3.set 0 _)
    have HK4 : Hid (Keeps [] w w4) := Lib.hid (HK1.out.step k4 (by intro k hk; simp at hk; omega))
    have d3 : decide ((f : Int) ≤ (n : Int)) = true := decide_eq_true (by omega)
    have hw64 : IntKind.u64.wrap (f : Int) = (f : Int) := by show (f : Int) % 18446744073709551616 = f; omega
    clear r3 k4
    go_wp2
    clear p0 pf hw64
  all_goals
    go_loopw [6] (fun i wr => ∃ k : Nat, f ≤ k ∧ (k ≤ n ∨ k = f) ∧ i = .int .i64 (k : Int) ∧ Keeps [] w wr ∧ Row wr w.heap.size 64 (ints .u64 (arRow n f k))) (fun i _ => n - (intOf i).toNat)
    case atStart => exact ⟨f, Nat.le_refl _, .inr rfl, rfl, HK4.out, HROW2.out⟩
    case round =>
      obtain ⟨k, hk1, hk2, rfl, hk, hrow⟩ := hrel
      have HKi := Lib.hid hk
      clear hk
      by_cases hlt : k < n
      · have pk := hrow.cell (ints_at (k := .u64) (zs := arRow n f k) (j := k) (by rw [arRow_len]; omega))
        have pf := hrow.frozen k
        have HRi := Lib.hid hrow
        have hw64 : IntKind.u64.wrap (k : Int) = (k : Int) := by show (k : Int) % 18446744073709551616 = _; omega
        have hsc : Keeps [w.heap.size] wr (wr.setCell ⟨w.heap.size, k, none⟩ (.int .u64 ((k : Int) + 1))) := (Keeps.refl _ _).setCell (fun _ => by simp) _
        have HS := Lib.hid hsc
        have hkn : (k : Int) < ((n + 1 : Nat) : Int) := by omega
        clear hrow hsc
        go_wp2
        go_roundw
        case rel =>
          refine ⟨k + 1, by omega, .inl (by omega), by go_num, HKi.out.step HS.out (by intro k hk; simp at hk; omega), ?_⟩
          rw [← arRow_set f1 hk1, ints_set]
          exact HRi.out.set k _
        case measure => simp [intOf]; omega
      · have hrow2 : Row wr w.heap.size 64 (ints .u64 (arRow n f n)) := by rw [← arRow_end hlt (by omega) f2]; exact hrow
        have HRi := Lib.hid hrow2
        clear hrow hrow2
        go_wp2
        go_ret
        exact ⟨_, rfl, HRi.out, HKi.out, Nat.le_refl _⟩

end Go.Proofs.YtejekciekcbagaaGreat
