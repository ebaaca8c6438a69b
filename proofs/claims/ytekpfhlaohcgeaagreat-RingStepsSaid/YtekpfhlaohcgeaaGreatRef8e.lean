/-
  Contracts: what a document's frame of a ring wants.
-/
import Derived.Test.YtekpfhlaohcgeaaGreatRef8c
import Derived.Test.YtekpfhlaohcgeaaGreatRef8w
import Derived.Test.YtekpfhlaohcgeaaGreatRef8x
namespace Go.Proofs.YtekpfhlaohcgeaaGreat
set_option maxRecDepth 100000
set_option linter.unusedSimpArgs false
set_option linter.unusedVariables false
open Go.ChangeShapes Go.WideShapes Go.ChangeAt Go.RowKit

theorem rfWantPush_any (p : Nat) (s : RgS) (tk l : Value) (dn : Bool) (c v : Int) (w : World) (h : Row w p 97 (rfCells s tk dn c v l)) (hto : w.ownsRow 0 24 1 tk s.took.length (ints .u64 s.took)) (hlen : s.took.length ≤ 257) (ho : s.over = none) (hk : s.kind = 1) (hok : rgOk s) :
    Calls Tryz.prog 90 #[.pointer (some ⟨p, 0, none⟩)] w fun e w' => e = .returned (rgWant s).val ∧ Keeps [] w w' := by
  obtain ⟨at_, size, kind, task, target, step, hd, t, u, n, k, took, over⟩ := s
  simp only at ho hk hto hlen
  subst ho hk
  unfold rgOk at hok
  simp only at hok
  obtain ⟨hr, ut, uh, wt, wu, hc⟩ := hok
  have hs2 : 2 ≤ size ∧ size ≤ 256 := by have := hr.1; omega
  have a0 : 0 ≤ at_ := hr.2.1
  have a1 : at_ < 65536 := by have := hr.2.2; omega
  rcases hc with ⟨-, hc⟩ | ⟨hc, -⟩ | ⟨hc, -⟩
  rotate_left
  · exact absurd hc (by decide)
  · exact absurd hc (by decide)
  rcases hc with ⟨rfl | rfl | rfl | rfl | rfl, rfl, rfl⟩ | ⟨rfl, rfl, hkk⟩
  · rw [show rgWant ⟨at_, size, 1, task, target, 1, hd, t, u, n, 0, [], none⟩ = ⟨1, at_, 0, 0⟩ by simp [rgWant]]
    exact rfPush1 p at_ size task target hd t u n 0 [] tk l dn c v w h hs2
  · rw [show rgWant ⟨at_, size, 1, task, target, 2, hd, t, u, n, 0, [], none⟩ = ⟨1, at_ + 1, 0, 0⟩ by simp [rgWant]]
    exact rfPush2 p at_ size task target hd t u n 0 [] tk l dn c v w h a0 a1 hs2
  · rw [show rgWant ⟨at_, size, 1, task, target, 3, hd, t, u, n, 0, [], none⟩ = ⟨2, dqSlot at_ size t, task, 0⟩ by simp [rgWant]]
    exact rfPush3 p at_ size task target hd t u n 0 [] tk l dn c v w h hr wt hs2
  · rw [show rgWant ⟨at_, size, 1, task, target, 4, hd, t, u, n, 0, [], none⟩ = ⟨2, at_ + 1, rgAdd t 1, 0⟩ by simp [rgWant]]
    exact rfPush4 p at_ size task target hd t u n 0 [] tk l dn c v w h a0 a1 wt hs2
  · rw [show rgWant ⟨at_, size, 1, task, target, 5, hd, t, u, n, 0, [], none⟩ = ⟨3, at_, hd, rgPair (rgAdd (rgLo hd) (size / 2)) (rgAdd (rgLo hd) (size / 2))⟩ by simp [rgWant]]
    exact rfPush5 p at_ size task target hd t u n 0 [] tk l dn c v w h uh hs2
  · rw [show rgWant ⟨at_, size, 1, task, target, 6, hd, t, u, n, (took.length : Int), took, none⟩ = ⟨1, dqSlot at_ size (rgAdd (rgLo hd) (took.length : Int)), 0, 0⟩ by simp [rgWant]]
    exact rfPush6 p at_ size task target hd t u n _ took tk l dn c v w h hr uh hs2 ⟨by omega, by omega⟩

theorem rfWantPop_any (p : Nat) (s : RgS) (tk l : Value) (dn : Bool) (c v : Int) (w : World) (h : Row w p 97 (rfCells s tk dn c v l)) (hto : w.ownsRow 0 24 1 tk s.took.length (ints .u64 s.took)) (hlen : s.took.length ≤ 257) (ho : s.over = none) (hk : s.kind = 2) (hok : rgOk s) :
    Calls Tryz.prog 91 #[.pointer (some ⟨p, 0, none⟩)] w fun e w' => e = .returned (rgWant s).val ∧ Keeps [] w w' := by
  obtain ⟨at_, size, kind, task, target, step, hd, t, u, n, k, took, over⟩ := s
  simp only at ho hk hto hlen
  subst ho hk
  unfold rgOk at hok
  simp only at hok
  obtain ⟨hr, ut, uh, wt, wu, hc⟩ := hok
  have hs2 : 2 ≤ size ∧ size ≤ 256 := by have := hr.1; omega
  have a0 : 0 ≤ at_ := hr.2.1
  have a1 : at_ < 65536 := by have := hr.2.2; omega
  rcases hc with ⟨hc, -⟩ | ⟨-, hst, rfl⟩ | ⟨hc, -⟩
  · exact absurd hc (by decide)
  rotate_left
  · exact absurd hc (by decide)
  rcases hst with rfl | rfl | rfl | rfl
  · rw [show rgWant ⟨at_, size, 2, task, target, 1, hd, t, u, n, k, [], none⟩ = ⟨1, at_, 0, 0⟩ by simp [rgWant]]
    exact rfPop1 p at_ size task target hd t u n k [] tk l dn c v w h
  · rw [show rgWant ⟨at_, size, 2, task, target, 2, hd, t, u, n, k, [], none⟩ = ⟨1, at_ + 1, 0, 0⟩ by simp [rgWant]]
    exact rfPop2 p at_ size task target hd t u n k [] tk l dn c v w h a0 a1
  · by_cases hB : rgHi hd = rgLo hd
    · rw [show rgWant ⟨at_, size, 2, task, target, 3, hd, t, u, n, k, [], none⟩ = ⟨3, at_, hd, rgPair (rgAdd (rgLo hd) 1) (rgAdd (rgLo hd) 1)⟩ by simp [rgWant, hB]]
      exact rfPop3All p at_ size task target hd t u n k [] tk l dn c v w h uh hB
    · rw [show rgWant ⟨at_, size, 2, task, target, 3, hd, t, u, n, k, [], none⟩ = ⟨3, at_, hd, rgPair (rgHi hd) (rgAdd (rgLo hd) 1)⟩ by simp [rgWant, hB]]
      exact rfPop3 p at_ size task target hd t u n k [] tk l dn c v w h uh hB
  · rw [show rgWant ⟨at_, size, 2, task, target, 4, hd, t, u, n, k, [], none⟩ = ⟨1, dqSlot at_ size (rgLo hd), 0, 0⟩ by simp [rgWant]]
    exact rfPop4 p at_ size task target hd t u n k [] tk l dn c v w h hr uh

theorem rfWantSteal_any (p : Nat) (s : RgS) (tk l : Value) (dn : Bool) (c v : Int) (w : World) (h : Row w p 97 (rfCells s tk dn c v l)) (hto : w.ownsRow 0 24 1 tk s.took.length (ints .u64 s.took)) (hlen : s.took.length ≤ 257) (ho : s.over = none) (hk : s.kind = 3) (hok : rgOk s) :
    Calls Tryz.prog 92 #[.pointer (some ⟨p, 0, none⟩)] w fun e w' => e = .returned (rgWant s).val ∧ Keeps [] w w' := by
  obtain ⟨at_, size, kind, task, target, step, hd, t, u, n, k, took, over⟩ := s
  simp only at ho hk hto hlen
  subst ho hk
  unfold rgOk at hok
  simp only at hok
  obtain ⟨hr, ut, uh, wt, wu, hc⟩ := hok
  have hs2 : 2 ≤ size ∧ size ≤ 256 := by have := hr.1; omega
  have a0 : 0 ≤ at_ := hr.2.1
  have a1 : at_ < 65536 := by have := hr.2.2; omega
  rcases hc with ⟨hc, -⟩ | ⟨hc, -⟩ | ⟨-, htr, hc⟩
  · exact absurd hc (by decide)
  · exact absurd hc (by decide)
  have b0 : 0 ≤ target := htr.2.1
  have b1 : target < 65536 := by have := htr.2.2; omega
  rcases hc with ⟨rfl | rfl | rfl | rfl, rfl, rfl⟩ | ⟨hn1, hn2, ⟨rfl, rfl, rfl⟩ | ⟨rfl, rfl, hkk⟩ | ⟨rfl, hkl, hkn, hk0⟩ | ⟨rfl | rfl | ⟨rfl, hn9⟩, hnl⟩⟩
  · rw [show rgWant ⟨at_, size, 3, task, target, 1, hd, t, u, n, 0, [], none⟩ = ⟨1, target + 1, 0, 0⟩ by simp [rgWant]]
    exact rfSteal1 p at_ size task target hd t u n 0 [] tk l dn c v w h b0 b1
  · rw [show rgWant ⟨at_, size, 3, task, target, 2, hd, t, u, n, 0, [], none⟩ = ⟨1, target, 0, 0⟩ by simp [rgWant]]
    exact rfSteal2 p at_ size task target hd t u n 0 [] tk l dn c v w h
  · rw [show rgWant ⟨at_, size, 3, task, target, 3, hd, t, u, n, 0, [], none⟩ = ⟨1, at_, 0, 0⟩ by simp [rgWant]]
    exact rfSteal3 p at_ size task target hd t u n 0 [] tk l dn c v w h
  · rw [show rgWant ⟨at_, size, 3, task, target, 4, hd, t, u, n, 0, [], none⟩ = ⟨1, at_ + 1, 0, 0⟩ by simp [rgWant]]
    exact rfSteal4 p at_ size task target hd t u n 0 [] tk l dn c v w h a0 a1
  · rw [show rgWant ⟨at_, size, 3, task, target, 5, hd, t, u, n, 0, [], none⟩ = ⟨3, at_, hd, rgPair (rgHi hd) (rgAdd (rgLo hd) n)⟩ by simp [rgWant]]
    exact rfSteal5 p at_ size task target hd t u n 0 [] tk l dn c v w h uh ⟨by omega, hn2⟩
  · rw [show rgWant ⟨at_, size, 3, task, target, 6, hd, t, u, n, (took.length : Int), took, none⟩ = ⟨1, dqSlot at_ size (rgAdd t (took.length : Int)), 0, 0⟩ by simp [rgWant]]
    exact rfSteal6 p at_ size task target hd t u n _ took tk l dn c v w h hr ⟨by omega, by omega⟩
  · obtain ⟨g, cap, rfl, hob, hgl, hcell⟩ := rf_cells hto (by omega)
    obtain ⟨kN, rfl⟩ : ∃ kN : Nat, k = (kN : Int) := ⟨k.toNat, by omega⟩
    rw [show rgWant ⟨at_, size, 3, task, target, 60, hd, t, u, n, (kN : Int), took, none⟩ = ⟨2, dqSlot target size (rgAdd u (kN : Int)), took.getD kN 0, 0⟩ by simp [rgWant]]
    exact rfSteal60 p g _ cap kN at_ size task target hd t u n took l dn c v w h htr hgl (hcell kN (by omega)) (by omega) (by omega)
  · rw [show rgWant ⟨at_, size, 3, task, target, 7, hd, t, u, n, k, took, none⟩ = ⟨1, at_, 0, 0⟩ by simp [rgWant]]
    exact rfSteal7 p at_ size task target hd t u n k took tk l dn c v w h
  · rw [show rgWant ⟨at_, size, 3, task, target, 8, hd, t, u, n, k, took, none⟩ = ⟨3, at_, hd, rgPair (rgLo hd) (rgLo hd)⟩ by simp [rgWant]]
    exact rfSteal8 p at_ size task target hd t u n k took tk l dn c v w h uh
  · rw [show rgWant ⟨at_, size, 3, task, target, 9, hd, t, u, n, k, took, none⟩ = ⟨2, target + 1, rgAdd u (n - 1), 0⟩ by simp [rgWant]]
    exact rfSteal9 p at_ size task target hd t u n k took tk l dn c v w h b0 b1 ⟨hn1, hn2⟩ wu
end Go.Proofs.YtekpfhlaohcgeaaGreat

/-
  Contracts: a document's frame of a ring is told what came.
-/
namespace Go.Proofs.YtekpfhlaohcgeaaGreat
set_option maxRecDepth 100000
set_option linter.unusedSimpArgs false
set_option linter.unusedVariables false
open Go.ChangeShapes Go.WideShapes Go.ChangeAt Go.RowKit

set_option maxHeartbeats 800000 in
theorem rf_give (p : Nat) (s : RgS) (w : World) (S : List Nat) (tv : Int) (won : Bool) (h : rfJ p w S s) (hv : M.U tv) :
    Calls Tryz.prog 47 #[.pointer (some ⟨p, 0, none⟩), .int .u64 tv, .bool won] w fun e w' => e = .returned (.tuple #[]) ∧ ∃ S', rfJ p w' S' (ringM.give s tv won) ∧ Keeps (if (ringM.res s).isSome then [] else S) w w' ∧ ∀ k ∈ S', k ∈ S ∨ w.heap.size ≤ k := by
  have H0 := Lib.hid h
  obtain ⟨tk, dn, c, v, l, hS, hrow, hown, hne, hlen, hno, hyes⟩ := h
  cases ho : s.over with
  | some r =>
    have e : ringM.give s tv won = s := by simp [ringM, ho]
    have e2 : (ringM.res s).isSome = true := by simp [ringM, ho]
    rw [e, if_pos e2]
    have c9 := hrow.cell (j := 12) rfl
    rw [(hyes r ho).1] at c9
    clear hrow hown hne hlen hno hyes e e2 ho hS
    go_enter Tryz.func47, Tryz.ntmps47
    go_wp2
    first | go_end0 | refine bodyPost_ret (results_none rfl _ _ _) rfl ?_
    exact ⟨rfl, S, H0.out, Keeps.refl _ _, fun k hk => .inl hk⟩
  | none =>
    obtain ⟨rfl, rfl, rfl, rfl, hok⟩ := hno ho
    have e : ringM.give s tv won = rgGive s tv won := by simp [ringM, ho]
    have e2 : (ringM.res s).isSome = false := by simp [ringM, ho]
    rw [e, if_neg (by rw [e2]; simp)]
    have c9 := hrow.cell (j := 12) (u := .bool false) rfl
    have c2 := hrow.cell (j := 2) (u := .int .i64 s.kind) rfl
    have HP := Lib.hid (fun hk => rfPush_next p s tk tv won w hrow hown hne hlen ho hk hok hv)
    have HQ := Lib.hid (fun hk => rfPop_next p s tk tv won w hrow hown hne hlen ho hk hok hv)
    have HT := Lib.hid (fun hk => rfSteal_next p s tk tv won w hrow hown hne hlen ho hk hok hv)
    have hks : s.kind = 1 ∨ s.kind = 2 ∨ s.kind = 3 := by
      rcases hok.2.2.2.2.2 with h | h | h
      · exact .inl h.1
      · exact .inr (.inl h.1)
      · exact .inr (.inr h.1)
    clear hrow hown hne hlen hno hyes e e2 hok H0 ho
    subst hS
    rcases hks with hk | hk | hk
    · have hc := HP.out hk
      have eg : rgGive s tv won = rgPushGive s tv won := by simp [rgGive, hk]
      rw [hk] at c2
      rw [eg]
      clear hk HP HQ HT eg
      go_enter Tryz.func47, Tryz.ntmps47
      go_wp2_with fail
      refine hc.mono ?_
      rintro e w1 ⟨rfl, hn⟩
      have HN := Lib.hid hn
      clear hn
      go_wp2
      first | go_end0 | refine bodyPost_ret (results_none rfl _ _ _) rfl ?_
      exact ⟨rfl, HN.out⟩
    · have hc := HQ.out hk
      have eg : rgGive s tv won = rgPopGive s tv won := by simp [rgGive, hk]
      rw [hk] at c2
      rw [eg]
      clear hk HP HQ HT eg
      go_enter Tryz.func47, Tryz.ntmps47
      go_wp2_with fail
      refine hc.mono ?_
      rintro e w1 ⟨rfl, hn⟩
      have HN := Lib.hid hn
      clear hn
      go_wp2
      first | go_end0 | refine bodyPost_ret (results_none rfl _ _ _) rfl ?_
      exact ⟨rfl, HN.out⟩
    · have hc := HT.out hk
      have eg : rgGive s tv won = rgStealGive s tv won := by simp [rgGive, hk]
      rw [hk] at c2
      rw [eg]
      clear hk HP HQ HT eg
      go_enter Tryz.func47, Tryz.ntmps47
      go_wp2_with fail
      refine hc.mono ?_
      rintro e w1 ⟨rfl, hn⟩
      have HN := Lib.hid hn
      clear hn
      go_wp2
      first | go_end0 | refine bodyPost_ret (results_none rfl _ _ _) rfl ?_
      exact ⟨rfl, HN.out⟩
end Go.Proofs.YtekpfhlaohcgeaaGreat

/-
  Contracts: what a document's frame of a ring wants and holds.
-/
namespace Go.Proofs.YtekpfhlaohcgeaaGreat
set_option maxRecDepth 100000
set_option linter.unusedSimpArgs false
set_option linter.unusedVariables false
open Go.ChangeShapes Go.WideShapes Go.ChangeAt Go.RowKit

set_option maxHeartbeats 800000 in
theorem rf_want (p : Nat) (s : RgS) (w : World) (S : List Nat) (h : rfJ p w S s) :
    Calls Tryz.prog 44 #[.pointer (some ⟨p, 0, none⟩)] w fun e w' => e = .returned (.tuple #[((ringM.want s).getD zacc).val, .bool (ringM.want s).isSome]) ∧ Keeps [] w w' := by
  cases ho : s.over with
  | some r => exact rf_wantDone p s w S h (by rw [ho]; simp)
  | none =>
    obtain ⟨tk, dn, c, v, l, hS, hrow, hown, hne, hlen, hno, hyes⟩ := h
    obtain ⟨rfl, rfl, rfl, rfl, hok⟩ := hno ho
    have e : ringM.want s = some (rgWant s) := by simp [ringM, ho]
    rw [e]
    show Calls Tryz.prog 44 #[.pointer (some ⟨p, 0, none⟩)] w fun e w' => e = .returned (.tuple #[(rgWant s).val, .bool true]) ∧ Keeps [] w w'
    obtain ⟨W0, hW0⟩ : ∃ W0, w.alloc (.cells #[.int .i64 0, .int .i64 0, .int .u64 0, .int .u64 0] 78) = W0 := ⟨_, rfl⟩
    have k0 : Keeps [] w W0 := by rw [← hW0]; exact (Keeps.refl _ _).alloc _
    have r0 : Row W0 w.heap.size 78 [.int .i64 0, .int .i64 0, .int .u64 0, .int .u64 0] := by rw [← hW0]; exact Row.new _ _ _
    have HR0 := Lib.hid r0
    clear r0
    have hr0 := hrow.keeps k0 (by simp)
    have ho0 := owns_keeps hown k0 (fun g hg => by simp)
    have c9 := hr0.cell (j := 12) (u := .bool false) rfl
    have c2 := hr0.cell (j := 2) (u := .int .i64 s.kind) rfl
    have HP := Lib.hid (fun hk => rfWantPush_any p s tk _ _ _ _ W0 hr0 ho0 hlen ho hk hok)
    have HQ := Lib.hid (fun hk => rfWantPop_any p s tk _ _ _ _ W0 hr0 ho0 hlen ho hk hok)
    have HT := Lib.hid (fun hk => rfWantSteal_any p s tk _ _ _ _ W0 hr0 ho0 hlen ho hk hok)
    have hks : s.kind = 1 ∨ s.kind = 2 ∨ s.kind = 3 := by
      rcases hok.2.2.2.2.2 with h | h | h
      · exact .inl h.1
      · exact .inr (.inl h.1)
      · exact .inr (.inr h.1)
    obtain ⟨x, hx⟩ : ∃ x, rgWant s = x := ⟨_, rfl⟩
    rw [hx] at HP HQ HT
    rw [hx]
    obtain ⟨x1, x2, x3, x4⟩ := x
    have HK := Lib.hid k0
    have hlt := hr0.lt
    clear hrow hown hne hlen hno hyes hok ho hx e hr0 ho0 k0 hS
    rcases hks with hk | hk | hk
    · have hc := HP.out hk
      rw [hk] at c2
      clear hk HP HQ HT
      go_enter Tryz.func44, Tryz.ntmps44
      go_wp2_with fail
      refine hc.mono ?_
      rintro e w1 ⟨rfl, hn⟩
      have r1 := HR0.out.keeps hn (by simp)
      have q0 := r1.cell (j := 0) rfl
      have q1 := r1.cell (j := 1) rfl
      have q2 := r1.cell (j := 2) rfl
      have q3 := r1.cell (j := 3) rfl
      have e0 := r1.frozen 0
      have e1 := r1.frozen 1
      have e2 := r1.frozen 2
      have e3 := r1.frozen 3
      have hl1 := r1.lt
      have HZ : Hid (Keeps [] w ((((w1.setCell ⟨w.heap.size, 0, none⟩ (.int .i64 x1)).setCell ⟨w.heap.size, 1, none⟩ (.int .i64 x2)).setCell ⟨w.heap.size, 2, none⟩ (.int .u64 x3)).setCell ⟨w.heap.size, 3, none⟩ (.int .u64 x4))) := Lib.hid ((HK.out.trans hn).step (S := [w.heap.size]) (((((Keeps.refl _ _).set (by simp) _ _).set (by simp) _ _).set (by simp) _ _).set (by simp) _ _) (by simp))
      clear hn r1
      go_wp2
      refine bodyPost_ret (v := .tuple #[.agg #[.int .i64 x1, .int .i64 x2, .int .u64 x3, .int .u64 x4], .bool true]) (by simp [results, Tryz.results44, go_sem, q0, q1, q2, q3]) rfl ⟨rfl, HZ.out⟩
    · have hc := HQ.out hk
      rw [hk] at c2
      clear hk HP HQ HT
      go_enter Tryz.func44, Tryz.ntmps44
      go_wp2_with fail
      refine hc.mono ?_
      rintro e w1 ⟨rfl, hn⟩
      have r1 := HR0.out.keeps hn (by simp)
      have q0 := r1.cell (j := 0) rfl
      have q1 := r1.cell (j := 1) rfl
      have q2 := r1.cell (j := 2) rfl
      have q3 := r1.cell (j := 3) rfl
      have e0 := r1.frozen 0
      have e1 := r1.frozen 1
      have e2 := r1.frozen 2
      have e3 := r1.frozen 3
      have hl1 := r1.lt
      have HZ : Hid (Keeps [] w ((((w1.setCell ⟨w.heap.size, 0, none⟩ (.int .i64 x1)).setCell ⟨w.heap.size, 1, none⟩ (.int .i64 x2)).setCell ⟨w.heap.size, 2, none⟩ (.int .u64 x3)).setCell ⟨w.heap.size, 3, none⟩ (.int .u64 x4))) := Lib.hid ((HK.out.trans hn).step (S := [w.heap.size]) (((((Keeps.refl _ _).set (by simp) _ _).set (by simp) _ _).set (by simp) _ _).set (by simp) _ _) (by simp))
      clear hn r1
      go_wp2
      refine bodyPost_ret (v := .tuple #[.agg #[.int .i64 x1, .int .i64 x2, .int .u64 x3, .int .u64 x4], .bool true]) (by simp [results, Tryz.results44, go_sem, q0, q1, q2, q3]) rfl ⟨rfl, HZ.out⟩
    · have hc := HT.out hk
      rw [hk] at c2
      clear hk HP HQ HT
      go_enter Tryz.func44, Tryz.ntmps44
      go_wp2_with fail
      refine hc.mono ?_
      rintro e w1 ⟨rfl, hn⟩
      have r1 := HR0.out.keeps hn (by simp)
      have q0 := r1.cell (j := 0) rfl
      have q1 := r1.cell (j := 1) rfl
      have q2 := r1.cell (j := 2) rfl
      have q3 := r1.cell (j := 3) rfl
      have e0 := r1.frozen 0
      have e1 := r1.frozen 1
      have e2 := r1.frozen 2
      have e3 := r1.frozen 3
      have hl1 := r1.lt
      have HZ : Hid (Keeps [] w ((((w1.setCell ⟨w.heap.size, 0, none⟩ (.int .i64 x1)).setCell ⟨w.heap.size, 1, none⟩ (.int .i64 x2)).setCell ⟨w.heap.size, 2, none⟩ (.int .u64 x3)).setCell ⟨w.heap.size, 3, none⟩ (.int .u64 x4))) := Lib.hid ((HK.out.trans hn).step (S := [w.heap.size]) (((((Keeps.refl _ _).set (by simp) _ _).set (by simp) _ _).set (by simp) _ _).set (by simp) _ _) (by simp))
      clear hn r1
      go_wp2
      refine bodyPost_ret (v := .tuple #[.agg #[.int .i64 x1, .int .i64 x2, .int .u64 x3, .int .u64 x4], .bool true]) (by simp [results, Tryz.results44, go_sem, q0, q1, q2, q3]) rfl ⟨rfl, HZ.out⟩
end Go.Proofs.YtekpfhlaohcgeaaGreat

/-
  Contracts: what a document's frame of a ring holds.
-/
namespace Go.Proofs.YtekpfhlaohcgeaaGreat
set_option maxRecDepth 100000
set_option linter.unusedSimpArgs false
set_option linter.unusedVariables false
open Go.ChangeShapes Go.WideShapes Go.ChangeAt Go.RowKit

/-- An append of what can be read. -/
theorem append_sl {P : Program} {ops : Array Oper} {rest : List Oper} {o : Oper} {a : Act} {Q : Exit → Act → World → Prop} {w : World} (hgd : o.guard = none) (s x : Operand) (t : TypeId)
    (ho : o.op = .call { callee := .builtin .append, args := #[s, x], argTypes := #[t, t] })
    (base : Nat) (e : TypeId) (z : Value) (size bytes : Nat) (ht : P.underlying t = some (.slice e)) (hE : Elem P e z size bytes)
    (v : Value) (n : Nat) (xs : List Value) (hs : a.eval s = v) (hown : w.ownsRow base e size v n xs)
    (y : Value) (m : Nat) (news : List Value) (hx : a.eval x = y) (hy : Sl w size y m news) (h1 : ∀ u ∈ news, u.oneCell' = true)
    (hbytes : (n + m) * bytes ≤ 140737488355328) (hbase : base ≤ w.heap.size)
    (h : ∀ v' w', w'.ownsRow base e size v' (n + m) (xs ++ news) → Keeps v.ownBlock.toList w w' → (∀ k, v'.ownBlock = some k → v.ownBlock = some k ∨ w.heap.size ≤ k) → wpList P ops Q rest (a.put o.dst v') w') :
    wpList P ops Q (o :: rest) a w := by
  refine wpList_plain hgd fun K hK => ?_
  obtain ⟨v', w', hr, h2, h3, h4, h5⟩ := run_append_sl (P := P) w base t o.type e z size bytes ht hE v n xs hown y m news hy h1 hbytes hbase
  unfold Oper.wp execOp
  simp only [ho, resolve, invoke, builtin, Sem.run_bind, Sem.run_pure, Result.andThen_ok, List.map_toArray, List.map_cons, List.map_nil, hs, hx, hr]
  exact hK _ _ (h v' w' h2 h3 h4)

set_option maxHeartbeats 800000 in
theorem rf_held (p : Nat) (s : RgS) (w : World) (S : List Nat) (h : rfJ p w S s) :
    Calls Tryz.prog 46 #[.pointer (some ⟨p, 0, none⟩)] w fun e w' => ∃ q c, e = .returned (.slice q (ringM.held s).length c) ∧ Sl w' 1 (.slice q (ringM.held s).length c) (ringM.held s).length (ints .u64 (ringM.held s)) ∧ Keeps [] w w' := by
  obtain ⟨tk, dn, c, v, l, hS, hrow, hown, hne, hlen, hno, hyes⟩ := h
  have none_ : ∀ W : World, Sl W 1 (.slice none 0 0) 0 (ints .u64 []) := fun W => ⟨rfl, .inl ⟨_, _, rfl, rfl⟩⟩
  have c12 := hrow.cell (j := 12) rfl
  have c2 := hrow.cell (j := 2) rfl
  have c3 := hrow.cell (j := 3) rfl
  have c11 := hrow.cell (j := 11) rfl
  cases ho : s.over with
  | some r =>
    have e : ringM.held s = [] := by simp [ringM, rgHeld, ho]
    rw [e]
    rw [(hyes r ho).1] at c12
    have HNone := Lib.hid none_
    clear hrow hown hne hlen hno hyes none_ ho e c2 c3 c11
    show Calls Tryz.prog 46 #[.pointer (some ⟨p, 0, none⟩)] w fun e w' => ∃ q c, e = .returned (.slice q 0 c) ∧ Sl w' 1 (.slice q 0 c) 0 (ints .u64 []) ∧ Keeps [] w w'
    go_enter Tryz.func46, Tryz.ntmps46
    go_wp2
    go_ret
    exact ⟨none, 0, rfl, HNone.out _, Keeps.refl _ _⟩
  | none =>
    rw [(hno ho).1] at c12
    obtain ⟨q, cp, htk⟩ := (Sl.of_owns hown).len
    subst htk
    by_cases k1 : s.kind = 1
    · have e : ringM.held s = s.task :: s.took := by simp [ringM, rgHeld, ho, k1]
      rw [e]
      rw [k1] at c2
      have hlt := hrow.lt
      have kA : Keeps [] w ((w.drew).alloc (.cells #[.int .u64 s.task] 24)) := ((Keeps.refl [] w).drew).alloc _
      have HL : Hid (((w.drew).alloc (.cells #[.int .u64 s.task] 24)).ownsRow 0 24 1 (.slice (some ⟨w.heap.size, 0, none⟩) 1 1) 1 [.int .u64 s.task]) := Lib.hid (World.ownsRow_lit (w.drew) #[.int .u64 s.task] 1 (Nat.zero_le _) (by decide) rfl)
      have hr1 := hrow.keeps kA (by simp)
      have d11 := hr1.cell (j := 11) rfl
      have HT : Hid (Sl ((w.drew).alloc (.cells #[.int .u64 s.task] 24)) 1 (.slice q s.took.length cp) s.took.length (ints .u64 s.took)) := Lib.hid (Sl.of_owns (owns_keeps hown kA (fun g hg => by simp)))
      have HLen := Lib.hid hlen
      have HB : Hid (1 + s.took.length = s.took.length + 1) := Lib.hid (Nat.add_comm _ _)
      have HKA := Lib.hid kA
      clear hrow hown hne hlen hno hyes none_ ho e hr1 kA
      go_enter Tryz.func46, Tryz.ntmps46
      go_wp2_with fail
      go_region_law (first
        | (refine step_append_sl (by rfl) _ _ 39 (by rfl) 0 24 _ 1 8 Tryz.underlying39 elemWd (.slice (some ⟨w.heap.size, 0, none⟩) 1 1) 1 [.int .u64 s.task] (by rfl) HL.out (.slice q s.took.length cp) s.took.length (ints .u64 s.took) (by rfl) HT.out (fun u hu => ints_oneCell .u64 _ u hu) (by have := HLen.out; omega) (Nat.zero_le _) ?_; intro v10 w10 own10 k10 f10 ne10))
      all_goals (try go_wp2)
      all_goals (try go_ret)
      all_goals (
        have hsl := Sl.of_owns own10
        rw [HB.out] at hsl
        obtain ⟨q9, c9, rfl⟩ := hsl.len
        refine ⟨q9, c9, rfl, hsl, HKA.out.step (S := [w.heap.size]) (k10.mono (by simp [Value.ownBlock])) (by simp)⟩)
    · have e : ringM.held s = s.took := by simp [ringM, rgHeld, ho, k1]
      rw [e]
      have b1 : (s.kind == 1) = false := beq_eq_false_iff_ne.2 k1
      have HT := Lib.hid (Sl.of_owns hown)
      clear hrow hown hne hlen hno hyes none_ ho e k1
      go_enter Tryz.func46, Tryz.ntmps46
      go_wp2
      go_ret
      exact ⟨q, cp, rfl, HT.out, Keeps.refl _ _⟩
end Go.Proofs.YtekpfhlaohcgeaaGreat
