import Derived.Test.YtjfgpplnlepnoaaGreatRef8q
import Derived.Test.YtjfgpplnlepnoaaGreatRef8h
import Derived.Test.YtjfgpplnlepnoaaGreatRef8w
import Derived.Test.YtjfgpplnlepnoaaGreatRef8a
import Derived.Deep.CutRange
import Derived.LoopTactic
/-
  Contracts: how a document's frame of a ring ends a steal.
-/
namespace Go.Proofs.YtjfgpplnlepnoaaGreat
set_option maxRecDepth 100000
set_option linter.unusedSimpArgs false
set_option linter.unusedVariables false
open Go.ChangeShapes Go.WideShapes Go.ChangeAt Go.RowKit

set_option maxHeartbeats 6400000 in
theorem rfStealG9 (q g nt ct kN : Nat) (at_ size task target hd t u n k x : Int) (took : List Int) (won : Bool) (w : World) (h : Row w q 155 (rfCells ⟨at_, size, 3, task, target, 9, hd, t, u, n, k, took, none⟩ (.slice (some ⟨g, 0, none⟩) nt ct) false 0 0 (.slice none 0 0))) (hn : n = (kN : Int) + 1) (hkn : kN < nt) (hk2 : kN ≤ 256) (hg : g ≠ q) (hgl : g < w.heap.size) (hx : w.cell? ⟨g, kN, none⟩ = some (.int .u64 (took.getD kN 0))) :
    Calls Tryz.prog 158 #[.pointer (some ⟨q, 0, none⟩), .int .u64 x, .bool won] w fun e w' => e = .returned (.tuple #[]) ∧ RfGoes q w (rgStealGive ⟨at_, size, 3, task, target, 9, hd, t, u, n, k, took, none⟩ x won) (.slice (some ⟨g, 0, none⟩) nt ct) w' := by
  have c5 := h.cell (j := 5) rfl
  have f5 := h.frozen 5
  simp only at c5
  have hlast : rgLast ⟨at_, size, 3, task, target, 9, hd, t, u, n, k, took, none⟩ = took.getD kN 0 := by
    unfold rgLast; simp only [hn]; congr 1; omega
  have HL := Lib.hid (rfLast_any q g nt ct kN _ _ w h hn hkn hk2 hg hgl hx)
  have HG : Hid (rgStealGive ⟨at_, size, 3, task, target, 9, hd, t, u, n, k, took, none⟩ x won = ⟨at_, size, 3, task, target, 9, hd, t, u, n, k, took, some ⟨0, took.getD kN 0, []⟩⟩) := Lib.hid (by simp [rgStealGive, hlast])
  rw [HG.out]
  clear h hn hx
  go_enter Tryz.func158, Tryz.ntmps158
  go_wp2_with fail
  refine HL.out.mono ?_
  rintro e w2 ⟨rfl, r2, k2⟩
  have HF := Lib.hid r2
  have HKF := Lib.hid k2
  clear r2 k2
  go_wp2_with fail
  first | go_end0 | refine bodyPost_ret (results_none rfl _ _ _) rfl ?_
  exact ⟨rfl, _, _, _, _, HF.out, HKF.out, fun h => (by cases h), fun r h _ => by cases h; exact ⟨rfl, rfl, rfl, rfl⟩⟩

set_option maxHeartbeats 6400000 in
theorem rfStealG8One (q g nt ct : Nat) (at_ size task target hd t u k x : Int) (took : List Int) (w : World) (h : Row w q 155 (rfCells ⟨at_, size, 3, task, target, 8, hd, t, u, 1, k, took, none⟩ (.slice (some ⟨g, 0, none⟩) nt ct) false 0 0 (.slice none 0 0))) (hkn : 0 < nt) (hg : g ≠ q) (hgl : g < w.heap.size) (hx : w.cell? ⟨g, 0, none⟩ = some (.int .u64 (took.getD 0 0))) :
    Calls Tryz.prog 158 #[.pointer (some ⟨q, 0, none⟩), .int .u64 x, .bool true] w fun e w' => e = .returned (.tuple #[]) ∧ RfGoes q w (rgStealGive ⟨at_, size, 3, task, target, 8, hd, t, u, 1, k, took, none⟩ x true) (.slice (some ⟨g, 0, none⟩) nt ct) w' := by
  have c5 := h.cell (j := 5) rfl
  have f5 := h.frozen 5
  have c9 := h.cell (j := 9) rfl
  have f9 := h.frozen 9
  simp only at c5 c9
  have hlast : rgLast ⟨at_, size, 3, task, target, 8, hd, t, u, 1, k, took, none⟩ = took.getD 0 0 := by
    unfold rgLast; simp
  obtain ⟨W1, hW1⟩ : ∃ W1, (w).setCell ⟨q, 5, none⟩ (.int .i64 9) = W1 := ⟨_, rfl⟩
  have k1 : Keeps [q] w W1 := by rw [← hW1]; exact (Keeps.refl [q] w).set (by simp) _ _
  have r1 : Row W1 q 155 (rfCells ⟨at_, size, 3, task, target, 9, hd, t, u, 1, k, took, none⟩ (.slice (some ⟨g, 0, none⟩) nt ct) false 0 0 (.slice none 0 0)) := by rw [← hW1]; exact (h).set 5 _
  have hgl1 : g < W1.heap.size := Nat.lt_of_lt_of_le hgl k1.size
  have hx1 : W1.cell? ⟨g, 0, none⟩ = some (.int .u64 (took.getD 0 0)) := (k1.cell (p := ⟨g, 0, none⟩) hgl (by simpa using hg)).trans hx
  have HL := Lib.hid (rfLast_any q g nt ct 0 _ _ W1 r1 (by rfl) hkn (by omega) hg hgl1 hx1)
  have d9 := r1.cell (j := 9) rfl
  have g9 := r1.frozen 9
  simp only at d9
  have HG : Hid (rgStealGive ⟨at_, size, 3, task, target, 8, hd, t, u, 1, k, took, none⟩ x true = ⟨at_, size, 3, task, target, 9, hd, t, u, 1, k, took, some ⟨0, took.getD 0 0, []⟩⟩) := Lib.hid (by simp [rgStealGive, hlast])
  rw [HG.out]
  have HK1 := Lib.hid k1
  clear h hx r1 k1 hx1
  go_enter Tryz.func158, Tryz.ntmps158
  go_wp2_with fail
  refine HL.out.mono ?_
  rintro e w2 ⟨rfl, r2, k2⟩
  have HF := Lib.hid r2
  have HKF := Lib.hid (HK1.out.trans k2)
  clear r2 k2
  go_wp2_with fail
  first | go_end0 | refine bodyPost_ret (results_none rfl _ _ _) rfl ?_
  exact ⟨rfl, _, _, _, _, HF.out, HKF.out, fun h => (by cases h), fun r h _ => by cases h; exact ⟨rfl, rfl, rfl, rfl⟩⟩
end Go.Proofs.YtjfgpplnlepnoaaGreat

/-
  Contracts: what a document's frame of a ring is, as the machine sees it; how it ends.
-/
namespace Go.Proofs.YtjfgpplnlepnoaaGreat
set_option maxRecDepth 100000
set_option linter.unusedSimpArgs false
set_option linter.unusedVariables false
open Go.ChangeShapes Go.WideShapes Go.ChangeAt Go.RowKit

def rfJ (p : Nat) (w : World) (S : List Nat) (s : RgS) : Prop :=
  ∃ tk dn c v l, S = p :: tk.ownBlock.toList ∧ Row w p 155 (rfCells s tk dn c v l) ∧ w.ownsRow 0 26 1 tk s.took.length (ints .u64 s.took) ∧ (∀ g, tk.ownBlock = some g → g ≠ p) ∧ s.took.length ≤ 257 ∧
    (s.over = none → dn = false ∧ c = 0 ∧ v = 0 ∧ l = .slice none 0 0 ∧ rgOk s) ∧
    ∀ r, s.over = some r → dn = true ∧ c = r.code ∧ v = r.v ∧ (r.l = [] ∧ l = .slice none 0 0 ∨ r.l = s.took ∧ l = tk)

theorem rf_over (p : Nat) (s : RgS) (w : World) (S : List Nat) (h : rfJ p w S s) :
    Calls Tryz.prog 102 #[.pointer (some ⟨p, 0, none⟩)] w fun e w' => ∃ q n c,
      e = .returned (.tuple #[.agg #[.int .i64 ((ringM.res s).getD Rs.zero).code, .int .u64 ((ringM.res s).getD Rs.zero).v, .slice q n c], .bool (ringM.res s).isSome]) ∧ Keeps [] w w' ∧
      ∀ r, ringM.res s = some r → Sl w' 1 (.slice q n c) r.l.length (ints .u64 r.l) ∧ r.l.length ≤ maxLen ∧ ∀ g, (Value.slice q n c).ownBlock = some g → g ∈ S ∨ w.heap.size ≤ g := by
  obtain ⟨tk, dn, c, v, l, hS, hrow, hown, hne, hlen, hno, hyes⟩ := h
  have hl : ∃ q n cp, l = .slice q n cp := by
    cases ho : s.over with
    | none => exact ⟨_, _, _, (hno ho).2.2.2.1⟩
    | some r =>
      rcases (hyes r ho).2.2.2 with ⟨-, h2⟩ | ⟨-, h2⟩
      · exact ⟨_, _, _, h2⟩
      · obtain ⟨a, b, e⟩ := (Sl.of_owns hown).len
        exact ⟨_, _, _, h2.trans e⟩
  obtain ⟨q, n, cp, rfl⟩ := hl
  have fin : ∀ w', Keeps [] w w' → ∀ r, ringM.res s = some r → Sl w' 1 (.slice q n cp) r.l.length (ints .u64 r.l) ∧ r.l.length ≤ maxLen ∧ ∀ g, (Value.slice q n cp).ownBlock = some g → g ∈ S ∨ w.heap.size ≤ g := by
    intro w' hk r hr
    rcases (hyes r hr).2.2.2 with ⟨h1, h2⟩ | ⟨h1, h2⟩
    · rw [h1, h2]
      exact ⟨⟨rfl, .inl ⟨_, _, rfl, rfl⟩⟩, Nat.zero_le _, fun g hg => by cases hg⟩
    · rw [h1, h2]
      refine ⟨Sl.of_owns (owns_keeps hown hk (fun g _ => by simp)), Nat.le_trans hlen (by decide), fun g hg => .inl ?_⟩
      rw [hS]
      exact List.mem_cons_of_mem _ ((ownBlock_toList _ _).2 hg)
  have hval : c = ((ringM.res s).getD Rs.zero).code ∧ v = ((ringM.res s).getD Rs.zero).v ∧ dn = (ringM.res s).isSome := by
    cases ho : s.over with
    | none => obtain ⟨a, b, c, -⟩ := hno ho; simp [ringM, ho, a, b, c, Rs.zero]
    | some r => obtain ⟨a, b, c, -⟩ := hyes r ho; simp [ringM, ho, a, b, c]
  have HF := Lib.hid fin
  obtain ⟨e1, e2, e3⟩ := hval
  rw [← e1, ← e2, ← e3]
  have hlt := hrow.lt
  obtain ⟨W0, hW0⟩ : ∃ W0, w.alloc (.cells #[.int .i64 0, .int .u64 0, .slice none 0 0] 66) = W0 := ⟨_, rfl⟩
  have k0 : Keeps [] w W0 := by rw [← hW0]; exact (Keeps.refl _ _).alloc _
  have r0 : Row W0 w.heap.size 66 [.int .i64 0, .int .u64 0, .slice none 0 0] := by rw [← hW0]; exact Row.new _ _ _
  have hr0 := hrow.keeps k0 (by simp)
  have c7 := hr0.cell (j := 12) rfl
  have c8 := hr0.cell (j := 13) rfl
  have c9 := hr0.cell (j := 14) rfl
  have c10 := hr0.cell (j := 15) rfl
  have q0 := r0.cell (j := 0) rfl
  have q1 := r0.cell (j := 1) rfl
  have q2 := r0.cell (j := 2) rfl
  have e0 := r0.frozen 0
  have e1' := r0.frozen 1
  have e2' := r0.frozen 2
  have hl0 := r0.lt
  have HK := Lib.hid k0
  clear hrow hown hno hyes hne hlen fin hr0 r0 k0 e1 e2 e3
  go_enter Tryz.func102, Tryz.ntmps102
  go_wp2
  go_region
  go_wp2
  have HZ : Hid (Keeps [] w ((((W0.drew).setCell ⟨w.heap.size, 0, none⟩ (.int .i64 c)).setCell ⟨w.heap.size, 1, none⟩ (.int .u64 v)).setCell ⟨w.heap.size, 2, none⟩ (.slice q n cp))) := Lib.hid (HK.out.drew.step (S := [w.heap.size]) ((((Keeps.refl _ _).set (by simp) _ _).set (by simp) _ _).set (by simp) _ _) (by simp))
  refine bodyPost_ret (v := .tuple #[.agg #[.int .i64 c, .int .u64 v, .slice q n cp], .bool dn]) (by simp [results, Tryz.results102, go_sem, q0, q1, q2]) rfl ⟨q, n, cp, rfl, HZ.out, HF.out _ HZ.out⟩

theorem rf_wantDone (p : Nat) (s : RgS) (w : World) (S : List Nat) (h : rfJ p w S s) (hov : s.over ≠ none) :
    Calls Tryz.prog 96 #[.pointer (some ⟨p, 0, none⟩)] w fun e w' => e = .returned (.tuple #[((ringM.want s).getD zacc).val, .bool (ringM.want s).isSome]) ∧ Keeps [] w w' := by
  obtain ⟨tk, dn, c, v, l, hS, hrow, hown, hne, hlen, hno, hyes⟩ := h
  have hs : s.over.isSome = true := by cases h : s.over with
    | none => exact absurd h hov
    | some r => rfl
  have hd : dn = true := by cases h : s.over with
    | none => exact absurd h hov
    | some r => exact (hyes r h).1
  have hw : Hid (ringM.want s = none) := Lib.hid (by simp [ringM, hs])
  rw [hw.out]
  have c9 := hrow.cell (j := 12) rfl
  rw [hd] at c9
  have hlt := hrow.lt
  clear hown hno hyes hne hlen hrow
  go_enter Tryz.func96, Tryz.ntmps96
  go_wp2
  refine bodyPost_ret (v := .tuple #[.agg #[.int .i64 0, .int .i64 0, .int .u64 0, .int .u64 0], .bool false]) (by simp [results, Tryz.results96, go_sem]) rfl ⟨rfl, ?_⟩
  exact (Keeps.refl _ _).alloc _
end Go.Proofs.YtjfgpplnlepnoaaGreat

/-
  Contracts: what a document's frame of a ring is told leads where its machine goes.
-/
namespace Go.Proofs.YtjfgpplnlepnoaaGreat
set_option maxRecDepth 100000
set_option linter.unusedSimpArgs false
set_option linter.unusedVariables false
open Go.ChangeShapes Go.WideShapes Go.ChangeAt Go.RowKit

theorem rf_cells {w : World} {tk : Value} {e : TypeId} {took : List Int} (h : w.ownsRow 0 e 1 tk took.length (ints .u64 took)) (hl : 0 < took.length) :
    ∃ g cap, tk = .slice (some ⟨g, 0, none⟩) took.length cap ∧ tk.ownBlock = some g ∧ g < w.heap.size ∧ ∀ j, j < took.length → w.cell? ⟨g, j, none⟩ = some (.int .u64 (took.getD j 0)) := by
  rcases h.2 with ⟨rfl, h0⟩ | ⟨g, cap, cur, rfl, hb, hg, _⟩
  · omega
  · obtain ⟨b, off, cap', e1, e2, e3⟩ := (Sl.of_owns h).some hl
    cases e1
    exact ⟨g, cap, rfl, rfl, e2, fun j hj => by simpa using e3 j _ (ints_at hj)⟩

/-- Where a frame leads that the machine knows. -/
def RfNext (p : Nat) (w : World) (s : RgS) (tk : Value) (w' : World) : Prop :=
  ∃ S', rfJ p w' S' s ∧ Keeps (p :: tk.ownBlock.toList) w w' ∧ ∀ k ∈ S', k ∈ p :: tk.ownBlock.toList ∨ w.heap.size ≤ k

theorem RfGoes.next {p : Nat} {w w' : World} {g s : RgS} {tk : Value} (h : RfGoes p w g tk w') (e : g = s) (hto : w.ownsRow 0 26 1 tk s.took.length (ints .u64 s.took)) (htq : ∀ x, tk.ownBlock = some x → x ≠ p) (hl : s.took.length ≤ 257)
    (hok : s.over = none → rgOk s) (hnil : ∀ r, s.over = some r → r.l = []) : RfNext p w g tk w' := by
  subst e
  obtain ⟨dn, c, v, l, h1, h2, h3, h4⟩ := h
  refine ⟨p :: tk.ownBlock.toList, ⟨tk, dn, c, v, l, rfl, h1, owns_keeps hto h2 (fun x hx => by simpa using htq x hx), htq, hl, fun ho => ?_, fun r hr => ?_⟩, h2.mono (by simp), fun k hk => .inl hk⟩
  · obtain ⟨a, b, c, d⟩ := h3 ho
    exact ⟨a, b, c, d, hok ho⟩
  · obtain ⟨a, b, c, d⟩ := h4 r hr (hnil r hr)
    exact ⟨a, b, c, .inl ⟨hnil r hr, d⟩⟩

theorem RfTook.next {p : Nat} {w w' : World} {g s : RgS} {tk : Value} (h : RfTook p w g tk w') (e : g = s) (hl : s.took.length ≤ 257) (hok : s.over = none → rgOk s) : RfNext p w g tk w' := by
  subst e
  obtain ⟨tk', dn, c, v, l, h1, h2, h3, h4, h5, h6⟩ := h
  refine ⟨p :: tk'.ownBlock.toList, ⟨tk', dn, c, v, l, rfl, h1, h2, fun x hx => (h3 x hx).2, hl, fun ho => ?_, fun r hr => ?_⟩, h4, fun k hk => ?_⟩
  · obtain ⟨a, b, c, d⟩ := h5 ho
    exact ⟨a, b, c, d, hok ho⟩
  · obtain ⟨a, b, c, d⟩ := h6 r hr
    exact ⟨a, b, c, .inr d⟩
  · rcases List.mem_cons.1 hk with rfl | hk
    · exact .inl (by simp)
    · rcases (h3 k ((ownBlock_toList _ _).1 hk)).1 with hk | hk
      · exact .inl (List.mem_cons_of_mem _ ((ownBlock_toList _ _).2 hk))
      · exact .inr hk

theorem rfPush_next (p : Nat) (s : RgS) (tk : Value) (x : Int) (won : Bool) (w : World) (h : Row w p 155 (rfCells s tk false 0 0 (.slice none 0 0))) (hto : w.ownsRow 0 26 1 tk s.took.length (ints .u64 s.took)) (htq : ∀ g, tk.ownBlock = some g → g ≠ p) (hlen : s.took.length ≤ 257) (ho : s.over = none) (hk : s.kind = 1) (hok : rgOk s) (hx : M.U x) :
    Calls Tryz.prog 156 #[.pointer (some ⟨p, 0, none⟩), .int .u64 x, .bool won] w fun e w' => e = .returned (.tuple #[]) ∧ RfNext p w (rgPushGive s x won) tk w' := by
  obtain ⟨at_, size, kind, task, target, step, hd, t, u, n, k, took, over⟩ := s
  simp only at ho hk hto hlen
  subst ho hk
  unfold rgOk at hok
  simp only at hok
  obtain ⟨hr, ut, uh, wt, wu, hc⟩ := hok
  have hs2 : 2 ≤ size ∧ size ≤ 256 := by have := hr.1; omega
  have wlx : W32 (rgLo x) := rgLo_range x
  have wlh : W32 (rgLo hd) := rgLo_range hd
  rcases hc with ⟨-, hc⟩ | ⟨hc, -⟩ | ⟨hc, -⟩
  rotate_left
  · exact absurd hc (by decide)
  · exact absurd hc (by decide)
  rcases hc with ⟨rfl | rfl | rfl | rfl | rfl, rfl, rfl⟩ | ⟨rfl, rfl, hkk⟩
  · exact (rfPushG1 p at_ size task target hd t u n 0 x [] tk won w h uh hx wu).mono fun e w2 h => ⟨h.1, h.2.next (s := ⟨at_, size, 1, task, target, 2, x, t, u, n, 0, [], none⟩) (by simp [rgPushGive]) hto htq hlen (fun _ => ⟨hr, ut, hx, wt, wu, .inl ⟨rfl, .inl ⟨by simp, rfl, rfl⟩⟩⟩) (fun r h => by cases h)⟩
  · by_cases hA : M.aheadI (rgLo x) (rgHi hd) < size
    · exact (rfPushG2Room p at_ size task target hd t u n 0 x [] tk won w h uh hx wu hA).mono fun e w2 h => ⟨h.1, h.2.next (s := ⟨at_, size, 1, task, target, 3, hd, rgLo x, u, n, 0, [], none⟩) (by simp [rgPushGive, hA]) hto htq hlen (fun _ => ⟨hr, ut, uh, wlx, wu, .inl ⟨rfl, .inl ⟨by simp, rfl, rfl⟩⟩⟩) (fun r h => by cases h)⟩
    by_cases hB : rgHi hd = rgLo hd
    · have hA' := hA
      rw [hB] at hA'
      exact (rfPushG2Turn p at_ size task target hd t u n 0 x [] tk won w h uh hx wu hA hB).mono fun e w2 h => ⟨h.1, h.2.next (s := ⟨at_, size, 1, task, target, 5, hd, rgLo x, u, n, 0, [], none⟩) (by simp [rgPushGive, hB]; omega) hto htq hlen (fun _ => ⟨hr, ut, uh, wlx, wu, .inl ⟨rfl, .inl ⟨by simp, rfl, rfl⟩⟩⟩) (fun r h => by cases h)⟩
    · exact (rfPushG2Busy p at_ size task target hd t u n 0 x [] tk won w h uh hx wu hA hB).mono fun e w2 h => ⟨h.1, h.2.next (s := ⟨at_, size, 1, task, target, 5, hd, rgLo x, u, n, 0, [], some ⟨8, 0, []⟩⟩) (by simp [rgPushGive, hA, hB]) hto htq hlen (fun h => by cases h) (fun r h => by cases h; rfl)⟩
  · exact (rfPushG3 p at_ size task target hd t u n 0 x [] tk won w h uh hx wu).mono fun e w2 h => ⟨h.1, h.2.next (s := ⟨at_, size, 1, task, target, 4, hd, t, u, n, 0, [], none⟩) (by simp [rgPushGive]) hto htq hlen (fun _ => ⟨hr, ut, uh, wt, wu, .inl ⟨rfl, .inl ⟨by simp, rfl, rfl⟩⟩⟩) (fun r h => by cases h)⟩
  · exact (rfPushG4 p at_ size task target hd t u n 0 x [] tk won w h uh hx wu).mono fun e w2 h => ⟨h.1, h.2.next (s := ⟨at_, size, 1, task, target, 4, hd, t, u, n, 0, [], some ⟨0, 0, []⟩⟩) (by simp [rgPushGive]) hto htq hlen (fun h => by cases h) (fun r h => by cases h; rfl)⟩
  · cases won
    · exact (rfPushG5Lost p at_ size task target hd t u n 0 x [] tk w h uh hx wu).mono fun e w2 h => ⟨h.1, h.2.next (s := ⟨at_, size, 1, task, target, 2, x, t, u, n, 0, [], none⟩) (by simp [rgPushGive]) hto htq hlen (fun _ => ⟨hr, ut, hx, wt, wu, .inl ⟨rfl, .inl ⟨by simp, rfl, rfl⟩⟩⟩) (fun r h => by cases h)⟩
    · exact (rfPushG5Won p at_ size task target hd t u n 0 x [] tk w h uh hx wu).mono fun e w2 h => ⟨h.1, h.2.next (s := ⟨at_, size, 1, task, target, 6, hd, t, u, n, 0, [], none⟩) (by simp [rgPushGive]) hto htq hlen (fun _ => ⟨hr, ut, uh, wt, wu, .inl ⟨rfl, .inr ⟨rfl, rfl, by show (0 : Int) < size / 2; omega⟩⟩⟩) (fun r h => by cases h)⟩
  · by_cases hm : (took.length : Int) + 1 = size / 2
    · exact (rfPushG6Last p at_ size task target hd t u n x took tk won w h hto htq (by omega) hm hs2).mono fun e w2 h => ⟨h.1, h.2.next (s := ⟨at_, size, 1, task, target, 6, hd, t, u, n, (took.length : Int) + 1, took ++ [x], some ⟨4, 0, took ++ [x]⟩⟩) (by simp [rgPushGive, hm]) (by simp; omega) (fun h => by cases h)⟩
    · exact (rfPushG6 p at_ size task target hd t u n x took tk won w h hto htq (by omega) (by omega) hs2).mono fun e w2 h => ⟨h.1, h.2.next (s := ⟨at_, size, 1, task, target, 6, hd, t, u, n, (took.length : Int) + 1, took ++ [x], none⟩) (by simp [rgPushGive, hm]) (by simp; omega) (fun _ => ⟨hr, ut, uh, wt, wu, .inl ⟨rfl, .inr ⟨rfl, by simp, by show (took.length : Int) + 1 < size / 2; omega⟩⟩⟩)⟩

theorem rfPop_next (p : Nat) (s : RgS) (tk : Value) (x : Int) (won : Bool) (w : World) (h : Row w p 155 (rfCells s tk false 0 0 (.slice none 0 0))) (hto : w.ownsRow 0 26 1 tk s.took.length (ints .u64 s.took)) (htq : ∀ g, tk.ownBlock = some g → g ≠ p) (hlen : s.took.length ≤ 257) (ho : s.over = none) (hk : s.kind = 2) (hok : rgOk s) (hx : M.U x) :
    Calls Tryz.prog 157 #[.pointer (some ⟨p, 0, none⟩), .int .u64 x, .bool won] w fun e w' => e = .returned (.tuple #[]) ∧ RfNext p w (rgPopGive s x won) tk w' := by
  obtain ⟨at_, size, kind, task, target, step, hd, t, u, n, k, took, over⟩ := s
  simp only at ho hk hto hlen
  subst ho hk
  unfold rgOk at hok
  simp only at hok
  obtain ⟨hr, ut, uh, wt, wu, hc⟩ := hok
  have hs2 : 2 ≤ size ∧ size ≤ 256 := by have := hr.1; omega
  have wlx : W32 (rgLo x) := rgLo_range x
  have wlh : W32 (rgLo hd) := rgLo_range hd
  rcases hc with ⟨hc, -⟩ | ⟨-, hst, rfl⟩ | ⟨hc, -⟩
  · exact absurd hc (by decide)
  rotate_left
  · exact absurd hc (by decide)
  have hp := rfPopGive p ⟨at_, size, 2, task, target, step, hd, t, u, n, k, [], none⟩ tk x won w h rfl hst uh hx
  rcases hst with rfl | rfl | rfl | rfl
  · exact (hp).mono fun e w2 h => ⟨h.1, h.2.next (s := ⟨at_, size, 2, task, target, 2, x, t, u, n, k, [], none⟩) (by simp [rgPopGive]) hto htq hlen (fun _ => ⟨hr, ut, hx, wt, wu, .inr (.inl ⟨rfl, by simp, rfl⟩)⟩) (fun r h => by cases h)⟩
  · by_cases hA : M.aheadI (rgLo x) (rgLo hd) < 1
    · exact (hp).mono fun e w2 h => ⟨h.1, h.2.next (s := ⟨at_, size, 2, task, target, 3, hd, t, u, n, k, [], some ⟨5, 0, []⟩⟩) (by simp [rgPopGive, hA]) hto htq hlen (fun h => by cases h) (fun r h => by cases h; rfl)⟩
    · exact (hp).mono fun e w2 h => ⟨h.1, h.2.next (s := ⟨at_, size, 2, task, target, 3, hd, t, u, n, k, [], none⟩) (by simp [rgPopGive, hA]) hto htq hlen (fun _ => ⟨hr, ut, uh, wt, wu, .inr (.inl ⟨rfl, by simp, rfl⟩)⟩) (fun r h => by cases h)⟩
  · cases won
    · exact (hp).mono fun e w2 h => ⟨h.1, h.2.next (s := ⟨at_, size, 2, task, target, 2, x, t, u, n, k, [], none⟩) (by simp [rgPopGive]) hto htq hlen (fun _ => ⟨hr, ut, hx, wt, wu, .inr (.inl ⟨rfl, by simp, rfl⟩)⟩) (fun r h => by cases h)⟩
    · exact (hp).mono fun e w2 h => ⟨h.1, h.2.next (s := ⟨at_, size, 2, task, target, 4, hd, t, u, n, k, [], none⟩) (by simp [rgPopGive]) hto htq hlen (fun _ => ⟨hr, ut, uh, wt, wu, .inr (.inl ⟨rfl, by simp, rfl⟩)⟩) (fun r h => by cases h)⟩
  · exact (hp).mono fun e w2 h => ⟨h.1, h.2.next (s := ⟨at_, size, 2, task, target, 4, hd, t, u, n, k, [], some ⟨0, x, []⟩⟩) (by simp [rgPopGive]) hto htq hlen (fun h => by cases h) (fun r h => by cases h; rfl)⟩

theorem rfSteal_next (p : Nat) (s : RgS) (tk : Value) (x : Int) (won : Bool) (w : World) (h : Row w p 155 (rfCells s tk false 0 0 (.slice none 0 0))) (hto : w.ownsRow 0 26 1 tk s.took.length (ints .u64 s.took)) (htq : ∀ g, tk.ownBlock = some g → g ≠ p) (hlen : s.took.length ≤ 257) (ho : s.over = none) (hk : s.kind = 3) (hok : rgOk s) (hx : M.U x) :
    Calls Tryz.prog 158 #[.pointer (some ⟨p, 0, none⟩), .int .u64 x, .bool won] w fun e w' => e = .returned (.tuple #[]) ∧ RfNext p w (rgStealGive s x won) tk w' := by
  obtain ⟨at_, size, kind, task, target, step, hd, t, u, n, k, took, over⟩ := s
  simp only at ho hk hto hlen
  subst ho hk
  unfold rgOk at hok
  simp only at hok
  obtain ⟨hr, ut, uh, wt, wu, hc⟩ := hok
  have hs2 : 2 ≤ size ∧ size ≤ 256 := by have := hr.1; omega
  have wlx : W32 (rgLo x) := rgLo_range x
  have wlh : W32 (rgLo hd) := rgLo_range hd
  rcases hc with ⟨hc, -⟩ | ⟨hc, -⟩ | ⟨-, htr, hc⟩
  · exact absurd hc (by decide)
  · exact absurd hc (by decide)
  rcases hc with ⟨rfl | rfl | rfl | rfl, rfl, rfl⟩ | ⟨hn1, hn2, ⟨rfl, rfl, rfl⟩ | ⟨rfl, rfl, hkk⟩ | ⟨rfl, hkl, hkn, hk0⟩ | ⟨rfl | rfl | ⟨rfl, hn9⟩, hnl⟩⟩
  · exact (rfStealG1 p at_ size task target hd t u n 0 x [] tk won w h uh hx wu).mono fun e w2 h => ⟨h.1, h.2.next (s := ⟨at_, size, 3, task, target, 2, hd, t, rgLo x, n, 0, [], none⟩) (by simp [rgStealGive]) hto htq hlen (fun _ => ⟨hr, ut, uh, wt, wlx, .inr (.inr ⟨rfl, htr, .inl ⟨by simp, rfl, rfl⟩⟩)⟩) (fun r h => by cases h)⟩
  · by_cases hA : size / 2 < M.aheadI u (rgHi x)
    · exact (rfStealG2No p at_ size task target hd t u n 0 x [] tk won w h uh hx wu hs2 hA).mono fun e w2 h => ⟨h.1, h.2.next (s := ⟨at_, size, 3, task, target, 3, hd, t, u, n, 0, [], some ⟨4, 0, []⟩⟩) (by simp [rgStealGive, hA]) hto htq hlen (fun h => by cases h) (fun r h => by cases h; rfl)⟩
    · exact (rfStealG2 p at_ size task target hd t u n 0 x [] tk won w h uh hx wu hs2 hA).mono fun e w2 h => ⟨h.1, h.2.next (s := ⟨at_, size, 3, task, target, 3, hd, t, u, n, 0, [], none⟩) (by simp [rgStealGive, hA]) hto htq hlen (fun _ => ⟨hr, ut, uh, wt, wu, .inr (.inr ⟨rfl, htr, .inl ⟨by simp, rfl, rfl⟩⟩)⟩) (fun r h => by cases h)⟩
  · exact (rfStealG3 p at_ size task target hd t u n 0 x [] tk won w h uh hx wu).mono fun e w2 h => ⟨h.1, h.2.next (s := ⟨at_, size, 3, task, target, 4, x, t, u, n, 0, [], none⟩) (by simp [rgStealGive]) hto htq hlen (fun _ => ⟨hr, ut, hx, wt, wu, .inr (.inr ⟨rfl, htr, .inl ⟨by simp, rfl, rfl⟩⟩)⟩) (fun r h => by cases h)⟩
  · by_cases hB : rgHi hd = rgLo hd
    rotate_left
    · exact (rfStealG4Busy p at_ size task target hd t u n 0 x [] tk won w h uh hx wu hB).mono fun e w2 h => ⟨h.1, h.2.next (s := ⟨at_, size, 3, task, target, 5, hd, t, u, rgCount (M.aheadI (rgLo x) (rgLo hd)), 0, [], some ⟨8, 0, []⟩⟩) (by simp [rgStealGive, hB]) hto htq hlen (fun h => by cases h) (fun r h => by cases h; rfl)⟩
    by_cases hC : size < M.aheadI (rgLo x) (rgLo hd)
    · exact (rfStealG4Again p at_ size task target hd t u n 0 x [] tk won w h uh hx wu hB hC).mono fun e w2 h => ⟨h.1, h.2.next (s := ⟨at_, size, 3, task, target, 3, hd, t, u, rgCount (M.aheadI (rgLo x) (rgLo hd)), 0, [], none⟩) (by simp [rgStealGive, hB, hC]) hto htq hlen (fun _ => ⟨hr, ut, uh, wt, wu, .inr (.inr ⟨rfl, htr, .inl ⟨by simp, rfl, rfl⟩⟩)⟩) (fun r h => by cases h)⟩
    by_cases hD : M.aheadI (rgLo x) (rgLo hd) < 1
    · exact (rfStealG4None p at_ size task target hd t u n 0 x [] tk won w h uh hx wu hs2 hB hD).mono fun e w2 h => ⟨h.1, h.2.next (s := ⟨at_, size, 3, task, target, 5, hd, t, u, rgCount (M.aheadI (rgLo x) (rgLo hd)), 0, [], some ⟨5, 0, []⟩⟩) (by simp [rgStealGive, hB, hC, hD]) hto htq hlen (fun h => by cases h) (fun r h => by cases h; rfl)⟩
    have hcs := rgCount_small (d := M.aheadI (rgLo x) (rgLo hd)) (by omega)
    have hc1 : 1 ≤ rgCount (M.aheadI (rgLo x) (rgLo hd)) := by omega
    have hc2 : rgCount (M.aheadI (rgLo x) (rgLo hd)) ≤ 256 := by omega
    · exact (rfStealG4 p at_ size task target hd t u n 0 x [] tk won w h uh hx wu hB hC hD).mono fun e w2 h => ⟨h.1, h.2.next (s := ⟨at_, size, 3, task, target, 5, hd, t, u, rgCount (M.aheadI (rgLo x) (rgLo hd)), 0, [], none⟩) (by simp [rgStealGive, hB, hC, hD]) hto htq hlen (fun _ => ⟨hr, ut, uh, wt, wu, .inr (.inr ⟨rfl, htr, .inr ⟨hc1, hc2, .inl ⟨rfl, rfl, rfl⟩⟩⟩)⟩) (fun r h => by cases h)⟩
  · cases won
    · exact (rfStealG5Lost p at_ size task target hd t u n 0 x [] tk w h uh hx wu).mono fun e w2 h => ⟨h.1, h.2.next (s := ⟨at_, size, 3, task, target, 4, x, t, u, n, 0, [], none⟩) (by simp [rgStealGive]) hto htq hlen (fun _ => ⟨hr, ut, hx, wt, wu, .inr (.inr ⟨rfl, htr, .inl ⟨by simp, rfl, rfl⟩⟩)⟩) (fun r h => by cases h)⟩
    · exact (rfStealG5Won p at_ size task target hd t u n 0 x [] tk w h uh hx wu).mono fun e w2 h => ⟨h.1, h.2.next (s := ⟨at_, size, 3, task, target, 6, hd, rgLo hd, u, n, 0, [], none⟩) (by simp [rgStealGive]) hto htq hlen (fun _ => ⟨hr, ut, uh, wlh, wu, .inr (.inr ⟨rfl, htr, .inr ⟨hn1, hn2, .inr (.inl ⟨rfl, rfl, by show (0 : Int) < n; omega⟩)⟩⟩)⟩) (fun r h => by cases h)⟩
  · by_cases hm : (took.length : Int) = n - 1
    · exact (rfStealG6Last p at_ size task target hd t u n x took tk won w h hto htq (by omega) hm hn2).mono fun e w2 h => ⟨h.1, h.2.next (s := ⟨at_, size, 3, task, target, 7, hd, t, u, n, (took.length : Int), took ++ [x], none⟩) (by simp [rgStealGive, hm]) (by simp; omega) (fun _ => ⟨hr, ut, uh, wt, wu, .inr (.inr ⟨rfl, htr, .inr ⟨hn1, hn2, .inr (.inr (.inr ⟨by simp, by simp; omega⟩))⟩⟩)⟩)⟩
    · exact (rfStealG6 p at_ size task target hd t u n x took tk won w h hto htq (by omega) (by omega) hn2).mono fun e w2 h => ⟨h.1, h.2.next (s := ⟨at_, size, 3, task, target, 60, hd, t, u, n, (took.length : Int), took ++ [x], none⟩) (by simp [rgStealGive, hm]) (by simp; omega) (fun _ => ⟨hr, ut, uh, wt, wu, .inr (.inr ⟨rfl, htr, .inr ⟨hn1, hn2, .inr (.inr (.inl ⟨rfl, by simp, by show (took.length : Int) + 1 < n; omega, by show (0 : Int) ≤ (took.length : Int); omega⟩))⟩⟩)⟩)⟩
  · exact (rfStealG60 p at_ size task target hd t u n k x took tk won w h uh hx wu ⟨hk0, by omega⟩).mono fun e w2 h => ⟨h.1, h.2.next (s := ⟨at_, size, 3, task, target, 6, hd, t, u, n, k + 1, took, none⟩) (by simp [rgStealGive]) hto htq hlen (fun _ => ⟨hr, ut, uh, wt, wu, .inr (.inr ⟨rfl, htr, .inr ⟨hn1, hn2, .inr (.inl ⟨rfl, hkl, hkn⟩)⟩⟩)⟩) (fun r h => by cases h)⟩
  · exact (rfStealG7 p at_ size task target hd t u n k x took tk won w h uh hx wu).mono fun e w2 h => ⟨h.1, h.2.next (s := ⟨at_, size, 3, task, target, 8, x, t, u, n, k, took, none⟩) (by simp [rgStealGive]) hto htq hlen (fun _ => ⟨hr, ut, hx, wt, wu, .inr (.inr ⟨rfl, htr, .inr ⟨hn1, hn2, .inr (.inr (.inr ⟨by simp, hnl⟩))⟩⟩)⟩) (fun r h => by cases h)⟩
  · cases won
    · exact (rfStealG8Lost p at_ size task target hd t u n k x took tk w h uh hx wu).mono fun e w2 h => ⟨h.1, h.2.next (s := ⟨at_, size, 3, task, target, 8, x, t, u, n, k, took, none⟩) (by simp [rgStealGive]) hto htq hlen (fun _ => ⟨hr, ut, hx, wt, wu, .inr (.inr ⟨rfl, htr, .inr ⟨hn1, hn2, .inr (.inr (.inr ⟨by simp, hnl⟩))⟩⟩)⟩) (fun r h => by cases h)⟩
    by_cases hn : n = 1
    · subst hn
      obtain ⟨g, cap, rfl, hob, hgl, hcell⟩ := rf_cells hto (by omega)
      exact (rfStealG8One p g _ cap at_ size task target hd t u k x took w h (by omega) (htq g hob) hgl (hcell 0 (by omega))).mono fun e w2 h => ⟨h.1, h.2.next (s := ⟨at_, size, 3, task, target, 9, hd, t, u, 1, k, took, some ⟨0, took.getD 0 0, []⟩⟩) (by simp [rgStealGive, rgLast]) hto htq hlen (fun h => by cases h) (fun r h => by cases h; rfl)⟩
    · exact (rfStealG8More p at_ size task target hd t u n k x took tk w h uh hx wu hn).mono fun e w2 h => ⟨h.1, h.2.next (s := ⟨at_, size, 3, task, target, 9, hd, t, u, n, k, took, none⟩) (by simp [rgStealGive, hn]) hto htq hlen (fun _ => ⟨hr, ut, uh, wt, wu, .inr (.inr ⟨rfl, htr, .inr ⟨hn1, hn2, .inr (.inr (.inr ⟨.inr (.inr ⟨rfl, by show 1 < n; omega⟩), hnl⟩))⟩⟩)⟩) (fun r h => by cases h)⟩
  · obtain ⟨g, cap, rfl, hob, hgl, hcell⟩ := rf_cells hto (by omega)
    exact (rfStealG9 p g _ cap (took.length - 1) at_ size task target hd t u n k x took won w h (by omega) (by omega) (by omega) (htq g hob) hgl (hcell _ (by omega))).mono fun e w2 h => ⟨h.1, h.2.next (s := ⟨at_, size, 3, task, target, 9, hd, t, u, n, k, took, some ⟨0, rgLast ⟨at_, size, 3, task, target, 9, hd, t, u, n, k, took, none⟩, []⟩⟩) (by simp [rgStealGive]) hto htq hlen (fun h => by cases h) (fun r h => by cases h; rfl)⟩
end Go.Proofs.YtjfgpplnlepnoaaGreat

/-
  Contracts: what a document's frame of a ring wants.
-/
namespace Go.Proofs.YtjfgpplnlepnoaaGreat
set_option maxRecDepth 100000
set_option linter.unusedSimpArgs false
set_option linter.unusedVariables false
open Go.ChangeShapes Go.WideShapes Go.ChangeAt Go.RowKit

theorem rfWantPush_any (p : Nat) (s : RgS) (tk l : Value) (dn : Bool) (c v : Int) (w : World) (h : Row w p 155 (rfCells s tk dn c v l)) (hto : w.ownsRow 0 26 1 tk s.took.length (ints .u64 s.took)) (hlen : s.took.length ≤ 257) (ho : s.over = none) (hk : s.kind = 1) (hok : rgOk s) :
    Calls Tryz.prog 146 #[.pointer (some ⟨p, 0, none⟩)] w fun e w' => e = .returned (rgWant s).val ∧ Keeps [] w w' := by
  obtain ⟨at_, size, kind, task, target, step, hd, t, u, n, k, took, over⟩ := s
  simp only at ho hk hto hlen
  subst ho hk
  unfold rgOk at hok
  simp only at hok
  obtain ⟨hr, ut, uh, wt, wu, hc⟩ := hok
  have hs2 : 2 ≤ size ∧ size ≤ 256 := by have := hr.1; omega
  have a0 : 0 ≤ at_ := hr.2.1
  have a1 : at_ < 65536 := by have := hr.2.2; omega
  rcases hc with ⟨-, hc⟩ | ⟨hc, -⟩ | ⟨hc, -⟩
  rotate_left
  · exact absurd hc (by decide)
  · exact absurd hc (by decide)
  rcases hc with ⟨rfl | rfl | rfl | rfl | rfl, rfl, rfl⟩ | ⟨rfl, rfl, hkk⟩
  · rw [show rgWant ⟨at_, size, 1, task, target, 1, hd, t, u, n, 0, [], none⟩ = ⟨1, at_, 0, 0⟩ by simp [rgWant]]
    exact rfPush1 p at_ size task target hd t u n 0 [] tk l dn c v w h hs2
  · rw [show rgWant ⟨at_, size, 1, task, target, 2, hd, t, u, n, 0, [], none⟩ = ⟨1, at_ + 1, 0, 0⟩ by simp [rgWant]]
    exact rfPush2 p at_ size task target hd t u n 0 [] tk l dn c v w h a0 a1 hs2
  · rw [show rgWant ⟨at_, size, 1, task, target, 3, hd, t, u, n, 0, [], none⟩ = ⟨2, dqSlot at_ size t, task, 0⟩ by simp [rgWant]]
    exact rfPush3 p at_ size task target hd t u n 0 [] tk l dn c v w h hr wt hs2
  · rw [show rgWant ⟨at_, size, 1, task, target, 4, hd, t, u, n, 0, [], none⟩ = ⟨2, at_ + 1, rgAdd t 1, 0⟩ by simp [rgWant]]
    exact rfPush4 p at_ size task target hd t u n 0 [] tk l dn c v w h a0 a1 wt hs2
  · rw [show rgWant ⟨at_, size, 1, task, target, 5, hd, t, u, n, 0, [], none⟩ = ⟨3, at_, hd, rgPair (rgAdd (rgLo hd) (size / 2)) (rgAdd (rgLo hd) (size / 2))⟩ by simp [rgWant]]
    exact rfPush5 p at_ size task target hd t u n 0 [] tk l dn c v w h uh hs2
  · rw [show rgWant ⟨at_, size, 1, task, target, 6, hd, t, u, n, (took.length : Int), took, none⟩ = ⟨1, dqSlot at_ size (rgAdd (rgLo hd) (took.length : Int)), 0, 0⟩ by simp [rgWant]]
    exact rfPush6 p at_ size task target hd t u n _ took tk l dn c v w h hr uh hs2 ⟨by omega, by omega⟩

theorem rfWantPop_any (p : Nat) (s : RgS) (tk l : Value) (dn : Bool) (c v : Int) (w : World) (h : Row w p 155 (rfCells s tk dn c v l)) (hto : w.ownsRow 0 26 1 tk s.took.length (ints .u64 s.took)) (hlen : s.took.length ≤ 257) (ho : s.over = none) (hk : s.kind = 2) (hok : rgOk s) :
    Calls Tryz.prog 147 #[.pointer (some ⟨p, 0, none⟩)] w fun e w' => e = .returned (rgWant s).val ∧ Keeps [] w w' := by
  obtain ⟨at_, size, kind, task, target, step, hd, t, u, n, k, took, over⟩ := s
  simp only at ho hk hto hlen
  subst ho hk
  unfold rgOk at hok
  simp only at hok
  obtain ⟨hr, ut, uh, wt, wu, hc⟩ := hok
  have hs2 : 2 ≤ size ∧ size ≤ 256 := by have := hr.1; omega
  have a0 : 0 ≤ at_ := hr.2.1
  have a1 : at_ < 65536 := by have := hr.2.2; omega
  rcases hc with ⟨hc, -⟩ | ⟨-, hst, rfl⟩ | ⟨hc, -⟩
  · exact absurd hc (by decide)
  rotate_left
  · exact absurd hc (by decide)
  rcases hst with rfl | rfl | rfl | rfl
  · rw [show rgWant ⟨at_, size, 2, task, target, 1, hd, t, u, n, k, [], none⟩ = ⟨1, at_, 0, 0⟩ by simp [rgWant]]
    exact rfPop1 p at_ size task target hd t u n k [] tk l dn c v w h
  · rw [show rgWant ⟨at_, size, 2, task, target, 2, hd, t, u, n, k, [], none⟩ = ⟨1, at_ + 1, 0, 0⟩ by simp [rgWant]]
    exact rfPop2 p at_ size task target hd t u n k [] tk l dn c v w h a0 a1
  · by_cases hB : rgHi hd = rgLo hd
    · rw [show rgWant ⟨at_, size, 2, task, target, 3, hd, t, u, n, k, [], none⟩ = ⟨3, at_, hd, rgPair (rgAdd (rgLo hd) 1) (rgAdd (rgLo hd) 1)⟩ by simp [rgWant, hB]]
      exact rfPop3All p at_ size task target hd t u n k [] tk l dn c v w h uh hB
    · rw [show rgWant ⟨at_, size, 2, task, target, 3, hd, t, u, n, k, [], none⟩ = ⟨3, at_, hd, rgPair (rgHi hd) (rgAdd (rgLo hd) 1)⟩ by simp [rgWant, hB]]
      exact rfPop3 p at_ size task target hd t u n k [] tk l dn c v w h uh hB
  · rw [show rgWant ⟨at_, size, 2, task, target, 4, hd, t, u, n, k, [], none⟩ = ⟨1, dqSlot at_ size (rgLo hd), 0, 0⟩ by simp [rgWant]]
    exact rfPop4 p at_ size task target hd t u n k [] tk l dn c v w h hr uh

theorem rfWantSteal_any (p : Nat) (s : RgS) (tk l : Value) (dn : Bool) (c v : Int) (w : World) (h : Row w p 155 (rfCells s tk dn c v l)) (hto : w.ownsRow 0 26 1 tk s.took.length (ints .u64 s.took)) (hlen : s.took.length ≤ 257) (ho : s.over = none) (hk : s.kind = 3) (hok : rgOk s) :
    Calls Tryz.prog 148 #[.pointer (some ⟨p, 0, none⟩)] w fun e w' => e = .returned (rgWant s).val ∧ Keeps [] w w' := by
  obtain ⟨at_, size, kind, task, target, step, hd, t, u, n, k, took, over⟩ := s
  simp only at ho hk hto hlen
  subst ho hk
  unfold rgOk at hok
  simp only at hok
  obtain ⟨hr, ut, uh, wt, wu, hc⟩ := hok
  have hs2 : 2 ≤ size ∧ size ≤ 256 := by have := hr.1; omega
  have a0 : 0 ≤ at_ := hr.2.1
  have a1 : at_ < 65536 := by have := hr.2.2; omega
  rcases hc with ⟨hc, -⟩ | ⟨hc, -⟩ | ⟨-, htr, hc⟩
  · exact absurd hc (by decide)
  · exact absurd hc (by decide)
  have b0 : 0 ≤ target := htr.2.1
  have b1 : target < 65536 := by have := htr.2.2; omega
  rcases hc with ⟨rfl | rfl | rfl | rfl, rfl, rfl⟩ | ⟨hn1, hn2, ⟨rfl, rfl, rfl⟩ | ⟨rfl, rfl, hkk⟩ | ⟨rfl, hkl, hkn, hk0⟩ | ⟨rfl | rfl | ⟨rfl, hn9⟩, hnl⟩⟩
  · rw [show rgWant ⟨at_, size, 3, task, target, 1, hd, t, u, n, 0, [], none⟩ = ⟨1, target + 1, 0, 0⟩ by simp [rgWant]]
    exact rfSteal1 p at_ size task target hd t u n 0 [] tk l dn c v w h b0 b1
  · rw [show rgWant ⟨at_, size, 3, task, target, 2, hd, t, u, n, 0, [], none⟩ = ⟨1, target, 0, 0⟩ by simp [rgWant]]
    exact rfSteal2 p at_ size task target hd t u n 0 [] tk l dn c v w h
  · rw [show rgWant ⟨at_, size, 3, task, target, 3, hd, t, u, n, 0, [], none⟩ = ⟨1, at_, 0, 0⟩ by simp [rgWant]]
    exact rfSteal3 p at_ size task target hd t u n 0 [] tk l dn c v w h
  · rw [show rgWant ⟨at_, size, 3, task, target, 4, hd, t, u, n, 0, [], none⟩ = ⟨1, at_ + 1, 0, 0⟩ by simp [rgWant]]
    exact rfSteal4 p at_ size task target hd t u n 0 [] tk l dn c v w h a0 a1
  · rw [show rgWant ⟨at_, size, 3, task, target, 5, hd, t, u, n, 0, [], none⟩ = ⟨3, at_, hd, rgPair (rgHi hd) (rgAdd (rgLo hd) n)⟩ by simp [rgWant]]
    exact rfSteal5 p at_ size task target hd t u n 0 [] tk l dn c v w h uh ⟨by omega, hn2⟩
  · rw [show rgWant ⟨at_, size, 3, task, target, 6, hd, t, u, n, (took.length : Int), took, none⟩ = ⟨1, dqSlot at_ size (rgAdd t (took.length : Int)), 0, 0⟩ by simp [rgWant]]
    exact rfSteal6 p at_ size task target hd t u n _ took tk l dn c v w h hr ⟨by omega, by omega⟩
  · obtain ⟨g, cap, rfl, hob, hgl, hcell⟩ := rf_cells hto (by omega)
    obtain ⟨kN, rfl⟩ : ∃ kN : Nat, k = (kN : Int) := ⟨k.toNat, by omega⟩
    rw [show rgWant ⟨at_, size, 3, task, target, 60, hd, t, u, n, (kN : Int), took, none⟩ = ⟨2, dqSlot target size (rgAdd u (kN : Int)), took.getD kN 0, 0⟩ by simp [rgWant]]
    exact rfSteal60 p g _ cap kN at_ size task target hd t u n took l dn c v w h htr hgl (hcell kN (by omega)) (by omega) (by omega)
  · rw [show rgWant ⟨at_, size, 3, task, target, 7, hd, t, u, n, k, took, none⟩ = ⟨1, at_, 0, 0⟩ by simp [rgWant]]
    exact rfSteal7 p at_ size task target hd t u n k took tk l dn c v w h
  · rw [show rgWant ⟨at_, size, 3, task, target, 8, hd, t, u, n, k, took, none⟩ = ⟨3, at_, hd, rgPair (rgLo hd) (rgLo hd)⟩ by simp [rgWant]]
    exact rfSteal8 p at_ size task target hd t u n k took tk l dn c v w h uh
  · rw [show rgWant ⟨at_, size, 3, task, target, 9, hd, t, u, n, k, took, none⟩ = ⟨2, target + 1, rgAdd u (n - 1), 0⟩ by simp [rgWant]]
    exact rfSteal9 p at_ size task target hd t u n k took tk l dn c v w h b0 b1 ⟨hn1, hn2⟩ wu
end Go.Proofs.YtjfgpplnlepnoaaGreat

/-
  Contracts: a document's frame of a ring is told what came.
-/
namespace Go.Proofs.YtjfgpplnlepnoaaGreat
set_option maxRecDepth 100000
set_option linter.unusedSimpArgs false
set_option linter.unusedVariables false
open Go.ChangeShapes Go.WideShapes Go.ChangeAt Go.RowKit

set_option maxHeartbeats 800000 in
theorem rf_give (p : Nat) (s : RgS) (w : World) (S : List Nat) (tv : Int) (won : Bool) (h : rfJ p w S s) (hv : M.U tv) :
    Calls Tryz.prog 110 #[.pointer (some ⟨p, 0, none⟩), .int .u64 tv, .bool won] w fun e w' => e = .returned (.tuple #[]) ∧ ∃ S', rfJ p w' S' (ringM.give s tv won) ∧ Keeps (if (ringM.res s).isSome then [] else S) w w' ∧ ∀ k ∈ S', k ∈ S ∨ w.heap.size ≤ k := by
  have H0 := Lib.hid h
  obtain ⟨tk, dn, c, v, l, hS, hrow, hown, hne, hlen, hno, hyes⟩ := h
  cases ho : s.over with
  | some r =>
    have e : ringM.give s tv won = s := by simp [ringM, ho]
    have e2 : (ringM.res s).isSome = true := by simp [ringM, ho]
    rw [e, if_pos e2]
    have c9 := hrow.cell (j := 12) rfl
    rw [(hyes r ho).1] at c9
    clear hrow hown hne hlen hno hyes e e2 ho hS
    go_enter Tryz.func110, Tryz.ntmps110
    go_wp2
    first | go_end0 | refine bodyPost_ret (results_none rfl _ _ _) rfl ?_
    exact ⟨rfl, S, H0.out, Keeps.refl _ _, fun k hk => .inl hk⟩
  | none =>
    obtain ⟨rfl, rfl, rfl, rfl, hok⟩ := hno ho
    have e : ringM.give s tv won = rgGive s tv won := by simp [ringM, ho]
    have e2 : (ringM.res s).isSome = false := by simp [ringM, ho]
    rw [e, if_neg (by rw [e2]; simp)]
    have c9 := hrow.cell (j := 12) (u := .bool false) rfl
    have c2 := hrow.cell (j := 2) (u := .int .i64 s.kind) rfl
    have HP := Lib.hid (fun hk => rfPush_next p s tk tv won w hrow hown hne hlen ho hk hok hv)
    have HQ := Lib.hid (fun hk => rfPop_next p s tk tv won w hrow hown hne hlen ho hk hok hv)
    have HT := Lib.hid (fun hk => rfSteal_next p s tk tv won w hrow hown hne hlen ho hk hok hv)
    have hks : s.kind = 1 ∨ s.kind = 2 ∨ s.kind = 3 := by
      rcases hok.2.2.2.2.2 with h | h | h
      · exact .inl h.1
      · exact .inr (.inl h.1)
      · exact .inr (.inr h.1)
    clear hrow hown hne hlen hno hyes e e2 hok H0 ho
    subst hS
    rcases hks with hk | hk | hk
    · have hc := HP.out hk
      have eg : rgGive s tv won = rgPushGive s tv won := by simp [rgGive, hk]
      rw [hk] at c2
      rw [eg]
      clear hk HP HQ HT eg
      go_enter Tryz.func110, Tryz.ntmps110
      go_wp2_with fail
      refine hc.mono ?_
      rintro e w1 ⟨rfl, hn⟩
      have HN := Lib.hid hn
      clear hn
      go_wp2
      first | go_end0 | refine bodyPost_ret (results_none rfl _ _ _) rfl ?_
      exact ⟨rfl, HN.out⟩
    · have hc := HQ.out hk
      have eg : rgGive s tv won = rgPopGive s tv won := by simp [rgGive, hk]
      rw [hk] at c2
      rw [eg]
      clear hk HP HQ HT eg
      go_enter Tryz.func110, Tryz.ntmps110
      go_wp2_with fail
      refine hc.mono ?_
      rintro e w1 ⟨rfl, hn⟩
      have HN := Lib.hid hn
      clear hn
      go_wp2
      first | go_end0 | refine bodyPost_ret (results_none rfl _ _ _) rfl ?_
      exact ⟨rfl, HN.out⟩
    · have hc := HT.out hk
      have eg : rgGive s tv won = rgStealGive s tv won := by simp [rgGive, hk]
      rw [hk] at c2
      rw [eg]
      clear hk HP HQ HT eg
      go_enter Tryz.func110, Tryz.ntmps110
      go_wp2_with fail
      refine hc.mono ?_
      rintro e w1 ⟨rfl, hn⟩
      have HN := Lib.hid hn
      clear hn
      go_wp2
      first | go_end0 | refine bodyPost_ret (results_none rfl _ _ _) rfl ?_
      exact ⟨rfl, HN.out⟩
end Go.Proofs.YtjfgpplnlepnoaaGreat

/-
  Contracts: what a document's frame of a ring wants and holds.
-/
namespace Go.Proofs.YtjfgpplnlepnoaaGreat
set_option maxRecDepth 100000
set_option linter.unusedSimpArgs false
set_option linter.unusedVariables false
open Go.ChangeShapes Go.WideShapes Go.ChangeAt Go.RowKit

set_option maxHeartbeats 800000 in
theorem rf_want (p : Nat) (s : RgS) (w : World) (S : List Nat) (h : rfJ p w S s) :
    Calls Tryz.prog 96 #[.pointer (some ⟨p, 0, none⟩)] w fun e w' => e = .returned (.tuple #[((ringM.want s).getD zacc).val, .bool (ringM.want s).isSome]) ∧ Keeps [] w w' := by
  cases ho : s.over with
  | some r => exact rf_wantDone p s w S h (by rw [ho]; simp)
  | none =>
    obtain ⟨tk, dn, c, v, l, hS, hrow, hown, hne, hlen, hno, hyes⟩ := h
    obtain ⟨rfl, rfl, rfl, rfl, hok⟩ := hno ho
    have e : ringM.want s = some (rgWant s) := by simp [ringM, ho]
    rw [e]
    show Calls Tryz.prog 96 #[.pointer (some ⟨p, 0, none⟩)] w fun e w' => e = .returned (.tuple #[(rgWant s).val, .bool true]) ∧ Keeps [] w w'
    obtain ⟨W0, hW0⟩ : ∃ W0, w.alloc (.cells #[.int .i64 0, .int .i64 0, .int .u64 0, .int .u64 0] 107) = W0 := ⟨_, rfl⟩
    have k0 : Keeps [] w W0 := by rw [← hW0]; exact (Keeps.refl _ _).alloc _
    have r0 : Row W0 w.heap.size 107 [.int .i64 0, .int .i64 0, .int .u64 0, .int .u64 0] := by rw [← hW0]; exact Row.new _ _ _
    have HR0 := Lib.hid r0
    clear r0
    have hr0 := hrow.keeps k0 (by simp)
    have ho0 := owns_keeps hown k0 (fun g hg => by simp)
    have c9 := hr0.cell (j := 12) (u := .bool false) rfl
    have c2 := hr0.cell (j := 2) (u := .int .i64 s.kind) rfl
    have HP := Lib.hid (fun hk => rfWantPush_any p s tk _ _ _ _ W0 hr0 ho0 hlen ho hk hok)
    have HQ := Lib.hid (fun hk => rfWantPop_any p s tk _ _ _ _ W0 hr0 ho0 hlen ho hk hok)
    have HT := Lib.hid (fun hk => rfWantSteal_any p s tk _ _ _ _ W0 hr0 ho0 hlen ho hk hok)
    have hks : s.kind = 1 ∨ s.kind = 2 ∨ s.kind = 3 := by
      rcases hok.2.2.2.2.2 with h | h | h
      · exact .inl h.1
      · exact .inr (.inl h.1)
      · exact .inr (.inr h.1)
    obtain ⟨x, hx⟩ : ∃ x, rgWant s = x := ⟨_, rfl⟩
    rw [hx] at HP HQ HT
    rw [hx]
    obtain ⟨x1, x2, x3, x4⟩ := x
    have HK := Lib.hid k0
    have hlt := hr0.lt
    clear hrow hown hne hlen hno hyes hok ho hx e hr0 ho0 k0 hS
    rcases hks with hk | hk | hk
    · have hc := HP.out hk
      rw [hk] at c2
      clear hk HP HQ HT
      go_enter Tryz.func96, Tryz.ntmps96
      go_wp2_with fail
      refine hc.mono ?_
      rintro e w1 ⟨rfl, hn⟩
      have r1 := HR0.out.keeps hn (by simp)
      have q0 := r1.cell (j := 0) rfl
      have q1 := r1.cell (j := 1) rfl
      have q2 := r1.cell (j := 2) rfl
      have q3 := r1.cell (j := 3) rfl
      have e0 := r1.frozen 0
      have e1 := r1.frozen 1
      have e2 := r1.frozen 2
      have e3 := r1.frozen 3
      have hl1 := r1.lt
      have HZ : Hid (Keeps [] w ((((w1.setCell ⟨w.heap.size, 0, none⟩ (.int .i64 x1)).setCell ⟨w.heap.size, 1, none⟩ (.int .i64 x2)).setCell ⟨w.heap.size, 2, none⟩ (.int .u64 x3)).setCell ⟨w.heap.size, 3, none⟩ (.int .u64 x4))) := Lib.hid ((HK.out.trans hn).step (S := [w.heap.size]) (((((Keeps.refl _ _).set (by simp) _ _).set (by simp) _ _).set (by simp) _ _).set (by simp) _ _) (by simp))
      clear hn r1
      go_wp2
      refine bodyPost_ret (v := .tuple #[.agg #[.int .i64 x1, .int .i64 x2, .int .u64 x3, .int .u64 x4], .bool true]) (by simp [results, Tryz.results96, go_sem, q0, q1, q2, q3]) rfl ⟨rfl, HZ.out⟩
    · have hc := HQ.out hk
      rw [hk] at c2
      clear hk HP HQ HT
      go_enter Tryz.func96, Tryz.ntmps96
      go_wp2_with fail
      refine hc.mono ?_
      rintro e w1 ⟨rfl, hn⟩
      have r1 := HR0.out.keeps hn (by simp)
      have q0 := r1.cell (j := 0) rfl
      have q1 := r1.cell (j := 1) rfl
      have q2 := r1.cell (j := 2) rfl
      have q3 := r1.cell (j := 3) rfl
      have e0 := r1.frozen 0
      have e1 := r1.frozen 1
      have e2 := r1.frozen 2
      have e3 := r1.frozen 3
      have hl1 := r1.lt
      have HZ : Hid (Keeps [] w ((((w1.setCell ⟨w.heap.size, 0, none⟩ (.int .i64 x1)).setCell ⟨w.heap.size, 1, none⟩ (.int .i64 x2)).setCell ⟨w.heap.size, 2, none⟩ (.int .u64 x3)).setCell ⟨w.heap.size, 3, none⟩ (.int .u64 x4))) := Lib.hid ((HK.out.trans hn).step (S := [w.heap.size]) (((((Keeps.refl _ _).set (by simp) _ _).set (by simp) _ _).set (by simp) _ _).set (by simp) _ _) (by simp))
      clear hn r1
      go_wp2
      refine bodyPost_ret (v := .tuple #[.agg #[.int .i64 x1, .int .i64 x2, .int .u64 x3, .int .u64 x4], .bool true]) (by simp [results, Tryz.results96, go_sem, q0, q1, q2, q3]) rfl ⟨rfl, HZ.out⟩
    · have hc := HT.out hk
      rw [hk] at c2
      clear hk HP HQ HT
      go_enter Tryz.func96, Tryz.ntmps96
      go_wp2_with fail
      refine hc.mono ?_
      rintro e w1 ⟨rfl, hn⟩
      have r1 := HR0.out.keeps hn (by simp)
      have q0 := r1.cell (j := 0) rfl
      have q1 := r1.cell (j := 1) rfl
      have q2 := r1.cell (j := 2) rfl
      have q3 := r1.cell (j := 3) rfl
      have e0 := r1.frozen 0
      have e1 := r1.frozen 1
      have e2 := r1.frozen 2
      have e3 := r1.frozen 3
      have hl1 := r1.lt
      have HZ : Hid (Keeps [] w ((((w1.setCell ⟨w.heap.size, 0, none⟩ (.int .i64 x1)).setCell ⟨w.heap.size, 1, none⟩ (.int .i64 x2)).setCell ⟨w.heap.size, 2, none⟩ (.int .u64 x3)).setCell ⟨w.heap.size, 3, none⟩ (.int .u64 x4))) := Lib.hid ((HK.out.trans hn).step (S := [w.heap.size]) (((((Keeps.refl _ _).set (by simp) _ _).set (by simp) _ _).set (by simp) _ _).set (by simp) _ _) (by simp))
      clear hn r1
      go_wp2
      refine bodyPost_ret (v := .tuple #[.agg #[.int .i64 x1, .int .i64 x2, .int .u64 x3, .int .u64 x4], .bool true]) (by simp [results, Tryz.results96, go_sem, q0, q1, q2, q3]) rfl ⟨rfl, HZ.out⟩
end Go.Proofs.YtjfgpplnlepnoaaGreat

/-
  Contracts: what a document's frame of a ring holds.
-/
namespace Go.Proofs.YtjfgpplnlepnoaaGreat
set_option maxRecDepth 100000
set_option linter.unusedSimpArgs false
set_option linter.unusedVariables false
open Go.ChangeShapes Go.WideShapes Go.ChangeAt Go.RowKit

set_option maxHeartbeats 800000 in
theorem rf_held (p : Nat) (s : RgS) (w : World) (S : List Nat) (h : rfJ p w S s) :
    Calls Tryz.prog 107 #[.pointer (some ⟨p, 0, none⟩)] w fun e w' => ∃ q c, e = .returned (.slice q (ringM.held s).length c) ∧ Sl w' 1 (.slice q (ringM.held s).length c) (ringM.held s).length (ints .u64 (ringM.held s)) ∧ Keeps [] w w' := by
  obtain ⟨tk, dn, c, v, l, hS, hrow, hown, hne, hlen, hno, hyes⟩ := h
  have none_ : ∀ W : World, Sl W 1 (.slice none 0 0) 0 (ints .u64 []) := fun W => ⟨rfl, .inl ⟨_, _, rfl, rfl⟩⟩
  have c12 := hrow.cell (j := 12) rfl
  have c2 := hrow.cell (j := 2) rfl
  have c3 := hrow.cell (j := 3) rfl
  have c11 := hrow.cell (j := 11) rfl
  cases ho : s.over with
  | some r =>
    have e : ringM.held s = [] := by simp [ringM, rgHeld, ho]
    rw [e]
    rw [(hyes r ho).1] at c12
    have HNone := Lib.hid none_
    clear hrow hown hne hlen hno hyes none_ ho e c2 c3 c11
    show Calls Tryz.prog 107 #[.pointer (some ⟨p, 0, none⟩)] w fun e w' => ∃ q c, e = .returned (.slice q 0 c) ∧ Sl w' 1 (.slice q 0 c) 0 (ints .u64 []) ∧ Keeps [] w w'
    go_enter Tryz.func107, Tryz.ntmps107
    go_wp2
    go_ret
    exact ⟨none, 0, rfl, HNone.out _, Keeps.refl _ _⟩
  | none =>
    rw [(hno ho).1] at c12
    obtain ⟨q, cp, htk⟩ := (Sl.of_owns hown).len
    subst htk
    by_cases k1 : s.kind = 1
    · have e : ringM.held s = s.task :: s.took := by simp [ringM, rgHeld, ho, k1]
      rw [e]
      rw [k1] at c2
      have hlt := hrow.lt
      have kA : Keeps [] w ((w.drew).alloc (.cells #[.int .u64 s.task] 26)) := ((Keeps.refl [] w).drew).alloc _
      have HL : Hid (((w.drew).alloc (.cells #[.int .u64 s.task] 26)).ownsRow 0 26 1 (.slice (some ⟨w.heap.size, 0, none⟩) 1 1) 1 [.int .u64 s.task]) := Lib.hid (World.ownsRow_lit (w.drew) #[.int .u64 s.task] 1 (Nat.zero_le _) (by decide) rfl)
      have hr1 := hrow.keeps kA (by simp)
      have d11 := hr1.cell (j := 11) rfl
      have HT : Hid (Sl ((w.drew).alloc (.cells #[.int .u64 s.task] 26)) 1 (.slice q s.took.length cp) s.took.length (ints .u64 s.took)) := Lib.hid (Sl.of_owns (owns_keeps hown kA (fun g hg => by simp)))
      have HLen := Lib.hid hlen
      have HB : Hid (1 + s.took.length = s.took.length + 1) := Lib.hid (Nat.add_comm _ _)
      have HKA := Lib.hid kA
      clear hrow hown hne hlen hno hyes none_ ho e hr1 kA
      go_enter Tryz.func107, Tryz.ntmps107
      go_wp2_with fail
      go_region_law (first
        | (refine step_append_sl (by rfl) _ _ 46 (by rfl) 0 26 _ 1 8 Tryz.underlying46 elemWd (.slice (some ⟨w.heap.size, 0, none⟩) 1 1) 1 [.int .u64 s.task] (by rfl) HL.out (.slice q s.took.length cp) s.took.length (ints .u64 s.took) (by rfl) HT.out (fun u hu => ints_oneCell .u64 _ u hu) (by have := HLen.out; omega) (Nat.zero_le _) ?_; intro v10 w10 own10 k10 f10 ne10))
      all_goals (try go_wp2)
      all_goals (try go_ret)
      all_goals (
        have hsl := Sl.of_owns own10
        rw [HB.out] at hsl
        obtain ⟨q9, c9, rfl⟩ := hsl.len
        refine ⟨q9, c9, rfl, hsl, HKA.out.step (S := [w.heap.size]) (k10.mono (by simp [Value.ownBlock])) (by simp)⟩)
    · have e : ringM.held s = s.took := by simp [ringM, rgHeld, ho, k1]
      rw [e]
      have b1 : (s.kind == 1) = false := beq_eq_false_iff_ne.2 k1
      have HT := Lib.hid (Sl.of_owns hown)
      clear hrow hown hne hlen hno hyes none_ ho e k1
      go_enter Tryz.func107, Tryz.ntmps107
      go_wp2
      go_ret
      exact ⟨q, cp, rfl, HT.out, Keeps.refl _ _⟩
end Go.Proofs.YtjfgpplnlepnoaaGreat

/-
  Contracts: the document's frames of a ring go as the machine.
-/
namespace Go.Proofs.YtjfgpplnlepnoaaGreat
set_option maxRecDepth 100000
set_option linter.unusedSimpArgs false
set_option linter.unusedVariables false
open Go.ChangeShapes Go.WideShapes Go.ChangeAt Go.RowKit

theorem rfRuns (p : Nat) : RefRuns ringM (rfJ p) (fun _ => False) p 96 102 107 110 where
  lt := fun {w S s} ⟨tk, dn, c, v, l, hS, h, ho, _⟩ k hk => by
    rw [hS] at hk
    rcases List.mem_cons.1 hk with rfl | hk
    · exact h.lt
    · exact (ho.lt k ((ownBlock_toList _ _).1 hk)).2
  frame := fun {w w' S T s} ⟨tk, dn, c, v, l, hS, h, ho, r⟩ hk hT _ => ⟨tk, dn, c, v, l, hS, h.keeps hk (hT p (by rw [hS]; simp)), owns_keeps ho hk (fun g hg => hT g (by rw [hS]; exact List.mem_cons_of_mem _ ((ownBlock_toList _ _).2 hg))), r⟩
  stays := fun s v won h => by
    have h' : s.over.isSome = true := h
    show (ringM.give s v won).over.isSome = true
    simp [ringM, h']
  few := fun {w S s} ⟨tk, dn, c, v, l, hS, h, ho, hn, hl, _⟩ => by
    show (rgHeld s).length ≤ 1000000
    unfold rgHeld
    repeat' split
    · simp
    · simp; omega
    · omega
  want := fun w S s h => rf_want p s w S h
  over := fun w S s h => rf_over p s w S h
  held := fun w S s h => rf_held p s w S h
  give := fun w S s v won h hv => rf_give p s w S v won h hv
end Go.Proofs.YtjfgpplnlepnoaaGreat

/-
  Contracts: how the document's frame of a ring's Push or Pop is made.
-/
namespace Go.Proofs.YtjfgpplnlepnoaaGreat
set_option maxRecDepth 100000
set_option linter.unusedSimpArgs false
set_option linter.unusedVariables false
open Go.ChangeShapes Go.WideShapes Go.ChangeAt Go.RowKit

theorem rfJ_begin (p : Nat) (w : World) (s : RgS) (h : Row w p 155 (rfCells s (.slice none 0 0) false 0 0 (.slice none 0 0))) (ht : s.took = []) (hov : s.over = none) (hok : rgOk s) : rfJ p w [p] s := by
  refine ⟨.slice none 0 0, false, 0, 0, .slice none 0 0, rfl, h, ?_, fun g hg => by simp [Value.ownBlock] at hg, by rw [ht]; simp, fun _ => ⟨rfl, rfl, rfl, rfl, hok⟩, fun r hr => by rw [hov] at hr; cases hr⟩
  rw [ht]
  exact World.ownsRow_nil w 0 _ 1
theorem rfJ_no (p : Nat) (w : World) (s : RgS) (h : Row w p 155 (rfCells s (.slice none 0 0) true 2 0 (.slice none 0 0))) (ht : s.took = []) (hov : s.over = some ⟨2, 0, []⟩) : rfJ p w [p] s := by
  refine ⟨.slice none 0 0, true, 2, 0, .slice none 0 0, rfl, h, ?_, fun g hg => by simp [Value.ownBlock] at hg, by rw [ht]; simp, fun ho => (by rw [hov] at ho; cases ho), fun r hr => (by rw [hov] at hr; cases hr; exact ⟨rfl, rfl, rfl, .inl ⟨rfl, rfl⟩⟩)⟩
  rw [ht]
  exact World.ownsRow_nil w 0 _ 1
theorem rfNew_any (at_ size kind v : Int) (w : World) (hk : kind = 1 ∨ kind = 2) (hv : M.U v) :
    Calls Tryz.prog 49 #[.int .i64 at_, .int .i64 size, .int .i64 kind, .int .u64 v] w fun e w' => ∃ p, e = .returned (.pointer (some ⟨p, 0, none⟩)) ∧ rfJ p w' [p] (rgBegin at_ size kind v 0 (decide (dqRight at_ size))) ∧ Keeps [] w w' ∧ w.heap.size ≤ p := by
  have HR := Lib.hid (fun W => rRight8_any at_ size W)
  have U0 : M.U 0 := ⟨by decide, by decide⟩
  have Z0 : W32 0 := ⟨by decide, by decide⟩
  obtain ⟨W0, hW0⟩ : ∃ W0, w.alloc (.cells #[.int .i64 at_, .int .i64 size, .int .i64 kind, .int .u64 v, .int .i64 0, .int .i64 1, .int .u64 0, .int .u32 0, .int .u32 0, .int .i64 0, .int .i64 0, .slice none 0 0, .bool false, .int .i64 0, .int .u64 0, .slice none 0 0] 155) = W0 := ⟨_, rfl⟩
  have r0 : ∀ o, Row W0 w.heap.size 155 (rfCells ⟨at_, size, kind, v, 0, 1, 0, 0, 0, 0, 0, [], o⟩ (.slice none 0 0) false 0 0 (.slice none 0 0)) := by rw [← hW0]; intro o; exact Row.new _ _ _
  have HK : Hid (Keeps [] w W0) := Lib.hid (by rw [← hW0]; exact (Keeps.refl _ _).alloc _)
  have HE := Lib.hid (rfEnd_any w.heap.size ⟨at_, size, kind, v, 0, 1, 0, 0, 0, 0, 0, [], some ⟨2, 0, []⟩⟩ _ _ _ _ _ 2 W0 (r0 _))
  have HR0 := Lib.hid r0
  have HKd := Lib.hid hk
  have HV := Lib.hid hv
  clear r0 hk hv
  by_cases hr : dqRight at_ size
  · have hd : decide (dqRight at_ size) = true := decide_eq_true hr
    rw [hd] at HR
    rw [hd]
    have HH := Lib.hid hr
    clear hr hd
    go_enter Tryz.func49, Tryz.ntmps49
    go_wp2_with fail
    refine (HR.out W0).mono ?_
    rintro e w1 ⟨rfl, rfl⟩
    go_wp2
    go_ret
    refine ⟨w.heap.size, rfl, rfJ_begin _ _ _ (HR0.out none) rfl rfl ?_, HK.out, Nat.le_refl _⟩
    refine ⟨HH.out, HV.out, U0, Z0, Z0, ?_⟩
    rcases HKd.out with rfl | rfl
    · exact .inl ⟨rfl, .inl ⟨by simp [rgBegin], rfl, rfl⟩⟩
    · exact .inr (.inl ⟨rfl, by simp [rgBegin], rfl⟩)
  · have hd : decide (dqRight at_ size) = false := decide_eq_false hr
    rw [hd] at HR
    rw [hd]
    clear hr hd
    go_enter Tryz.func49, Tryz.ntmps49
    go_wp2_with fail
    refine (HR.out W0).mono ?_
    rintro e w1 ⟨rfl, rfl⟩
    go_wp2_with fail
    refine HE.out.mono ?_
    rintro e w2 ⟨rfl, hr2, k2⟩
    have HQ := Lib.hid (⟨hr2, HK.out.step k2 (by simp)⟩ : _ ∧ _)
    clear hr2 k2 hW0
    go_wp2
    go_ret
    exact ⟨w.heap.size, rfl, rfJ_no _ _ _ HQ.out.1 rfl rfl, HQ.out.2, Nat.le_refl _⟩
end Go.Proofs.YtjfgpplnlepnoaaGreat

/-
  Contracts: how the document's frame of a ring's Steal is made.
-/
namespace Go.Proofs.YtjfgpplnlepnoaaGreat
set_option maxRecDepth 100000
set_option linter.unusedSimpArgs false
set_option linter.unusedVariables false
open Go.ChangeShapes Go.WideShapes Go.ChangeAt Go.RowKit

def rfMeets (at_ size target : Int) (k : Nat) : Prop := 0 < k ∧ at_ < target + size + 2 ∧ target < at_ + k
instance (at_ size target : Int) (k : Nat) : Decidable (rfMeets at_ size target k) := by unfold rfMeets; infer_instance
set_option maxHeartbeats 6400000 in
theorem rfStealNew_any (at_ size target tsize : Int) (w : World) (hs1 : -9223372036854775808 ≤ size) (ht1 : -9223372036854775808 ≤ tsize) :
    Calls Tryz.prog 50 #[.int .i64 at_, .int .i64 size, .int .i64 target, .int .i64 tsize] w fun e w' => ∃ p, e = .returned (.pointer (some ⟨p, 0, none⟩)) ∧ rfJ p w' [p] (rgBegin at_ size 3 0 target (decide (rgFeeds at_ size target tsize))) ∧ Keeps [] w w' ∧ w.heap.size ≤ p := by
  have HR := Lib.hid (fun W => rRight8_any at_ size W)
  have HR2 := Lib.hid (fun W => rRight8_any target tsize W)
  have U0 : M.U 0 := ⟨by decide, by decide⟩
  have Z0 : W32 0 := ⟨by decide, by decide⟩
  obtain ⟨W0, hW0⟩ : ∃ W0, w.alloc (.cells #[.int .i64 at_, .int .i64 size, .int .i64 3, .int .u64 0, .int .i64 target, .int .i64 1, .int .u64 0, .int .u32 0, .int .u32 0, .int .i64 0, .int .i64 0, .slice none 0 0, .bool false, .int .i64 0, .int .u64 0, .slice none 0 0] 155) = W0 := ⟨_, rfl⟩
  have r0 : ∀ o, Row W0 w.heap.size 155 (rfCells ⟨at_, size, 3, 0, target, 1, 0, 0, 0, 0, 0, [], o⟩ (.slice none 0 0) false 0 0 (.slice none 0 0)) := by rw [← hW0]; intro o; exact Row.new _ _ _
  have HK : Hid (Keeps [] w W0) := Lib.hid (by rw [← hW0]; exact (Keeps.refl _ _).alloc _)
  have HE := Lib.hid (rfEnd_any w.heap.size ⟨at_, size, 3, 0, target, 1, 0, 0, 0, 0, 0, [], some ⟨2, 0, []⟩⟩ _ _ _ _ _ 2 W0 (r0 _))
  have HR0 := Lib.hid r0
  clear r0
  by_cases hr : dqRight at_ size
  rotate_left
  · have hd : decide (dqRight at_ size) = false := decide_eq_false hr
    rw [hd] at HR
    rw [decide_eq_false (fun h : rgFeeds at_ size target tsize => hr h.1)]
    clear hr hd HR2
    go_enter Tryz.func50, Tryz.ntmps50
    go_wp2_with fail
    refine (HR.out W0).mono ?_
    rintro e w1 ⟨rfl, rfl⟩
    go_wp2_with fail
    refine HE.out.mono ?_
    rintro e w2 ⟨rfl, hr2, k2⟩
    have HQ := Lib.hid (⟨hr2, HK.out.step k2 (by simp)⟩ : _ ∧ _)
    clear hr2 k2 hW0
    go_wp2
    go_ret
    exact ⟨w.heap.size, rfl, rfJ_no _ _ _ HQ.out.1 rfl rfl, HQ.out.2, Nat.le_refl _⟩
  have hd : decide (dqRight at_ size) = true := decide_eq_true hr
  rw [hd] at HR
  by_cases hr2 : dqRight target tsize
  rotate_left
  · have hd2 : decide (dqRight target tsize) = false := decide_eq_false hr2
    rw [hd2] at HR2
    rw [decide_eq_false (fun h : rgFeeds at_ size target tsize => hr2 h.2.1)]
    clear hr hd hr2 hd2
    go_enter Tryz.func50, Tryz.ntmps50
    go_wp2_with fail
    refine (HR.out W0).mono ?_
    rintro e w1 ⟨rfl, rfl⟩
    go_wp2_with fail
    refine (HR2.out W0).mono ?_
    rintro e w1 ⟨rfl, rfl⟩
    go_wp2_with fail
    refine HE.out.mono ?_
    rintro e w2 ⟨rfl, hr2, k2⟩
    have HQ := Lib.hid (⟨hr2, HK.out.step k2 (by simp)⟩ : _ ∧ _)
    clear hr2 k2 hW0
    go_wp2
    go_ret
    exact ⟨w.heap.size, rfl, rfJ_no _ _ _ HQ.out.1 rfl rfl, HQ.out.2, Nat.le_refl _⟩
  have hd2 : decide (dqRight target tsize) = true := decide_eq_true hr2
  rw [hd2] at HR2
  by_cases hts : size = tsize
  rotate_left
  · have b1 : (size == tsize) = false := beq_eq_false_iff_ne.2 hts
    rw [decide_eq_false (fun h : rgFeeds at_ size target tsize => hts h.2.2.1)]
    clear hr hd hr2 hd2 hts
    go_enter Tryz.func50, Tryz.ntmps50
    go_wp2_with fail
    refine (HR.out W0).mono ?_
    rintro e w1 ⟨rfl, rfl⟩
    go_wp2_with fail
    refine (HR2.out W0).mono ?_
    rintro e w1 ⟨rfl, rfl⟩
    go_wp2_with fail
    refine HE.out.mono ?_
    rintro e w2 ⟨rfl, hr2, k2⟩
    have HQ := Lib.hid (⟨hr2, HK.out.step k2 (by simp)⟩ : _ ∧ _)
    clear hr2 k2 hW0
    go_wp2
    go_ret
    exact ⟨w.heap.size, rfl, rfJ_no _ _ _ HQ.out.1 rfl rfl, HQ.out.2, Nat.le_refl _⟩
  subst hts
  obtain ⟨N, hN⟩ : ∃ N : Nat, size + 2 = N := ⟨(size + 2).toNat, by have := hr.1; omega⟩
  have hb : 2 ≤ size ∧ size ≤ 256 ∧ 0 ≤ at_ ∧ at_ < 65536 ∧ 0 ≤ target ∧ target < 65536 := by have := hr.1; have := hr.2; have := hr2.2; omega
  have HH := Lib.hid hr
  have HH2 := Lib.hid hr2
  clear hr hd hr2 hd2
  have w1 : wrap64 (at_ + size) = at_ + size := by unfold wrap64; omega
  have w2 : wrap64 (at_ + size + 2) = at_ + size + 2 := by unfold wrap64; omega
  have w3 : wrap64 (target + size) = target + size := by unfold wrap64; omega
  have w4 : wrap64 (target + size + 2) = target + size + 2 := by unfold wrap64; omega
  go_enter Tryz.func50, Tryz.ntmps50
  go_wp2_with fail
  refine (HR.out W0).mono ?_
  rintro e w1 ⟨rfl, rfl⟩
  go_wp2_with fail
  refine (HR2.out W0).mono ?_
  rintro e w1 ⟨rfl, rfl⟩
  go_wp2
  clear hW0
  go_loopw [10] (fun i wr => ∃ k : Nat, k ≤ N ∧ i = .int .i64 (at_ + (k : Int)) ∧ Keeps [] w wr ∧ ∀ o, Row wr w.heap.size 155 (rfCells ⟨at_, size, 3, 0, target, 1, 0, 0, 0, 0, 0, [], o⟩ (.slice none 0 0) (decide (rfMeets at_ size target k)) (if rfMeets at_ size target k then 2 else 0) 0 (.slice none 0 0))) (fun i _ => (at_ + N - intOf i).toNat)
  case atStart =>
    refine ⟨0, Nat.zero_le _, by simp, HK.out, fun o => ?_⟩
    rw [decide_eq_false (fun h : rfMeets at_ size target 0 => absurd h.1 (by omega)), if_neg (fun h : rfMeets at_ size target 0 => absurd h.1 (by omega))]
    exact HR0.out o
  case round =>
    obtain ⟨k, hk, rfl, hkr, hrow⟩ := hrel
    have HKr := Lib.hid hkr
    have HRow := Lib.hid hrow
    have HEr := Lib.hid (rfEnd_any w.heap.size ⟨at_, size, 3, 0, target, 1, 0, 0, 0, 0, 0, [], none⟩ _ _ _ _ _ 2 wr (hrow _))
    have hlt0 := (hrow none).lt
    clear hkr hrow
    by_cases hlt : k < N
    · have d1 : decide (at_ + (k : Int) < at_ + size + 2) = true := decide_eq_true (by omega)
      have w5 : wrap64 (at_ + (k : Int) + 1) = at_ + ((k + 1 : Nat) : Int) := by unfold wrap64; omega
      by_cases h1 : target ≤ at_ + (k : Int)
      · have d2 : decide (target ≤ at_ + (k : Int)) = true := decide_eq_true h1
        by_cases h2 : at_ + (k : Int) < target + size + 2
        · have d3 : decide (at_ + (k : Int) < target + size + 2) = true := decide_eq_true h2
          have hm : rfMeets at_ size target (k + 1) := ⟨by omega, by omega, by omega⟩
          have HM := Lib.hid hm
          clear hm h1 h2
          go_wp2_with fail
          refine HEr.out.mono ?_
          rintro e w7 ⟨rfl, hr7, k7⟩
          have HP := Lib.hid (show Keeps [] w w7 ∧ ∀ o, Row w7 w.heap.size 155 (rfCells ⟨at_, size, 3, 0, target, 1, 0, 0, 0, 0, 0, [], o⟩ (.slice none 0 0) (decide (rfMeets at_ size target (k + 1))) (if rfMeets at_ size target (k + 1) then 2 else 0) 0 (.slice none 0 0)) from ⟨HKr.out.step k7 (by simp), fun o => by rw [decide_eq_true HM.out, if_pos HM.out]; exact hr7⟩)
          clear hr7 k7
          go_wp2
          go_roundw
          case rel => exact ⟨k + 1, by omega, by go_num, HP.out⟩
          case measure => simp [intOf]; omega
        · have d3 : decide (at_ + (k : Int) < target + size + 2) = false := decide_eq_false h2
          have he : rfMeets at_ size target (k + 1) ↔ rfMeets at_ size target k := ⟨fun h => ⟨by have := h.2.1; omega, h.2.1, by have := h.2.1; omega⟩, fun h => ⟨by omega, h.2.1, by have := h.2.2; omega⟩⟩
          have HP := Lib.hid (show Keeps [] w wr ∧ ∀ o, Row wr w.heap.size 155 (rfCells ⟨at_, size, 3, 0, target, 1, 0, 0, 0, 0, 0, [], o⟩ (.slice none 0 0) (decide (rfMeets at_ size target (k + 1))) (if rfMeets at_ size target (k + 1) then 2 else 0) 0 (.slice none 0 0)) from ⟨HKr.out, fun o => by simp only [he]; exact HRow.out o⟩)
          clear he h1 h2
          go_wp2
          go_roundw
          case rel => exact ⟨k + 1, by omega, by go_num, HP.out⟩
          case measure => simp [intOf]; omega
      · have d2 : decide (target ≤ at_ + (k : Int)) = false := decide_eq_false h1
        have he : rfMeets at_ size target (k + 1) ↔ rfMeets at_ size target k := ⟨fun h => absurd h.2.2 (by omega), fun h => absurd h.2.2 (by omega)⟩
        have HP := Lib.hid (show Keeps [] w wr ∧ ∀ o, Row wr w.heap.size 155 (rfCells ⟨at_, size, 3, 0, target, 1, 0, 0, 0, 0, 0, [], o⟩ (.slice none 0 0) (decide (rfMeets at_ size target (k + 1))) (if rfMeets at_ size target (k + 1) then 2 else 0) 0 (.slice none 0 0)) from ⟨HKr.out, fun o => by simp only [he]; exact HRow.out o⟩)
        clear he h1
        go_wp2
        go_roundw
        case rel => exact ⟨k + 1, by omega, by go_num, HP.out⟩
        case measure => simp [intOf]; omega
    · obtain rfl : k = N := by omega
      have d1 : decide (at_ + (k : Int) < at_ + size + 2) = false := decide_eq_false (by omega)
      have hf : rgFeeds at_ size target size ↔ ¬ rfMeets at_ size target k := ⟨fun h hm => by have := h.2.2.2; have := hm.2; omega, fun h => ⟨HH.out, HH2.out, rfl, Decidable.byContradiction fun hc => h ⟨by omega, by omega, by omega⟩⟩⟩
      have HFe := Lib.hid hf
      clear hf
      go_wp2
      go_ret
      refine ⟨w.heap.size, rfl, ?_, HKr.out, Nat.le_refl _⟩
      by_cases hm : rfMeets at_ size target k
      · rw [decide_eq_false (fun h => HFe.out.1 h hm)]
        have := HRow.out (some ⟨2, 0, []⟩)
        rw [decide_eq_true hm, if_pos hm] at this
        exact rfJ_no _ _ _ this rfl rfl
      · rw [decide_eq_true (HFe.out.2 hm)]
        have := HRow.out none
        rw [decide_eq_false hm, if_neg hm] at this
        exact rfJ_begin _ _ _ this rfl rfl ⟨HH.out, U0, U0, Z0, Z0, .inr (.inr ⟨rfl, HH2.out, .inl ⟨by simp [rgBegin], rfl, rfl⟩⟩)⟩
end Go.Proofs.YtjfgpplnlepnoaaGreat
