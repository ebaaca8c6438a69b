/-
  Contracts: how a document's frame of a ring ends a steal.
-/
import Derived.Test.YtekpfhlaohcgeaaGreatRef8t
import Derived.Test.YtekpfhlaohcgeaaGreatRef8h
import Derived.Test.YtekpfhlaohcgeaaGreatRef8i
import Derived.Test.YtekpfhlaohcgeaaGreatRef8q
namespace Go.Proofs.YtekpfhlaohcgeaaGreat
set_option maxRecDepth 100000
set_option linter.unusedSimpArgs false
set_option linter.unusedVariables false
open Go.ChangeShapes Go.WideShapes Go.ChangeAt Go.RowKit

set_option maxHeartbeats 6400000 in
theorem rfStealG9 (q g nt ct kN : Nat) (at_ size task target hd t u n k x : Int) (took : List Int) (won : Bool) (w : World) (h : Row w q 97 (rfCells ⟨at_, size, 3, task, target, 9, hd, t, u, n, k, took, none⟩ (.slice (some ⟨g, 0, none⟩) nt ct) false 0 0 (.slice none 0 0))) (hn : n = (kN : Int) + 1) (hkn : kN < nt) (hk2 : kN ≤ 256) (hg : g ≠ q) (hgl : g < w.heap.size) (hx : w.cell? ⟨g, kN, none⟩ = some (.int .u64 (took.getD kN 0))) :
    Calls Tryz.prog 95 #[.pointer (some ⟨q, 0, none⟩), .int .u64 x, .bool won] w fun e w' => e = .returned (.tuple #[]) ∧ RfGoes q w (rgStealGive ⟨at_, size, 3, task, target, 9, hd, t, u, n, k, took, none⟩ x won) (.slice (some ⟨g, 0, none⟩) nt ct) w' := by
  have c5 := h.cell (j := 5) rfl
  have f5 := h.frozen 5
  simp only at c5
  have hlast : rgLast ⟨at_, size, 3, task, target, 9, hd, t, u, n, k, took, none⟩ = took.getD kN 0 := by
    unfold rgLast; simp only [hn]; congr 1; omega
  have HL := Lib.hid (rfLast_any q g nt ct kN _ _ w h hn hkn hk2 hg hgl hx)
  have HG : Hid (rgStealGive ⟨at_, size, 3, task, target, 9, hd, t, u, n, k, took, none⟩ x won = ⟨at_, size, 3, task, target, 9, hd, t, u, n, k, took, some ⟨0, took.getD kN 0, []⟩⟩) := Lib.hid (by simp [rgStealGive, hlast])
  rw [HG.out]
  clear h hn hx
  go_enter Tryz.func95, Tryz.ntmps95
  go_wp2_with fail
  refine HL.out.mono ?_
  rintro e w2 ⟨rfl, r2, k2⟩
  have HF := Lib.hid r2
  have HKF := Lib.hid k2
  clear r2 k2
  go_wp2_with fail
  first | go_end0 | refine bodyPost_ret (results_none rfl _ _ _) rfl ?_
  exact ⟨rfl, _, _, _, _, HF.out, HKF.out, fun h => (by cases h), fun r h _ => by cases h; exact ⟨rfl, rfl, rfl, rfl⟩⟩

set_option maxHeartbeats 6400000 in
theorem rfStealG8One (q g nt ct : Nat) (at_ size task target hd t u k x : Int) (took : List Int) (w : World) (h : Row w q 97 (rfCells ⟨at_, size, 3, task, target, 8, hd, t, u, 1, k, took, none⟩ (.slice (some ⟨g, 0, none⟩) nt ct) false 0 0 (.slice none 0 0))) (hkn : 0 < nt) (hg : g ≠ q) (hgl : g < w.heap.size) (hx : w.cell? ⟨g, 0, none⟩ = some (.int .u64 (took.getD 0 0))) :
    Calls Tryz.prog 95 #[.pointer (some ⟨q, 0, none⟩), .int .u64 x, .bool true] w fun e w' => e = .returned (.tuple #[]) ∧ RfGoes q w (rgStealGive ⟨at_, size, 3, task, target, 8, hd, t, u, 1, k, took, none⟩ x true) (.slice (some ⟨g, 0, none⟩) nt ct) w' := by
  have c5 := h.cell (j := 5) rfl
  have f5 := h.frozen 5
  have c9 := h.cell (j := 9) rfl
  have f9 := h.frozen 9
  simp only at c5 c9
  have hlast : rgLast ⟨at_, size, 3, task, target, 8, hd, t, u, 1, k, took, none⟩ = took.getD 0 0 := by
    unfold rgLast; simp
  obtain ⟨W1, hW1⟩ : ∃ W1, (w).setCell ⟨q, 5, none⟩ (.int .i64 9) = W1 := ⟨_, rfl⟩
  have k1 : Keeps [q] w W1 := by rw [← hW1]; exact (Keeps.refl [q] w).set (by simp) _ _
  have r1 : Row W1 q 97 (rfCells ⟨at_, size, 3, task, target, 9, hd, t, u, 1, k, took, none⟩ (.slice (some ⟨g, 0, none⟩) nt ct) false 0 0 (.slice none 0 0)) := by rw [← hW1]; exact (h).set 5 _
  have hgl1 : g < W1.heap.size := Nat.lt_of_lt_of_le hgl k1.size
  have hx1 : W1.cell? ⟨g, 0, none⟩ = some (.int .u64 (took.getD 0 0)) := (k1.cell (p := ⟨g, 0, none⟩) hgl (by simpa using hg)).trans hx
  have HL := Lib.hid (rfLast_any q g nt ct 0 _ _ W1 r1 (by rfl) hkn (by omega) hg hgl1 hx1)
  have d9 := r1.cell (j := 9) rfl
  have g9 := r1.frozen 9
  simp only at d9
  have HG : Hid (rgStealGive ⟨at_, size, 3, task, target, 8, hd, t, u, 1, k, took, none⟩ x true = ⟨at_, size, 3, task, target, 9, hd, t, u, 1, k, took, some ⟨0, took.getD 0 0, []⟩⟩) := Lib.hid (by simp [rgStealGive, hlast])
  rw [HG.out]
  have HK1 := Lib.hid k1
  clear h hx r1 k1 hx1
  go_enter Tryz.func95, Tryz.ntmps95
  go_wp2_with fail
  refine HL.out.mono ?_
  rintro e w2 ⟨rfl, r2, k2⟩
  have HF := Lib.hid r2
  have HKF := Lib.hid (HK1.out.trans k2)
  clear r2 k2
  go_wp2_with fail
  first | go_end0 | refine bodyPost_ret (results_none rfl _ _ _) rfl ?_
  exact ⟨rfl, _, _, _, _, HF.out, HKF.out, fun h => (by cases h), fun r h _ => by cases h; exact ⟨rfl, rfl, rfl, rfl⟩⟩
end Go.Proofs.YtekpfhlaohcgeaaGreat

/-
  Contracts: what a document's frame of a ring is, as the machine sees it; how it ends.
-/
namespace Go.Proofs.YtekpfhlaohcgeaaGreat
set_option maxRecDepth 100000
set_option linter.unusedSimpArgs false
set_option linter.unusedVariables false
open Go.ChangeShapes Go.WideShapes Go.ChangeAt Go.RowKit

def rfJ (p : Nat) (w : World) (S : List Nat) (s : RgS) : Prop :=
  ∃ tk dn c v l, S = p :: tk.ownBlock.toList ∧ Row w p 97 (rfCells s tk dn c v l) ∧ w.ownsRow 0 24 1 tk s.took.length (ints .u64 s.took) ∧ (∀ g, tk.ownBlock = some g → g ≠ p) ∧ s.took.length ≤ 257 ∧
    (s.over = none → dn = false ∧ c = 0 ∧ v = 0 ∧ l = .slice none 0 0 ∧ rgOk s) ∧
    ∀ r, s.over = some r → dn = true ∧ c = r.code ∧ v = r.v ∧ (r.l = [] ∧ l = .slice none 0 0 ∨ r.l = s.took ∧ l = tk)

theorem rf_over (p : Nat) (s : RgS) (w : World) (S : List Nat) (h : rfJ p w S s) :
    Calls Tryz.prog 45 #[.pointer (some ⟨p, 0, none⟩)] w fun e w' => ∃ q n c,
      e = .returned (.tuple #[.agg #[.int .i64 ((ringM.res s).getD Rs.zero).code, .int .u64 ((ringM.res s).getD Rs.zero).v, .slice q n c], .bool (ringM.res s).isSome]) ∧ Keeps [] w w' ∧
      ∀ r, ringM.res s = some r → Sl w' 1 (.slice q n c) r.l.length (ints .u64 r.l) ∧ r.l.length ≤ maxLen ∧ ∀ g, (Value.slice q n c).ownBlock = some g → g ∈ S ∨ w.heap.size ≤ g := by
  obtain ⟨tk, dn, c, v, l, hS, hrow, hown, hne, hlen, hno, hyes⟩ := h
  have hl : ∃ q n cp, l = .slice q n cp := by
    cases ho : s.over with
    | none => exact ⟨_, _, _, (hno ho).2.2.2.1⟩
    | some r =>
      rcases (hyes r ho).2.2.2 with ⟨-, h2⟩ | ⟨-, h2⟩
      · exact ⟨_, _, _, h2⟩
      · obtain ⟨a, b, e⟩ := (Sl.of_owns hown).len
        exact ⟨_, _, _, h2.trans e⟩
  obtain ⟨q, n, cp, rfl⟩ := hl
  have fin : ∀ w', Keeps [] w w' → ∀ r, ringM.res s = some r → Sl w' 1 (.slice q n cp) r.l.length (ints .u64 r.l) ∧ r.l.length ≤ maxLen ∧ ∀ g, (Value.slice q n cp).ownBlock = some g → g ∈ S ∨ w.heap.size ≤ g := by
    intro w' hk r hr
    rcases (hyes r hr).2.2.2 with ⟨h1, h2⟩ | ⟨h1, h2⟩
    · rw [h1, h2]
      exact ⟨⟨rfl, .inl ⟨_, _, rfl, rfl⟩⟩, Nat.zero_le _, fun g hg => by cases hg⟩
    · rw [h1, h2]
      refine ⟨Sl.of_owns (owns_keeps hown hk (fun g _ => by simp)), Nat.le_trans hlen (by decide), fun g hg => .inl ?_⟩
      rw [hS]
      exact List.mem_cons_of_mem _ ((ownBlock_toList _ _).2 hg)
  have hval : c = ((ringM.res s).getD Rs.zero).code ∧ v = ((ringM.res s).getD Rs.zero).v ∧ dn = (ringM.res s).isSome := by
    cases ho : s.over with
    | none => obtain ⟨a, b, c, -⟩ := hno ho; simp [ringM, ho, a, b, c, Rs.zero]
    | some r => obtain ⟨a, b, c, -⟩ := hyes r ho; simp [ringM, ho, a, b, c]
  have HF := Lib.hid fin
  obtain ⟨e1, e2, e3⟩ := hval
  rw [← e1, ← e2, ← e3]
  have hlt := hrow.lt
  obtain ⟨W0, hW0⟩ : ∃ W0, w.alloc (.cells #[.int .i64 0, .int .u64 0, .slice none 0 0] 65) = W0 := ⟨_, rfl⟩
  have k0 : Keeps [] w W0 := by rw [← hW0]; exact (Keeps.refl _ _).alloc _
  have r0 : Row W0 w.heap.size 65 [.int .i64 0, .int .u64 0, .slice none 0 0] := by rw [← hW0]; exact Row.new _ _ _
  have hr0 := hrow.keeps k0 (by simp)
  have c7 := hr0.cell (j := 12) rfl
  have c8 := hr0.cell (j := 13) rfl
  have c9 := hr0.cell (j := 14) rfl
  have c10 := hr0.cell (j := 15) rfl
  have q0 := r0.cell (j := 0) rfl
  have q1 := r0.cell (j := 1) rfl
  have q2 := r0.cell (j := 2) rfl
  have e0 := r0.frozen 0
  have e1' := r0.frozen 1
  have e2' := r0.frozen 2
  have hl0 := r0.lt
  have HK := Lib.hid k0
  clear hrow hown hno hyes hne hlen fin hr0 r0 k0 e1 e2 e3
  go_enter Tryz.func45, Tryz.ntmps45
  go_wp2
  go_region
  go_wp2
  have HZ : Hid (Keeps [] w ((((W0.drew).setCell ⟨w.heap.size, 0, none⟩ (.int .i64 c)).setCell ⟨w.heap.size, 1, none⟩ (.int .u64 v)).setCell ⟨w.heap.size, 2, none⟩ (.slice q n cp))) := Lib.hid (HK.out.drew.step (S := [w.heap.size]) ((((Keeps.refl _ _).set (by simp) _ _).set (by simp) _ _).set (by simp) _ _) (by simp))
  refine bodyPost_ret (v := .tuple #[.agg #[.int .i64 c, .int .u64 v, .slice q n cp], .bool dn]) (by simp [results, Tryz.results45, go_sem, q0, q1, q2]) rfl ⟨q, n, cp, rfl, HZ.out, HF.out _ HZ.out⟩

theorem rf_wantDone (p : Nat) (s : RgS) (w : World) (S : List Nat) (h : rfJ p w S s) (hov : s.over ≠ none) :
    Calls Tryz.prog 44 #[.pointer (some ⟨p, 0, none⟩)] w fun e w' => e = .returned (.tuple #[((ringM.want s).getD zacc).val, .bool (ringM.want s).isSome]) ∧ Keeps [] w w' := by
  obtain ⟨tk, dn, c, v, l, hS, hrow, hown, hne, hlen, hno, hyes⟩ := h
  have hs : s.over.isSome = true := by cases h : s.over with
    | none => exact absurd h hov
    | some r => rfl
  have hd : dn = true := by cases h : s.over with
    | none => exact absurd h hov
    | some r => exact (hyes r h).1
  have hw : Hid (ringM.want s = none) := Lib.hid (by simp [ringM, hs])
  rw [hw.out]
  have c9 := hrow.cell (j := 12) rfl
  rw [hd] at c9
  have hlt := hrow.lt
  clear hown hno hyes hne hlen hrow
  go_enter Tryz.func44, Tryz.ntmps44
  go_wp2
  refine bodyPost_ret (v := .tuple #[.agg #[.int .i64 0, .int .i64 0, .int .u64 0, .int .u64 0], .bool false]) (by simp [results, Tryz.results44, go_sem]) rfl ⟨rfl, ?_⟩
  exact (Keeps.refl _ _).alloc _
end Go.Proofs.YtekpfhlaohcgeaaGreat

/-
  Contracts: what a document's frame of a ring is told leads where its machine goes.
-/
namespace Go.Proofs.YtekpfhlaohcgeaaGreat
set_option maxRecDepth 100000
set_option linter.unusedSimpArgs false
set_option linter.unusedVariables false
open Go.ChangeShapes Go.WideShapes Go.ChangeAt Go.RowKit

theorem rf_cells {w : World} {tk : Value} {e : TypeId} {took : List Int} (h : w.ownsRow 0 e 1 tk took.length (ints .u64 took)) (hl : 0 < took.length) :
    ∃ g cap, tk = .slice (some ⟨g, 0, none⟩) took.length cap ∧ tk.ownBlock = some g ∧ g < w.heap.size ∧ ∀ j, j < took.length → w.cell? ⟨g, j, none⟩ = some (.int .u64 (took.getD j 0)) := by
  rcases h.2 with ⟨rfl, h0⟩ | ⟨g, cap, cur, rfl, hb, hg, _⟩
  · omega
  · obtain ⟨b, off, cap', e1, e2, e3⟩ := (Sl.of_owns h).some hl
    cases e1
    exact ⟨g, cap, rfl, rfl, e2, fun j hj => by simpa using e3 j _ (ints_at hj)⟩

/-- Where a frame leads that the machine knows. -/
def RfNext (p : Nat) (w : World) (s : RgS) (tk : Value) (w' : World) : Prop :=
  ∃ S', rfJ p w' S' s ∧ Keeps (p :: tk.ownBlock.toList) w w' ∧ ∀ k ∈ S', k ∈ p :: tk.ownBlock.toList ∨ w.heap.size ≤ k

theorem RfGoes.next {p : Nat} {w w' : World} {g s : RgS} {tk : Value} (h : RfGoes p w g tk w') (e : g = s) (hto : w.ownsRow 0 24 1 tk s.took.length (ints .u64 s.took)) (htq : ∀ x, tk.ownBlock = some x → x ≠ p) (hl : s.took.length ≤ 257)
    (hok : s.over = none → rgOk s) (hnil : ∀ r, s.over = some r → r.l = []) : RfNext p w g tk w' := by
  subst e
  obtain ⟨dn, c, v, l, h1, h2, h3, h4⟩ := h
  refine ⟨p :: tk.ownBlock.toList, ⟨tk, dn, c, v, l, rfl, h1, owns_keeps hto h2 (fun x hx => by simpa using htq x hx), htq, hl, fun ho => ?_, fun r hr => ?_⟩, h2.mono (by simp), fun k hk => .inl hk⟩
  · obtain ⟨a, b, c, d⟩ := h3 ho
    exact ⟨a, b, c, d, hok ho⟩
  · obtain ⟨a, b, c, d⟩ := h4 r hr (hnil r hr)
    exact ⟨a, b, c, .inl ⟨hnil r hr, d⟩⟩

theorem RfTook.next {p : Nat} {w w' : World} {g s : RgS} {tk : Value} (h : RfTook p w g tk w') (e : g = s) (hl : s.took.length ≤ 257) (hok : s.over = none → rgOk s) : RfNext p w g tk w' := by
  subst e
  obtain ⟨tk', dn, c, v, l, h1, h2, h3, h4, h5, h6⟩ := h
  refine ⟨p :: tk'.ownBlock.toList, ⟨tk', dn, c, v, l, rfl, h1, h2, fun x hx => (h3 x hx).2, hl, fun ho => ?_, fun r hr => ?_⟩, h4, fun k hk => ?_⟩
  · obtain ⟨a, b, c, d⟩ := h5 ho
    exact ⟨a, b, c, d, hok ho⟩
  · obtain ⟨a, b, c, d⟩ := h6 r hr
    exact ⟨a, b, c, .inr d⟩
  · rcases List.mem_cons.1 hk with rfl | hk
    · exact .inl (by simp)
    · rcases (h3 k ((ownBlock_toList _ _).1 hk)).1 with hk | hk
      · exact .inl (List.mem_cons_of_mem _ ((ownBlock_toList _ _).2 hk))
      · exact .inr hk

theorem rfPush_next (p : Nat) (s : RgS) (tk : Value) (x : Int) (won : Bool) (w : World) (h : Row w p 97 (rfCells s tk false 0 0 (.slice none 0 0))) (hto : w.ownsRow 0 24 1 tk s.took.length (ints .u64 s.took)) (htq : ∀ g, tk.ownBlock = some g → g ≠ p) (hlen : s.took.length ≤ 257) (ho : s.over = none) (hk : s.kind = 1) (hok : rgOk s) (hx : M.U x) :
    Calls Tryz.prog 93 #[.pointer (some ⟨p, 0, none⟩), .int .u64 x, .bool won] w fun e w' => e = .returned (.tuple #[]) ∧ RfNext p w (rgPushGive s x won) tk w' := by
  obtain ⟨at_, size, kind, task, target, step, hd, t, u, n, k, took, over⟩ := s
  simp only at ho hk hto hlen
  subst ho hk
  unfold rgOk at hok
  simp only at hok
  obtain ⟨hr, ut, uh, wt, wu, hc⟩ := hok
  have hs2 : 2 ≤ size ∧ size ≤ 256 := by have := hr.1; omega
  have wlx : W32 (rgLo x) := rgLo_range x
  have wlh : W32 (rgLo hd) := rgLo_range hd
  rcases hc with ⟨-, hc⟩ | ⟨hc, -⟩ | ⟨hc, -⟩
  rotate_left
  · exact absurd hc (by decide)
  · exact absurd hc (by decide)
  rcases hc with ⟨rfl | rfl | rfl | rfl | rfl, rfl, rfl⟩ | ⟨rfl, rfl, hkk⟩
  · exact (rfPushG1 p at_ size task target hd t u n 0 x [] tk won w h uh hx wu).mono fun e w2 h => ⟨h.1, h.2.next (s := ⟨at_, size, 1, task, target, 2, x, t, u, n, 0, [], none⟩) (by simp [rgPushGive]) hto htq hlen (fun _ => ⟨hr, ut, hx, wt, wu, .inl ⟨rfl, .inl ⟨by simp, rfl, rfl⟩⟩⟩) (fun r h => by cases h)⟩
  · by_cases hA : M.aheadI (rgLo x) (rgHi hd) < size
    · exact (rfPushG2Room p at_ size task target hd t u n 0 x [] tk won w h uh hx wu hA).mono fun e w2 h => ⟨h.1, h.2.next (s := ⟨at_, size, 1, task, target, 3, hd, rgLo x, u, n, 0, [], none⟩) (by simp [rgPushGive, hA]) hto htq hlen (fun _ => ⟨hr, ut, uh, wlx, wu, .inl ⟨rfl, .inl ⟨by simp, rfl, rfl⟩⟩⟩) (fun r h => by cases h)⟩
    by_cases hB : rgHi hd = rgLo hd
    · have hA' := hA
      rw [hB] at hA'
      exact (rfPushG2Turn p at_ size task target hd t u n 0 x [] tk won w h uh hx wu hA hB).mono fun e w2 h => ⟨h.1, h.2.next (s := ⟨at_, size, 1, task, target, 5, hd, rgLo x, u, n, 0, [], none⟩) (by simp [rgPushGive, hB]; omega) hto htq hlen (fun _ => ⟨hr, ut, uh, wlx, wu, .inl ⟨rfl, .inl ⟨by simp, rfl, rfl⟩⟩⟩) (fun r h => by cases h)⟩
    · exact (rfPushG2Busy p at_ size task target hd t u n 0 x [] tk won w h uh hx wu hA hB).mono fun e w2 h => ⟨h.1, h.2.next (s := ⟨at_, size, 1, task, target, 5, hd, rgLo x, u, n, 0, [], some ⟨8, 0, []⟩⟩) (by simp [rgPushGive, hA, hB]) hto htq hlen (fun h => by cases h) (fun r h => by cases h; rfl)⟩
  · exact (rfPushG3 p at_ size task target hd t u n 0 x [] tk won w h uh hx wu).mono fun e w2 h => ⟨h.1, h.2.next (s := ⟨at_, size, 1, task, target, 4, hd, t, u, n, 0, [], none⟩) (by simp [rgPushGive]) hto htq hlen (fun _ => ⟨hr, ut, uh, wt, wu, .inl ⟨rfl, .inl ⟨by simp, rfl, rfl⟩⟩⟩) (fun r h => by cases h)⟩
  · exact (rfPushG4 p at_ size task target hd t u n 0 x [] tk won w h uh hx wu).mono fun e w2 h => ⟨h.1, h.2.next (s := ⟨at_, size, 1, task, target, 4, hd, t, u, n, 0, [], some ⟨0, 0, []⟩⟩) (by simp [rgPushGive]) hto htq hlen (fun h => by cases h) (fun r h => by cases h; rfl)⟩
  · cases won
    · exact (rfPushG5Lost p at_ size task target hd t u n 0 x [] tk w h uh hx wu).mono fun e w2 h => ⟨h.1, h.2.next (s := ⟨at_, size, 1, task, target, 2, x, t, u, n, 0, [], none⟩) (by simp [rgPushGive]) hto htq hlen (fun _ => ⟨hr, ut, hx, wt, wu, .inl ⟨rfl, .inl ⟨by simp, rfl, rfl⟩⟩⟩) (fun r h => by cases h)⟩
    · exact (rfPushG5Won p at_ size task target hd t u n 0 x [] tk w h uh hx wu).mono fun e w2 h => ⟨h.1, h.2.next (s := ⟨at_, size, 1, task, target, 6, hd, t, u, n, 0, [], none⟩) (by simp [rgPushGive]) hto htq hlen (fun _ => ⟨hr, ut, uh, wt, wu, .inl ⟨rfl, .inr ⟨rfl, rfl, by show (0 : Int) < size / 2; omega⟩⟩⟩) (fun r h => by cases h)⟩
  · by_cases hm : (took.length : Int) + 1 = size / 2
    · exact (rfPushG6Last p at_ size task target hd t u n x took tk won w h hto htq (by omega) hm hs2).mono fun e w2 h => ⟨h.1, h.2.next (s := ⟨at_, size, 1, task, target, 6, hd, t, u, n, (took.length : Int) + 1, took ++ [x], some ⟨4, 0, took ++ [x]⟩⟩) (by simp [rgPushGive, hm]) (by simp; omega) (fun h => by cases h)⟩
    · exact (rfPushG6 p at_ size task target hd t u n x took tk won w h hto htq (by omega) (by omega) hs2).mono fun e w2 h => ⟨h.1, h.2.next (s := ⟨at_, size, 1, task, target, 6, hd, t, u, n, (took.length : Int) + 1, took ++ [x], none⟩) (by simp [rgPushGive, hm]) (by simp; omega) (fun _ => ⟨hr, ut, uh, wt, wu, .inl ⟨rfl, .inr ⟨rfl, by simp, by show (took.length : Int) + 1 < size / 2; omega⟩⟩⟩)⟩

theorem rfPop_next (p : Nat) (s : RgS) (tk : Value) (x : Int) (won : Bool) (w : World) (h : Row w p 97 (rfCells s tk false 0 0 (.slice none 0 0))) (hto : w.ownsRow 0 24 1 tk s.took.length (ints .u64 s.took)) (htq : ∀ g, tk.ownBlock = some g → g ≠ p) (hlen : s.took.length ≤ 257) (ho : s.over = none) (hk : s.kind = 2) (hok : rgOk s) (hx : M.U x) :
    Calls Tryz.prog 94 #[.pointer (some ⟨p, 0, none⟩), .int .u64 x, .bool won] w fun e w' => e = .returned (.tuple #[]) ∧ RfNext p w (rgPopGive s x won) tk w' := by
  obtain ⟨at_, size, kind, task, target, step, hd, t, u, n, k, took, over⟩ := s
  simp only at ho hk hto hlen
  subst ho hk
  unfold rgOk at hok
  simp only at hok
  obtain ⟨hr, ut, uh, wt, wu, hc⟩ := hok
  have hs2 : 2 ≤ size ∧ size ≤ 256 := by have := hr.1; omega
  have wlx : W32 (rgLo x) := rgLo_range x
  have wlh : W32 (rgLo hd) := rgLo_range hd
  rcases hc with ⟨hc, -⟩ | ⟨-, hst, rfl⟩ | ⟨hc, -⟩
  · exact absurd hc (by decide)
  rotate_left
  · exact absurd hc (by decide)
  have hp := rfPopGive p ⟨at_, size, 2, task, target, step, hd, t, u, n, k, [], none⟩ tk x won w h rfl hst uh hx
  rcases hst with rfl | rfl | rfl | rfl
  · exact (hp).mono fun e w2 h => ⟨h.1, h.2.next (s := ⟨at_, size, 2, task, target, 2, x, t, u, n, k, [], none⟩) (by simp [rgPopGive]) hto htq hlen (fun _ => ⟨hr, ut, hx, wt, wu, .inr (.inl ⟨rfl, by simp, rfl⟩)⟩) (fun r h => by cases h)⟩
  · by_cases hA : M.aheadI (rgLo x) (rgLo hd) < 1
    · exact (hp).mono fun e w2 h => ⟨h.1, h.2.next (s := ⟨at_, size, 2, task, target, 3, hd, t, u, n, k, [], some ⟨5, 0, []⟩⟩) (by simp [rgPopGive, hA]) hto htq hlen (fun h => by cases h) (fun r h => by cases h; rfl)⟩
    · exact (hp).mono fun e w2 h => ⟨h.1, h.2.next (s := ⟨at_, size, 2, task, target, 3, hd, t, u, n, k, [], none⟩) (by simp [rgPopGive, hA]) hto htq hlen (fun _ => ⟨hr, ut, uh, wt, wu, .inr (.inl ⟨rfl, by simp, rfl⟩)⟩) (fun r h => by cases h)⟩
  · cases won
    · exact (hp).mono fun e w2 h => ⟨h.1, h.2.next (s := ⟨at_, size, 2, task, target, 2, x, t, u, n, k, [], none⟩) (by simp [rgPopGive]) hto htq hlen (fun _ => ⟨hr, ut, hx, wt, wu, .inr (.inl ⟨rfl, by simp, rfl⟩)⟩) (fun r h => by cases h)⟩
    · exact (hp).mono fun e w2 h => ⟨h.1, h.2.next (s := ⟨at_, size, 2, task, target, 4, hd, t, u, n, k, [], none⟩) (by simp [rgPopGive]) hto htq hlen (fun _ => ⟨hr, ut, uh, wt, wu, .inr (.inl ⟨rfl, by simp, rfl⟩)⟩) (fun r h => by cases h)⟩
  · exact (hp).mono fun e w2 h => ⟨h.1, h.2.next (s := ⟨at_, size, 2, task, target, 4, hd, t, u, n, k, [], some ⟨0, x, []⟩⟩) (by simp [rgPopGive]) hto htq hlen (fun h => by cases h) (fun r h => by cases h; rfl)⟩

theorem rfSteal_next (p : Nat) (s : RgS) (tk : Value) (x : Int) (won : Bool) (w : World) (h : Row w p 97 (rfCells s tk false 0 0 (.slice none 0 0))) (hto : w.ownsRow 0 24 1 tk s.took.length (ints .u64 s.took)) (htq : ∀ g, tk.ownBlock = some g → g ≠ p) (hlen : s.took.length ≤ 257) (ho : s.over = none) (hk : s.kind = 3) (hok : rgOk s) (hx : M.U x) :
    Calls Tryz.prog 95 #[.pointer (some ⟨p, 0, none⟩), .int .u64 x, .bool won] w fun e w' => e = .returned (.tuple #[]) ∧ RfNext p w (rgStealGive s x won) tk w' := by
  obtain ⟨at_, size, kind, task, target, step, hd, t, u, n, k, took, over⟩ := s
  simp only at ho hk hto hlen
  subst ho hk
  unfold rgOk at hok
  simp only at hok
  obtain ⟨hr, ut, uh, wt, wu, hc⟩ := hok
  have hs2 : 2 ≤ size ∧ size ≤ 256 := by have := hr.1; omega
  have wlx : W32 (rgLo x) := rgLo_range x
  have wlh : W32 (rgLo hd) := rgLo_range hd
  rcases hc with ⟨hc, -⟩ | ⟨hc, -⟩ | ⟨-, htr, hc⟩
  · exact absurd hc (by decide)
  · exact absurd hc (by decide)
  rcases hc with ⟨rfl | rfl | rfl | rfl, rfl, rfl⟩ | ⟨hn1, hn2, ⟨rfl, rfl, rfl⟩ | ⟨rfl, rfl, hkk⟩ | ⟨rfl, hkl, hkn, hk0⟩ | ⟨rfl | rfl | ⟨rfl, hn9⟩, hnl⟩⟩
  · exact (rfStealG1 p at_ size task target hd t u n 0 x [] tk won w h uh hx wu).mono fun e w2 h => ⟨h.1, h.2.next (s := ⟨at_, size, 3, task, target, 2, hd, t, rgLo x, n, 0, [], none⟩) (by simp [rgStealGive]) hto htq hlen (fun _ => ⟨hr, ut, uh, wt, wlx, .inr (.inr ⟨rfl, htr, .inl ⟨by simp, rfl, rfl⟩⟩)⟩) (fun r h => by cases h)⟩
  · by_cases hA : size / 2 < M.aheadI u (rgHi x)
    · exact (rfStealG2No p at_ size task target hd t u n 0 x [] tk won w h uh hx wu hs2 hA).mono fun e w2 h => ⟨h.1, h.2.next (s := ⟨at_, size, 3, task, target, 3, hd, t, u, n, 0, [], some ⟨4, 0, []⟩⟩) (by simp [rgStealGive, hA]) hto htq hlen (fun h => by cases h) (fun r h => by cases h; rfl)⟩
    · exact (rfStealG2 p at_ size task target hd t u n 0 x [] tk won w h uh hx wu hs2 hA).mono fun e w2 h => ⟨h.1, h.2.next (s := ⟨at_, size, 3, task, target, 3, hd, t, u, n, 0, [], none⟩) (by simp [rgStealGive, hA]) hto htq hlen (fun _ => ⟨hr, ut, uh, wt, wu, .inr (.inr ⟨rfl, htr, .inl ⟨by simp, rfl, rfl⟩⟩)⟩) (fun r h => by cases h)⟩
  · exact (rfStealG3 p at_ size task target hd t u n 0 x [] tk won w h uh hx wu).mono fun e w2 h => ⟨h.1, h.2.next (s := ⟨at_, size, 3, task, target, 4, x, t, u, n, 0, [], none⟩) (by simp [rgStealGive]) hto htq hlen (fun _ => ⟨hr, ut, hx, wt, wu, .inr (.inr ⟨rfl, htr, .inl ⟨by simp, rfl, rfl⟩⟩)⟩) (fun r h => by cases h)⟩
  · by_cases hB : rgHi hd = rgLo hd
    rotate_left
    · exact (rfStealG4Busy p at_ size task target hd t u n 0 x [] tk won w h uh hx wu hB).mono fun e w2 h => ⟨h.1, h.2.next (s := ⟨at_, size, 3, task, target, 5, hd, t, u, rgCount (M.aheadI (rgLo x) (rgLo hd)), 0, [], some ⟨8, 0, []⟩⟩) (by simp [rgStealGive, hB]) hto htq hlen (fun h => by cases h) (fun r h => by cases h; rfl)⟩
    by_cases hC : size < M.aheadI (rgLo x) (rgLo hd)
    · exact (rfStealG4Again p at_ size task target hd t u n 0 x [] tk won w h uh hx wu hB hC).mono fun e w2 h => ⟨h.1, h.2.next (s := ⟨at_, size, 3, task, target, 3, hd, t, u, rgCount (M.aheadI (rgLo x) (rgLo hd)), 0, [], none⟩) (by simp [rgStealGive, hB, hC]) hto htq hlen (fun _ => ⟨hr, ut, uh, wt, wu, .inr (.inr ⟨rfl, htr, .inl ⟨by simp, rfl, rfl⟩⟩)⟩) (fun r h => by cases h)⟩
    by_cases hD : M.aheadI (rgLo x) (rgLo hd) < 1
    · exact (rfStealG4None p at_ size task target hd t u n 0 x [] tk won w h uh hx wu hs2 hB hD).mono fun e w2 h => ⟨h.1, h.2.next (s := ⟨at_, size, 3, task, target, 5, hd, t, u, rgCount (M.aheadI (rgLo x) (rgLo hd)), 0, [], some ⟨5, 0, []⟩⟩) (by simp [rgStealGive, hB, hC, hD]) hto htq hlen (fun h => by cases h) (fun r h => by cases h; rfl)⟩
    have hcs := rgCount_small (d := M.aheadI (rgLo x) (rgLo hd)) (by omega)
    have hc1 : 1 ≤ rgCount (M.aheadI (rgLo x) (rgLo hd)) := by omega
    have hc2 : rgCount (M.aheadI (rgLo x) (rgLo hd)) ≤ 256 := by omega
    · exact (rfStealG4 p at_ size task target hd t u n 0 x [] tk won w h uh hx wu hB hC hD).mono fun e w2 h => ⟨h.1, h.2.next (s := ⟨at_, size, 3, task, target, 5, hd, t, u, rgCount (M.aheadI (rgLo x) (rgLo hd)), 0, [], none⟩) (by simp [rgStealGive, hB, hC, hD]) hto htq hlen (fun _ => ⟨hr, ut, uh, wt, wu, .inr (.inr ⟨rfl, htr, .inr ⟨hc1, hc2, .inl ⟨rfl, rfl, rfl⟩⟩⟩)⟩) (fun r h => by cases h)⟩
  · cases won
    · exact (rfStealG5Lost p at_ size task target hd t u n 0 x [] tk w h uh hx wu).mono fun e w2 h => ⟨h.1, h.2.next (s := ⟨at_, size, 3, task, target, 4, x, t, u, n, 0, [], none⟩) (by simp [rgStealGive]) hto htq hlen (fun _ => ⟨hr, ut, hx, wt, wu, .inr (.inr ⟨rfl, htr, .inl ⟨by simp, rfl, rfl⟩⟩)⟩) (fun r h => by cases h)⟩
    · exact (rfStealG5Won p at_ size task target hd t u n 0 x [] tk w h uh hx wu).mono fun e w2 h => ⟨h.1, h.2.next (s := ⟨at_, size, 3, task, target, 6, hd, rgLo hd, u, n, 0, [], none⟩) (by simp [rgStealGive]) hto htq hlen (fun _ => ⟨hr, ut, uh, wlh, wu, .inr (.inr ⟨rfl, htr, .inr ⟨hn1, hn2, .inr (.inl ⟨rfl, rfl, by show (0 : Int) < n; omega⟩)⟩⟩)⟩) (fun r h => by cases h)⟩
  · by_cases hm : (took.length : Int) = n - 1
    · exact (rfStealG6Last p at_ size task target hd t u n x took tk won w h hto htq (by omega) hm hn2).mono fun e w2 h => ⟨h.1, h.2.next (s := ⟨at_, size, 3, task, target, 7, hd, t, u, n, (took.length : Int), took ++ [x], none⟩) (by simp [rgStealGive, hm]) (by simp; omega) (fun _ => ⟨hr, ut, uh, wt, wu, .inr (.inr ⟨rfl, htr, .inr ⟨hn1, hn2, .inr (.inr (.inr ⟨by simp, by simp; omega⟩))⟩⟩)⟩)⟩
    · exact (rfStealG6 p at_ size task target hd t u n x took tk won w h hto htq (by omega) (by omega) hn2).mono fun e w2 h => ⟨h.1, h.2.next (s := ⟨at_, size, 3, task, target, 60, hd, t, u, n, (took.length : Int), took ++ [x], none⟩) (by simp [rgStealGive, hm]) (by simp; omega) (fun _ => ⟨hr, ut, uh, wt, wu, .inr (.inr ⟨rfl, htr, .inr ⟨hn1, hn2, .inr (.inr (.inl ⟨rfl, by simp, by show (took.length : Int) + 1 < n; omega, by show (0 : Int) ≤ (took.length : Int); omega⟩))⟩⟩)⟩)⟩
  · exact (rfStealG60 p at_ size task target hd t u n k x took tk won w h uh hx wu ⟨hk0, by omega⟩).mono fun e w2 h => ⟨h.1, h.2.next (s := ⟨at_, size, 3, task, target, 6, hd, t, u, n, k + 1, took, none⟩) (by simp [rgStealGive]) hto htq hlen (fun _ => ⟨hr, ut, uh, wt, wu, .inr (.inr ⟨rfl, htr, .inr ⟨hn1, hn2, .inr (.inl ⟨rfl, hkl, hkn⟩)⟩⟩)⟩) (fun r h => by cases h)⟩
  · exact (rfStealG7 p at_ size task target hd t u n k x took tk won w h uh hx wu).mono fun e w2 h => ⟨h.1, h.2.next (s := ⟨at_, size, 3, task, target, 8, x, t, u, n, k, took, none⟩) (by simp [rgStealGive]) hto htq hlen (fun _ => ⟨hr, ut, hx, wt, wu, .inr (.inr ⟨rfl, htr, .inr ⟨hn1, hn2, .inr (.inr (.inr ⟨by simp, hnl⟩))⟩⟩)⟩) (fun r h => by cases h)⟩
  · cases won
    · exact (rfStealG8Lost p at_ size task target hd t u n k x took tk w h uh hx wu).mono fun e w2 h => ⟨h.1, h.2.next (s := ⟨at_, size, 3, task, target, 8, x, t, u, n, k, took, none⟩) (by simp [rgStealGive]) hto htq hlen (fun _ => ⟨hr, ut, hx, wt, wu, .inr (.inr ⟨rfl, htr, .inr ⟨hn1, hn2, .inr (.inr (.inr ⟨by simp, hnl⟩))⟩⟩)⟩) (fun r h => by cases h)⟩
    by_cases hn : n = 1
    · subst hn
      obtain ⟨g, cap, rfl, hob, hgl, hcell⟩ := rf_cells hto (by omega)
      exact (rfStealG8One p g _ cap at_ size task target hd t u k x took w h (by omega) (htq g hob) hgl (hcell 0 (by omega))).mono fun e w2 h => ⟨h.1, h.2.next (s := ⟨at_, size, 3, task, target, 9, hd, t, u, 1, k, took, some ⟨0, took.getD 0 0, []⟩⟩) (by simp [rgStealGive, rgLast]) hto htq hlen (fun h => by cases h) (fun r h => by cases h; rfl)⟩
    · exact (rfStealG8More p at_ size task target hd t u n k x took tk w h uh hx wu hn).mono fun e w2 h => ⟨h.1, h.2.next (s := ⟨at_, size, 3, task, target, 9, hd, t, u, n, k, took, none⟩) (by simp [rgStealGive, hn]) hto htq hlen (fun _ => ⟨hr, ut, uh, wt, wu, .inr (.inr ⟨rfl, htr, .inr ⟨hn1, hn2, .inr (.inr (.inr ⟨.inr (.inr ⟨rfl, by show 1 < n; omega⟩), hnl⟩))⟩⟩)⟩) (fun r h => by cases h)⟩
  · obtain ⟨g, cap, rfl, hob, hgl, hcell⟩ := rf_cells hto (by omega)
    exact (rfStealG9 p g _ cap (took.length - 1) at_ size task target hd t u n k x took won w h (by omega) (by omega) (by omega) (htq g hob) hgl (hcell _ (by omega))).mono fun e w2 h => ⟨h.1, h.2.next (s := ⟨at_, size, 3, task, target, 9, hd, t, u, n, k, took, some ⟨0, rgLast ⟨at_, size, 3, task, target, 9, hd, t, u, n, k, took, none⟩, []⟩⟩) (by simp [rgStealGive]) hto htq hlen (fun h => by cases h) (fun r h => by cases h; rfl)⟩
end Go.Proofs.YtekpfhlaohcgeaaGreat
