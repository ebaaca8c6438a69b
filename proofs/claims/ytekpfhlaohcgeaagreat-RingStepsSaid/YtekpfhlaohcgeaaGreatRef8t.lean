/-
  Contracts: what a document's frame of a ring does with what it loads from slots.
-/
import Derived.Test.YtekpfhlaohcgeaaGreatRef8g
namespace Go.Proofs.YtekpfhlaohcgeaaGreat
set_option maxRecDepth 100000
set_option linter.unusedSimpArgs false
set_option linter.unusedVariables false
open Go.ChangeShapes Go.WideShapes Go.ChangeAt Go.RowKit

/-- It has loaded one more slot. -/
def RfTook (q : Nat) (w : World) (s : RgS) (tk : Value) (w' : World) : Prop :=
  ∃ tk' dn c v l, Row w' q 97 (rfCells s tk' dn c v l) ∧ w'.ownsRow 0 24 1 tk' s.took.length (ints .u64 s.took) ∧ (∀ g, tk'.ownBlock = some g → (tk.ownBlock = some g ∨ w.heap.size ≤ g) ∧ g ≠ q) ∧ Keeps (q :: tk.ownBlock.toList) w w' ∧
    (s.over = none → dn = false ∧ c = 0 ∧ v = 0 ∧ l = .slice none 0 0) ∧ ∀ r, s.over = some r → dn = true ∧ c = r.code ∧ v = r.v ∧ r.l = s.took ∧ l = tk'
set_option maxHeartbeats 6400000 in
theorem rfStealG6 (q : Nat) (at_ size task target hd t u n x : Int) (took : List Int) (tk : Value) (won : Bool) (w : World) (h : Row w q 97 (rfCells ⟨at_, size, 3, task, target, 6, hd, t, u, n, (took.length : Int), took, none⟩ tk false 0 0 (.slice none 0 0))) (hto : w.ownsRow 0 24 1 tk took.length (ints .u64 took)) (htq : ∀ g, tk.ownBlock = some g → g ≠ q) (htl : took.length ≤ 1000) (hm : (took.length : Int) < n - 1) (hn : n ≤ 256) :
    Calls Tryz.prog 95 #[.pointer (some ⟨q, 0, none⟩), .int .u64 x, .bool won] w fun e w' => e = .returned (.tuple #[]) ∧ RfTook q w (rgStealGive ⟨at_, size, 3, task, target, 6, hd, t, u, n, (took.length : Int), took, none⟩ x won) tk w' := by
  have c1 := h.cell (j := 1) rfl
  have f1 := h.frozen 1
  have c5 := h.cell (j := 5) rfl
  have f5 := h.frozen 5
  have c9 := h.cell (j := 9) rfl
  have f9 := h.frozen 9
  have c10 := h.cell (j := 10) rfl
  have f10 := h.frozen 10
  have c11 := h.cell (j := 11) rfl
  have f11 := h.frozen 11
  simp only at c1 c5 c9 c10 c11
  have HR := Lib.hid h
  have HT := Lib.hid hto
  have hqno : q ∉ tk.ownBlock.toList := fun hm => htq q ((ownBlock_toList _ _).1 hm) rfl
  have dA : ((took.length : Int) == n - 1) = false := beq_eq_false_iff_ne.2 (by omega)
  have hwn : wrap64 (n - 1) = n - 1 := by unfold wrap64; omega
  have HG : Hid (rgStealGive ⟨at_, size, 3, task, target, 6, hd, t, u, n, (took.length : Int), took, none⟩ x won = ⟨at_, size, 3, task, target, 60, hd, t, u, n, (took.length : Int), took ++ [x], none⟩) := Lib.hid (by simp [rgStealGive]; omega)
  rw [HG.out]
  clear h hto
  go_enter Tryz.func95, Tryz.ntmps95
  go_wp2_with (at_builtin; refine append_fresh rfl _ _ 39 rfl 0 24 _ 1 8 Tryz.underlying39 elemWd _ _ _ rfl HT.out #[.int .u64 x] rfl rfl (by simp [Value.oneCell']) ?c2 ?c3 ?_)
  case c2 => omega
  case c3 => omega
  intro v' w9 own9 k9 f9 _
  obtain ⟨pv, cv, rfl⟩ := (Sl.of_owns own9).len
  have hr9 := HR.out.keeps k9 hqno
  have z11 := hr9.cell (j := 11) rfl
  have y11 := hr9.frozen 11
  obtain ⟨W, hW⟩ : ∃ W, w9.setCell ⟨q, 11, none⟩ (.slice pv (took.length + 1) cv) = W := ⟨_, rfl⟩
  have kW : Keeps [q] w9 W := by rw [← hW]; exact (Keeps.refl [q] w9).set (by simp) _ _
  have rW : Row W q 97 (rfCells ⟨at_, size, 3, task, target, 6, hd, t, u, n, (took.length : Int), took ++ [x], none⟩ (.slice pv (took.length + 1) cv) false 0 0 (.slice none 0 0)) := by rw [← hW]; exact hr9.set 11 _
  have hnew : ∀ g, (Value.slice pv (took.length + 1) cv).ownBlock = some g → (tk.ownBlock = some g ∨ w.heap.size ≤ g) ∧ g ≠ q := fun g hg => by
    rcases f9 g hg with h | h
    · exact ⟨.inl h, htq g h⟩
    · have := HR.out.lt; exact ⟨.inr h, by omega⟩
  have oW : W.ownsRow 0 24 1 (.slice pv (took.length + 1) cv) (took.length + 1) (ints .u64 (took ++ [x])) := by simpa [ints] using owns_keeps own9 kW (fun g hg => by simpa using (hnew g hg).2)
  have HRW := Lib.hid rW
  have HOW := Lib.hid oW
  have HNew := Lib.hid hnew
  have HK : Hid (Keeps (q :: tk.ownBlock.toList) w W) := Lib.hid ((k9.mono (fun k hk _ => List.mem_cons_of_mem _ hk)).trans (kW.mono (by simp)))
  have d1 := rW.cell (j := 1) rfl
  have g1 := rW.frozen 1
  have d5 := rW.cell (j := 5) rfl
  have g5 := rW.frozen 5
  have d9 := rW.cell (j := 9) rfl
  have g9 := rW.frozen 9
  have d10 := rW.cell (j := 10) rfl
  have g10 := rW.frozen 10
  have d11 := rW.cell (j := 11) rfl
  have g11 := rW.frozen 11
  have d12 := rW.cell (j := 12) rfl
  have g12 := rW.frozen 12
  have d13 := rW.cell (j := 13) rfl
  have g13 := rW.frozen 13
  have d14 := rW.cell (j := 14) rfl
  have g14 := rW.frozen 14
  have d15 := rW.cell (j := 15) rfl
  have g15 := rW.frozen 15
  simp only at d1 d5 d9 d10 d11 d12 d13 d14 d15
  clear own9 k9 f9 hr9 kW rW oW hnew
  obtain ⟨V, hV⟩ : ∃ V, W.setCell ⟨q, 5, none⟩ (.int .i64 60) = V := ⟨_, rfl⟩
  have kV : Keeps [q] W V := by rw [← hV]; exact (Keeps.refl [q] W).set (by simp) _ _
  have rV : Row V q 97 (rfCells ⟨at_, size, 3, task, target, 60, hd, t, u, n, (took.length : Int), took ++ [x], none⟩ (.slice pv (took.length + 1) cv) false 0 0 (.slice none 0 0)) := by rw [← hV]; exact HRW.out.set 5 _
  have e1 := rV.cell (j := 1) rfl
  have e5 := rV.cell (j := 5) rfl
  have e9 := rV.cell (j := 9) rfl
  have e10 := rV.cell (j := 10) rfl
  simp only at e1 e5 e9 e10
  have HRV := Lib.hid rV
  have HKV := Lib.hid kV
  clear rV kV
  go_wp2_with fail
  clear hW hV
  go_quiet (fail)
  generalize hD : World.drewN _ _ = V2
  have kD : Keeps [] V V2 := by rw [← hD]; exact (Keeps.refl _ _).drewN
  clear hD
  have rD := HRV.out.keeps kD (by simp)
  have y1 := rD.cell (j := 1) rfl
  have x1 := rD.frozen 1
  have y5 := rD.cell (j := 5) rfl
  have x5 := rD.frozen 5
  have y9 := rD.cell (j := 9) rfl
  have x9 := rD.frozen 9
  have y10 := rD.cell (j := 10) rfl
  have x10 := rD.frozen 10
  have y11 := rD.cell (j := 11) rfl
  have x11 := rD.frozen 11
  simp only at y1 y5 y9 y10 y11
  have HF : Hid (Row (V2) q 97 (rfCells ⟨at_, size, 3, task, target, 60, hd, t, u, n, (took.length : Int), took ++ [x], none⟩ (.slice pv (took.length + 1) cv) false 0 0 (.slice none 0 0))) := Lib.hid (rD)
  have HKF : Hid (Keeps [q] W (V2)) := Lib.hid ((HKV.out.trans kD.nil))
  clear rD kD
  go_wp2
  first | go_end0 | refine bodyPost_ret (results_none rfl _ _ _) rfl ?_
  refine ⟨rfl, .slice pv (took.length + 1) cv, false, 0, 0, .slice none 0 0, HF.out, ?_, HNew.out, HK.out.trans (HKF.out.mono (by simp)), fun _ => ⟨rfl, rfl, rfl, rfl⟩, fun r h => by cases h⟩
  rw [List.length_append, List.length_singleton]
  exact owns_keeps HOW.out HKF.out (fun g hg => by simpa using (HNew.out g hg).2)

set_option maxHeartbeats 6400000 in
theorem rfStealG6Last (q : Nat) (at_ size task target hd t u n x : Int) (took : List Int) (tk : Value) (won : Bool) (w : World) (h : Row w q 97 (rfCells ⟨at_, size, 3, task, target, 6, hd, t, u, n, (took.length : Int), took, none⟩ tk false 0 0 (.slice none 0 0))) (hto : w.ownsRow 0 24 1 tk took.length (ints .u64 took)) (htq : ∀ g, tk.ownBlock = some g → g ≠ q) (htl : took.length ≤ 1000) (hm : (took.length : Int) = n - 1) (hn : n ≤ 256) :
    Calls Tryz.prog 95 #[.pointer (some ⟨q, 0, none⟩), .int .u64 x, .bool won] w fun e w' => e = .returned (.tuple #[]) ∧ RfTook q w (rgStealGive ⟨at_, size, 3, task, target, 6, hd, t, u, n, (took.length : Int), took, none⟩ x won) tk w' := by
  have c1 := h.cell (j := 1) rfl
  have f1 := h.frozen 1
  have c5 := h.cell (j := 5) rfl
  have f5 := h.frozen 5
  have c9 := h.cell (j := 9) rfl
  have f9 := h.frozen 9
  have c10 := h.cell (j := 10) rfl
  have f10 := h.frozen 10
  have c11 := h.cell (j := 11) rfl
  have f11 := h.frozen 11
  simp only at c1 c5 c9 c10 c11
  have HR := Lib.hid h
  have HT := Lib.hid hto
  have hqno : q ∉ tk.ownBlock.toList := fun hm => htq q ((ownBlock_toList _ _).1 hm) rfl
  have dA : ((took.length : Int) == n - 1) = true := beq_iff_eq.2 hm
  have hwn : wrap64 (n - 1) = n - 1 := by unfold wrap64; omega
  have HG : Hid (rgStealGive ⟨at_, size, 3, task, target, 6, hd, t, u, n, (took.length : Int), took, none⟩ x won = ⟨at_, size, 3, task, target, 7, hd, t, u, n, (took.length : Int), took ++ [x], none⟩) := Lib.hid (by simp [rgStealGive, hm])
  rw [HG.out]
  clear hm
  clear h hto
  go_enter Tryz.func95, Tryz.ntmps95
  go_wp2_with (at_builtin; refine append_fresh rfl _ _ 39 rfl 0 24 _ 1 8 Tryz.underlying39 elemWd _ _ _ rfl HT.out #[.int .u64 x] rfl rfl (by simp [Value.oneCell']) ?c2 ?c3 ?_)
  case c2 => omega
  case c3 => omega
  intro v' w9 own9 k9 f9 _
  obtain ⟨pv, cv, rfl⟩ := (Sl.of_owns own9).len
  have hr9 := HR.out.keeps k9 hqno
  have z11 := hr9.cell (j := 11) rfl
  have y11 := hr9.frozen 11
  obtain ⟨W, hW⟩ : ∃ W, w9.setCell ⟨q, 11, none⟩ (.slice pv (took.length + 1) cv) = W := ⟨_, rfl⟩
  have kW : Keeps [q] w9 W := by rw [← hW]; exact (Keeps.refl [q] w9).set (by simp) _ _
  have rW : Row W q 97 (rfCells ⟨at_, size, 3, task, target, 6, hd, t, u, n, (took.length : Int), took ++ [x], none⟩ (.slice pv (took.length + 1) cv) false 0 0 (.slice none 0 0)) := by rw [← hW]; exact hr9.set 11 _
  have hnew : ∀ g, (Value.slice pv (took.length + 1) cv).ownBlock = some g → (tk.ownBlock = some g ∨ w.heap.size ≤ g) ∧ g ≠ q := fun g hg => by
    rcases f9 g hg with h | h
    · exact ⟨.inl h, htq g h⟩
    · have := HR.out.lt; exact ⟨.inr h, by omega⟩
  have oW : W.ownsRow 0 24 1 (.slice pv (took.length + 1) cv) (took.length + 1) (ints .u64 (took ++ [x])) := by simpa [ints] using owns_keeps own9 kW (fun g hg => by simpa using (hnew g hg).2)
  have HRW := Lib.hid rW
  have HOW := Lib.hid oW
  have HNew := Lib.hid hnew
  have HK : Hid (Keeps (q :: tk.ownBlock.toList) w W) := Lib.hid ((k9.mono (fun k hk _ => List.mem_cons_of_mem _ hk)).trans (kW.mono (by simp)))
  have d1 := rW.cell (j := 1) rfl
  have g1 := rW.frozen 1
  have d5 := rW.cell (j := 5) rfl
  have g5 := rW.frozen 5
  have d9 := rW.cell (j := 9) rfl
  have g9 := rW.frozen 9
  have d10 := rW.cell (j := 10) rfl
  have g10 := rW.frozen 10
  have d11 := rW.cell (j := 11) rfl
  have g11 := rW.frozen 11
  have d12 := rW.cell (j := 12) rfl
  have g12 := rW.frozen 12
  have d13 := rW.cell (j := 13) rfl
  have g13 := rW.frozen 13
  have d14 := rW.cell (j := 14) rfl
  have g14 := rW.frozen 14
  have d15 := rW.cell (j := 15) rfl
  have g15 := rW.frozen 15
  simp only at d1 d5 d9 d10 d11 d12 d13 d14 d15
  clear own9 k9 f9 hr9 kW rW oW hnew
  obtain ⟨V, hV⟩ : ∃ V, W.setCell ⟨q, 5, none⟩ (.int .i64 60) = V := ⟨_, rfl⟩
  have kV : Keeps [q] W V := by rw [← hV]; exact (Keeps.refl [q] W).set (by simp) _ _
  have rV : Row V q 97 (rfCells ⟨at_, size, 3, task, target, 60, hd, t, u, n, (took.length : Int), took ++ [x], none⟩ (.slice pv (took.length + 1) cv) false 0 0 (.slice none 0 0)) := by rw [← hV]; exact HRW.out.set 5 _
  have e1 := rV.cell (j := 1) rfl
  have e5 := rV.cell (j := 5) rfl
  have e9 := rV.cell (j := 9) rfl
  have e10 := rV.cell (j := 10) rfl
  simp only at e1 e5 e9 e10
  have HRV := Lib.hid rV
  have HKV := Lib.hid kV
  clear rV kV
  go_wp2_with fail
  clear hW hV
  go_quiet (fail)
  generalize hD : World.drewN _ _ = V2
  have kD : Keeps [] V V2 := by rw [← hD]; exact (Keeps.refl _ _).drewN
  clear hD
  have rD := HRV.out.keeps kD (by simp)
  have y1 := rD.cell (j := 1) rfl
  have x1 := rD.frozen 1
  have y5 := rD.cell (j := 5) rfl
  have x5 := rD.frozen 5
  have y9 := rD.cell (j := 9) rfl
  have x9 := rD.frozen 9
  have y10 := rD.cell (j := 10) rfl
  have x10 := rD.frozen 10
  have y11 := rD.cell (j := 11) rfl
  have x11 := rD.frozen 11
  simp only at y1 y5 y9 y10 y11
  have HF : Hid (Row ((V2).setCell ⟨q, 5, none⟩ (.int .i64 7)) q 97 (rfCells ⟨at_, size, 3, task, target, 7, hd, t, u, n, (took.length : Int), took ++ [x], none⟩ (.slice pv (took.length + 1) cv) false 0 0 (.slice none 0 0))) := Lib.hid ((rD).set 5 _)
  have HKF : Hid (Keeps [q] W ((V2).setCell ⟨q, 5, none⟩ (.int .i64 7))) := Lib.hid (((HKV.out.trans kD.nil)).set (by simp) _ _)
  clear rD kD
  go_wp2
  first | go_end0 | refine bodyPost_ret (results_none rfl _ _ _) rfl ?_
  refine ⟨rfl, .slice pv (took.length + 1) cv, false, 0, 0, .slice none 0 0, HF.out, ?_, HNew.out, HK.out.trans (HKF.out.mono (by simp)), fun _ => ⟨rfl, rfl, rfl, rfl⟩, fun r h => by cases h⟩
  rw [List.length_append, List.length_singleton]
  exact owns_keeps HOW.out HKF.out (fun g hg => by simpa using (HNew.out g hg).2)

set_option maxHeartbeats 6400000 in
theorem rfPushG6 (q : Nat) (at_ size task target hd t u n x : Int) (took : List Int) (tk : Value) (won : Bool) (w : World) (h : Row w q 97 (rfCells ⟨at_, size, 1, task, target, 6, hd, t, u, n, (took.length : Int), took, none⟩ tk false 0 0 (.slice none 0 0))) (hto : w.ownsRow 0 24 1 tk took.length (ints .u64 took)) (htq : ∀ g, tk.ownBlock = some g → g ≠ q) (htl : took.length ≤ 1000) (hm : (took.length : Int) + 1 < size / 2) (hs2 : 2 ≤ size ∧ size ≤ 256) :
    Calls Tryz.prog 93 #[.pointer (some ⟨q, 0, none⟩), .int .u64 x, .bool won] w fun e w' => e = .returned (.tuple #[]) ∧ RfTook q w (rgPushGive ⟨at_, size, 1, task, target, 6, hd, t, u, n, (took.length : Int), took, none⟩ x won) tk w' := by
  have c1 := h.cell (j := 1) rfl
  have f1 := h.frozen 1
  have c5 := h.cell (j := 5) rfl
  have f5 := h.frozen 5
  have c9 := h.cell (j := 9) rfl
  have f9 := h.frozen 9
  have c10 := h.cell (j := 10) rfl
  have f10 := h.frozen 10
  have c11 := h.cell (j := 11) rfl
  have f11 := h.frozen 11
  simp only at c1 c5 c9 c10 c11
  have HR := Lib.hid h
  have HT := Lib.hid hto
  have hqno : q ∉ tk.ownBlock.toList := fun hm => htq q ((ownBlock_toList _ _).1 hm) rfl
  have dA : ((took.length : Int) + 1 == size / 2) = false := beq_eq_false_iff_ne.2 (by omega)
  have hhalf : wrap64 (size.tdiv 2) = size / 2 := by rw [Int.tdiv_eq_ediv_of_nonneg (by omega)]; unfold wrap64; omega
  have hwk : wrap64 ((took.length : Int) + 1) = (took.length : Int) + 1 := by unfold wrap64; omega
  have HG : Hid (rgPushGive ⟨at_, size, 1, task, target, 6, hd, t, u, n, (took.length : Int), took, none⟩ x won = ⟨at_, size, 1, task, target, 6, hd, t, u, n, (took.length : Int) + 1, took ++ [x], none⟩) := Lib.hid (by simp [rgPushGive]; omega)
  rw [HG.out]
  clear h hto
  go_enter Tryz.func93, Tryz.ntmps93
  go_wp2_with (at_builtin; refine append_fresh rfl _ _ 39 rfl 0 24 _ 1 8 Tryz.underlying39 elemWd _ _ _ rfl HT.out #[.int .u64 x] rfl rfl (by simp [Value.oneCell']) ?c2 ?c3 ?_)
  case c2 => omega
  case c3 => omega
  intro v' w9 own9 k9 f9 _
  obtain ⟨pv, cv, rfl⟩ := (Sl.of_owns own9).len
  have hr9 := HR.out.keeps k9 hqno
  have z11 := hr9.cell (j := 11) rfl
  have y11 := hr9.frozen 11
  obtain ⟨W, hW⟩ : ∃ W, w9.setCell ⟨q, 11, none⟩ (.slice pv (took.length + 1) cv) = W := ⟨_, rfl⟩
  have kW : Keeps [q] w9 W := by rw [← hW]; exact (Keeps.refl [q] w9).set (by simp) _ _
  have rW : Row W q 97 (rfCells ⟨at_, size, 1, task, target, 6, hd, t, u, n, (took.length : Int), took ++ [x], none⟩ (.slice pv (took.length + 1) cv) false 0 0 (.slice none 0 0)) := by rw [← hW]; exact hr9.set 11 _
  have hnew : ∀ g, (Value.slice pv (took.length + 1) cv).ownBlock = some g → (tk.ownBlock = some g ∨ w.heap.size ≤ g) ∧ g ≠ q := fun g hg => by
    rcases f9 g hg with h | h
    · exact ⟨.inl h, htq g h⟩
    · have := HR.out.lt; exact ⟨.inr h, by omega⟩
  have oW : W.ownsRow 0 24 1 (.slice pv (took.length + 1) cv) (took.length + 1) (ints .u64 (took ++ [x])) := by simpa [ints] using owns_keeps own9 kW (fun g hg => by simpa using (hnew g hg).2)
  have HRW := Lib.hid rW
  have HOW := Lib.hid oW
  have HNew := Lib.hid hnew
  have HK : Hid (Keeps (q :: tk.ownBlock.toList) w W) := Lib.hid ((k9.mono (fun k hk _ => List.mem_cons_of_mem _ hk)).trans (kW.mono (by simp)))
  have d1 := rW.cell (j := 1) rfl
  have g1 := rW.frozen 1
  have d5 := rW.cell (j := 5) rfl
  have g5 := rW.frozen 5
  have d9 := rW.cell (j := 9) rfl
  have g9 := rW.frozen 9
  have d10 := rW.cell (j := 10) rfl
  have g10 := rW.frozen 10
  have d11 := rW.cell (j := 11) rfl
  have g11 := rW.frozen 11
  have d12 := rW.cell (j := 12) rfl
  have g12 := rW.frozen 12
  have d13 := rW.cell (j := 13) rfl
  have g13 := rW.frozen 13
  have d14 := rW.cell (j := 14) rfl
  have g14 := rW.frozen 14
  have d15 := rW.cell (j := 15) rfl
  have g15 := rW.frozen 15
  simp only at d1 d5 d9 d10 d11 d12 d13 d14 d15
  clear own9 k9 f9 hr9 kW rW oW hnew
  obtain ⟨V, hV⟩ : ∃ V, W.setCell ⟨q, 10, none⟩ (.int .i64 ((took.length : Int) + 1)) = V := ⟨_, rfl⟩
  have kV : Keeps [q] W V := by rw [← hV]; exact (Keeps.refl [q] W).set (by simp) _ _
  have rV : Row V q 97 (rfCells ⟨at_, size, 1, task, target, 6, hd, t, u, n, ((took.length : Int) + 1), took ++ [x], none⟩ (.slice pv (took.length + 1) cv) false 0 0 (.slice none 0 0)) := by rw [← hV]; exact HRW.out.set 10 _
  have e1 := rV.cell (j := 1) rfl
  have e5 := rV.cell (j := 5) rfl
  have e9 := rV.cell (j := 9) rfl
  have e10 := rV.cell (j := 10) rfl
  simp only at e1 e5 e9 e10
  have HRV := Lib.hid rV
  have HKV := Lib.hid kV
  clear rV kV
  go_wp2_with fail
  clear hW hV
  go_quiet (fail)
  generalize hD : World.drewN _ _ = V2
  have kD : Keeps [] V V2 := by rw [← hD]; exact (Keeps.refl _ _).drewN
  clear hD
  have rD := HRV.out.keeps kD (by simp)
  have y1 := rD.cell (j := 1) rfl
  have x1 := rD.frozen 1
  have y5 := rD.cell (j := 5) rfl
  have x5 := rD.frozen 5
  have y9 := rD.cell (j := 9) rfl
  have x9 := rD.frozen 9
  have y10 := rD.cell (j := 10) rfl
  have x10 := rD.frozen 10
  have y11 := rD.cell (j := 11) rfl
  have x11 := rD.frozen 11
  simp only at y1 y5 y9 y10 y11
  have HF : Hid (Row (V2) q 97 (rfCells ⟨at_, size, 1, task, target, 6, hd, t, u, n, ((took.length : Int) + 1), took ++ [x], none⟩ (.slice pv (took.length + 1) cv) false 0 0 (.slice none 0 0))) := Lib.hid (rD)
  have HKF : Hid (Keeps [q] W (V2)) := Lib.hid ((HKV.out.trans kD.nil))
  clear rD kD
  go_wp2
  first | go_end0 | refine bodyPost_ret (results_none rfl _ _ _) rfl ?_
  refine ⟨rfl, .slice pv (took.length + 1) cv, false, 0, 0, .slice none 0 0, HF.out, ?_, HNew.out, HK.out.trans (HKF.out.mono (by simp)), fun _ => ⟨rfl, rfl, rfl, rfl⟩, fun r h => by cases h⟩
  rw [List.length_append, List.length_singleton]
  exact owns_keeps HOW.out HKF.out (fun g hg => by simpa using (HNew.out g hg).2)

set_option maxHeartbeats 6400000 in
theorem rfPushG6Last (q : Nat) (at_ size task target hd t u n x : Int) (took : List Int) (tk : Value) (won : Bool) (w : World) (h : Row w q 97 (rfCells ⟨at_, size, 1, task, target, 6, hd, t, u, n, (took.length : Int), took, none⟩ tk false 0 0 (.slice none 0 0))) (hto : w.ownsRow 0 24 1 tk took.length (ints .u64 took)) (htq : ∀ g, tk.ownBlock = some g → g ≠ q) (htl : took.length ≤ 1000) (hm : (took.length : Int) + 1 = size / 2) (hs2 : 2 ≤ size ∧ size ≤ 256) :
    Calls Tryz.prog 93 #[.pointer (some ⟨q, 0, none⟩), .int .u64 x, .bool won] w fun e w' => e = .returned (.tuple #[]) ∧ RfTook q w (rgPushGive ⟨at_, size, 1, task, target, 6, hd, t, u, n, (took.length : Int), took, none⟩ x won) tk w' := by
  have c1 := h.cell (j := 1) rfl
  have f1 := h.frozen 1
  have c5 := h.cell (j := 5) rfl
  have f5 := h.frozen 5
  have c9 := h.cell (j := 9) rfl
  have f9 := h.frozen 9
  have c10 := h.cell (j := 10) rfl
  have f10 := h.frozen 10
  have c11 := h.cell (j := 11) rfl
  have f11 := h.frozen 11
  simp only at c1 c5 c9 c10 c11
  have HR := Lib.hid h
  have HT := Lib.hid hto
  have hqno : q ∉ tk.ownBlock.toList := fun hm => htq q ((ownBlock_toList _ _).1 hm) rfl
  have dA : ((took.length : Int) + 1 == size / 2) = true := beq_iff_eq.2 hm
  have hhalf : wrap64 (size.tdiv 2) = size / 2 := by rw [Int.tdiv_eq_ediv_of_nonneg (by omega)]; unfold wrap64; omega
  have hwk : wrap64 ((took.length : Int) + 1) = (took.length : Int) + 1 := by unfold wrap64; omega
  have HG : Hid (rgPushGive ⟨at_, size, 1, task, target, 6, hd, t, u, n, (took.length : Int), took, none⟩ x won = ⟨at_, size, 1, task, target, 6, hd, t, u, n, (took.length : Int) + 1, took ++ [x], some ⟨4, 0, took ++ [x]⟩⟩) := Lib.hid (by simp [rgPushGive, hm])
  rw [HG.out]
  clear hm
  clear h hto
  go_enter Tryz.func93, Tryz.ntmps93
  go_wp2_with (at_builtin; refine append_fresh rfl _ _ 39 rfl 0 24 _ 1 8 Tryz.underlying39 elemWd _ _ _ rfl HT.out #[.int .u64 x] rfl rfl (by simp [Value.oneCell']) ?c2 ?c3 ?_)
  case c2 => omega
  case c3 => omega
  intro v' w9 own9 k9 f9 _
  obtain ⟨pv, cv, rfl⟩ := (Sl.of_owns own9).len
  have hr9 := HR.out.keeps k9 hqno
  have z11 := hr9.cell (j := 11) rfl
  have y11 := hr9.frozen 11
  obtain ⟨W, hW⟩ : ∃ W, w9.setCell ⟨q, 11, none⟩ (.slice pv (took.length + 1) cv) = W := ⟨_, rfl⟩
  have kW : Keeps [q] w9 W := by rw [← hW]; exact (Keeps.refl [q] w9).set (by simp) _ _
  have rW : Row W q 97 (rfCells ⟨at_, size, 1, task, target, 6, hd, t, u, n, (took.length : Int), took ++ [x], none⟩ (.slice pv (took.length + 1) cv) false 0 0 (.slice none 0 0)) := by rw [← hW]; exact hr9.set 11 _
  have hnew : ∀ g, (Value.slice pv (took.length + 1) cv).ownBlock = some g → (tk.ownBlock = some g ∨ w.heap.size ≤ g) ∧ g ≠ q := fun g hg => by
    rcases f9 g hg with h | h
    · exact ⟨.inl h, htq g h⟩
    · have := HR.out.lt; exact ⟨.inr h, by omega⟩
  have oW : W.ownsRow 0 24 1 (.slice pv (took.length + 1) cv) (took.length + 1) (ints .u64 (took ++ [x])) := by simpa [ints] using owns_keeps own9 kW (fun g hg => by simpa using (hnew g hg).2)
  have HRW := Lib.hid rW
  have HOW := Lib.hid oW
  have HNew := Lib.hid hnew
  have HK : Hid (Keeps (q :: tk.ownBlock.toList) w W) := Lib.hid ((k9.mono (fun k hk _ => List.mem_cons_of_mem _ hk)).trans (kW.mono (by simp)))
  have d1 := rW.cell (j := 1) rfl
  have g1 := rW.frozen 1
  have d5 := rW.cell (j := 5) rfl
  have g5 := rW.frozen 5
  have d9 := rW.cell (j := 9) rfl
  have g9 := rW.frozen 9
  have d10 := rW.cell (j := 10) rfl
  have g10 := rW.frozen 10
  have d11 := rW.cell (j := 11) rfl
  have g11 := rW.frozen 11
  have d12 := rW.cell (j := 12) rfl
  have g12 := rW.frozen 12
  have d13 := rW.cell (j := 13) rfl
  have g13 := rW.frozen 13
  have d14 := rW.cell (j := 14) rfl
  have g14 := rW.frozen 14
  have d15 := rW.cell (j := 15) rfl
  have g15 := rW.frozen 15
  simp only at d1 d5 d9 d10 d11 d12 d13 d14 d15
  clear own9 k9 f9 hr9 kW rW oW hnew
  obtain ⟨V, hV⟩ : ∃ V, W.setCell ⟨q, 10, none⟩ (.int .i64 ((took.length : Int) + 1)) = V := ⟨_, rfl⟩
  have kV : Keeps [q] W V := by rw [← hV]; exact (Keeps.refl [q] W).set (by simp) _ _
  have rV : Row V q 97 (rfCells ⟨at_, size, 1, task, target, 6, hd, t, u, n, ((took.length : Int) + 1), took ++ [x], none⟩ (.slice pv (took.length + 1) cv) false 0 0 (.slice none 0 0)) := by rw [← hV]; exact HRW.out.set 10 _
  have e1 := rV.cell (j := 1) rfl
  have e5 := rV.cell (j := 5) rfl
  have e9 := rV.cell (j := 9) rfl
  have e10 := rV.cell (j := 10) rfl
  simp only at e1 e5 e9 e10
  have HRV := Lib.hid rV
  have HKV := Lib.hid kV
  clear rV kV
  go_wp2_with fail
  clear hW hV
  go_quiet (fail)
  generalize hD : World.drewN _ _ = V2
  have kD : Keeps [] V V2 := by rw [← hD]; exact (Keeps.refl _ _).drewN
  clear hD
  have rD := HRV.out.keeps kD (by simp)
  have y1 := rD.cell (j := 1) rfl
  have x1 := rD.frozen 1
  have y5 := rD.cell (j := 5) rfl
  have x5 := rD.frozen 5
  have y9 := rD.cell (j := 9) rfl
  have x9 := rD.frozen 9
  have y10 := rD.cell (j := 10) rfl
  have x10 := rD.frozen 10
  have y11 := rD.cell (j := 11) rfl
  have x11 := rD.frozen 11
  simp only at y1 y5 y9 y10 y11
  have HN := Lib.hid (rfEnd_any q _ _ _ _ _ _ 4 V2 rD)
  have HKD := Lib.hid (HKV.out.trans kD.nil)
  clear rD kD
  go_wp2_with fail
  refine HN.out.mono ?_
  rintro e w2 ⟨rfl, r2, k2⟩
  have z11 := r2.cell (j := 11) rfl
  have z15 := r2.cell (j := 15) rfl
  have b15 := r2.frozen 15
  have HF := Lib.hid (r2.set 15 (.slice pv (took.length + 1) cv))
  have HKF := Lib.hid (Keeps.set (m := q) (HKD.out.trans k2) (by simp) 15 (.slice pv (took.length + 1) cv))
  clear r2 k2
  go_wp2
  first | go_end0 | refine bodyPost_ret (results_none rfl _ _ _) rfl ?_
  refine ⟨rfl, .slice pv (took.length + 1) cv, true, 4, 0, .slice pv (took.length + 1) cv, HF.out, ?_, HNew.out, HK.out.trans (HKF.out.mono (by simp)), fun h => (by cases h), fun r h => (by cases h; exact ⟨rfl, rfl, rfl, rfl, rfl⟩)⟩
  rw [List.length_append, List.length_singleton]
  exact owns_keeps HOW.out HKF.out (fun g hg => by simpa using (HNew.out g hg).2)

set_option maxHeartbeats 6400000 in
theorem rfLast_any (q g nt ct kN : Nat) (y : Int) (s : RgS) (w : World) (h : Row w q 97 (rfCells s (.slice (some ⟨g, 0, none⟩) nt ct) false 0 0 (.slice none 0 0))) (hn : s.n = (kN : Int) + 1) (hkn : kN < nt) (hk2 : kN ≤ 256) (hg : g ≠ q) (hgl : g < w.heap.size) (hx : w.cell? ⟨g, kN, none⟩ = some (.int .u64 y)) :
    Calls Tryz.prog 126 #[.pointer (some ⟨q, 0, none⟩)] w fun e w' => e = .returned (.tuple #[]) ∧ Row w' q 97 (rfCells s (.slice (some ⟨g, 0, none⟩) nt ct) true 0 y (.slice none 0 0)) ∧ Keeps [q] w w' := by
  have HN := Lib.hid (rfEnd_any q _ _ _ _ _ _ 0 w h)
  have hw1 : IntKind.i64.wrap (s.n - 1) = (kN : Int) := by rw [hn, show (kN : Int) + 1 - 1 = kN by omega]; exact IntWalk.i64_in _ (by omega)
  have i1 : (kN : Int) < (nt : Int) := by omega
  clear h hn
  go_enter Tryz.func126, Tryz.ntmps126
  go_wp2_with fail
  refine HN.out.mono ?_
  rintro e w2 ⟨rfl, r2, k2⟩
  have z9 := r2.cell (j := 9) rfl
  have z11 := r2.cell (j := 11) rfl
  have z14 := r2.cell (j := 14) rfl
  have b14 := r2.frozen 14
  have cx := (k2.cell (p := ⟨g, kN, none⟩) hgl (by simpa using hg)).trans hx
  have HF := Lib.hid ((r2.keeps (Keeps.refl [] _).drew (by simp)).set 14 (.int .u64 y))
  have HKF := Lib.hid (Keeps.set (m := q) k2.drew (by simp) 14 (.int .u64 y))
  clear r2 k2
  go_wp2
  go_still_tail 15, (by kernel_rfl)
  change wpList _ _ _ _ _ (w2).drew
  go_wp2
  first | go_end0 | refine bodyPost_ret (results_none rfl _ _ _) rfl ?_
  exact ⟨rfl, HF.out, HKF.out⟩
end Go.Proofs.YtekpfhlaohcgeaaGreat
