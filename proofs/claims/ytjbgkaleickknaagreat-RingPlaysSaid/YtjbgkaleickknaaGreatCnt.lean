import Derived.Test.YtjbgkaleickknaaGreatKeep
import Derived.Test.YtjbgkaleickknaaGreatMath
import Derived.Test.YtjbgkaleickknaaGreatDqG
import Derived.Maps.OwnOps
import Derived.Maps.Views
/-
  A map from words to counts: how often each came.
-/
namespace Go.Proofs.YtjbgkaleickknaaGreat
set_option maxRecDepth 100000
set_option linter.unusedSimpArgs false
set_option linter.unusedVariables false
open Go Go.RowKit Go.Maps

theorem lawU : Keyed Tryz.prog 34 := int_keyed Tryz.underlying34
theorem zeroCnt (w : World) : (zeroValue 3).run Tryz.prog w = .ok (.int .i64 0) w := by kernel_rfl
theorem wfU {v : Int} (h : M.U v) : (Lit.int .u64 v).wf = true := by
  have h1 := h.1
  have h2 := h.2
  have e1 : IntKind.u64.min = 0 := by decide
  have e2 : IntKind.u64.max = 18446744073709551615 := by decide
  simp only [Lit.wf, Bool.and_eq_true, decide_eq_true_eq]
  omega
theorem keyU {v : Int} (h : M.U v) : keyOf Tryz.prog 34 (.int .u64 v) = some (.int .u64 v) := keyOf_int_mk Tryz.underlying34 (wfU h)
/-- Block b is a map of at most n entries, that tells cnt. -/
def Cnt (w : World) (b n : Nat) (cnt : Int → Int) : Prop := ∃ D : DataW Unit, IsMap D ∧ w.ownsMap Tryz.prog 34 (plainElem Tryz.prog 3) b n D ∧ ∀ v, M.U v → D.atKey (.int .u64 v) (.lit (.int .i64 0)) = .lit (.int .i64 (cnt v))
theorem Cnt.made (w : World) : Cnt (w.alloc (.map #[] 0)) w.heap.size 0 fun _ => 0 := ⟨_, isMap_empty, World.ownsMap_made _ _ _ _, fun _ _ => rfl⟩
theorem Cnt.lt {w : World} {b n : Nat} {cnt : Int → Int} (h : Cnt w b n cnt) : b < w.heap.size := by
  obtain ⟨D, -, h1, -⟩ := h; exact h1.lt
theorem Cnt.block {w w' : World} {b n : Nat} {cnt : Int → Int} (h : Cnt w b n cnt) (hb : w'.heap[b]? = w.heap[b]?) : Cnt w' b n cnt := by
  obtain ⟨D, h0, ⟨es, clock, h1, F, hs, hD⟩, h2⟩ := h
  exact ⟨D, h0, ⟨es, clock, hb.trans h1, F, hs, hD⟩, h2⟩
theorem Cnt.keeps {w w' : World} {S : List Nat} {b n : Nat} {cnt : Int → Int} (h : Cnt w b n cnt) (hk : Keeps S w w') (hb : b ∉ S) : Cnt w' b n cnt := h.block (hk.block b h.lt hb)
theorem Cnt.mono {w : World} {b n n' : Nat} {cnt : Int → Int} (h : Cnt w b n cnt) (hn : n ≤ n') : Cnt w b n' cnt := by
  obtain ⟨D, h0, h1, h2⟩ := h; exact ⟨D, h0, h1.mono hn, h2⟩
theorem Cnt.look {w : World} {b n : Nat} {cnt : Int → Int} (h : Cnt w b n cnt) {v c : Int} (hv : M.U v) (hc : cnt v = c) : (Instr.lookup 40 (.map (some b)) (.int .u64 v) false).run Tryz.prog w = .ok (.int .i64 c) w := by
  obtain ⟨D, -, h1, h2⟩ := h
  obtain ⟨c', hrun, hat, -⟩ := h1.lookup_int lawU Tryz.underlying40 Tryz.underlying3 (zeroCnt _) (keyU hv)
  have := h2 v hv
  rw [hat] at this
  injection this with this
  injection this with _ this
  rw [hrun, this, hc]
theorem Cnt.put {w : World} {b n : Nat} {cnt : Int → Int} (h : Cnt w b n cnt) (hn : n < maxLen) {v : Int} (hv : M.U v) (c : Int) (hc : (Lit.int .i64 c).wf = true) :
    ∃ w', (Instr.mapUpdate 40 (.map (some b)) (.int .u64 v) (.int .i64 c)).run Tryz.prog w = .ok () w' ∧ Cnt w' b (n + 1) (updZ cnt v c) ∧ Keeps [b] w w' := by
  obtain ⟨D, h0, h1, h2⟩ := h
  obtain ⟨w', hrun, ho, hg⟩ := h1.update lawU Tryz.underlying40 hn (keyU hv) (plainElem_int (H := Unit) Tryz.underlying3 hc)
  refine ⟨w', hrun, ⟨_, h0.put _ _, ho, fun x hx => ?_⟩, ⟨hg.os, hg.tape, hg.output, hg.size, fun k hk hS => hg.block k hk (fun e => hS (by cases e; simp))⟩⟩
  by_cases e : x = v
  · subst e
    rw [updZ_same]
    exact atKey_put_same h0 (show WideAt.IsKeyLit (.int .u64 x) from trivial) _ _
  · rw [updZ_ne _ _ e, atKey_put_other (fun he => e (by injection he))]
    exact h2 x hx
theorem wpList_look_cnt (w : World) {ops : Array Oper} {rest : List Oper} {o : Oper} {a : Act} {Q : Exit → Act → World → Prop} (hg : o.guard = none) (m x : Operand) (hop : o.op = Op.lookup 40 m x false) (b n : Nat) (cnt : Int → Int)
    (hm : a.eval m = .map (some b)) (hc : Cnt w b n cnt) (v c : Int) (hx : a.eval x = .int .u64 v) (hv : M.U v) (hcv : cnt v = c) (hK : wpList Tryz.prog ops Q rest (a.put o.dst (.int .i64 c)) w) : wpList Tryz.prog ops Q (o :: rest) a w := by
  refine wpList_plain hg fun K' hK' => ?_
  have hrun := hc.look hv hcv
  unfold Oper.wp
  simp [execOp, hop, hm, hx, hrun, Result.andThen]
  exact hK' _ _ hK
theorem wpList_put_cnt (w : World) {ops : Array Oper} {rest : List Oper} {o : Oper} {a : Act} {Q : Exit → Act → World → Prop} (hg : o.guard = none) (m x vv : Operand) (hop : o.op = Op.mapUpdate 40 m x vv) (b n : Nat) (cnt : Int → Int)
    (hm : a.eval m = .map (some b)) (hc : Cnt w b n cnt) (hn : n < maxLen) (v c : Int) (hx : a.eval x = .int .u64 v) (hvv : a.eval vv = .int .i64 c) (hv : M.U v) (hcw : (Lit.int .i64 c).wf = true)
    (hK : ∀ w', Cnt w' b (n + 1) (updZ cnt v c) → Keeps [b] w w' → wpList Tryz.prog ops Q rest (a.put o.dst undef) w') : wpList Tryz.prog ops Q (o :: rest) a w := by
  refine wpList_plain hg fun K' hK' => ?_
  obtain ⟨w', hrun, r1, r2⟩ := hc.put hn hv c hcw
  unfold Oper.wp
  simp [execOp, hop, hm, hx, hvv, hrun, Result.andThen]
  exact hK' _ _ (hK w' r1 r2)
end Go.Proofs.YtjbgkaleickknaaGreat
