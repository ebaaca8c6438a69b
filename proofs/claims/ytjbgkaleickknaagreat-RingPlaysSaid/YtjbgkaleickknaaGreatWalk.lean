import Derived.Test.YtjbgkaleickknaaGreatRows
import Derived.Test.YtjbgkaleickknaaGreatKeep
import Derived.Test.YtjbgkaleickknaaGreatCells
import Derived.Test.YtjbgkaleickknaaGreatOps
import Derived.LoopTactic
import Derived.StillTailTactics
import Derived.OwnWalk
import Derived.WalkSpells
import Derived.RegionTactic
import Derived.Deep.RegionHeld3
import Derived.Defers
import Derived.Recover
import Derived.Laws.EntriesVeiled
import Derived.Outline
/-
  Contracts: the package walk, at walks that went into no other one.
-/
namespace Go.Proofs.YtjbgkaleickknaaGreat
set_option maxRecDepth 100000
set_option linter.unusedSimpArgs false
set_option linter.unusedVariables false
open Go.ChangeShapes Go.WideShapes Go.ChangeAt Go.RowKit

/-- What stands in a walk's block. -/
structure WSt where
  tasks : Value
  x : C.Acc
  nxt : Value
  sub : Option Addr
  after : Value
  outer : Value
  under : Int
  over : Bool
  code : Int
  v : Int
  l : Value
@[reducible] def WSt.cells (s : WSt) : List Value := [s.tasks, .int .i64 s.x.k, .int .i64 s.x.c, .int .u64 s.x.a, .int .u64 s.x.b, s.nxt, .pointer s.sub, s.after, s.outer, .int .i64 s.under, .bool s.over, .int .i64 s.code, .int .u64 s.v, s.l]

theorem Keeps.set {S : List Nat} {a w : World} (h : Keeps S a w) {m : Nat} (hm : m ∈ S) (o : Nat) (u : Value) : Keeps S a (w.setCell ⟨m, o, none⟩ u) := h.setCell (fun _ => hm) u

/-- Block m is a walk that stands so. -/
def Wk (w : World) (m : Nat) (s : WSt) : Prop := Row w m 105 s.cells

theorem Wk.keeps {S : List Nat} {w w' : World} {m : Nat} {s : WSt} (h : Wk w m s) (hk : Keeps S w w') (hm : m ∉ S) : Wk w' m s := Row.keeps h hk hm
theorem Wk.lt {w : World} {m : Nat} {s : WSt} (h : Wk w m s) : m < w.heap.size := Row.lt h
theorem Wk.alloc {w : World} {m : Nat} {s : WSt} (h : Wk w m s) (o : Obj) : Wk (w.alloc o) m s := Row.alloc h o
/-- All its cells can be read and written. -/
theorem Wk.at {w : World} {m : Nat} {s : WSt} (h : Wk w m s) :
    w.cell? ⟨m, 0, none⟩ = some s.tasks ∧ w.cell? ⟨m, 1, none⟩ = some (.int .i64 s.x.k) ∧ w.cell? ⟨m, 2, none⟩ = some (.int .i64 s.x.c) ∧ w.cell? ⟨m, 3, none⟩ = some (.int .u64 s.x.a) ∧ w.cell? ⟨m, 4, none⟩ = some (.int .u64 s.x.b) ∧
    w.cell? ⟨m, 5, none⟩ = some s.nxt ∧ w.cell? ⟨m, 6, none⟩ = some (.pointer s.sub) ∧ w.cell? ⟨m, 7, none⟩ = some s.after ∧ w.cell? ⟨m, 8, none⟩ = some s.outer ∧ w.cell? ⟨m, 9, none⟩ = some (.int .i64 s.under) ∧ w.cell? ⟨m, 10, none⟩ = some (.bool s.over) ∧
    w.cell? ⟨m, 11, none⟩ = some (.int .i64 s.code) ∧ w.cell? ⟨m, 12, none⟩ = some (.int .u64 s.v) ∧ w.cell? ⟨m, 13, none⟩ = some s.l :=
  ⟨Row.cell h rfl, Row.cell h rfl, Row.cell h rfl, Row.cell h rfl, Row.cell h rfl, Row.cell h rfl, Row.cell h rfl, Row.cell h rfl, Row.cell h rfl, Row.cell h rfl, Row.cell h rfl, Row.cell h rfl, Row.cell h rfl, Row.cell h rfl⟩
theorem Wk.fr {w : World} {m : Nat} {s : WSt} (h : Wk w m s) (j : Nat) : w.frozen? ⟨m, j, none⟩ = false := Row.frozen h j

theorem Wk.left {w : World} {m : Nat} {s : WSt} (h : Wk w m s) : Wk (((w.setCell ⟨m, 5, none⟩ .nilFunc).setCell ⟨m, 6, none⟩ (.pointer none)).setCell ⟨m, 7, none⟩ .nilFunc) m { s with nxt := .nilFunc, sub := none, after := .nilFunc } :=
  ((Row.set h 5 _).set 6 _).set 7 _

set_option maxHeartbeats 800000 in
theorem wLeave (m : Nat) (s : WSt) (w : World) (h : Wk w m s) (hs : s.sub = none) :
    Calls Tryz.prog 77 #[.pointer (some ⟨m, 0, none⟩)] w fun e w' => e = .returned (.tuple #[]) ∧ Wk w' m { s with nxt := .nilFunc, sub := none, after := .nilFunc } ∧ Keeps [m] w w' := by
  obtain ⟨-, -, -, -, -, h5, h6, h7, -, -, -, -, -, -⟩ := h.at
  have f5 := h.fr 5
  have f6 := h.fr 6
  have f7 := h.fr 7
  have hlt := h.lt
  rw [hs] at h6
  have HW := Lib.hid h
  have HS := Lib.hid hs
  clear h hs
  go_enter Tryz.func77, Tryz.ntmps77
  go_wp2
  go_region
  go_end0
  exact ⟨rfl, HW.out.left.alloc _, ((((Keeps.refl [m] w).set (.head _) _ _).set (.head _) _ _).set (.head _) _ _).alloc _ |>.drew⟩

/-- A block of four cells laid before a call that touches others alone. -/
theorem boxed4 {S : List Nat} {w w1 : World} {c0 c1 c2 c3 : Value} {e : TypeId} (hk : Keeps S (w.alloc (.cells #[c0, c1, c2, c3] e)) w1) (hS : w.heap.size ∉ S) :
    w1.cell? ⟨w.heap.size, 0, none⟩ = some c0 ∧ w1.cell? ⟨w.heap.size, 1, none⟩ = some c1 ∧ w1.cell? ⟨w.heap.size, 2, none⟩ = some c2 ∧ w1.cell? ⟨w.heap.size, 3, none⟩ = some c3 := by
  have h := (Box.new w #[c0, c1, c2, c3] e).keeps hk hS
  exact ⟨h.cells 0, h.cells 1, h.cells 2, h.cells 3⟩
theorem Wk.asked {w : World} {m : Nat} {s : WSt} (h : Wk w m s) (x : C.Acc) (f : Value) : Wk (((((w.setCell ⟨m, 1, none⟩ (.int .i64 x.k)).setCell ⟨m, 2, none⟩ (.int .i64 x.c)).setCell ⟨m, 3, none⟩ (.int .u64 x.a)).setCell ⟨m, 4, none⟩ (.int .u64 x.b)).setCell ⟨m, 5, none⟩ f) m { s with x := x, nxt := f } :=
  ((((Row.set h 1 _).set 2 _).set 3 _).set 4 _).set 5 _

theorem nextIsThere (fn : Fn) (fi ca : Array Value) (w : World) : (binOp .eql 94 (.func fn fi ca) .nilFunc).run Tryz.prog w = .ok (.bool false) w := by kernel_rfl
theorem nextIsNot (w : World) : (binOp .eql 94 .nilFunc .nilFunc).run Tryz.prog w = .ok (.bool true) w := by kernel_rfl

set_option maxHeartbeats 800000 in
theorem wAsk (m : Nat) (s : WSt) (x : C.Acc) (fn : Fn) (fi ca : Array Value) (w : World) (h : Wk w m s) (hs : s.sub = none) (ho : s.over = false) :
    Calls Tryz.prog 71 #[.pointer (some ⟨m, 0, none⟩), .agg #[.int .i64 x.k, .int .i64 x.c, .int .u64 x.a, .int .u64 x.b], .func fn fi ca] w fun e w' => e = .returned (.tuple #[]) ∧ Wk w' m { s with x := x, nxt := .func fn fi ca, sub := none, after := .nilFunc } ∧ Keeps [m] w w' := by
  obtain ⟨-, -, -, -, -, -, -, -, -, -, h10, -, -, -⟩ := h.at
  rw [ho] at h10
  have hlt := h.lt
  have HL := fun W (hW : Wk W m s) => wLeave m s W hW hs
  have HLV := Lib.hid HL
  have HW := Lib.hid h
  clear h hs HL ho
  have hfn := nextIsThere
  go_enter Tryz.func71, Tryz.ntmps71
  go_wp2_with fail
  refine (HLV.out _ (HW.out.alloc _)).mono ?_
  rintro e w1 ⟨rfl, h1, k1⟩
  have hb := boxed4 k1 (by simp; omega)
  obtain ⟨b0, b1, b2, b3⟩ := hb
  have f1 := h1.fr 1
  have f2 := h1.fr 2
  have f3 := h1.fr 3
  have f4 := h1.fr 4
  have f5 := h1.fr 5
  obtain ⟨-, a1, a2, a3, a4, a5, -⟩ := h1.at
  have H1 := Lib.hid h1
  have K1 := Lib.hid (((Keeps.refl [m] w).alloc _).trans k1)
  clear h1 k1 h10
  go_wp2
  go_end0
  exact ⟨rfl, H1.out.asked x _, (((((K1.out.set (.head _) _ _).set (.head _) _ _).set (.head _) _ _).set (.head _) _ _).set (.head _) _ _)⟩

theorem owns_base {w : World} {B C size n : Nat} {e : TypeId} {v : Value} {xs : List Value} (h : w.ownsRow B e size v n xs) (hB : C ≤ B) : w.ownsRow C e size v n xs := by
  refine ⟨h.1, ?_⟩
  rcases h.2 with h | ⟨g, cap, cur, hv, hb, rest⟩
  · exact .inl h
  · exact .inr ⟨g, cap, cur, hv, Nat.le_trans hB hb, rest⟩
theorem owns_keeps {w w' : World} {S : List Nat} {B size n : Nat} {e : TypeId} {v : Value} {xs : List Value} (h : w.ownsRow B e size v n xs) (hk : Keeps S w w') (hS : ∀ g, v.ownBlock = some g → g ∉ S) : w'.ownsRow B e size v n xs := by
  have hlt := h.lt
  refine ⟨h.1, ?_⟩
  rcases h.2 with h | ⟨g, cap, cur, hv, hb, hg, rest⟩
  · exact .inl h
  · subst hv
    exact .inr ⟨g, cap, cur, rfl, hb, (hk.block g (hlt g rfl).2 (hS g rfl)).trans hg, rest⟩

set_option maxHeartbeats 800000 in
theorem wCopied (code v : Int) (l : Value) (n : Nat) (us : List Int) (w : World) (h : Sl w 1 l n (ints .u64 us)) (hn : n ≤ 10000000) :
    Calls Tryz.prog 54 #[.agg #[.int .i64 code, .int .u64 v, l]] w fun e w' => ∃ l', e = .returned (.agg #[.int .i64 code, .int .u64 v, l']) ∧ w'.ownsRow w.heap.size 34 1 l' n (ints .u64 us) ∧ Keeps [] w w' := by
  obtain ⟨p, c, rfl⟩ := h.len
  have HS := Lib.hid h
  clear h
  have HC := Lib.hid (fun W h => cloneWords_sl (.slice p n c) n us W h hn)
  go_enter Tryz.func54, Tryz.ntmps54
  go_wp2_with fail
  generalize hW : World.alloc _ _ = W1
  have hB : Row W1 w.heap.size 48 [.int .i64 code, .int .u64 v, .slice p n c] := by rw [← hW]; exact (Row.new _ _ _).alloc _
  have hR : Row W1 (w.heap.size + 1) 48 [.int .i64 0, .int .u64 0, .slice none 0 0] := by rw [← hW]; have := Row.new (w.alloc (.cells #[.int .i64 code, .int .u64 v, .slice p n c] 48)) #[.int .i64 0, .int .u64 0, .slice none 0 0] 48; simpa using this
  have hK : Keeps [] w W1 := by rw [← hW]; exact ((Keeps.refl _ _).alloc _).alloc _
  clear hW
  refine (HC.out W1 (HS.out.keeps hK (by simp))).mono ?_
  rintro e w2 ⟨l', rfl, ho, k2⟩
  obtain ⟨q, c', rfl⟩ := (Sl.of_owns ho).len
  have hB2 := hB.keeps k2 (by simp)
  have hR2 := hR.keeps k2 (by simp)
  have a0 := hB2.cell (j := 0) rfl
  have a1 := hB2.cell (j := 1) rfl
  have a2 := hB2.cell (j := 2) rfl
  have r0 := hR2.cell (j := 0) rfl
  have r1 := hR2.cell (j := 1) rfl
  have r2 := hR2.cell (j := 2) rfl
  have f0 := hB2.frozen 2
  have g0 := hR2.frozen 0
  have g1 := hR2.frozen 1
  have g2 := hR2.frozen 2
  have HB := Lib.hid hB2
  have HO := Lib.hid ho
  have HK := Lib.hid (hK.trans k2)
  have HZ := Lib.hid (show ∀ g, (Value.slice q n c').ownBlock = some g → g ≠ w.heap.size ∧ g ≠ w.heap.size + 1 from fun g hg => by have := (ho.lt g hg).1; have := hR.lt; omega)
  have hz : w.heap.size ≤ W1.heap.size := hK.size
  have hsz : w.heap.size + 1 < w2.heap.size := hR2.lt
  clear hB hR hB2 hR2 ho k2 hK
  go_wp2
  refine bodyPost_ret (v := .agg #[.int .i64 code, .int .u64 v, .slice q n c']) (by simp [results, Tryz.results54, go_sem, r0, r1, r2]) rfl ⟨_, rfl, ?_, ?_⟩
  · refine owns_base (owns_keeps (S := [w.heap.size, w.heap.size + 1]) HO.out ?_ ?_) hz
    · exact ((((Keeps.refl _ _).set (by simp) _ _).set (by simp) _ _).set (by simp) _ _).set (by simp) _ _
    · intro g hg
      have := HZ.out g hg
      simp; omega
  · refine HK.out.step (S := [w.heap.size, w.heap.size + 1]) ?_ (by simp)
    exact ((((Keeps.refl _ _).set (by simp) _ _).set (by simp) _ _).set (by simp) _ _).set (by simp) _ _

theorem try1_idle (w : World) :
    CallsD Tryz.prog 108 #[] .returning w fun e u' w' => e = .returned (.tuple #[]) ∧ u' = .returning ∧ w' = w := by
  refine callsD_of_wpS Tryz.func108 rfl fun c₀ cs hu => ?_
  apply wpS_region
  simp [wpOpsS, go_sem, recoverD, hu, Tryz.ntmps108, Exit.thenS]
  cases c₀
  simp_all [bodyPostS, results, Tryz.results108]

set_option maxHeartbeats 800000 in
/-- A function value that is done, and returns. -/
theorem wTry (F : FuncId) (ca : Array Value) (w : World) (R : World → Prop) (hcf : ∀ args w, (callFunc F args).run Tryz.prog w = .ok (.enter F args) w)
    (hF : Calls Tryz.prog F ca w fun e w' => e = .returned (.tuple #[]) ∧ R w') :
    Calls Tryz.prog 104 #[.func (.func F) #[] ca] w fun e w' => e = .returned (.tuple #[]) ∧ R w' := by
  have HF := Lib.hid hF
  clear hF
  go_enter_defers Tryz.func104, Tryz.ntmps104
  go_wp2_with fail
  refine HF.out.mono ?_
  rintro e w1 ⟨rfl, hR⟩
  go_wp2
  refine leaves_cons (f := 108) (args := #[]) (by simp) (by simp [go_sem]) ?_
  refine (try1_idle _).mono ?_
  rintro e u' w'' ⟨rfl, rfl, rfl⟩
  simp [Leaves, settle, results, Tryz.results104, go_sem]
  exact hR

/-- Nothing is told as long as it goes on, or a function of its own is under way. -/
theorem wTellNot (m : Nat) (s : WSt) (w : World) (h : Wk w m s) (hs : s.over = false ∨ 0 < s.under) :
    Calls Tryz.prog 101 #[.pointer (some ⟨m, 0, none⟩)] w fun e w' => e = .returned (.tuple #[]) ∧ w = w' := by
  obtain ⟨-, -, -, -, -, -, -, -, h8, h9, h10, -, -, -⟩ := h.at
  clear h
  cases ho : s.over with
  | false =>
    rw [ho] at h10
    clear hs ho
    go_enter Tryz.func101, Tryz.ntmps101
    go_wp2
    first | go_end0 | refine bodyPost_ret (results_none rfl _ _ _) rfl ?_
    exact ⟨rfl, rfl⟩
  | true =>
    rw [ho] at h10
    have hu : 0 < s.under := by rcases hs with h | h; rw [ho] at h; cases h; exact h
    clear hs ho
    go_enter Tryz.func101, Tryz.ntmps101
    go_wp2
    first | go_end0 | refine bodyPost_ret (results_none rfl _ _ _) rfl ?_
    exact ⟨rfl, rfl⟩

set_option maxHeartbeats 800000 in
/-- It has ended, and nobody went into it. -/
theorem wTellNone (m : Nat) (s : WSt) (w : World) (h : Wk w m s) (hs : s.over = true) (hu : s.under = 0) (ho : s.outer = .slice none 0 0) :
    Calls Tryz.prog 101 #[.pointer (some ⟨m, 0, none⟩)] w fun e w' => e = .returned (.tuple #[]) ∧ Wk w' m s ∧ Keeps [m] w w' := by
  obtain ⟨-, -, -, -, -, -, -, -, h8, h9, h10, -, -, -⟩ := h.at
  have f8 := h.fr 8
  rw [hs] at h10
  rw [hu] at h9
  rw [ho] at h8
  have HW := Lib.hid h
  have HO := Lib.hid ho
  clear h hs hu ho
  go_enter Tryz.func101, Tryz.ntmps101
  go_wp2
  refine wp_loop_rounds 1 ?_
  rw [rounds_succ]
  go_wp2
  go_end0
  exact ⟨rfl, by have := Row.set HW.out 8 (.slice none 0 0); simpa [Wk, WSt.cells, HO.out] using this, (Keeps.refl _ _).set (by simp) _ _⟩

theorem wTell (m : Nat) (s : WSt) (w : World) (h : Wk w m s) (hc : s.over = false ∨ 0 < s.under ∨ (s.under = 0 ∧ s.outer = .slice none 0 0)) :
    Calls Tryz.prog 101 #[.pointer (some ⟨m, 0, none⟩)] w fun e w' => e = .returned (.tuple #[]) ∧ Wk w' m s ∧ Keeps [m] w w' := by
  by_cases ho : s.over = false
  · exact (wTellNot m s w h (.inl ho)).mono fun _ _ ⟨he, hw⟩ => ⟨he, hw ▸ h, hw ▸ Keeps.refl _ _⟩
  · by_cases hu : 0 < s.under
    · exact (wTellNot m s w h (.inr hu)).mono fun _ _ ⟨he, hw⟩ => ⟨he, hw ▸ h, hw ▸ Keeps.refl _ _⟩
    · rcases hc with hc | hc | ⟨h1, h2⟩
      · exact absurd hc ho
      · exact absurd hc hu
      · exact wTellNone m s w h (by simpa using ho) h1 h2

/-- A slice whose block isn't touched. -/
theorem Sl.but {S : List Nat} {w w' : World} {size n : Nat} {v : Value} {xs : List Value} (h : Sl w size v n xs) (hk : Keeps S w w') (hn : ∀ g, v.ownBlock = Option.some g → g ∉ S) : Sl w' size v n xs := by
  refine ⟨h.1, ?_⟩
  rcases h.2 with h | ⟨b, off, cap, hv, hs, hc⟩
  · exact .inl h
  · subst hv
    exact .inr ⟨b, off, cap, rfl, Nat.lt_of_lt_of_le hs hk.size, fun j u hu => (hk.cell (p := ⟨b, off + j, none⟩) hs (hn b rfl)).trans (hc j u hu)⟩

theorem Wk.ending {w : World} {m : Nat} {s : WSt} (h : Wk w m s) : Wk ((w.setCell ⟨m, 5, none⟩ .nilFunc).setCell ⟨m, 7, none⟩ .nilFunc) m { s with nxt := .nilFunc, after := .nilFunc } :=
  (Row.set h 5 _).set 7 _
theorem Wk.ended {w : World} {m : Nat} {s : WSt} (h : Wk w m s) (code v : Int) (l : Value) :
    Wk ((((w.setCell ⟨m, 10, none⟩ (.bool true)).setCell ⟨m, 11, none⟩ (.int .i64 code)).setCell ⟨m, 12, none⟩ (.int .u64 v)).setCell ⟨m, 13, none⟩ l) m { s with over := true, code := code, v := v, l := l } :=
  (((Row.set h 10 _).set 11 _).set 12 _).set 13 _

set_option maxHeartbeats 1600000 in
theorem wEnd (m : Nat) (s : WSt) (code v : Int) (l : Value) (n : Nat) (us : List Int) (w : World) (h : Wk w m s) (ho : s.over = false) (hc : 0 < s.under ∨ (s.under = 0 ∧ s.outer = .slice none 0 0))
    (hl : Sl w 1 l n (ints .u64 us)) (hlm : ∀ g, l.ownBlock = some g → g ≠ m) (hn : n ≤ 10000000) :
    Calls Tryz.prog 76 #[.pointer (some ⟨m, 0, none⟩), .agg #[.int .i64 code, .int .u64 v, l]] w fun e w' => e = .returned (.tuple #[]) ∧ ∃ l',
      Wk w' m { s with nxt := .nilFunc, after := .nilFunc, over := true, code := code, v := v, l := l' } ∧ w'.ownsRow w.heap.size 34 1 l' n (ints .u64 us) ∧ Keeps [m] w w' := by
  obtain ⟨q, c, rfl⟩ := hl.len
  have HC := Lib.hid (fun W h => wCopied code v (.slice q n c) n us W h hn)
  have HT := Lib.hid (fun W l' (h : Wk W m { s with nxt := .nilFunc, after := .nilFunc, over := true, code := code, v := v, l := l' }) => wTell m _ W h (.inr hc))
  obtain ⟨-, -, -, -, -, h5, -, h7, -, -, h10, -, -, -⟩ := h.at
  rw [ho] at h10
  have f5 := h.fr 5
  have f7 := h.fr 7
  have hlt := h.lt
  have HW := Lib.hid h
  have HL := Lib.hid hl
  have HM := Lib.hid hlm
  clear h hl hlm ho hc
  go_enter Tryz.func76, Tryz.ntmps76
  go_wp2_with fail
  generalize hW : World.alloc _ _ = W1
  have k1 : Keeps [m] w W1 := by rw [← hW]; exact (((Keeps.refl _ _).set (by simp) _ _).set (by simp) _ _).alloc _
  have w1 : Wk W1 m { s with nxt := .nilFunc, after := .nilFunc } := by rw [← hW]; exact HW.out.ending.alloc _
  clear hW
  refine (HC.out W1 (HL.out.but k1 (fun g hg => by simpa using HM.out g hg))).mono ?_
  rintro e w2 ⟨l', rfl, o2, k2⟩
  obtain ⟨q', c', rfl⟩ := (Sl.of_owns o2).len
  have w3 := w1.keeps k2 (by simp)
  obtain ⟨-, -, -, -, -, -, -, -, -, -, a10, a11, a12, a13⟩ := w3.at
  have f10 := w3.fr 10
  have f11 := w3.fr 11
  have f12 := w3.fr 12
  have f13 := w3.fr 13
  have s1 := k1.size
  have HW3 := Lib.hid w3
  have HK := Lib.hid (k1.trans k2.nil)
  have HO := Lib.hid o2
  have HZ := Lib.hid (show ∀ g, (Value.slice q' n c').ownBlock = some g → g ≠ m from fun g hg => by have := (o2.lt g hg).1; omega)
  clear w1 k1 k2 o2 w3 h5 h7 h10 f5 f7
  go_wp2_with fail
  refine (HT.out _ _ (HW3.out.ended code v (.slice q' n c'))).mono ?_
  rintro e w4 ⟨rfl, w4k, k4⟩
  have HW4 := Lib.hid w4k
  have HK4 := Lib.hid k4
  clear w4k k4
  go_wp2
  go_end0
  have k5 := ((((Keeps.refl [m] w2).set (by simp) 10 (.bool true)).set (by simp) 11 (.int .i64 code)).set (by simp) 12 (.int .u64 v)).set (by simp) 13 (.slice q' n c') |>.trans HK4.out
  exact ⟨rfl, _, HW4.out, owns_base (owns_keeps HO.out k5 (fun g hg => by simpa using HZ.out g hg)) s1, HK.out.trans k5⟩

theorem Wk.underAt {w : World} {m : Nat} {s : WSt} (h : Wk w m s) (u : Int) : Wk (w.setCell ⟨m, 9, none⟩ (.int .i64 u)) m { s with under := u } := Row.set h 9 _

set_option maxHeartbeats 800000 in
/-- A function that is done for a walk. -/
theorem wDo (m : Nat) (s : WSt) (F : FuncId) (ca : Array Value) (w : World) (R : World → WSt → Prop) (h : Wk w m s) (hu : 0 ≤ s.under) (hu1 : s.under ≤ 1000) (hcf : ∀ args w, (callFunc F args).run Tryz.prog w = .ok (.enter F args) w)
    (hF : ∀ w1, Wk w1 m { s with under := s.under + 1 } → Keeps [m] w w1 → Calls Tryz.prog F ca w1 fun e w2 => e = .returned (.tuple #[]) ∧ ∃ s2, Wk w2 m s2 ∧ s2.under = s.under + 1 ∧ (s2.over = false ∨ 0 < s.under ∨ s2.outer = .slice none 0 0) ∧ R w2 s2) :
    Calls Tryz.prog 78 #[.pointer (some ⟨m, 0, none⟩), .func (.func F) #[] ca] w fun e w' => e = .returned (.tuple #[]) ∧ ∃ w2 s2, R w2 s2 ∧ Keeps [m] w2 w' ∧ Wk w' m { s2 with under := s.under } := by
  have HF := Lib.hid hF
  have HCF := Lib.hid hcf
  obtain ⟨-, -, -, -, -, -, -, -, -, h9, -, -, -, -⟩ := h.at
  have f9 := h.fr 9
  have HW := Lib.hid h
  obtain ⟨u, hsu⟩ : ∃ u, s.under = u := ⟨_, rfl⟩
  rw [hsu] at h9 hu hu1
  have HU := Lib.hid hsu
  clear hF hcf h hsu
  go_enter Tryz.func78, Tryz.ntmps78
  go_wp2_with fail
  have w1 := HW.out.underAt (u + 1)
  have C := HF.out _ (by rw [HU.out]; exact w1) ((Keeps.refl [m] w).set (by simp) _ _)
  refine (wTry F ca _ _ HCF.out C).mono ?_
  clear C w1
  rintro e w2 ⟨rfl, s2, w2k, u2, hc, hR⟩
  obtain ⟨-, -, -, -, -, -, -, -, -, b9, -, -, -, -⟩ := w2k.at
  have g9 := w2k.fr 9
  rw [u2, HU.out] at b9
  have HW2 := Lib.hid w2k
  have HR := Lib.hid hR
  have HC := Lib.hid hc
  clear w2k u2 hc hR h9 f9
  go_wp2_with fail
  have w3 := HW2.out.underAt u
  refine (wTell m _ _ w3 ?_).mono ?_
  · rcases HC.out with h | h | h
    · exact .inl h
    · exact .inr (.inl (by rw [← HU.out]; exact h))
    · by_cases h0 : 0 < u
      · exact .inr (.inl h0)
      · exact .inr (.inr ⟨by show u = 0; omega, h⟩)
  rintro e w4 ⟨rfl, w4k, k4⟩
  have HW4 := Lib.hid w4k
  have HK4 := Lib.hid k4
  clear w4k k4 w3
  go_wp2
  go_end0
  exact ⟨rfl, w2, s2, HR.out, ((Keeps.refl [m] w2).set (by simp) _ _).trans HK4.out, by rw [HU.out]; exact HW4.out⟩
end Go.Proofs.YtjbgkaleickknaaGreat

/-
  Contracts: what can be seen of a walk that went into no other one; New, Give, Break, Hold.
-/
namespace Go.Proofs.YtjbgkaleickknaaGreat
set_option maxRecDepth 100000
set_option linter.unusedSimpArgs false
set_option linter.unusedVariables false
open Go.ChangeShapes Go.WideShapes Go.ChangeAt Go.RowKit

theorem nextIsThere' (fn : Fn) (fi ca : Array Value) (w : World) : (binOp .eql 94 (.func fn fi ca) .nilFunc).run Tryz.prog w = .ok (.bool false) w := by kernel_rfl

set_option maxHeartbeats 800000 in
theorem wAsker (m : Nat) (s : WSt) (w : World) (h : Wk w m s) (hs : s.sub = none) (fn : Fn) (fi ca : Array Value) (hn : s.nxt = .func fn fi ca) :
    Calls Tryz.prog 74 #[.pointer (some ⟨m, 0, none⟩)] w fun e w' => e = .returned (.pointer (some ⟨m, 0, none⟩)) ∧ w = w' := by
  obtain ⟨-, -, -, -, -, h5, h6, -, -, -, h10, -, -, -⟩ := h.at
  rw [hs] at h6
  rw [hn] at h5
  have hfn := nextIsThere'
  clear h hs hn
  cases ho : s.over
  all_goals
    rw [ho] at h10
    clear ho
    go_enter Tryz.func74, Tryz.ntmps74
    go_wp2
    refine wp_loop_rounds 1 ?_
    rw [rounds_succ]
    go_wp2
    go_ret
    exact ⟨rfl, rfl⟩
set_option maxHeartbeats 800000 in
theorem wAskerNone (m : Nat) (s : WSt) (w : World) (h : Wk w m s) (hs : s.sub = none) (hn : s.nxt = .nilFunc) :
    Calls Tryz.prog 74 #[.pointer (some ⟨m, 0, none⟩)] w fun e w' => e = .returned (.pointer none) ∧ w = w' := by
  obtain ⟨-, -, -, -, -, h5, h6, -, -, -, h10, -, -, -⟩ := h.at
  rw [hs] at h6
  rw [hn] at h5
  have hfn := nextIsNot
  clear h hs hn
  cases ho : s.over
  all_goals
    rw [ho] at h10
    clear ho
    go_enter Tryz.func74, Tryz.ntmps74
    go_wp2
    refine wp_loop_rounds 1 ?_
    rw [rounds_succ]
    go_wp2
    go_ret
    exact ⟨rfl, rfl⟩
theorem wAskerNil (w : World) :
    Calls Tryz.prog 74 #[.pointer none] w fun e w' => e = .returned (.pointer none) ∧ w = w' := by
  go_enter Tryz.func74, Tryz.ntmps74
  go_wp2
  refine wp_loop_rounds 1 ?_
  rw [rounds_succ]
  go_wp2
  go_ret
  exact ⟨rfl, rfl⟩

set_option maxHeartbeats 800000 in
theorem wWant (m : Nat) (s : WSt) (w : World) (h : Wk w m s) (hs : s.sub = none) (fn : Fn) (fi ca : Array Value) (hn : s.nxt = .func fn fi ca) :
    Calls Tryz.prog 50 #[.pointer (some ⟨m, 0, none⟩)] w fun e w' => e = .returned (.tuple #[s.x.val, .bool true]) ∧ Keeps [] w w' := by
  have HA := Lib.hid (fun W h => wAsker m s W h hs fn fi ca hn)
  obtain ⟨-, h1, h2, h3, h4, -⟩ := h.at
  have hlt := h.lt
  have HW := Lib.hid h
  clear h hs hn
  go_enter Tryz.func50, Tryz.ntmps50
  go_wp2_with fail
  refine (HA.out _ (HW.out.alloc _)).mono ?_
  rintro e w1 ⟨rfl, rfl⟩
  go_wp2
  refine bodyPost_ret (v := .tuple #[s.x.val, .bool true]) (by simp [results, Tryz.results50, go_sem]) rfl ⟨rfl, ?_⟩
  exact (Keeps.refl _ _).alloc _
theorem wWantNone (m : Nat) (s : WSt) (w : World) (h : Wk w m s) (hs : s.sub = none) (hn : s.nxt = .nilFunc) :
    Calls Tryz.prog 50 #[.pointer (some ⟨m, 0, none⟩)] w fun e w' => e = .returned (.tuple #[(⟨0, 0, 0, 0⟩ : C.Acc).val, .bool false]) ∧ Keeps [] w w' := by
  have HA := Lib.hid (fun W h => wAskerNone m s W h hs hn)
  have HW := Lib.hid h
  clear h hs hn
  go_enter Tryz.func50, Tryz.ntmps50
  go_wp2_with fail
  refine (HA.out _ (HW.out.alloc _)).mono ?_
  rintro e w1 ⟨rfl, rfl⟩
  go_wp2
  refine bodyPost_ret (v := .tuple #[(⟨0, 0, 0, 0⟩ : C.Acc).val, .bool false]) (by simp [results, Tryz.results50, go_sem]) rfl ⟨rfl, ?_⟩
  exact (Keeps.refl _ _).alloc _
theorem wWantNil (w : World) :
    Calls Tryz.prog 50 #[.pointer none] w fun e w' => e = .returned (.tuple #[(⟨0, 0, 0, 0⟩ : C.Acc).val, .bool false]) ∧ Keeps [] w w' := by
  have HA := Lib.hid (fun W => wAskerNil W)
  go_enter Tryz.func50, Tryz.ntmps50
  go_wp2_with fail
  refine (HA.out _).mono ?_
  rintro e w1 ⟨rfl, rfl⟩
  go_wp2
  refine bodyPost_ret (v := .tuple #[(⟨0, 0, 0, 0⟩ : C.Acc).val, .bool false]) (by simp [results, Tryz.results50, go_sem]) rfl ⟨rfl, ?_⟩
  exact (Keeps.refl _ _).alloc _

set_option maxHeartbeats 800000 in
theorem wResult (m : Nat) (s : WSt) (n : Nat) (us : List Int) (w : World) (h : Wk w m s) (ho : s.over = true) (hl : Sl w 1 s.l n (ints .u64 us)) (hn : n ≤ 10000000) :
    Calls Tryz.prog 26 #[.pointer (some ⟨m, 0, none⟩)] w fun e w' => ∃ l', e = .returned (.tuple #[.agg #[.int .i64 s.code, .int .u64 s.v, l'], .bool true]) ∧ w'.ownsRow w.heap.size 34 1 l' n (ints .u64 us) ∧ Keeps [] w w' := by
  have HC := Lib.hid (fun W h => wCopied s.code s.v s.l n us W h hn)
  obtain ⟨-, -, -, -, -, -, -, -, -, -, h10, h11, h12, h13⟩ := h.at
  rw [ho] at h10
  have hlt := h.lt
  have HL := Lib.hid hl
  clear h hl ho
  go_enter Tryz.func26, Tryz.ntmps26
  go_wp2_with fail
  have hR := Row.new w #[.int .i64 0, .int .u64 0, .slice none 0 0] 48
  refine (HC.out _ (HL.out.keeps ((Keeps.refl [] _).alloc _) (by simp))).mono ?_
  rintro e w1 ⟨l', rfl, ho, k1⟩
  obtain ⟨q, c', rfl⟩ := (Sl.of_owns ho).len
  have hR1 := hR.keeps k1 (by simp)
  have r0 := hR1.cell (j := 0) rfl
  have r1 := hR1.cell (j := 1) rfl
  have r2 := hR1.cell (j := 2) rfl
  have g0 := hR1.frozen 0
  have g1 := hR1.frozen 1
  have g2 := hR1.frozen 2
  have hsz : w.heap.size < w1.heap.size := hR1.lt
  have HO := Lib.hid ho
  have HK := Lib.hid (((Keeps.refl [] w).alloc _).trans k1)
  have HZ := Lib.hid (show ∀ g, (Value.slice q n c').ownBlock = some g → g ≠ w.heap.size from fun g hg => by have := (ho.lt g hg).1; simp at this; omega)
  clear hR hR1 ho k1
  go_wp2
  refine bodyPost_ret (v := .tuple #[.agg #[.int .i64 s.code, .int .u64 s.v, .slice q n c'], .bool true]) (by simp [results, Tryz.results26, go_sem, r0, r1, r2]) rfl ⟨_, rfl, ?_, ?_⟩
  · refine owns_base (owns_keeps (S := [w.heap.size]) HO.out ?_ ?_) (by simp)
    · exact (((Keeps.refl _ _).set (by simp) _ _).set (by simp) _ _).set (by simp) _ _
    · intro g hg
      simpa using HZ.out g hg
  · refine HK.out.step (S := [w.heap.size]) ?_ (by simp)
    exact (((Keeps.refl _ _).set (by simp) _ _).set (by simp) _ _).set (by simp) _ _
theorem wResultNot (m : Nat) (s : WSt) (w : World) (h : Wk w m s) (ho : s.over = false) :
    Calls Tryz.prog 26 #[.pointer (some ⟨m, 0, none⟩)] w fun e w' => e = .returned (.tuple #[.agg #[.int .i64 0, .int .u64 0, .slice none 0 0], .bool false]) ∧ Keeps [] w w' := by
  obtain ⟨-, -, -, -, -, -, -, -, -, -, h10, -, -, -⟩ := h.at
  rw [ho] at h10
  have hlt := h.lt
  clear h ho
  go_enter Tryz.func26, Tryz.ntmps26
  go_wp2
  refine bodyPost_ret (v := .tuple #[.agg #[.int .i64 0, .int .u64 0, .slice none 0 0], .bool false]) (by simp [results, Tryz.results26, go_sem]) rfl ⟨rfl, ?_⟩
  exact (Keeps.refl _ _).alloc _
theorem wResultNil (w : World) :
    Calls Tryz.prog 26 #[.pointer none] w fun e w' => e = .returned (.tuple #[.agg #[.int .i64 0, .int .u64 0, .slice none 0 0], .bool false]) ∧ Keeps [] w w' := by
  go_enter Tryz.func26, Tryz.ntmps26
  go_wp2
  refine bodyPost_ret (v := .tuple #[.agg #[.int .i64 0, .int .u64 0, .slice none 0 0], .bool false]) (by simp [results, Tryz.results26, go_sem]) rfl ⟨rfl, ?_⟩
  exact (Keeps.refl _ _).alloc _

theorem Wk.held {w : World} {m : Nat} {s : WSt} (h : Wk w m s) (t : Value) : Wk (w.setCell ⟨m, 0, none⟩ t) m { s with tasks := t } := Row.set h 0 _
theorem wHold (m : Nat) (s : WSt) (l : Value) (n : Nat) (us : List Int) (w : World) (h : Wk w m s) (hl : Sl w 1 l n (ints .u64 us)) (hn : n ≤ 10000000) :
    Calls Tryz.prog 65 #[.pointer (some ⟨m, 0, none⟩), l] w fun e w' => e = .returned (.tuple #[]) ∧ ∃ t, Wk w' m { s with tasks := t } ∧ w'.ownsRow w.heap.size 34 1 t n (ints .u64 us) ∧ Keeps [m] w w' := by
  have HC := Lib.hid (fun W h => cloneWords_sl l n us W h hn)
  have HL := Lib.hid hl
  have HW := Lib.hid h
  have hlt := h.lt
  clear h hl
  go_enter Tryz.func65, Tryz.ntmps65
  go_wp2_with fail
  refine (HC.out _ HL.out).mono ?_
  rintro e w1 ⟨t, rfl, ho, k1⟩
  obtain ⟨q, c', rfl⟩ := (Sl.of_owns ho).len
  have w1k := HW.out.keeps k1 (by simp)
  obtain ⟨a0, -⟩ := w1k.at
  have f0 := w1k.fr 0
  have HO := Lib.hid ho
  have HK := Lib.hid k1
  have HW1 := Lib.hid w1k
  have HZ := Lib.hid (show ∀ g, (Value.slice q n c').ownBlock = some g → g ≠ m from fun g hg => by have := (ho.lt g hg).1; omega)
  clear ho k1 w1k
  go_wp2
  first | go_end0 | refine bodyPost_ret (results_none rfl _ _ _) rfl ?_
  have k2 := (Keeps.refl [m] w1).set (m := m) (by simp) 0 (.slice q n c')
  exact ⟨rfl, _, HW1.out.held _, owns_keeps HO.out k2 (fun g hg => by simpa using HZ.out g hg), HK.out.nil.trans k2⟩
end Go.Proofs.YtjbgkaleickknaaGreat

/-
  Contracts: Give, Break and New at walks that went into no other one.
-/
namespace Go.Proofs.YtjbgkaleickknaaGreat
set_option maxRecDepth 100000
set_option linter.unusedSimpArgs false
set_option linter.unusedVariables false
open Go.ChangeShapes Go.WideShapes Go.ChangeAt Go.RowKit

theorem wGive1 (F : FuncId) (fi ca : Array Value) (v : Int) (won : Bool) (b0 b1 b2 : Nat) (w : World) (Q : Ending → World → Prop) (hQ : ∀ e w', Q e w' → e = .returned (.tuple #[])) (hcf : ∀ args w, (callFunc F args).run Tryz.prog w = .ok (.enter F args) w)
    (h2 : w.cell? ⟨b2, 0, none⟩ = some (.func (.func F) fi ca)) (h0 : w.cell? ⟨b0, 0, none⟩ = some (.int .u64 v)) (h1 : w.cell? ⟨b1, 0, none⟩ = some (.bool won))
    (hF : Calls Tryz.prog F (fi ++ (#[.int .u64 v, .bool won] ++ ca)) w Q) :
    Calls Tryz.prog 79 #[.pointer (some ⟨b2, 0, none⟩), .pointer (some ⟨b0, 0, none⟩), .pointer (some ⟨b1, 0, none⟩)] w Q := by
  have HF := Lib.hid hF
  have HQ := Lib.hid hQ
  clear hF hQ
  go_enter Tryz.func79, Tryz.ntmps79
  go_wp2_with fail
  refine HF.out.mono ?_
  intro e w1 hq
  obtain rfl := HQ.out _ _ hq
  have HQ1 := Lib.hid hq
  clear hq
  go_wp2
  go_end0
  exact HQ1.out

theorem wGiveNone (m : Nat) (s : WSt) (v : Int) (won : Bool) (w : World) (h : Wk w m s) (hs : s.sub = none) (hn : s.nxt = .nilFunc) :
    Calls Tryz.prog 53 #[.pointer (some ⟨m, 0, none⟩), .int .u64 v, .bool won] w fun e w' => e = .returned (.tuple #[]) ∧ Keeps [] w w' := by
  have HA := Lib.hid (fun W h => wAskerNone m s W h hs hn)
  have HW := Lib.hid h
  clear h hs hn
  go_enter Tryz.func53, Tryz.ntmps53
  go_wp2_with fail
  refine (HA.out _ ((HW.out.alloc _).alloc _)).mono ?_
  rintro e w0 ⟨rfl, rfl⟩
  go_wp2
  first | go_end0 | refine bodyPost_ret (results_none rfl _ _ _) rfl ?_
  exact ⟨rfl, ((Keeps.refl _ _).alloc _).alloc _⟩
theorem wBreak (m : Nat) (s : WSt) (code : Int) (w : World) (h : Wk w m s) (ho : s.over = false) (hc : 0 < s.under ∨ (s.under = 0 ∧ s.outer = .slice none 0 0)) :
    Calls Tryz.prog 52 #[.pointer (some ⟨m, 0, none⟩), .int .i64 code] w fun e w' => e = .returned (.tuple #[]) ∧ ∃ l',
      Wk w' m { s with nxt := .nilFunc, after := .nilFunc, over := true, code := code, v := 0, l := l' } ∧ w'.ownsRow w.heap.size 34 1 l' 0 [] ∧ Keeps [m] w w' := by
  have HE := Lib.hid (wEnd m s code 0 (.slice none 0 0) 0 [] w h ho hc ⟨rfl, .inl ⟨_, _, rfl, rfl⟩⟩ (fun g hg => by cases hg) (by omega))
  clear h ho hc
  go_enter Tryz.func52, Tryz.ntmps52
  go_wp2_with fail
  refine HE.out.mono ?_
  rintro e w1 ⟨rfl, l', hw, ho, hk⟩
  have HP := Lib.hid (⟨hw, ho, hk⟩ : _ ∧ _ ∧ _)
  clear hw ho hk
  go_wp2
  go_end0
  exact ⟨rfl, _, HP.out⟩
@[reducible] def WSt.zero : WSt := ⟨.slice none 0 0, ⟨0, 0, 0, 0⟩, .nilFunc, none, .nilFunc, .slice none 0 0, 0, false, 0, 0, .slice none 0 0⟩
theorem wNew1 (F : FuncId) (ca : Array Value) (m b0 b1 : Nat) (w : World) (Q : Ending → World → Prop) (hQ : ∀ e w', Q e w' → e = .returned (.tuple #[])) (hcf : ∀ args w, (callFunc F args).run Tryz.prog w = .ok (.enter F args) w)
    (h0 : w.cell? ⟨b0, 0, none⟩ = some (.func (.func F) #[] ca)) (h1 : w.cell? ⟨b1, 0, none⟩ = some (.pointer (some ⟨m, 0, none⟩)))
    (hF : Calls Tryz.prog F (#[.pointer (some ⟨m, 0, none⟩)] ++ ca) w Q) :
    Calls Tryz.prog 81 #[.pointer (some ⟨b0, 0, none⟩), .pointer (some ⟨b1, 0, none⟩)] w Q := by
  have HF := Lib.hid hF
  have HQ := Lib.hid hQ
  clear hF hQ
  go_enter Tryz.func81, Tryz.ntmps81
  go_wp2_with fail
  refine HF.out.mono ?_
  intro e w1 hq
  obtain rfl := HQ.out _ _ hq
  have HQ1 := Lib.hid hq
  clear hq
  go_wp2
  go_end0
  exact HQ1.out
theorem beginIsThere (fn : Fn) (fi ca : Array Value) (w : World) : (binOp .neq 109 (.func fn fi ca) .nilFunc).run Tryz.prog w = .ok (.bool true) w := by kernel_rfl

set_option maxHeartbeats 1600000 in
theorem wNew (F : FuncId) (ca : Array Value) (S : List Nat) (w : World) (R : World → WSt → Prop) (hS : ∀ k ∈ S, k < w.heap.size) (hcf : ∀ args w, (callFunc F args).run Tryz.prog w = .ok (.enter F args) w)
    (hF : ∀ w1, Wk w1 (w.heap.size + 1) { WSt.zero with under := 1 } → Keeps [] w w1 → Calls Tryz.prog F (#[.pointer (some ⟨w.heap.size + 1, 0, none⟩)] ++ ca) w1 fun e w2 => e = .returned (.tuple #[]) ∧ ∃ s2, Wk w2 (w.heap.size + 1) s2 ∧ s2.under = 1 ∧ (s2.over = false ∨ s2.outer = .slice none 0 0) ∧ Keeps ((w.heap.size + 1) :: S) w1 w2 ∧ R w2 s2) :
    Calls Tryz.prog 57 #[.func (.func F) #[] ca] w fun e w' => e = .returned (.pointer (some ⟨w.heap.size + 1, 0, none⟩)) ∧ ∃ w2 s2, R w2 s2 ∧ Keeps [w.heap.size + 1] w2 w' ∧ Keeps S w w2 ∧ Wk w' (w.heap.size + 1) { s2 with under := 0 } := by
  have HF := Lib.hid hF
  have HCF := Lib.hid hcf
  have HS := Lib.hid hS
  have hbn := beginIsThere
  clear hF hcf hS
  go_enter Tryz.func57, Tryz.ntmps57
  go_wp2_with fail
  generalize hW : World.alloc _ _ = W1
  have k1 : Keeps [] w W1 := by rw [← hW]; exact (((Keeps.refl _ _).alloc _).alloc _).alloc _
  have b0 : Box W1 w.heap.size #[.func (.func F) #[] ca] := by rw [← hW]; exact ((Box.new _ _ _).alloc _).alloc _
  have w1 : Wk W1 (w.heap.size + 1) WSt.zero := by
    rw [← hW]; have := (Row.new (w.alloc (.cells #[.func (.func F) #[] ca] 109)) WSt.zero.cells.toArray 105).alloc (.cells #[.pointer (some ⟨w.heap.size + 1, 0, none⟩)] 44); simpa [Wk] using this
  have b2 : Box W1 (w.heap.size + 2) #[.pointer (some ⟨w.heap.size + 1, 0, none⟩)] := by
    rw [← hW]; have := Box.new ((w.alloc (.cells #[.func (.func F) #[] ca] 109)).alloc (.cells WSt.zero.cells.toArray 105)) #[.pointer (some ⟨w.heap.size + 1, 0, none⟩)] 44; simpa using this
  have z1 : W1.heap.size = w.heap.size + 3 := by rw [← hW]; simp
  clear hW
  have D := wDo (w.heap.size + 1) WSt.zero 81 #[.pointer (some ⟨w.heap.size, 0, none⟩), .pointer (some ⟨w.heap.size + 2, 0, none⟩)] W1 (fun w2 s2 => R w2 s2 ∧ ∃ w1, Keeps [w.heap.size + 1] W1 w1 ∧ Keeps ((w.heap.size + 1) :: S) w1 w2) w1 (by decide) (by decide) (fun _ _ => by kernel_rfl)
    (fun w3 h3 k3 => wNew1 F ca (w.heap.size + 1) _ _ w3 _ (fun _ _ h => h.1) HCF.out ((b0.keeps k3 (by simp)).cells 0) ((b2.keeps k3 (by simp)).cells 0)
      ((HF.out w3 h3 ((k1.step k3 (by simp)))).mono fun e w4 ⟨he, s2, a, b, c, d, f⟩ => ⟨he, s2, a, b, by rcases c with c | c; exact .inl c; exact .inr (.inr c), f, w3, k3, d⟩))
  have HD := Lib.hid D
  have HB := Lib.hid b2
  have HK := Lib.hid k1
  clear D b0 b2 w1 k1
  refine HD.out.mono ?_
  rintro e w5 ⟨rfl, w4, s2, ⟨hR, w3, k3, k4⟩, k5, w5k⟩
  have kk : Keeps ((w.heap.size + 1) :: S) W1 w5 := ((k3.mono (by simp)).trans k4).trans (k5.mono (by simp))
  have hb := HB.out.keeps kk (by simp; intro hm; have := HS.out _ hm; omega)
  have hb0 := hb.cells 0
  have ks : Keeps S w w4 := by
    have h1 : Keeps ((w.heap.size + 1) :: S) w w4 := (HK.out.mono (by simp)).trans ((k3.mono (by simp)).trans k4)
    exact h1.mono (by intro k hk hl; simp at hk; rcases hk with rfl | hk; omega; exact hk)
  have HP := Lib.hid (show R w4 s2 ∧ Keeps [w.heap.size + 1] w4 w5 ∧ Keeps S w w4 ∧ Wk w5 (w.heap.size + 1) { s2 with under := 0 } from ⟨hR, k5, ks, w5k⟩)
  clear hR k3 k4 k5 ks w5k hb kk
  have hb1 : w5.cell? ⟨w.heap.size + 1 + 1, 0, none⟩ = some (.pointer (some ⟨w.heap.size + 1, 0, none⟩)) := hb0
  clear hb0
  go_wp2
  go_ret
  exact ⟨rfl, _, _, HP.out⟩
end Go.Proofs.YtjbgkaleickknaaGreat
