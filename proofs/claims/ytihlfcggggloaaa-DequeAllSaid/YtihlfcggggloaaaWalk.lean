/-
  Contracts: the package walk, at walks that went into no other one.
-/
import Derived.Test.YtihlfcggggloaaaRows
import Derived.Test.YtihlfcggggloaaaKeep
import Derived.Test.YtihlfcggggloaaaCells
import Derived.Test.YtihlfcggggloaaaClone2
import Derived.LoopTactic
import Derived.StillTailTactics
import Derived.OwnWalk
import Derived.WalkSpells
import Derived.RegionTactic
import Derived.Deep.RegionHeld3
import Derived.Defers
import Derived.Recover
import Derived.Laws.EntriesVeiled
import Derived.Outline
namespace Go.Proofs.Ytihlfcggggloaaa
set_option maxRecDepth 100000
open Go.ChangeShapes Go.WideShapes Go.ChangeAt Go.RowKit

/-- What stands in a walk's block. -/
structure WSt where
  tasks : Value
  x : C.Acc
  nxt : Value
  sub : Option Addr
  after : Value
  outer : Value
  under : Int
  over : Bool
  code : Int
  v : Int
  l : Value
@[reducible] def WSt.cells (s : WSt) : List Value := [s.tasks, .int .i64 s.x.k, .int .i64 s.x.c, .int .u64 s.x.a, .int .u64 s.x.b, s.nxt, .pointer s.sub, s.after, s.outer, .int .i64 s.under, .bool s.over, .int .i64 s.code, .int .u64 s.v, s.l]

theorem Keeps.set {S : List Nat} {a w : World} (h : Keeps S a w) {m : Nat} (hm : m ∈ S) (o : Nat) (u : Value) : Keeps S a (w.setCell ⟨m, o, none⟩ u) := h.setCell (fun _ => hm) u

/-- Block m is a walk that stands so. -/
def Wk (w : World) (m : Nat) (s : WSt) : Prop := Row w m 99 s.cells

theorem Wk.keeps {S : List Nat} {w w' : World} {m : Nat} {s : WSt} (h : Wk w m s) (hk : Keeps S w w') (hm : m ∉ S) : Wk w' m s := Row.keeps h hk hm
theorem Wk.lt {w : World} {m : Nat} {s : WSt} (h : Wk w m s) : m < w.heap.size := Row.lt h
theorem Wk.alloc {w : World} {m : Nat} {s : WSt} (h : Wk w m s) (o : Obj) : Wk (w.alloc o) m s := Row.alloc h o
/-- All its cells can be read and written. -/
theorem Wk.at {w : World} {m : Nat} {s : WSt} (h : Wk w m s) :
    w.cell? ⟨m, 0, none⟩ = some s.tasks ∧ w.cell? ⟨m, 1, none⟩ = some (.int .i64 s.x.k) ∧ w.cell? ⟨m, 2, none⟩ = some (.int .i64 s.x.c) ∧ w.cell? ⟨m, 3, none⟩ = some (.int .u64 s.x.a) ∧ w.cell? ⟨m, 4, none⟩ = some (.int .u64 s.x.b) ∧
    w.cell? ⟨m, 5, none⟩ = some s.nxt ∧ w.cell? ⟨m, 6, none⟩ = some (.pointer s.sub) ∧ w.cell? ⟨m, 7, none⟩ = some s.after ∧ w.cell? ⟨m, 8, none⟩ = some s.outer ∧ w.cell? ⟨m, 9, none⟩ = some (.int .i64 s.under) ∧ w.cell? ⟨m, 10, none⟩ = some (.bool s.over) ∧
    w.cell? ⟨m, 11, none⟩ = some (.int .i64 s.code) ∧ w.cell? ⟨m, 12, none⟩ = some (.int .u64 s.v) ∧ w.cell? ⟨m, 13, none⟩ = some s.l :=
  ⟨Row.cell h rfl, Row.cell h rfl, Row.cell h rfl, Row.cell h rfl, Row.cell h rfl, Row.cell h rfl, Row.cell h rfl, Row.cell h rfl, Row.cell h rfl, Row.cell h rfl, Row.cell h rfl, Row.cell h rfl, Row.cell h rfl, Row.cell h rfl⟩
theorem Wk.fr {w : World} {m : Nat} {s : WSt} (h : Wk w m s) (j : Nat) : w.frozen? ⟨m, j, none⟩ = false := Row.frozen h j

theorem Wk.left {w : World} {m : Nat} {s : WSt} (h : Wk w m s) : Wk (((w.setCell ⟨m, 5, none⟩ .nilFunc).setCell ⟨m, 6, none⟩ (.pointer none)).setCell ⟨m, 7, none⟩ .nilFunc) m { s with nxt := .nilFunc, sub := none, after := .nilFunc } :=
  ((Row.set h 5 _).set 6 _).set 7 _

set_option maxHeartbeats 800000 in
theorem wLeave (m : Nat) (s : WSt) (w : World) (h : Wk w m s) (hs : s.sub = none) :
    Calls Try.prog 62 #[.pointer (some ⟨m, 0, none⟩)] w fun e w' => e = .returned (.tuple #[]) ∧ Wk w' m { s with nxt := .nilFunc, sub := none, after := .nilFunc } ∧ Keeps [m] w w' := by
  obtain ⟨-, -, -, -, -, h5, h6, h7, -, -, -, -, -, -⟩ := h.at
  have f5 := h.fr 5
  have f6 := h.fr 6
  have f7 := h.fr 7
  have hlt := h.lt
  rw [hs] at h6
  have HW := Lib.hid h
  have HS := Lib.hid hs
  clear h hs
  go_enter Try.func62, Try.ntmps62
  go_wp2
  go_region
  go_end0
  exact ⟨rfl, HW.out.left.alloc _, ((((Keeps.refl [m] w).set (.head _) _ _).set (.head _) _ _).set (.head _) _ _).alloc _ |>.drew⟩

/-- A block of four cells laid before a call that touches others alone. -/
theorem boxed4 {S : List Nat} {w w1 : World} {c0 c1 c2 c3 : Value} {e : TypeId} (hk : Keeps S (w.alloc (.cells #[c0, c1, c2, c3] e)) w1) (hS : w.heap.size ∉ S) :
    w1.cell? ⟨w.heap.size, 0, none⟩ = some c0 ∧ w1.cell? ⟨w.heap.size, 1, none⟩ = some c1 ∧ w1.cell? ⟨w.heap.size, 2, none⟩ = some c2 ∧ w1.cell? ⟨w.heap.size, 3, none⟩ = some c3 := by
  have h := (Box.new w #[c0, c1, c2, c3] e).keeps hk hS
  exact ⟨h.cells 0, h.cells 1, h.cells 2, h.cells 3⟩
theorem Wk.asked {w : World} {m : Nat} {s : WSt} (h : Wk w m s) (x : C.Acc) (f : Value) : Wk (((((w.setCell ⟨m, 1, none⟩ (.int .i64 x.k)).setCell ⟨m, 2, none⟩ (.int .i64 x.c)).setCell ⟨m, 3, none⟩ (.int .u64 x.a)).setCell ⟨m, 4, none⟩ (.int .u64 x.b)).setCell ⟨m, 5, none⟩ f) m { s with x := x, nxt := f } :=
  ((((Row.set h 1 _).set 2 _).set 3 _).set 4 _).set 5 _

theorem nextIsThere (fn : Fn) (fi ca : Array Value) (w : World) : (binOp .eql 96 (.func fn fi ca) .nilFunc).run Try.prog w = .ok (.bool false) w := by kernel_rfl
theorem nextIsNot (w : World) : (binOp .eql 96 .nilFunc .nilFunc).run Try.prog w = .ok (.bool true) w := by kernel_rfl

set_option maxHeartbeats 800000 in
theorem wAsk (m : Nat) (s : WSt) (x : C.Acc) (fn : Fn) (fi ca : Array Value) (w : World) (h : Wk w m s) (hs : s.sub = none) (ho : s.over = false) :
    Calls Try.prog 71 #[.pointer (some ⟨m, 0, none⟩), .agg #[.int .i64 x.k, .int .i64 x.c, .int .u64 x.a, .int .u64 x.b], .func fn fi ca] w fun e w' => e = .returned (.tuple #[]) ∧ Wk w' m { s with x := x, nxt := .func fn fi ca, sub := none, after := .nilFunc } ∧ Keeps [m] w w' := by
  obtain ⟨-, -, -, -, -, -, -, -, -, -, h10, -, -, -⟩ := h.at
  rw [ho] at h10
  have hlt := h.lt
  have HL := fun W (hW : Wk W m s) => wLeave m s W hW hs
  have HLV := Lib.hid HL
  have HW := Lib.hid h
  clear h hs HL ho
  have hfn := nextIsThere
  go_enter Try.func71, Try.ntmps71
  go_wp2_with fail
  refine (HLV.out _ (HW.out.alloc _)).mono ?_
  rintro e w1 ⟨rfl, h1, k1⟩
  have hb := boxed4 k1 (by simp; omega)
  obtain ⟨b0, b1, b2, b3⟩ := hb
  have f1 := h1.fr 1
  have f2 := h1.fr 2
  have f3 := h1.fr 3
  have f4 := h1.fr 4
  have f5 := h1.fr 5
  obtain ⟨-, a1, a2, a3, a4, a5, -⟩ := h1.at
  have H1 := Lib.hid h1
  have K1 := Lib.hid (((Keeps.refl [m] w).alloc _).trans k1)
  clear h1 k1 h10
  go_wp2
  go_end0
  exact ⟨rfl, H1.out.asked x _, (((((K1.out.set (.head _) _ _).set (.head _) _ _).set (.head _) _ _).set (.head _) _ _).set (.head _) _ _)⟩

theorem owns_base {w : World} {B C size n : Nat} {e : TypeId} {v : Value} {xs : List Value} (h : w.ownsRow B e size v n xs) (hB : C ≤ B) : w.ownsRow C e size v n xs := by
  refine ⟨h.1, ?_⟩
  rcases h.2 with h | ⟨g, cap, cur, hv, hb, rest⟩
  · exact .inl h
  · exact .inr ⟨g, cap, cur, hv, Nat.le_trans hB hb, rest⟩
theorem owns_keeps {w w' : World} {S : List Nat} {B size n : Nat} {e : TypeId} {v : Value} {xs : List Value} (h : w.ownsRow B e size v n xs) (hk : Keeps S w w') (hS : ∀ g, v.ownBlock = some g → g ∉ S) : w'.ownsRow B e size v n xs := by
  have hlt := h.lt
  refine ⟨h.1, ?_⟩
  rcases h.2 with h | ⟨g, cap, cur, hv, hb, hg, rest⟩
  · exact .inl h
  · subst hv
    exact .inr ⟨g, cap, cur, rfl, hb, (hk.block g (hlt g rfl).2 (hS g rfl)).trans hg, rest⟩

set_option maxHeartbeats 800000 in
theorem wCopied (code v : Int) (l : Value) (n : Nat) (us : List Int) (w : World) (h : Sl w 1 l n (ints .u64 us)) (hn : n ≤ 10000000) :
    Calls Try.prog 51 #[.agg #[.int .i64 code, .int .u64 v, l]] w fun e w' => ∃ l', e = .returned (.agg #[.int .i64 code, .int .u64 v, l']) ∧ w'.ownsRow w.heap.size 38 1 l' n (ints .u64 us) ∧ Keeps [] w w' := by
  obtain ⟨p, c, rfl⟩ := h.len
  have HS := Lib.hid h
  clear h
  have HC := Lib.hid (fun W h => cloneWords_sl (.slice p n c) n us W h hn)
  go_enter Try.func51, Try.ntmps51
  go_wp2_with fail
  generalize hW : World.alloc _ _ = W1
  have hB : Row W1 w.heap.size 50 [.int .i64 code, .int .u64 v, .slice p n c] := by rw [← hW]; exact (Row.new _ _ _).alloc _
  have hR : Row W1 (w.heap.size + 1) 50 [.int .i64 0, .int .u64 0, .slice none 0 0] := by rw [← hW]; have := Row.new (w.alloc (.cells #[.int .i64 code, .int .u64 v, .slice p n c] 50)) #[.int .i64 0, .int .u64 0, .slice none 0 0] 50; simpa using this
  have hK : Keeps [] w W1 := by rw [← hW]; exact ((Keeps.refl _ _).alloc _).alloc _
  clear hW
  refine (HC.out W1 (HS.out.keeps hK (by simp))).mono ?_
  rintro e w2 ⟨l', rfl, ho, k2⟩
  obtain ⟨q, c', rfl⟩ := (Sl.of_owns ho).len
  have hB2 := hB.keeps k2 (by simp)
  have hR2 := hR.keeps k2 (by simp)
  have a0 := hB2.cell (j := 0) rfl
  have a1 := hB2.cell (j := 1) rfl
  have a2 := hB2.cell (j := 2) rfl
  have r0 := hR2.cell (j := 0) rfl
  have r1 := hR2.cell (j := 1) rfl
  have r2 := hR2.cell (j := 2) rfl
  have f0 := hB2.frozen 2
  have g0 := hR2.frozen 0
  have g1 := hR2.frozen 1
  have g2 := hR2.frozen 2
  have HB := Lib.hid hB2
  have HO := Lib.hid ho
  have HK := Lib.hid (hK.trans k2)
  have HZ := Lib.hid (show ∀ g, (Value.slice q n c').ownBlock = some g → g ≠ w.heap.size ∧ g ≠ w.heap.size + 1 from fun g hg => by have := (ho.lt g hg).1; have := hR.lt; omega)
  have hz : w.heap.size ≤ W1.heap.size := hK.size
  have hsz : w.heap.size + 1 < w2.heap.size := hR2.lt
  clear hB hR hB2 hR2 ho k2 hK
  go_wp2
  refine bodyPost_ret (v := .agg #[.int .i64 code, .int .u64 v, .slice q n c']) (by simp [results, Try.results51, go_sem, r0, r1, r2]) rfl ⟨_, rfl, ?_, ?_⟩
  · refine owns_base (owns_keeps (S := [w.heap.size, w.heap.size + 1]) HO.out ?_ ?_) hz
    · exact ((((Keeps.refl _ _).set (by simp) _ _).set (by simp) _ _).set (by simp) _ _).set (by simp) _ _
    · intro g hg
      have := HZ.out g hg
      simp; omega
  · refine HK.out.step (S := [w.heap.size, w.heap.size + 1]) ?_ (by simp)
    exact ((((Keeps.refl _ _).set (by simp) _ _).set (by simp) _ _).set (by simp) _ _).set (by simp) _ _

theorem try1_idle (w : World) :
    CallsD Try.prog 97 #[] .returning w fun e u' w' => e = .returned (.tuple #[]) ∧ u' = .returning ∧ w' = w := by
  refine callsD_of_wpS Try.func97 rfl fun c₀ cs hu => ?_
  apply wpS_region
  simp [wpOpsS, go_sem, recoverD, hu, Try.ntmps97, Exit.thenS]
  cases c₀
  simp_all [bodyPostS, results, Try.results97]

set_option maxHeartbeats 800000 in
/-- A function value that is done, and returns. -/
theorem wTry (F : FuncId) (ca : Array Value) (w : World) (R : World → Prop) (hcf : ∀ args w, (callFunc F args).run Try.prog w = .ok (.enter F args) w)
    (hF : Calls Try.prog F ca w fun e w' => e = .returned (.tuple #[]) ∧ R w') :
    Calls Try.prog 86 #[.func (.func F) #[] ca] w fun e w' => e = .returned (.tuple #[]) ∧ R w' := by
  have HF := Lib.hid hF
  clear hF
  go_enter_defers Try.func86, Try.ntmps86
  go_wp2_with fail
  refine HF.out.mono ?_
  rintro e w1 ⟨rfl, hR⟩
  go_wp2
  refine leaves_cons (f := 97) (args := #[]) (by simp) (by simp [go_sem]) ?_
  refine (try1_idle _).mono ?_
  rintro e u' w'' ⟨rfl, rfl, rfl⟩
  simp [Leaves, settle, results, Try.results86, go_sem]
  exact hR

/-- Nothing is told as long as it goes on, or a function of its own is under way. -/
theorem wTellNot (m : Nat) (s : WSt) (w : World) (h : Wk w m s) (hs : s.over = false ∨ 0 < s.under) :
    Calls Try.prog 83 #[.pointer (some ⟨m, 0, none⟩)] w fun e w' => e = .returned (.tuple #[]) ∧ w = w' := by
  obtain ⟨-, -, -, -, -, -, -, -, h8, h9, h10, -, -, -⟩ := h.at
  clear h
  cases ho : s.over with
  | false =>
    rw [ho] at h10
    clear hs ho
    go_enter Try.func83, Try.ntmps83
    go_wp2
    first | go_end0 | refine bodyPost_ret (results_none rfl _ _ _) rfl ?_
    exact ⟨rfl, rfl⟩
  | true =>
    rw [ho] at h10
    have hu : 0 < s.under := by rcases hs with h | h; rw [ho] at h; cases h; exact h
    clear hs ho
    go_enter Try.func83, Try.ntmps83
    go_wp2
    first | go_end0 | refine bodyPost_ret (results_none rfl _ _ _) rfl ?_
    exact ⟨rfl, rfl⟩

set_option maxHeartbeats 800000 in
/-- It has ended, and nobody went into it. -/
theorem wTellNone (m : Nat) (s : WSt) (w : World) (h : Wk w m s) (hs : s.over = true) (hu : s.under = 0) (ho : s.outer = .slice none 0 0) :
    Calls Try.prog 83 #[.pointer (some ⟨m, 0, none⟩)] w fun e w' => e = .returned (.tuple #[]) ∧ Wk w' m s ∧ Keeps [m] w w' := by
  obtain ⟨-, -, -, -, -, -, -, -, h8, h9, h10, -, -, -⟩ := h.at
  have f8 := h.fr 8
  rw [hs] at h10
  rw [hu] at h9
  rw [ho] at h8
  have HW := Lib.hid h
  have HO := Lib.hid ho
  clear h hs hu ho
  go_enter Try.func83, Try.ntmps83
  go_wp2
  refine wp_loop_rounds 1 ?_
  rw [rounds_succ]
  go_wp2
  go_end0
  exact ⟨rfl, by have := Row.set HW.out 8 (.slice none 0 0); simpa [Wk, WSt.cells, HO.out] using this, (Keeps.refl _ _).set (by simp) _ _⟩

theorem wTell (m : Nat) (s : WSt) (w : World) (h : Wk w m s) (hc : s.over = false ∨ 0 < s.under ∨ (s.under = 0 ∧ s.outer = .slice none 0 0)) :
    Calls Try.prog 83 #[.pointer (some ⟨m, 0, none⟩)] w fun e w' => e = .returned (.tuple #[]) ∧ Wk w' m s ∧ Keeps [m] w w' := by
  by_cases ho : s.over = false
  · exact (wTellNot m s w h (.inl ho)).mono fun _ _ ⟨he, hw⟩ => ⟨he, hw ▸ h, hw ▸ Keeps.refl _ _⟩
  · by_cases hu : 0 < s.under
    · exact (wTellNot m s w h (.inr hu)).mono fun _ _ ⟨he, hw⟩ => ⟨he, hw ▸ h, hw ▸ Keeps.refl _ _⟩
    · rcases hc with hc | hc | ⟨h1, h2⟩
      · exact absurd hc ho
      · exact absurd hc hu
      · exact wTellNone m s w h (by simpa using ho) h1 h2

/-- A slice whose block isn't touched. -/
theorem Sl.but {S : List Nat} {w w' : World} {size n : Nat} {v : Value} {xs : List Value} (h : Sl w size v n xs) (hk : Keeps S w w') (hn : ∀ g, v.ownBlock = Option.some g → g ∉ S) : Sl w' size v n xs := by
  refine ⟨h.1, ?_⟩
  rcases h.2 with h | ⟨b, off, cap, hv, hs, hc⟩
  · exact .inl h
  · subst hv
    exact .inr ⟨b, off, cap, rfl, Nat.lt_of_lt_of_le hs hk.size, fun j u hu => (hk.cell (p := ⟨b, off + j, none⟩) hs (hn b rfl)).trans (hc j u hu)⟩

theorem Wk.ending {w : World} {m : Nat} {s : WSt} (h : Wk w m s) : Wk ((w.setCell ⟨m, 5, none⟩ .nilFunc).setCell ⟨m, 7, none⟩ .nilFunc) m { s with nxt := .nilFunc, after := .nilFunc } :=
  (Row.set h 5 _).set 7 _
theorem Wk.ended {w : World} {m : Nat} {s : WSt} (h : Wk w m s) (code v : Int) (l : Value) :
    Wk ((((w.setCell ⟨m, 10, none⟩ (.bool true)).setCell ⟨m, 11, none⟩ (.int .i64 code)).setCell ⟨m, 12, none⟩ (.int .u64 v)).setCell ⟨m, 13, none⟩ l) m { s with over := true, code := code, v := v, l := l } :=
  (((Row.set h 10 _).set 11 _).set 12 _).set 13 _

set_option maxHeartbeats 1600000 in
theorem wEnd (m : Nat) (s : WSt) (code v : Int) (l : Value) (n : Nat) (us : List Int) (w : World) (h : Wk w m s) (ho : s.over = false) (hc : 0 < s.under ∨ (s.under = 0 ∧ s.outer = .slice none 0 0))
    (hl : Sl w 1 l n (ints .u64 us)) (hlm : ∀ g, l.ownBlock = some g → g ≠ m) (hn : n ≤ 10000000) :
    Calls Try.prog 61 #[.pointer (some ⟨m, 0, none⟩), .agg #[.int .i64 code, .int .u64 v, l]] w fun e w' => e = .returned (.tuple #[]) ∧ ∃ l',
      Wk w' m { s with nxt := .nilFunc, after := .nilFunc, over := true, code := code, v := v, l := l' } ∧ w'.ownsRow w.heap.size 38 1 l' n (ints .u64 us) ∧ Keeps [m] w w' := by
  obtain ⟨q, c, rfl⟩ := hl.len
  have HC := Lib.hid (fun W h => wCopied code v (.slice q n c) n us W h hn)
  have HT := Lib.hid (fun W l' (h : Wk W m { s with nxt := .nilFunc, after := .nilFunc, over := true, code := code, v := v, l := l' }) => wTell m _ W h (.inr hc))
  obtain ⟨-, -, -, -, -, h5, -, h7, -, -, h10, -, -, -⟩ := h.at
  rw [ho] at h10
  have f5 := h.fr 5
  have f7 := h.fr 7
  have hlt := h.lt
  have HW := Lib.hid h
  have HL := Lib.hid hl
  have HM := Lib.hid hlm
  clear h hl hlm ho hc
  go_enter Try.func61, Try.ntmps61
  go_wp2_with fail
  generalize hW : World.alloc _ _ = W1
  have k1 : Keeps [m] w W1 := by rw [← hW]; exact (((Keeps.refl _ _).set (by simp) _ _).set (by simp) _ _).alloc _
  have w1 : Wk W1 m { s with nxt := .nilFunc, after := .nilFunc } := by rw [← hW]; exact HW.out.ending.alloc _
  clear hW
  refine (HC.out W1 (HL.out.but k1 (fun g hg => by simpa using HM.out g hg))).mono ?_
  rintro e w2 ⟨l', rfl, o2, k2⟩
  obtain ⟨q', c', rfl⟩ := (Sl.of_owns o2).len
  have w3 := w1.keeps k2 (by simp)
  obtain ⟨-, -, -, -, -, -, -, -, -, -, a10, a11, a12, a13⟩ := w3.at
  have f10 := w3.fr 10
  have f11 := w3.fr 11
  have f12 := w3.fr 12
  have f13 := w3.fr 13
  have s1 := k1.size
  have HW3 := Lib.hid w3
  have HK := Lib.hid (k1.trans k2.nil)
  have HO := Lib.hid o2
  have HZ := Lib.hid (show ∀ g, (Value.slice q' n c').ownBlock = some g → g ≠ m from fun g hg => by have := (o2.lt g hg).1; omega)
  clear w1 k1 k2 o2 w3 h5 h7 h10 f5 f7
  go_wp2_with fail
  refine (HT.out _ _ (HW3.out.ended code v (.slice q' n c'))).mono ?_
  rintro e w4 ⟨rfl, w4k, k4⟩
  have HW4 := Lib.hid w4k
  have HK4 := Lib.hid k4
  clear w4k k4
  go_wp2
  go_end0
  have k5 := ((((Keeps.refl [m] w2).set (by simp) 10 (.bool true)).set (by simp) 11 (.int .i64 code)).set (by simp) 12 (.int .u64 v)).set (by simp) 13 (.slice q' n c') |>.trans HK4.out
  exact ⟨rfl, _, HW4.out, owns_base (owns_keeps HO.out k5 (fun g hg => by simpa using HZ.out g hg)) s1, HK.out.trans k5⟩

theorem Wk.underAt {w : World} {m : Nat} {s : WSt} (h : Wk w m s) (u : Int) : Wk (w.setCell ⟨m, 9, none⟩ (.int .i64 u)) m { s with under := u } := Row.set h 9 _

set_option maxHeartbeats 800000 in
/-- A function that is done for a walk. -/
theorem wDo (m : Nat) (s : WSt) (F : FuncId) (ca : Array Value) (w : World) (R : World → WSt → Prop) (h : Wk w m s) (hu : 0 ≤ s.under) (hu1 : s.under ≤ 1000) (hcf : ∀ args w, (callFunc F args).run Try.prog w = .ok (.enter F args) w)
    (hF : ∀ w1, Wk w1 m { s with under := s.under + 1 } → Keeps [m] w w1 → Calls Try.prog F ca w1 fun e w2 => e = .returned (.tuple #[]) ∧ ∃ s2, Wk w2 m s2 ∧ s2.under = s.under + 1 ∧ (s2.over = false ∨ 0 < s.under ∨ s2.outer = .slice none 0 0) ∧ R w2 s2) :
    Calls Try.prog 63 #[.pointer (some ⟨m, 0, none⟩), .func (.func F) #[] ca] w fun e w' => e = .returned (.tuple #[]) ∧ ∃ w2 s2, R w2 s2 ∧ Keeps [m] w2 w' ∧ Wk w' m { s2 with under := s.under } := by
  have HF := Lib.hid hF
  have HCF := Lib.hid hcf
  obtain ⟨-, -, -, -, -, -, -, -, -, h9, -, -, -, -⟩ := h.at
  have f9 := h.fr 9
  have HW := Lib.hid h
  obtain ⟨u, hsu⟩ : ∃ u, s.under = u := ⟨_, rfl⟩
  rw [hsu] at h9 hu hu1
  have HU := Lib.hid hsu
  clear hF hcf h hsu
  go_enter Try.func63, Try.ntmps63
  go_wp2_with fail
  have w1 := HW.out.underAt (u + 1)
  have C := HF.out _ (by rw [HU.out]; exact w1) ((Keeps.refl [m] w).set (by simp) _ _)
  refine (wTry F ca _ _ HCF.out C).mono ?_
  clear C w1
  rintro e w2 ⟨rfl, s2, w2k, u2, hc, hR⟩
  obtain ⟨-, -, -, -, -, -, -, -, -, b9, -, -, -, -⟩ := w2k.at
  have g9 := w2k.fr 9
  rw [u2, HU.out] at b9
  have HW2 := Lib.hid w2k
  have HR := Lib.hid hR
  have HC := Lib.hid hc
  clear w2k u2 hc hR h9 f9
  go_wp2_with fail
  have w3 := HW2.out.underAt u
  refine (wTell m _ _ w3 ?_).mono ?_
  · rcases HC.out with h | h | h
    · exact .inl h
    · exact .inr (.inl (by rw [← HU.out]; exact h))
    · by_cases h0 : 0 < u
      · exact .inr (.inl h0)
      · exact .inr (.inr ⟨by show u = 0; omega, h⟩)
  rintro e w4 ⟨rfl, w4k, k4⟩
  have HW4 := Lib.hid w4k
  have HK4 := Lib.hid k4
  clear w4k k4 w3
  go_wp2
  go_end0
  exact ⟨rfl, w2, s2, HR.out, ((Keeps.refl [m] w2).set (by simp) _ _).trans HK4.out, by rw [HU.out]; exact HW4.out⟩
end Go.Proofs.Ytihlfcggggloaaa
