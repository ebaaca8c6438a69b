/-
  Contracts: the document's machines of layer 4 go as the machines of Kinds go.
-/
import Derived.Test.YtahjnpopncninaaSeen
import Derived.Test.YtahjnpopncninaaKinds
import Derived.IntWalk
import Derived.Test.YtahjnpopncninaaFresh2
namespace Go.Proofs.Ytahjnpopncninaa
open Go.ChangeShapes Go.WideShapes Go.ChangeAt Go.RowKit

def refUntilJ (p : Nat) (w : World) (S : List Nat) (s : UntilS) : Prop :=
  S = [p] ∧ s.held = [] ∧ Row w p 40 [.int .i64 s.x.k, .int .i64 s.x.c, .int .u64 s.x.a, .int .u64 s.x.b, .bool s.got.isSome, .int .u64 (s.got.getD 0)]

theorem refUntil_want (p : Nat) (s : UntilS) (w : World) (S : List Nat) (h : refUntilJ p w S s) :
    Calls Try.prog 34 #[.pointer (some ⟨p, 0, none⟩)] w fun e w' => e = .returned (.tuple #[((untilM.want s).getD zacc).val, .bool (untilM.want s).isSome]) ∧ Keeps [] w w' := by
  obtain ⟨-, -, h⟩ := h
  have h0 := h.cell (j := 0) rfl
  have h1 := h.cell (j := 1) rfl
  have h2 := h.cell (j := 2) rfl
  have h3 := h.cell (j := 3) rfl
  have h4 := h.cell (j := 4) rfl
  have hlt := h.lt
  obtain ⟨x, got, held⟩ := s
  clear h
  cases got with
  | none =>
    simp only [Option.isSome] at h4
    go_enter Try.func34, Try.ntmps34
    go_wp2
    refine bodyPost_ret (v := .tuple #[x.val, .bool true]) (by simp [results, Try.results34, go_sem]) rfl ⟨rfl, ?_⟩
    exact (Keeps.refl _ _).alloc _
  | some v =>
    simp only [Option.isSome] at h4
    go_enter Try.func34, Try.ntmps34
    go_wp2
    refine bodyPost_ret (v := .tuple #[zacc.val, .bool false]) (by simp [results, Try.results34, go_sem]) rfl ⟨rfl, ?_⟩
    exact (Keeps.refl _ _).alloc _
theorem refUntil_over (p : Nat) (s : UntilS) (w : World) (S : List Nat) (h : refUntilJ p w S s) :
    Calls Try.prog 35 #[.pointer (some ⟨p, 0, none⟩)] w fun e w' => ∃ q n c,
      e = .returned (.tuple #[.agg #[.int .i64 ((untilM.res s).getD Rs.zero).code, .int .u64 ((untilM.res s).getD Rs.zero).v, .slice q n c], .bool (untilM.res s).isSome]) ∧ Keeps [] w w' ∧
      ∀ r, untilM.res s = some r → Sl w' 1 (.slice q n c) r.l.length (ints .u64 r.l) ∧ r.l.length ≤ maxLen ∧ ∀ g, (Value.slice q n c).ownBlock = some g → g ∈ S ∨ w.heap.size ≤ g := by
  obtain ⟨-, -, h⟩ := h
  have h4 := h.cell (j := 4) rfl
  have h5 := h.cell (j := 5) rfl
  have hlt := h.lt
  obtain ⟨x, got, held⟩ := s
  have hv : ∀ v : Int, ((untilM.res ⟨x, got, held⟩).getD Rs.zero).v = v → got.getD 0 = v := by intro v; cases got <;> simp [untilM, Rs.zero]
  have ev := hv _ rfl
  have ec : ((untilM.res ⟨x, got, held⟩).getD Rs.zero).code = 0 := by cases got <;> rfl
  have eb : (untilM.res ⟨x, got, held⟩).isSome = got.isSome := by cases got <;> rfl
  rw [ec, eb]
  rw [ev] at h5
  obtain ⟨v, hv'⟩ : ∃ v, ((untilM.res ⟨x, got, held⟩).getD Rs.zero).v = v := ⟨_, rfl⟩
  obtain ⟨b, hb⟩ : ∃ b, got.isSome = b := ⟨_, rfl⟩
  rw [hv'] at h5 ⊢
  rw [hb] at h4 ⊢
  have fin : ∀ w' r, untilM.res ⟨x, got, held⟩ = some r → Sl w' 1 (.slice none 0 0) r.l.length (ints .u64 r.l) ∧ r.l.length ≤ maxLen ∧ ∀ g, (Value.slice none 0 0).ownBlock = some g → g ∈ S ∨ w.heap.size ≤ g := by
    intro w' r hr
    cases got with
    | none => cases hr
    | some y => cases hr; exact ⟨⟨rfl, .inl ⟨_, _, rfl, rfl⟩⟩, Nat.zero_le _, fun g hg => by cases hg⟩
  have HF := Lib.hid fin
  clear hv ev ec eb hv' hb fin h
  go_enter Try.func35, Try.ntmps35
  go_wp2
  go_region
  go_wp2
  refine bodyPost_ret (v := .tuple #[.agg #[.int .i64 0, .int .u64 v, .slice none 0 0], .bool b]) (by simp [results, Try.results35, go_sem]) rfl ⟨none, 0, 0, rfl, ?_, HF.out _⟩
  exact ((Keeps.refl _ _).alloc _).drew
theorem refUntil_held (p : Nat) (s : UntilS) (w : World) (S : List Nat) (h : refUntilJ p w S s) :
    Calls Try.prog 36 #[.pointer (some ⟨p, 0, none⟩)] w fun e w' => ∃ q c, e = .returned (.slice q (untilM.held s).length c) ∧ Sl w' 1 (.slice q (untilM.held s).length c) (untilM.held s).length (ints .u64 (untilM.held s)) ∧ Keeps [] w w' := by
  have hh : untilM.held s = [] := h.2.1
  rw [hh]
  have HH := Lib.hid hh
  clear h hh
  go_enter Try.func36, Try.ntmps36
  go_wp2
  go_ret
  exact ⟨none, 0, rfl, ⟨rfl, .inl ⟨_, _, rfl, rfl⟩⟩, Keeps.refl _ _⟩
theorem refUntil_give (p : Nat) (s : UntilS) (w : World) (S : List Nat) (tv : Int) (won : Bool) (h : refUntilJ p w S s) :
    Calls Try.prog 37 #[.pointer (some ⟨p, 0, none⟩), .int .u64 tv, .bool won] w fun e w' => e = .returned (.tuple #[]) ∧ ∃ S', refUntilJ p w' S' (untilM.give s tv won) ∧ Keeps (if (untilM.res s).isSome then [] else S) w w' ∧ ∀ k ∈ S', k ∈ S ∨ w.heap.size ≤ k := by
  have H0 := h
  obtain ⟨hS, hh, h⟩ := h
  have h4 := h.cell (j := 4) rfl
  have h5 := h.cell (j := 5) rfl
  have f4 := h.frozen 4
  have f5 := h.frozen 5
  obtain ⟨x, got, held⟩ := s
  have HH := Lib.hid hh
  have HS := Lib.hid hS
  have HR := Lib.hid h
  have HJ := Lib.hid H0
  obtain ⟨L, hL⟩ : ∃ L, (if (untilM.res ⟨x, got, held⟩).isSome then [] else S) = L := ⟨_, rfl⟩
  rw [hL]
  have HL := Lib.hid hL
  clear h hh hS H0 hL
  cases won with
  | false =>
    go_enter Try.func37, Try.ntmps37
    go_wp2
    first | go_end0 | refine bodyPost_ret (results_none rfl _ _ _) rfl ?_
    have e : untilM.give ⟨x, got, held⟩ tv false = ⟨x, got, held⟩ := by cases got <;> rfl
    rw [e]
    exact ⟨rfl, S, HJ.out, Keeps.refl _ _, fun k hk => .inl hk⟩
  | true =>
    cases got with
    | some y =>
      simp only [Option.isSome] at h4
      go_enter Try.func37, Try.ntmps37
      go_wp2
      first | go_end0 | refine bodyPost_ret (results_none rfl _ _ _) rfl ?_
      exact ⟨rfl, S, HJ.out, Keeps.refl _ _, fun k hk => .inl hk⟩
    | none =>
      simp only [Option.isSome] at h4
      go_enter Try.func37, Try.ntmps37
      go_wp2
      first | go_end0 | refine bodyPost_ret (results_none rfl _ _ _) rfl ?_
      refine ⟨rfl, S, ⟨HS.out, HH.out, (HR.out.set 4 _).set 5 _⟩, ?_, fun k hk => .inl hk⟩
      rw [← HL.out, HS.out]
      exact ((Keeps.refl [p] w).set (by simp) _ _).set (by simp) _ _
theorem refUntilRuns (p : Nat) : RefRuns untilM (refUntilJ p) (fun _ => False) p 34 35 36 37 where
  lt := fun ⟨hS, _, h⟩ k hk => by rw [hS] at hk; simp at hk; subst hk; exact h.lt
  frame := fun ⟨hS, hh, h⟩ hk hT _ => ⟨hS, hh, h.keeps hk (hT p (by rw [hS]; simp))⟩
  stays := fun s v won h => by
    obtain ⟨x, got, held⟩ := s
    cases got with
    | none => simp [untilM] at h
    | some y => rfl
  few := fun ⟨_, hh, _⟩ => by have e := congrArg List.length hh; simp only [untilM]; simp at e; simp [e]
  want := fun w S s h => refUntil_want p s w S h
  over := fun w S s h => refUntil_over p s w S h
  held := fun w S s h => refUntil_held p s w S h
  give := fun w S s v won h _ => refUntil_give p s w S v won h

/-- The list that it goes by isn't its own: v; that of what it was told is. -/
def refPlainJ (v : Value) (B p : Nat) (w : World) (S : List Nat) (s : PlainS) : Prop :=
  ∃ L, S = p :: L.ownBlock.toList ∧ s.held = [] ∧ Row w p 28 [v, L] ∧ Sl w 4 v s.xs.length (accs s.xs) ∧ (s.xs.length ≠ 0 → ∀ g, v.ownBlock = some g → g < B ∧ g ∉ S) ∧ w.ownsRow 0 35 1 L s.told.length (ints .u64 s.told) ∧ (∀ g, L.ownBlock = some g → g ≠ p) ∧ s.told.length ≤ s.xs.length ∧ s.xs.length ≤ 1000000

theorem Keeps.setNew {a w : World} (h : Keeps [] a w) {m : Nat} (hm : a.heap.size ≤ m) (o : Nat) (u : Value) : Keeps [] a (w.setCell ⟨m, o, none⟩ u) := h.setCell (fun hl => by have h2 : m < a.heap.size := hl; omega) u
theorem keeps_new4 {w a : World} (h : Keeps [] w a) {u0 u1 u2 u3 : Value} : Keeps [] w ((((a.setCell ⟨w.heap.size, 0, none⟩ u0).setCell ⟨w.heap.size, 1, none⟩ u1).setCell ⟨w.heap.size, 2, none⟩ u2).setCell ⟨w.heap.size, 3, none⟩ u3) :=
  h.step (S := [w.heap.size]) (((((Keeps.refl _ _).set (by simp) _ _).set (by simp) _ _).set (by simp) _ _).set (by simp) _ _) (by simp)
theorem keeps_new3 {w a : World} (h : Keeps [] w a) {u0 u1 u2 : Value} : Keeps [] w (((a.setCell ⟨w.heap.size, 0, none⟩ u0).setCell ⟨w.heap.size, 1, none⟩ u1).setCell ⟨w.heap.size, 2, none⟩ u2) :=
  h.step (S := [w.heap.size]) ((((Keeps.refl _ _).set (by simp) _ _).set (by simp) _ _).set (by simp) _ _) (by simp)
set_option maxHeartbeats 800000 in
theorem refPlain_want (v : Value) (B p : Nat) (s : PlainS) (w : World) (S : List Nat) (h : refPlainJ v B p w S s) :
    Calls Try.prog 27 #[.pointer (some ⟨p, 0, none⟩)] w fun e w' => e = .returned (.tuple #[((plainM.want s).getD zacc).val, .bool (plainM.want s).isSome]) ∧ Keeps [] w w' := by
  obtain ⟨L, -, -, h, hv, -, hL, -, hle, hfew⟩ := h
  obtain ⟨xs, told, held⟩ := s
  simp only at hv hL hle hfew
  obtain ⟨qv, cv, rfl⟩ := hv.len
  obtain ⟨qL, cL, rfl⟩ := (Sl.of_owns hL).len
  have h0 := h.cell (j := 0) rfl
  have h1 := h.cell (j := 1) rfl
  have hlt := h.lt
  by_cases hd : told.length = xs.length
  · have hw : plainM.want ⟨xs, told, held⟩ = none := by simp [plainM, hd]
    rw [hw]
    have hb : ((told.length : Int) == (xs.length : Int)) = true := by simp [hd]
    have HD := Lib.hid hd
    clear h hv hL hd hw
    go_enter Try.func27, Try.ntmps27
    go_wp2
    go_quiet (fail)
    go_wp2
    refine bodyPost_ret (v := .tuple #[zacc.val, .bool false]) (by simp [results, Try.results27, go_sem]) rfl ⟨rfl, ?_⟩
    exact keeps_new4 ((Keeps.refl _ _).alloc _).drewN
  · have hlen : told.length < xs.length := by omega
    obtain ⟨x, hx⟩ : ∃ x, xs[told.length]? = some x := ⟨_, List.getElem?_eq_getElem hlen⟩
    have hw : plainM.want ⟨xs, told, held⟩ = some x := hx
    rw [hw]
    have hb : ((told.length : Int) == (xs.length : Int)) = false := by simp; omega
    obtain ⟨b, o, c, he, hbl, hc⟩ := hv.some (by omega)
    cases he
    obtain ⟨q0, q1, q2, q3⟩ := accs_at xs told.length x hx
    have c0 := hc _ _ q0
    have c1 : w.cell? ⟨b, o + told.length * 4 + 1, none⟩ = some (.int .i64 x.c) := by rw [Nat.add_assoc]; exact hc _ _ q1
    have c2 : w.cell? ⟨b, o + told.length * 4 + 2, none⟩ = some (.int .u64 x.a) := by rw [Nat.add_assoc]; exact hc _ _ q2
    have c3 : w.cell? ⟨b, o + told.length * 4 + 3, none⟩ = some (.int .u64 x.b) := by rw [Nat.add_assoc]; exact hc _ _ q3
    have i0 : (0 : Int) ≤ (told.length : Int) := by omega
    have i1 : (told.length : Int) < (xs.length : Int) := by omega
    clear h hv hL hd hw hx hc q0 q1 q2 q3 hle
    go_enter Try.func27, Try.ntmps27
    go_wp2
    go_quiet (fail)
    go_wp2
    go_region
    go_wp2
    refine bodyPost_ret (v := .tuple #[x.val, .bool true]) (by simp [results, Try.results27, go_sem]) rfl ⟨rfl, ?_⟩
    exact keeps_new4 ((Keeps.refl _ _).alloc _).drewN

set_option maxHeartbeats 1600000 in
theorem refPlain_over (v : Value) (B p : Nat) (s : PlainS) (w : World) (S : List Nat) (h : refPlainJ v B p w S s) :
    Calls Try.prog 28 #[.pointer (some ⟨p, 0, none⟩)] w fun e w' => ∃ q n c,
      e = .returned (.tuple #[.agg #[.int .i64 ((plainM.res s).getD Rs.zero).code, .int .u64 ((plainM.res s).getD Rs.zero).v, .slice q n c], .bool (plainM.res s).isSome]) ∧ Keeps [] w w' ∧
      ∀ r, plainM.res s = some r → Sl w' 1 (.slice q n c) r.l.length (ints .u64 r.l) ∧ r.l.length ≤ maxLen ∧ ∀ g, (Value.slice q n c).ownBlock = some g → g ∈ S ∨ w.heap.size ≤ g := by
  obtain ⟨L, hS, -, h, hv, -, hL, -, hle, hfew⟩ := h
  obtain ⟨xs, told, held⟩ := s
  simp only at hv hL hle hfew
  obtain ⟨qv, cv, rfl⟩ := hv.len
  obtain ⟨qL, cL, rfl⟩ := (Sl.of_owns hL).len
  have h0 := h.cell (j := 0) rfl
  have h1 := h.cell (j := 1) rfl
  have hlt := h.lt
  by_cases hd : told.length = xs.length
  · have hr : plainM.res ⟨xs, told, held⟩ = some ⟨0, told.getLast?.getD 0, told⟩ := by simp [plainM, hd]
    rw [hr]
    have fin : ∀ w', Keeps [] w w' → ∀ r, some (⟨0, told.getLast?.getD 0, told⟩ : Rs) = some r → Sl w' 1 (.slice qL told.length cL) r.l.length (ints .u64 r.l) ∧ r.l.length ≤ maxLen ∧ ∀ g, (Value.slice qL told.length cL).ownBlock = some g → g ∈ S ∨ w.heap.size ≤ g := by
      intro w' hk r hr
      cases hr
      exact ⟨(Sl.of_owns hL).but hk (by simp), by show told.length ≤ maxLen; unfold maxLen; omega, fun g hg => .inl (by rw [hS]; simp [hg])⟩
    have hlast : ∀ k, told.length = k + 1 → ∃ g, qL = some ⟨g, 0, none⟩ ∧ g < w.heap.size ∧ w.cell? ⟨g, k, none⟩ = some (.int .u64 (told.getLast?.getD 0)) := by
      intro k hk
      obtain ⟨b, off, cap, he, hb, hc⟩ := (Sl.of_owns hL).some (by omega)
      have hoff : off = 0 := by
        rcases hL.2 with ⟨h1, h2⟩ | ⟨g, cap', cur, h1, _⟩
        · omega
        · rw [h1] at he; cases he; rfl
      cases he
      subst hoff
      refine ⟨b, rfl, hb, ?_⟩
      have := hc k _ (ints_at (by omega))
      rw [Nat.zero_add] at this
      rw [this]
      congr 2
      rw [List.getLast?_eq_getElem?, hk]
      rfl
    obtain ⟨vl, hvl⟩ : ∃ vl, told.getLast?.getD 0 = vl := ⟨_, rfl⟩
    have hv0 : told.length = 0 → vl = 0 := fun h => by rw [← hvl, List.eq_nil_of_length_eq_zero h]; rfl
    rw [hvl] at hlast fin ⊢
    obtain ⟨n, hn⟩ : ∃ n, told.length = n := ⟨_, rfl⟩
    rw [← hd] at h0 hfew
    rw [hn] at h0 h1 hfew hv0 hlast fin
    have HF := Lib.hid fin
    clear fin h hv hS hd hr hL hvl hle hn
    have hnn : decide ((n : Int) < (n : Int)) = false := by simp
    cases n with
    | zero =>
      obtain rfl := hv0 rfl
      clear hlast hv0
      go_enter Try.func28, Try.ntmps28
      go_wp2
      go_quiet (fail)
      go_wp2
      refine bodyPost_ret (v := .tuple #[.agg #[.int .i64 0, .int .u64 0, .slice qL 0 cL], .bool true]) (by simp [results, Try.results28, go_sem]) rfl ⟨_, _, _, rfl, ?_, HF.out _ ?_⟩
      all_goals repeat (first | exact Keeps.refl _ _ | refine Keeps.drewN ?_ | refine Keeps.drew ?_ | refine Keeps.alloc ?_ _ | refine Keeps.setNew ?_ (by omega) _ _)
    | succ k =>
      obtain ⟨g, rfl, hg, hc⟩ := hlast k rfl
      clear hlast hv0
      have i0 : (0 : Int) ≤ (k : Int) := by omega
      have i1 : (k : Int) < (k : Int) + 1 := by omega
      have i2 : IntKind.i64.wrap ((k : Int) + 1 - 1) = (k : Int) := (IntWalk.i64_in ((k : Int) + 1 - 1) (by omega)).trans (by omega)
      have i3 : IntKind.i64.wrap (k : Int) = (k : Int) := IntWalk.i64_in _ (by omega)
      go_enter Try.func28, Try.ntmps28
      go_wp2
      go_quiet (fail)
      go_wp2
      go_region
      go_wp2
      refine bodyPost_ret (v := .tuple #[.agg #[.int .i64 0, .int .u64 vl, .slice (some ⟨g, 0, none⟩) (k + 1) cL], .bool true]) (by simp [results, Try.results28, go_sem]) rfl ⟨_, _, _, rfl, ?_, HF.out _ ?_⟩
      all_goals repeat (first | exact Keeps.refl _ _ | refine Keeps.drewN ?_ | refine Keeps.drew ?_ | refine Keeps.alloc ?_ _ | refine Keeps.setNew ?_ (by omega) _ _)
  · have hr : plainM.res ⟨xs, told, held⟩ = none := by simp [plainM, hd]
    rw [hr]
    have hb : decide (told.length < xs.length) = true := decide_eq_true (by omega)
    have hb2 : told.length < xs.length := by omega
    clear h hv hS hL hd hr
    go_enter Try.func28, Try.ntmps28
    go_wp2
    go_quiet (fail)
    go_wp2
    refine bodyPost_ret (v := .tuple #[.agg #[.int .i64 0, .int .u64 0, .slice none 0 0], .bool false]) (by simp [results, Try.results28, go_sem]) rfl ⟨none, 0, 0, rfl, ?_, fun r h => by cases h⟩
    repeat (first | exact Keeps.refl _ _ | refine Keeps.drewN ?_ | refine Keeps.drew ?_ | refine Keeps.alloc ?_ _ | refine Keeps.setNew ?_ (by omega) _ _)

theorem refPlain_held (v : Value) (B p : Nat) (s : PlainS) (w : World) (S : List Nat) (h : refPlainJ v B p w S s) :
    Calls Try.prog 29 #[.pointer (some ⟨p, 0, none⟩)] w fun e w' => ∃ q c, e = .returned (.slice q (plainM.held s).length c) ∧ Sl w' 1 (.slice q (plainM.held s).length c) (plainM.held s).length (ints .u64 (plainM.held s)) ∧ Keeps [] w w' := by
  have hh : plainM.held s = [] := by obtain ⟨_, _, h, _⟩ := h; exact h
  rw [hh]
  have HH := Lib.hid hh
  clear h hh
  go_enter Try.func29, Try.ntmps29
  go_wp2
  go_ret
  exact ⟨none, 0, rfl, ⟨rfl, .inl ⟨_, _, rfl, rfl⟩⟩, Keeps.refl _ _⟩

set_option maxHeartbeats 1600000 in
theorem refPlain_give (v : Value) (B p : Nat) (s : PlainS) (w : World) (S : List Nat) (tv : Int) (won : Bool) (h : refPlainJ v B p w S s) :
    Calls Try.prog 30 #[.pointer (some ⟨p, 0, none⟩), .int .u64 tv, .bool won] w fun e w' => e = .returned (.tuple #[]) ∧ ∃ S', refPlainJ v B p w' S' (plainM.give s tv won) ∧ Keeps (if (plainM.res s).isSome then [] else S) w w' ∧ ∀ k ∈ S', k ∈ S ∨ w.heap.size ≤ k := by
  have H0 := h
  obtain ⟨L, hS, hh, h, hv, hvS, hL, hLp, hle, hfew⟩ := h
  obtain ⟨xs, told, held⟩ := s
  simp only at hv hL hle hfew hh
  obtain ⟨qv, cv, rfl⟩ := hv.len
  obtain ⟨qL, cL, rfl⟩ := (Sl.of_owns hL).len
  have h0 := h.cell (j := 0) rfl
  have h1 := h.cell (j := 1) rfl
  have f1 := h.frozen 1
  have hlt := h.lt
  by_cases hd : told.length = xs.length
  · have e : plainM.give ⟨xs, told, held⟩ tv won = ⟨xs, told, held⟩ := by simp [plainM, hd]
    have er : (plainM.res ⟨xs, told, held⟩).isSome = true := by simp [plainM, hd]
    rw [e, er]
    simp only [if_true]
    have HJ := Lib.hid H0
    rw [← hd] at h0
    clear h hv hS hvS hL hLp hd H0 e er hle hh
    go_enter Try.func30, Try.ntmps30
    go_wp2
    go_quiet (fail)
    go_wp2
    first | go_end0 | refine bodyPost_ret (results_none rfl _ _ _) rfl ?_
    refine ⟨rfl, S, ?_, (Keeps.refl _ _).drewN, fun k hk => .inl hk⟩
    obtain ⟨L', a1, a2, a3, a4, a5, a6, a7⟩ := HJ.out
    exact ⟨L', a1, a2, a3, a4, a5, a6, a7⟩
  · have e : plainM.give ⟨xs, told, held⟩ tv won = ⟨xs, told ++ [tv], held⟩ := by simp only [plainM]; rw [if_pos (by omega)]
    have er : (plainM.res ⟨xs, told, held⟩).isSome = false := by simp [plainM, hd]
    rw [e, er]
    simp only [Bool.false_eq_true, if_false]
    have hb : decide (told.length < xs.length) = true := decide_eq_true (by omega)
    have hb2 : told.length < xs.length := by omega
    have HL := Lib.hid hL
    have HP := Lib.hid h
    have HLP := Lib.hid hLp
    have HS := Lib.hid hS
    have HV := Lib.hid hv
    have HVS := Lib.hid hvS
    have HH := Lib.hid hh
    clear h hv hS hvS hL hLp hd H0 e er hle hh
    go_enter Try.func30, Try.ntmps30
    go_wp2
    go_quiet (fail)
    generalize hW : World.drewN w _ = W1
    have k1 : Keeps [] w W1 := by rw [← hW]; exact (Keeps.refl _ _).drewN
    have s1 : w.heap.size = W1.heap.size := by rw [← hW]; rfl
    have p1 := HP.out.keeps k1 (by simp)
    have L1 := owns_keeps HL.out k1 (by simp)
    have c0 := p1.cell (j := 0) rfl
    have c1 := p1.cell (j := 1) rfl
    have g1 := p1.frozen 1
    have HP1 := Lib.hid p1
    have HL1 := Lib.hid L1
    have HK1 := Lib.hid k1
    have HS1 := Lib.hid s1
    have hlt1 := p1.lt
    clear p1 L1 k1 s1 hW h0 h1 f1
    go_wp2_with (at_builtin; refine append_fresh rfl _ _ 26 rfl 0 35 _ 1 8 Try.underlying26 elemU _ _ _ rfl HL1.out #[.int .u64 tv] rfl rfl (by simp [Value.oneCell']) ?c2 ?c3 ?_)
    case c2 => omega
    case c3 => omega
    intro L2 w2 own2 k2 fr2 ne2
    obtain ⟨g, cap, rfl, -⟩ := owns_at' own2 ne2
    have p2 := HP1.out.keeps k2 (by simpa using fun h => HLP.out p h rfl)
    have c1' := p2.cell (j := 1) rfl
    have g1' := p2.frozen 1
    have hgp : g ≠ p := by
      rcases fr2 g rfl with h | h
      · exact HLP.out g h
      · omega
    have HP2 := Lib.hid p2
    have HK2 := Lib.hid k2
    have HO2 := Lib.hid own2
    have HF2 := Lib.hid fr2
    have HGP := Lib.hid hgp
    clear p2 k2 own2 fr2 ne2 hgp c0 c1 g1
    go_wp2
    first | go_end0 | refine bodyPost_ret (results_none rfl _ _ _) rfl ?_
    have k3 : Keeps [p] w2 (w2.setCell ⟨p, 1, none⟩ (.slice (some ⟨g, 0, none⟩) (told.length + 1) cap)) := (Keeps.refl _ _).set (by simp) _ _
    have hkk : Keeps S w (w2.setCell ⟨p, 1, none⟩ (.slice (some ⟨g, 0, none⟩) (told.length + 1) cap)) := by
      rw [HS.out]
      exact (HK1.out.nil.trans (HK2.out.mono (fun k hk _ => List.mem_cons_of_mem _ hk))).trans (k3.mono (by simp))
    have hvk : Sl (w2.setCell ⟨p, 1, none⟩ (.slice (some ⟨g, 0, none⟩) (told.length + 1) cap)) 4 (.slice qv xs.length cv) xs.length (accs xs) := HV.out.but0 hkk (fun h0 g hg => (HVS.out h0 g hg).2)
    have hgnew : (Value.slice qL told.length cL).ownBlock = some g ∨ w.heap.size ≤ g := by
      rcases HF2.out g rfl with h | h
      · exact .inl h
      · exact .inr (by rw [HS1.out]; exact h)
    refine ⟨rfl, [p, g], ⟨.slice (some ⟨g, 0, none⟩) (told.length + 1) cap, rfl, HH.out, HP2.out.set 1 _, hvk, ?_, ?_, ?_, ?_, hfew⟩, hkk, ?_⟩
    · intro h0 k hk
      refine ⟨(HVS.out h0 k hk).1, ?_⟩
      have := (HVS.out h0 k hk).2
      rw [HS.out] at this
      simp only [List.mem_cons, not_or, List.not_mem_nil, or_false, not_false_eq_true, and_true] at this ⊢
      refine ⟨this.1, fun h => ?_⟩
      subst h
      rcases hgnew with h | h
      · exact this.2 (by simpa using h)
      · by_cases hx : xs.length = 0
        · omega
        · obtain ⟨b, off, c, he, hb, -⟩ := HV.out.some (by omega)
          rw [he] at hk
          simp [Value.ownBlock] at hk
          omega
    · have := owns_keeps HO2.out k3 (fun g' hg => by cases hg; simpa using HGP.out)
      simpa [ints] using this
    · intro g' hg; cases hg; exact HGP.out
    · simp; omega
    · intro k hk
      simp only [List.mem_cons, List.not_mem_nil, or_false] at hk
      rcases hk with rfl | rfl
      · exact .inl (by rw [HS.out]; simp)
      · rcases hgnew with h | h
        · exact .inl (by rw [HS.out]; simp [h])
        · exact .inr h
theorem refPlainRuns (v : Value) (B p : Nat) : RefRuns plainM (refPlainJ v B p) (fun g => v.ownBlock = some g ∧ g < B) p 27 28 29 30 where
  lt := fun ⟨L, hS, _, h, _, _, hL, _⟩ k hk => by
    rw [hS] at hk
    rcases List.mem_cons.1 hk with rfl | hk
    · exact h.lt
    · exact (hL.lt k (by simpa using hk)).2
  frame := fun ⟨L, hS, hh, h, hv, hvS, hL, hLp, hle, hfew⟩ hk hT hR =>
    ⟨L, hS, hh, h.keeps hk (hT p (by rw [hS]; simp)), hv.but0 hk (fun h0 g hg hm => hR g hm ⟨hg, (hvS h0 g hg).1⟩), hvS, owns_keeps hL hk (fun g hg => hT g (by rw [hS]; simp [hg])), hLp, hle, hfew⟩
  stays := fun s v won h => by
    obtain ⟨xs, told, held⟩ := s
    by_cases hd : told.length = xs.length
    · simp [plainM, hd]
    · simp [plainM, hd] at h
  few := fun ⟨_, _, hh, _⟩ => by have e := congrArg List.length hh; simp only [plainM]; simp at e; simp [e]
  want := fun w S s h => refPlain_want v B p s w S h
  over := fun w S s h => refPlain_over v B p s w S h
  held := fun w S s h => refPlain_held v B p s w S h
  give := fun w S s tv won h _ => refPlain_give v B p s w S tv won h
end Go.Proofs.Ytahjnpopncninaa
