/-
  Contracts: a queue's Put and Take go as their machine.
-/
import Derived.Test.YtoomefclbemnlaaGreatQuL
namespace Go.Proofs.YtoomefclbemnlaaGreat
set_option maxRecDepth 100000
set_option linter.unusedSimpArgs false
set_option linter.unusedVariables false
open Go.ChangeShapes Go.WideShapes Go.ChangeAt Go.RowKit

theorem quSteps (m : Nat) : Steps quNest arenaM quJ (quE m) m where
  keep := quE_keeps m
  rest := quRest m
  stays := fun s v won h0 hw => by
    cases ho : s.over with
    | none => simp [quNest, ho] at hw
    | some r => simp [quNest, ho]
  inOut := fun s h0 hw => by
    cases ho : s.over with
    | none => simp [quNest, ho] at hw
    | some r => exact ⟨r, ho⟩
  fn := fun w T nx ov s h hr => by
    obtain ⟨-, p, -, hn, -⟩ := h hr
    exact ⟨_, _, _, hn, quFn_ok s⟩
  step := fun w T F fi ca s st v won x hw ho hs hu hT ht hE hv h0 hx hr => by
    have hr' : s.over = none := hr
    have hsub : s.sub = none := by simpa [quNest, hr'] using h0
    cases hp : s.puts with
    | true =>
      have := quPut_step m w T F fi ca s st v won hw ho hs hu hT hE hv hr' hsub hp
      rw [show quNest.give s v won = quGivePut s v won by simp [quNest, hr', hp]]
      exact this
    | false =>
      have := quTake_step m w T F fi ca s st v won hw ho hs hu hT hE hv hr' hsub hp
      rw [show quNest.give s v won = quGiveTake s v won by simp [quNest, hr', hp]]
      exact this
  putSub := fun s t h => by
    cases ho : s.over with
    | some r => simp [quNest, ho] at h
    | none => exact ⟨by simp [quNest, ho], rfl, by simp [quNest, quHeld]⟩
  putR := fun w T nx ov s t v won h h0 hr hv ht hg hov => by
    have hr' : s.over = none := hr
    have hsub : s.sub = some t := by simpa [quNest, hr'] using h0
    have ht' : t.over = none := ht
    have hgv : arenaM.give t v won = arGive t v won := arTake_give t ht' v won
    rw [hgv] at hg ⊢
    have hg' : (arGive t v won).over = none := hg
    obtain ⟨hOk, p, hpT, hn, hP, hP'⟩ := h hr'
    obtain ⟨a1, a2, a3, a4, a5, a6, a7⟩ := hOk
    refine ⟨⟨a1, a2, a3, a4, a5, fun hp => ?_, fun hp => ?_⟩, p, hpT, ?_, fun hp => ?_, fun hp => ?_⟩
    · obtain ⟨b1, b2, b3, b4⟩ := a6 hp
      refine ⟨b1, b2, b3, ?_⟩
      rcases b4 with ⟨a, c1, c2, c3, c4, c5, c6⟩ | ⟨c1, -⟩
      · rw [hsub] at c1; cases c1
        obtain ⟨d1, d2, d3, -⟩ := arOk_give c3 c2 hv hg'
        exact .inl ⟨_, rfl, hg', d1, c4, c5, c6.imp_left fun ⟨e1, e2, e3, e4⟩ => ⟨e1, by rw [d2]; exact e2, by rw [d3]; exact e3, e4⟩⟩
      · rw [hsub] at c1; cases c1
    · obtain ⟨b4⟩ := a7 hp
      rcases b4 with ⟨a, c1, c2, c3, c4, c5⟩ | ⟨c1, -⟩
      · rw [hsub] at c1; cases c1
        obtain ⟨d1, d2, d3, -⟩ := arOk_give c3 c2 hv hg'
        exact ⟨.inl ⟨_, rfl, hg', d1, c4, c5⟩⟩
      · rw [hsub] at c1; cases c1
    · rw [hn]
      simp only [quFn, hsub, quNest, Option.isSome_some, if_true]
      rfl
    · obtain ⟨en, nd, x, tv, nv, dn, cd, h⟩ := hP hp
      exact ⟨en, nd, x, tv, nv, dn, cd, h.row, h.tail, h.next, h.tasks, h.tasksIn, h.grows, h.nodes, h.nodesIn, h.count, h.count2, h.code, h.apart, h.seen⟩
    · obtain ⟨en, nd, x, tl, tk, h⟩ := hP' hp
      exact ⟨en, nd, x, tl, tk, h.row, h.head, h.next, h.tail, h.task, h.seen, h.none_⟩
  left := fun w T F fi ca s st t v won r q c hw ho hs hu hT ht hE h0 hr hv hK hres hq => by
    have hr' : s.over = none := hr
    have hsub : s.sub = some t := by simpa [quNest, hr'] using h0
    have ht' : t.over = none := hK
    have hgv : arenaM.give t v won = arGive t v won := arTake_give t ht' v won
    rw [hgv] at hres
    exact quLeft_step m w T F fi ca s st t v won r q c hw ho hs hu hT hE hv hr' hsub ht' hres
/-- A walk of a queue. -/
@[reducible] def quI (m : Nat) : World → List Nat → QuS → Prop := LoneN quNest arenaM quJ (quE m) m
theorem quRuns (m : Nat) : Runs queueM (quI m) m :=
  runs_nest m (quSteps m) (fun _ _ _ => .inr trivial) (fun w U s t h _ => by
    obtain ⟨S, T, S2, st, nx, -, hB, -⟩ := h
    have := hB.tasksFew
    show (quNest.held s).length + 0 ≤ _
    omega)

set_option maxHeartbeats 1600000 in
/-- One that is refused. -/
theorem quAlong1Bad (m bq be bf : Nat) (at_ n e0 c : Int) (s0 : QuS) (w : World) (hw : Wk w m { WSt.zero with under := 1 }) (hq : Box w bq #[.int .i64 at_, .int .i64 n]) (he : Row w be 42 [.int .i64 e0]) (hbm : be ≠ m) (hc : c = if quRight at_ n then e0 else 2) (hc0 : c ≠ 0)
    (hs0 : s0.over = some ⟨c, 0, []⟩) :
    Calls Tryz.prog 62 #[.pointer (some ⟨m, 0, none⟩), .pointer (some ⟨bq, 0, none⟩), .pointer (some ⟨be, 0, none⟩), .pointer (some ⟨bf, 0, none⟩)] w fun e w' => e = .returned (.tuple #[]) ∧ ∃ st2, Wk w' m st2 ∧ st2.under = 1 ∧ MidN quNest arenaM quJ (quE m) m [m] [be] s0 w w' st2 := by
  have c0 := hq.cells 0
  have c1 := hq.cells 1
  have d0 := he.cell (j := 0) rfl
  have f0 := he.frozen 0
  have HR := Lib.hid (fun W => quRight_any at_ n W)
  have HW := Lib.hid hw
  have HRow := Lib.hid he
  have fin : ∀ w2 l', Wk w2 m { WSt.zero with nxt := .nilFunc, after := .nilFunc, over := true, code := c, v := 0, l := l', under := 1 } → w2.ownsRow w.heap.size 49 1 l' 0 [] → Keeps [m, be] w w2 → ∃ st2, Wk w2 m st2 ∧ st2.under = 1 ∧ MidN quNest arenaM quJ (quE m) m [m] [be] s0 w w2 st2 := by
    intro w2 l' h1 h2 h3
    refine GoesN.new (N := quNest) (K := arenaM) (J := quJ) (R := quE m) ⟨h3, .slice none 0 0, .slice none 0 0, .inr (.inr ⟨c, 0, [], l', by simp [quNest, hs0], by simp [quNest, hs0], hs0, by simp, h1, by simpa [ints] using h2, .inl ⟨rfl, .inl ⟨rfl, by simp [quNest, quHeld, hs0]⟩⟩⟩)⟩ hw (by intro k hk; simp at hk; subst hk; exact he.lt) (by simpa using Ne.symm hbm) (quRest m) ?_
    rintro st2 ⟨_, _, _, g, o, _, _, _, _, _, k1, _, _, _, _, _, _, _, k2, -⟩
    obtain ⟨cap, _, _, _, _, _, h, -⟩ := k2
    have a := k1.at.2.2.2.2.2.2.2.2.1
    have b := h1.at.2.2.2.2.2.2.2.2.1
    rw [a, h] at b
    cases b
  have HFin := Lib.hid fin
  clear hq he hw fin
  by_cases hr : quRight at_ n
  · rw [if_pos hr] at hc
    rw [decide_eq_true hr] at HR
    have q1 : (e0 != 0) = true := by rw [← hc]; simpa using hc0
    have HB := Lib.hid (fun W (h : Wk W m { WSt.zero with under := 1 }) => wBreak m _ e0 W h rfl (.inl (show (0 : Int) < 1 by decide)))
    have HC := Lib.hid hc
    clear hc hc0 hr
    go_enter Tryz.func62, Tryz.ntmps62
    go_wp2_with fail
    refine (HR.out _).mono ?_
    rintro e w1 ⟨rfl, k1⟩
    have d1 := (HRow.out.keeps k1 (by simp)).cell (j := 0) rfl
    have HK1 := Lib.hid k1
    clear k1
    go_wp2_with fail
    refine (HB.out _ (HW.out.keeps HK1.out (by simp))).mono ?_
    rintro e w2 ⟨rfl, l', a1, a2, a3⟩
    have HP := Lib.hid (HFin.out w2 l' (by rw [HC.out]; exact a1) (owns_base a2 HK1.out.size) ((HK1.out.nil.trans a3).mono (by simp)))
    clear a1 a2 a3
    go_wp2
    first | go_end0 | refine bodyPost_ret (results_none rfl _ _ _) rfl ?_
    exact ⟨rfl, HP.out⟩
  · rw [if_neg hr] at hc
    subst hc
    rw [decide_eq_false hr] at HR
    have HB := Lib.hid (fun W (h : Wk W m { WSt.zero with under := 1 }) => wBreak m _ 2 W h rfl (.inl (show (0 : Int) < 1 by decide)))
    have hbl := HRow.out.lt
    clear hc0 hr
    go_enter Tryz.func62, Tryz.ntmps62
    go_wp2_with fail
    refine (HR.out _).mono ?_
    rintro e w1 ⟨rfl, k1⟩
    have hr1 := HRow.out.keeps k1 (by simp)
    have d1 := hr1.cell (j := 0) rfl
    have f1 := hr1.frozen 0
    have kS : Keeps [be] w1 (w1.setCell ⟨be, 0, none⟩ (.int .i64 2)) := (Keeps.refl _ _).set (by simp) _ _
    have HW2 := Lib.hid ((HW.out.keeps k1 (by simp)).keeps kS (by simpa using Ne.symm hbm))
    have HK1 := Lib.hid k1
    have HKS := Lib.hid kS
    clear k1 kS hr1
    go_wp2_with fail
    refine (HB.out _ HW2.out).mono ?_
    rintro e w2 ⟨rfl, l', a1, a2, a3⟩
    have HP := Lib.hid (HFin.out w2 l' a1 (owns_base a2 (Nat.le_trans HK1.out.size HKS.out.size)) (((HK1.out.nil (S := [m, be])).trans (HKS.out.mono (by simp))).trans (a3.mono (by simp))))
    clear a1 a2 a3
    go_wp2
    first | go_end0 | refine bodyPost_ret (results_none rfl _ _ _) rfl ?_
    exact ⟨rfl, HP.out⟩

set_option maxHeartbeats 1600000 in
/-- One that begins. -/
theorem quAlong1 (F : FuncId) (ca : Array Value) (m bq be bf : Nat) (at_ n : Int) (w : World) (Q : World → Prop) (hw : Wk w m { WSt.zero with under := 1 }) (hq : Box w bq #[.int .i64 at_, .int .i64 n]) (he : Box w be #[.int .i64 0]) (hf : Box w bf #[.func (.func F) #[] ca]) (hr : quRight at_ n)
    (hcf : ∀ args w, (callFunc F args).run Tryz.prog w = .ok (.enter F args) w)
    (hF : ∀ w1, Keeps [] w w1 → Calls Tryz.prog F (#[.agg #[.pointer (some ⟨m, 0, none⟩), .int .i64 at_, .int .i64 n, .int .i64 0, .int .u64 0, .int .i64 0, .int .u64 0, .nilFunc, .nilFunc]] ++ ca) w1 fun e w' => e = .returned (.tuple #[]) ∧ Q w') :
    Calls Tryz.prog 62 #[.pointer (some ⟨m, 0, none⟩), .pointer (some ⟨bq, 0, none⟩), .pointer (some ⟨be, 0, none⟩), .pointer (some ⟨bf, 0, none⟩)] w fun e w' => e = .returned (.tuple #[]) ∧ Q w' := by
  have c0 := hq.cells 0
  have c1 := hq.cells 1
  have HQ := Lib.hid hq
  have HE := Lib.hid he
  have HB := Lib.hid hf
  have HR := Lib.hid (fun W => quRight_any at_ n W)
  rw [decide_eq_true hr] at HR
  have HF := Lib.hid hF
  clear hq he hf hF hw hr
  go_enter Tryz.func62, Tryz.ntmps62
  go_wp2_with fail
  refine (HR.out _).mono ?_
  rintro e w1 ⟨rfl, k1⟩
  have d0 := (HE.out.keeps k1 (by simp)).cells 0
  have g0 := (HB.out.keeps k1 (by simp)).cells 0
  have q0 := (HQ.out.keeps k1 (by simp)).cells 0
  have q1 := (HQ.out.keeps k1 (by simp)).cells 1
  have HK1 := Lib.hid k1
  clear k1 c0 c1
  go_wp2_with fail
  refine (HF.out w1 HK1.out).mono ?_
  rintro e3 w3 ⟨rfl, hq⟩
  have HP := Lib.hid hq
  clear hq
  go_wp2
  first | go_end0 | refine bodyPost_ret (results_none rfl _ _ _) rfl ?_
  exact ⟨rfl, HP.out⟩

set_option maxHeartbeats 1600000 in
/-- How a walk of a queue is made. -/
theorem quAlong (F : FuncId) (ca : Array Value) (at_ n e0 : Int) (s0 : QuS) (w : World) (hcf : ∀ args w, (callFunc F args).run Tryz.prog w = .ok (.enter F args) w)
    (hbad : ¬ (quRight at_ n ∧ e0 = 0) → ∃ c, c = (if quRight at_ n then e0 else 2) ∧ c ≠ 0 ∧ s0.over = some ⟨c, 0, []⟩)
    (hF : quRight at_ n → e0 = 0 → ∀ m w1, w.heap.size ≤ m → Wk w1 m { WSt.zero with under := 1 } → Keeps [] w w1 → Calls Tryz.prog F (#[.agg #[.pointer (some ⟨m, 0, none⟩), .int .i64 at_, .int .i64 n, .int .i64 0, .int .u64 0, .int .i64 0, .int .u64 0, .nilFunc, .nilFunc]] ++ ca) w1 fun e w' => e = .returned (.tuple #[]) ∧ ∃ st2, Wk w' m st2 ∧ st2.under = 1 ∧ MidN quNest arenaM quJ (quE m) m [m] [] s0 w1 w' st2) :
    Calls Tryz.prog 27 #[.agg #[.int .i64 at_, .int .i64 n], .int .i64 e0, .func (.func F) #[] ca] w fun e w' => ∃ m S, e = .returned (.pointer (some ⟨m, 0, none⟩)) ∧ quI m w' S s0 ∧ Keeps [] w w' ∧ ∀ k ∈ S, w.heap.size ≤ k := by
  obtain ⟨W1, hW1⟩ : ∃ W1, ((w.alloc (.cells #[.int .i64 at_, .int .i64 n] 23)).alloc (.cells #[.int .i64 e0] 42)).alloc (.cells #[.func (.func F) #[] ca] 82) = W1 := ⟨_, rfl⟩
  have bq : Box W1 w.heap.size #[.int .i64 at_, .int .i64 n] := by rw [← hW1]; exact ((Box.new _ _ _).alloc _).alloc _
  have re : Row W1 (w.heap.size + 1) 42 [.int .i64 e0] := by rw [← hW1]; have := (Row.new (w.alloc (.cells #[.int .i64 at_, .int .i64 n] 23)) #[.int .i64 e0] 42).alloc (.cells #[.func (.func F) #[] ca] 82); simpa using this
  have be : Box W1 (w.heap.size + 1) #[.int .i64 e0] := by rw [← hW1]; have := (Box.new (w.alloc (.cells #[.int .i64 at_, .int .i64 n] 23)) #[.int .i64 e0] 42).alloc (.cells #[.func (.func F) #[] ca] 82); simpa using this
  have bf : Box W1 (w.heap.size + 2) #[.func (.func F) #[] ca] := by rw [← hW1]; have := Box.new ((w.alloc (.cells #[.int .i64 at_, .int .i64 n] 23)).alloc (.cells #[.int .i64 e0] 42)) #[.func (.func F) #[] ca] 82; simpa using this
  have k1 : Keeps [] w W1 := by rw [← hW1]; exact (((Keeps.refl _ _).alloc _).alloc _).alloc _
  have hz1 : (w.alloc (.cells #[.int .i64 at_, .int .i64 n] 23)).heap.size = w.heap.size + 1 := by simp
  have hz2 : ((w.alloc (.cells #[.int .i64 at_, .int .i64 n] 23)).alloc (.cells #[.int .i64 e0] 42)).heap.size = w.heap.size + 2 := by simp
  have z1 := k1.size
  have hbel := be.lt
  have HN : Hid (Calls Tryz.prog 61 #[.func (.func 62) #[] #[.pointer (some ⟨w.heap.size, 0, none⟩), .pointer (some ⟨w.heap.size + 1, 0, none⟩), .pointer (some ⟨w.heap.size + 2, 0, none⟩)]] W1 fun e w' => e = .returned (.pointer (some ⟨W1.heap.size + 1, 0, none⟩)) ∧ ∃ S, quI (W1.heap.size + 1) w' S s0 ∧ Keeps [] w w' ∧ ∀ k ∈ S, w.heap.size ≤ k) := by
    refine Lib.hid ((new_goesN s0 62 _ [w.heap.size + 1] W1 (by intro k hk; simp at hk; subst hk; exact be.lt) (quSteps (W1.heap.size + 1)) (fun _ _ => by kernel_rfl) (fun w2 h2 k2 => ?_)).mono ?_)
    · have hlt2 := k2.size
      by_cases hg : quRight at_ n ∧ e0 = 0
      · obtain ⟨hr, rfl⟩ := hg
        refine quAlong1 F ca _ _ _ _ at_ n w2 _ h2 (bq.keeps k2 (by simp)) (be.keeps k2 (by simp)) (bf.keeps k2 (by simp)) hr hcf (fun w3 k3 => ?_)
        refine (hF hr rfl _ w3 (by omega) (h2.keeps k3 (by simp)) ((k1.trans k2).trans k3)).mono ?_
        rintro e w4 ⟨rfl, st2, a, b, c⟩
        refine ⟨rfl, st2, a, b, ?_⟩
        obtain ⟨c1, S', T', S2, nx, b1, b2, b3, b4, b5, b6, b7, b8, b9, b10, b11, b12⟩ := c
        have z3 := k3.size
        exact ⟨c1, S', T', S2, nx, b1, b2, b3, b4, b5, b6, b7, b8, (k3.nil.trans b9).mono (by simp), fun k hk => (b10 k hk).imp_right (Nat.le_trans z3), fun k hk => by
          rcases b11 k hk with h | h
          · cases h
          · exact .inr (Nat.le_trans z3 h), fun k hk => Nat.le_trans z3 (b12 k hk)⟩
      · obtain ⟨c, hc, hc0, hs0⟩ := hbad hg
        exact quAlong1Bad _ _ _ _ at_ n e0 c s0 w2 h2 (bq.keeps k2 (by simp)) (re.keeps k2 (by simp)) (by omega) hc hc0 hs0
    · rintro e w' ⟨rfl, S, hI, hk, hS⟩
      refine ⟨rfl, S, hI, ?_, fun k hk => ?_⟩
      · exact k1.step hk (by intro k hk; simp at hk; omega)
      · rcases hS k hk with h | h
        · simp at h; omega
        · omega
  clear bq re be bf k1 hF hbad
  go_enter Tryz.func27, Tryz.ntmps27
  go_wp2_with fail
  refine HN.out.mono ?_
  rintro e w2 ⟨rfl, S, a, b, c⟩
  have HP : Hid (_ ∧ _ ∧ _) := Lib.hid ⟨a, b, c⟩
  clear a b c
  go_wp2
  go_ret
  exact ⟨_, S, rfl, HP.out⟩
end Go.Proofs.YtoomefclbemnlaaGreat
