/-
  A yard's walks go as their machine; how they begin.
-/
import Derived.Test.YtamcfobgmpgbeaaDoorIdP
namespace Go.Proofs.YtamcfobgmpgbeaaDoor
set_option maxRecDepth 100000
set_option linter.unusedSimpArgs false
set_option linter.unusedVariables false
open Go.ChangeShapes Go.WideShapes Go.ChangeAt Go.RowKit

def idLookF (kind : Int) : FuncId := if kind = 1 then 35 else if kind = 2 then 37 else if kind = 3 then 39 else if kind = 4 then 41 else 43
theorem idLookF_call (kind : Int) : ∀ args w, (callFunc (idLookF kind) args).run Tryd.prog w = .ok (.enter (idLookF kind) args) w := by
  unfold idLookF; repeat' split
  all_goals exact fun _ _ => by kernel_rfl
def idOk (s : IdS) : Prop := idRight s.at_ s.n ∧ (s.kind = 1 ∨ s.kind = 2 ∨ s.kind = 3 ∨ s.kind = 4 ∨ s.kind = 5) ∧ 0 ≤ s.who ∧ s.who < s.n ∧ M.U s.x
def idFn (s : IdS) : FuncId := if s.known then 81 else 59
/-- What a walk of a yard knows, while it has not ended. -/
def idE (m : Nat) (w : World) (T : List Nat) (nx : Value) (s : IdS) : Prop :=
  s.over = none → idOk s ∧ ∃ p h v, p ∈ T ∧ nx = .func (.func (idFn s)) #[.pointer (some ⟨p, 0, none⟩)] #[] ∧
    Row w p 76 (tId m s.at_ s.n s.who h (.func (.func (idLookF s.kind)) #[.pointer (some ⟨p, 0, none⟩)] #[]) v) ∧ (s.known = true → h = s.x ∧ v = s.made.2.2)
theorem idE_keeps (m : Nat) : ∀ w w' T A nx s, idE m w T nx s → Keeps A w w' → (∀ k ∈ T, k ∉ A) → idE m w' T nx s := by
  intro w w' T A nx s h hk hT hg
  obtain ⟨h0, p, hh, v, h1, h2, h3, h4⟩ := h hg
  exact ⟨h0, p, hh, v, h1, h2, h3.keeps hk (hT p h1), h4⟩

/-- What is done with each word that is told. -/
theorem idLook_any (m p : Nat) (at_ n who x kind : Int) (look : Value) (v : Int) (e : TypeId) (st : WSt) (w : World) (hw : Wk w m st) (hp : Row w p e (tId m at_ n who x look v)) (hpm : p ≠ m) (ho : st.over = false) (hs : st.sub = none) (hU : M.U x) (hu : 0 < st.under)
    (hr : idRight at_ n) (hkind : kind = 1 ∨ kind = 2 ∨ kind = 3 ∨ kind = 4 ∨ kind = 5) (h0 : 0 ≤ who) (h1 : who < n) (hT : Amb w) :
    Calls Tryd.prog (idLookF kind) #[.pointer (some ⟨p, 0, none⟩)] w fun e' w' => e' = .returned (.tuple #[]) ∧ Looked m p e at_ n who x look st (idMade n kind who x) w w' := by
  obtain ⟨r1, r2, -, -⟩ := hr
  rcases hkind with rfl | rfl | rfl | rfl | rfl
  · exact idSleep_any m p at_ n who x look v e st w hw hp hpm ho hs hU h0 (by omega)
  · cases hb : x.toNat.testBit who.toNat with
    | false => exact idLeave_no m p at_ n who x look v e st w hw hp hpm ho hs hU hu h0 (by omega) hb
    | true => exact idLeave_yes m p at_ n who x look v e st w hw hp hpm ho hs hU hu h0 (by omega) hb
  · by_cases hb : n ≤ 2 * (x / 4294967296)
    · exact idSearch_no m p at_ n who x look v e st w hw hp hpm ho hs hU hu r1 r2 hb
    · exact idSearch_yes m p at_ n who x look v e st w hw hp hpm ho hs hU hu r1 r2 hb
  · by_cases hb : x / 4294967296 = 0
    · exact idFound_no m p at_ n who x look v e st w hw hp hpm ho hs hU hu hb
    · exact idFound_yes m p at_ n who x look v e st w hw hp hpm ho hs hU hu hb
  · by_cases hf : M.fieldN x.toNat 0 n.toNat = 0
    · exact idChoose_none m p at_ n who x look v e st w hw hp hpm ho hs hU hu r1 r2 hf
    · by_cases hb : x / 4294967296 = 0
      · exact idChoose_yes m p at_ n who x look v e st w hw hp hpm ho hs hU hu r1 r2 hT hb hf
      · exact idChoose_busy m p at_ n who x look v e st w hw hp hpm ho hs hU hu r1 r2 hT (by have := hU.nn; omega) hf

theorem idLook_goes (m p : Nat) (s : IdS) (x v : Int) (T : List Nat) (st : WSt) (w : World) (hw : Wk w m st) (ho : st.over = false) (hs : st.sub = none) (hu : st.under = 1) (hpT : p ∈ T) (hT : ∀ k ∈ T, k < w.heap.size ∧ k ≠ m)
    (hov : s.over = none) (hok : idOk s) (hU : M.U x) (hp : Row w p 76 (tId m s.at_ s.n s.who x (.func (.func (idLookF s.kind)) #[.pointer (some ⟨p, 0, none⟩)] #[]) v)) (hA : Amb w) :
    Calls Tryd.prog (idLookF s.kind) #[.pointer (some ⟨p, 0, none⟩)] w fun e w' => e = .returned (.tuple #[]) ∧ Goes idM (idE m) m st T (idSee s x) w w' := by
  obtain ⟨hr, hkd, w0, w1, -⟩ := hok
  have hpm := (hT p hpT).2
  refine (idLook_any m p s.at_ s.n s.who x s.kind _ v _ st w hw hp hpm ho hs hU (by omega) hr hkd w0 w1 hA).mono ?_
  rintro e w2 ⟨rfl, h | h⟩
  · obtain ⟨hc, h2, hrow, k2⟩ := h
    refine ⟨rfl, k2.mono (by intro k hk _; simp at hk; rcases hk with rfl | rfl; simp; simp [hpT]), .inl ⟨_, _, _, _, T, by simp [idM, idSee, idWant, hc, IdS.made], by simp [idM, idSee, hc], h2, ?_, fun k hk => Nat.lt_of_lt_of_le (hT k hk).1 k2.size, fun k hk => ⟨(hT k hk).2, .inl hk⟩⟩⟩
    intro _
    exact ⟨⟨hr, hkd, w0, w1, hU⟩, p, x, _, hpT, by simp [idFn, idSee], hrow, fun _ => ⟨rfl, rfl⟩⟩
  · obtain ⟨hc, l', h2, o2, k2⟩ := h
    refine ⟨rfl, k2.mono (by intro k hk _; simp at hk; rcases hk with rfl | rfl; simp; simp [hpT]), .inr ⟨_, 0, [], l', by simp [idM, idSee, hc], by simp only [idM, idSee]; rw [if_neg hc], by simp, ?_, o2⟩⟩
    rw [← hs]; exact h2

theorem idRead_goes (m p : Nat) (s : IdS) (h0 x v : Int) (won : Bool) (T : List Nat) (st : WSt) (w : World) (hw : Wk w m st) (ho : st.over = false) (hs : st.sub = none) (hu : st.under = 1) (hpT : p ∈ T) (hT : ∀ k ∈ T, k < w.heap.size ∧ k ≠ m)
    (hov : s.over = none) (hok : idOk s) (hU : M.U x) (hp : Row w p 76 (tId m s.at_ s.n s.who h0 (.func (.func (idLookF s.kind)) #[.pointer (some ⟨p, 0, none⟩)] #[]) v)) (hA : Amb w) :
    Calls Tryd.prog 59 #[.pointer (some ⟨p, 0, none⟩), .int .u64 x, .bool won] w fun e w' => e = .returned (.tuple #[]) ∧ Goes idM (idE m) m st T (idSee s x) w w' := by
  have hpA : ¬ AmbAt p := fun h => by
    cases h
    have h1 := hA.2 0 (by decide)
    have h2 := hp.cell (j := 0) rfl
    rw [h1] at h2
    cases h2
  refine idRead_any (idLookF s.kind) m p s.at_ s.n s.who h0 x won v _ w _ hp (idLookF_call _) fun w1 h1 k1 => ?_
  have hpm := (hT p hpT).2
  refine (idLook_goes m p s x v T st w1 (hw.keeps k1 (by simpa using Ne.symm hpm)) ho hs hu hpT (fun k hk => ⟨Nat.lt_of_lt_of_le (hT k hk).1 k1.size, (hT k hk).2⟩) hov hok hU h1 (hA.keeps k1 (by simpa using hpA))).mono ?_
  rintro e w2 ⟨rfl, hg⟩
  exact ⟨rfl, hg.from (k1.mono (by intro k hk _; simp at hk; subst hk; simp [hpT]))⟩

theorem idSteps (m : Nat) : ∀ w T F fi ca s st v won x, Wk w m st → st.over = false → st.sub = none → st.under = 1 → (∀ k ∈ T, k < w.heap.size ∧ k ≠ m) → idE m w T (.func (.func F) fi ca) s → M.U v → idM.want s = some x → Amb w →
      Calls Tryd.prog F (fi ++ (#[.int .u64 v, .bool won] ++ ca)) w fun e w' => e = .returned (.tuple #[]) ∧ Goes idM (idE m) m st T (idM.give s v won) w w' := by
  intro w T F fi ca s st v won x hw ho hs hu hT hE hv hx hA
  have hov : s.over = none := by
    cases h : s.over with
    | none => rfl
    | some r => simp [idM, h] at hx
  obtain ⟨hok, p, h, r, hpT, hn, hp, hh⟩ := hE hov
  injection hn with e1 e2 e3
  injection e1 with e1
  subst e1 e2 e3
  have hgv : idM.give s v won = idGive s v won := by simp [idM, hov]
  rw [hgv]
  cases hk : s.known with
  | false =>
    have hF : idFn s = 59 := by simp [idFn, hk]
    rw [hF, show idGive s v won = idSee s v by simp [idGive, hk]]
    exact idRead_goes m p s h v r won T st w hw ho hs hu hpT hT hov hok hv hp hA
  | true =>
    have hF : idFn s = 81 := by simp [idFn, hk]
    rw [hF]
    cases won with
    | false =>
      rw [show idGive s v false = idSee s v by simp [idGive]]
      exact idTried_not p v w _ (idRead_goes m p s h v r false T st w hw ho hs hu hpT hT hov hok hv hp hA)
    | true =>
      obtain ⟨rfl, hrr⟩ := hh hk
      refine (idTried_won m p _ _ _ _ v _ r _ st w hw hp ho (by omega)).mono ?_
      rintro e w2 ⟨rfl, l', h2, o2, k2⟩
      refine ⟨rfl, k2.mono (by simp), .inr ⟨0, r, [], l', by simp [idM, idGive, hk], by simp [idM, idGive, hk, hrr], by simp, ?_, o2⟩⟩
      rw [← hs]; exact h2
theorem idEnded (m : Nat) : ∀ w T nx s, idM.want s = none → idE m w T nx s := by
  intro w T nx s h hov
  simp [idM, hov] at h
theorem idRuns (m : Nat) : Runs idM (LoneI idM (idE m) m) m := by
  refine runs_ownA idM (idE m) m (idE_keeps m) (idEnded m) ?_ (fun _ _ _ => rfl) ?_ ?_ (idSteps m)
  · intro s v won h
    cases ho : s.over with
    | none => simp [idM, ho] at h
    | some r => simp [idM, ho]
  · intro s x h
    cases ho : s.over with
    | none => exact ho
    | some r => simp [idM, ho] at h
  · intro w T nx s x h hx
    have hov : s.over = none := by
      cases h : s.over with
      | none => rfl
      | some r => simp [idM, h] at hx
    obtain ⟨-, p, _, _, -, hn, -⟩ := h hov
    refine ⟨_, _, _, hn, ?_⟩
    unfold idFn
    split <;> exact fun _ _ => by kernel_rfl

theorem idRight_any (at_ n : Int) (w : World) :
    Calls Tryd.prog 24 #[.agg #[.int .i64 at_, .int .i64 n]] w fun e w' => e = .returned (.bool (decide (idRight at_ n))) ∧ Keeps [] w w' := by
  obtain ⟨W1, hW1⟩ : ∃ W1, w.alloc (.cells #[.int .i64 at_, .int .i64 n] 24) = W1 := ⟨_, rfl⟩
  have hb : Box W1 w.heap.size #[.int .i64 at_, .int .i64 n] := by rw [← hW1]; exact Box.new _ _ _
  have hk1 : Keeps [] w W1 := by rw [← hW1]; exact (Keeps.refl _ _).alloc _
  have c0 := hb.cells 0
  have c1 := hb.cells 1
  have HK := Lib.hid hk1
  have hD : decide (idRight at_ n) = (decide (1 ≤ n) && decide (n ≤ 16) && decide (0 ≤ at_) && decide (at_ < 65536)) := by
    by_cases e1 : 1 ≤ n <;> by_cases e2 : n ≤ 16 <;> by_cases e3 : 0 ≤ at_ <;> by_cases e4 : at_ < 65536 <;> simp [idRight, e1, e2, e3, e4]
  rw [hD]
  clear hb hk1 hD
  have d1 : decide (1 ≤ n) = false ∨ decide (1 ≤ n) = true := by cases decide (1 ≤ n) <;> simp
  have d2 : decide (n ≤ 16) = false ∨ decide (n ≤ 16) = true := by cases decide (n ≤ 16) <;> simp
  have d3 : decide (0 ≤ at_) = false ∨ decide (0 ≤ at_) = true := by cases decide (0 ≤ at_) <;> simp
  have d4 : decide (at_ < 65536) = false ∨ decide (at_ < 65536) = true := by cases decide (at_ < 65536) <;> simp
  rcases d1 with d1 | d1 <;> rcases d2 with d2 | d2 <;> rcases d3 with d3 | d3 <;> rcases d4 with d4 | d4
  all_goals (
    have HD := Lib.hid (⟨d1, d2, d3, d4⟩ : _ ∧ _ ∧ _ ∧ _)
    go_enter Tryd.func24, Tryd.ntmps24
    go_wp2
    go_ret
    obtain ⟨d1, d2, d3, d4⟩ := HD.out
    refine ⟨?_, HK.out⟩
    rw [d1, d2, d3, d4]
    rfl)

theorem idHas_any (at_ n i : Int) (w : World) :
    Calls Tryd.prog 56 #[.agg #[.int .i64 at_, .int .i64 n], .int .i64 i] w fun e w' => e = .returned (.bool (decide (0 ≤ i) && decide (i < n))) ∧ Keeps [] w w' := by
  obtain ⟨W1, hW1⟩ : ∃ W1, w.alloc (.cells #[.int .i64 at_, .int .i64 n] 24) = W1 := ⟨_, rfl⟩
  have hb : Box W1 w.heap.size #[.int .i64 at_, .int .i64 n] := by rw [← hW1]; exact Box.new _ _ _
  have hk1 : Keeps [] w W1 := by rw [← hW1]; exact (Keeps.refl _ _).alloc _
  have c1 := hb.cells 1
  have HK := Lib.hid hk1
  clear hb hk1
  have d1 : decide (0 ≤ i) = false ∨ decide (0 ≤ i) = true := by cases decide (0 ≤ i) <;> simp
  have d2 : decide (i < n) = false ∨ decide (i < n) = true := by cases decide (i < n) <;> simp
  rcases d1 with d1 | d1 <;> rcases d2 with d2 | d2
  all_goals (
    have HD := Lib.hid (⟨d1, d2⟩ : _ ∧ _)
    go_enter Tryd.func56, Tryd.ntmps56
    go_wp2
    go_ret
    obtain ⟨d1, d2⟩ := HD.out
    refine ⟨?_, HK.out⟩
    rw [d1, d2]
    rfl)

def idSetF (kind : Int) : FuncId := if kind = 1 then 34 else if kind = 2 then 36 else if kind = 3 then 38 else if kind = 4 then 40 else 42
theorem idSetF_call (kind : Int) : ∀ args w, (callFunc (idSetF kind) args).run Tryd.prog w = .ok (.enter (idSetF kind) args) w := by
  unfold idSetF; repeat' split
  all_goals exact fun _ _ => by kernel_rfl
theorem idSet_any (m p : Nat) (at_ n who x kind : Int) (look : Value) (v : Int) (e : TypeId) (w : World) (hp : Row w p e (tId m at_ n who x look v)) (hkind : kind = 1 ∨ kind = 2 ∨ kind = 3 ∨ kind = 4 ∨ kind = 5) :
    Calls Tryd.prog (idSetF kind) #[.pointer (some ⟨p, 0, none⟩)] w fun e' w' => e' = .returned (.tuple #[]) ∧ Row w' p e (tId m at_ n who x (.func (.func (idLookF kind)) #[.pointer (some ⟨p, 0, none⟩)] #[]) v) ∧ Keeps [p] w w' := by
  have c5 := hp.cell (j := 5) rfl
  have f5 := hp.frozen 5
  have HR := Lib.hid (fun u => hp.set 5 u)
  clear hp
  rcases hkind with rfl | rfl | rfl | rfl | rfl
  · go_enter Tryd.func34, Tryd.ntmps34
    go_wp2
    first | go_end0 | refine bodyPost_ret (results_none rfl _ _ _) rfl ?_
    exact ⟨rfl, HR.out _, (Keeps.refl _ _).setCell (fun _ => by simp) _⟩
  · go_enter Tryd.func36, Tryd.ntmps36
    go_wp2
    first | go_end0 | refine bodyPost_ret (results_none rfl _ _ _) rfl ?_
    exact ⟨rfl, HR.out _, (Keeps.refl _ _).setCell (fun _ => by simp) _⟩
  · go_enter Tryd.func38, Tryd.ntmps38
    go_wp2
    first | go_end0 | refine bodyPost_ret (results_none rfl _ _ _) rfl ?_
    exact ⟨rfl, HR.out _, (Keeps.refl _ _).setCell (fun _ => by simp) _⟩
  · go_enter Tryd.func40, Tryd.ntmps40
    go_wp2
    first | go_end0 | refine bodyPost_ret (results_none rfl _ _ _) rfl ?_
    exact ⟨rfl, HR.out _, (Keeps.refl _ _).setCell (fun _ => by simp) _⟩
  · go_enter Tryd.func42, Tryd.ntmps42
    go_wp2
    first | go_end0 | refine bodyPost_ret (results_none rfl _ _ _) rfl ?_
    exact ⟨rfl, HR.out _, (Keeps.refl _ _).setCell (fun _ => by simp) _⟩

set_option maxHeartbeats 1600000 in
/-- How one begins that is right. -/
theorem idBegun_goes (m b0 b1 b2 : Nat) (at_ n kind who : Int) (w : World) (hr : idRight at_ n) (h0 : 0 ≤ who) (h1 : who < n) (hkind : kind = 1 ∨ kind = 2 ∨ kind = 3 ∨ kind = 4 ∨ kind = 5) (hw : Wk w m { WSt.zero with under := 1 }) (hb : Box w b0 #[.int .i64 at_, .int .i64 n]) (hb1 : Box w b1 #[.int .i64 who]) (hb2 : Box w b2 #[.func (.func (idSetF kind)) #[] #[]]) :
    Calls Tryd.prog 55 #[.pointer (some ⟨m, 0, none⟩), .pointer (some ⟨b0, 0, none⟩), .pointer (some ⟨b1, 0, none⟩), .pointer (some ⟨b2, 0, none⟩)] w fun e w' => e = .returned (.tuple #[]) ∧ Goes idM (idE m) m { WSt.zero with under := 1 } [] (idNew at_ n kind who) w w' := by
  have HRi := Lib.hid (fun W => idRight_any at_ n W)
  have HHa := Lib.hid (fun W => idHas_any at_ n who W)
  rw [decide_eq_true hr] at HRi
  rw [decide_eq_true h0, decide_eq_true h1] at HHa
  have HS : Hid (∀ W, Keeps [] w W → W.cell? ⟨b0, 0, none⟩ = some (.int .i64 at_) ∧ W.cell? ⟨b0, 1, none⟩ = some (.int .i64 n) ∧ W.cell? ⟨b1, 0, none⟩ = some (.int .i64 who)) :=
    Lib.hid (fun W hk => ⟨(hb.keeps hk (by simp)).cells 0, (hb.keeps hk (by simp)).cells 1, (hb1.keeps hk (by simp)).cells 0⟩)
  obtain ⟨c0, c1, c2⟩ := HS.out w (Keeps.refl _ _)
  have HW := Lib.hid hw
  have HB2 := Lib.hid hb2
  have HHr := Lib.hid hr
  have hlt := hw.lt
  clear hw hb hb1 hb2 hr
  go_enter Tryd.func55, Tryd.ntmps55
  go_wp2_with fail
  refine (HRi.out _).mono ?_
  rintro e w1 ⟨rfl, k1⟩
  obtain ⟨c0, c1, c2⟩ := HS.out w1 k1
  have HK1 := Lib.hid k1
  clear k1
  go_wp2_with fail
  refine (HHa.out _).mono ?_
  rintro e w2 ⟨rfl, k2⟩
  have k12 := HK1.out.trans k2
  have hs2 := k12.size
  clear c0 c1 c2
  obtain ⟨c0, c1, c2⟩ := HS.out w2 k12
  obtain ⟨F, hF⟩ : ∃ F, idSetF kind = F := ⟨_, rfl⟩
  have hcf : ∀ args w, (callFunc F args).run Tryd.prog w = .ok (.enter F args) w := by rw [← hF]; exact idSetF_call kind
  have hb3 := HB2.out.keeps k12 (by simp)
  rw [hF] at hb3
  obtain ⟨W3, hW3⟩ : ∃ W3, w2.alloc (.cells #[.pointer (some ⟨m, 0, none⟩), .int .i64 at_, .int .i64 n, .int .i64 who, .int .u64 0, .nilFunc, .int .u64 0] 76) = W3 := ⟨_, rfl⟩
  have r3 : Row W3 w2.heap.size 76 (tId m at_ n who 0 .nilFunc 0) := by rw [← hW3]; exact Row.new _ _ _
  have k3 : Keeps [] w2 W3 := by rw [← hW3]; exact (Keeps.refl _ _).alloc _
  have s3 : W3.heap.size = w2.heap.size + 1 := by rw [← hW3]; simp
  have c3 := (hb3.keeps k3 (by simp)).cells 0
  have HSet := Lib.hid (idSet_any m w2.heap.size at_ n who 0 kind .nilFunc 0 _ W3 r3 hkind)
  rw [hF] at HSet
  have HK3 := Lib.hid (k12.trans k3)
  have HR3 := Lib.hid r3
  clear k2 k12 hb3 r3 k3 hF
  go_wp2_with fail
  clear hW3
  refine HSet.out.mono ?_
  rintro e w4 ⟨rfl, r4, k4⟩
  have hm4 : m ≠ w2.heap.size := by omega
  have HW4 := Lib.hid ((HW.out.keeps HK3.out (by simp)).keeps k4 (by simpa using hm4))
  have d0 := r4.cell (j := 0) rfl
  have d1 := r4.cell (j := 1) rfl
  have HR4 := Lib.hid r4
  have HK4 := Lib.hid k4
  have HE := Lib.hid (fun W h => wAsk m { WSt.zero with under := 1 } ⟨1, at_, 0, 0⟩ (.func 59) #[.pointer (some ⟨w2.heap.size, 0, none⟩)] #[] W h rfl rfl)
  clear r4 k4
  go_wp2
  go_still_tail 12, (by kernel_rfl)
  change wpList _ _ _ _ _ w4.drew
  go_wp2_with fail
  refine (HE.out w4.drew HW4.out).mono ?_
  rintro e w5 ⟨rfl, hw, hk⟩
  have HP := Lib.hid (⟨hw, hk⟩ : _ ∧ _)
  clear hw hk
  go_wp2
  first | go_end0 | refine bodyPost_ret (results_none rfl _ _ _) rfl ?_
  have hk5 := HP.out.2.undrew
  have hN : idNew at_ n kind who = ⟨at_, n, kind, who, false, 0, none⟩ := by simp [idNew, HHr.out, h0, h1]
  rw [hN]
  have r5 := HR4.out.keeps hk5 (by simpa using Ne.symm hm4)
  have U0 : M.U 0 := ⟨by decide, by decide⟩
  refine ⟨rfl, (((HK3.out.step HK4.out (fun k hk => by simp at hk; omega)).mono (by simp)).trans hk5), .inl ⟨_, _, _, _, [w2.heap.size], by simp [idM, idWant], rfl, HP.out.1, ?_, fun k hk => ?_, fun k hk => ?_⟩⟩
  · intro _
    exact ⟨⟨HHr.out, hkind, h0, h1, U0⟩, w2.heap.size, 0, 0, by simp, by simp [idFn], r5, fun h => by cases h⟩
  · simp at hk; subst hk; exact r5.lt
  · simp at hk; subst hk; exact ⟨Ne.symm hm4, .inr hs2⟩

set_option maxHeartbeats 1600000 in
/-- How one begins that isn't. -/
theorem idBegun_refused (m b0 b1 b2 : Nat) (at_ n kind who : Int) (v2 : Value) (w : World) (hno : ¬ (idRight at_ n ∧ 0 ≤ who ∧ who < n)) (hw : Wk w m { WSt.zero with under := 1 }) (hb : Box w b0 #[.int .i64 at_, .int .i64 n]) (hb1 : Box w b1 #[.int .i64 who]) :
    Calls Tryd.prog 55 #[.pointer (some ⟨m, 0, none⟩), .pointer (some ⟨b0, 0, none⟩), .pointer (some ⟨b1, 0, none⟩), .pointer (some ⟨b2, 0, none⟩)] w fun e w' => e = .returned (.tuple #[]) ∧ Goes idM (idE m) m { WSt.zero with under := 1 } [] (idNew at_ n kind who) w w' := by
  have hN : idNew at_ n kind who = ⟨at_, n, kind, who, false, 0, some ⟨2, 0, []⟩⟩ := by simp only [idNew]; rw [if_neg hno]
  rw [hN]
  have HRi := Lib.hid (fun W => idRight_any at_ n W)
  have HHa := Lib.hid (fun W => idHas_any at_ n who W)
  have HS : Hid (∀ W, Keeps [] w W → W.cell? ⟨b0, 0, none⟩ = some (.int .i64 at_) ∧ W.cell? ⟨b0, 1, none⟩ = some (.int .i64 n) ∧ W.cell? ⟨b1, 0, none⟩ = some (.int .i64 who)) :=
    Lib.hid (fun W hk => ⟨(hb.keeps hk (by simp)).cells 0, (hb.keeps hk (by simp)).cells 1, (hb1.keeps hk (by simp)).cells 0⟩)
  have HE := Lib.hid (fun W h => wBreak m { WSt.zero with under := 1 } 2 W h rfl (.inl (show (0 : Int) < 1 by decide)))
  obtain ⟨c0, c1, c2⟩ := HS.out w (Keeps.refl _ _)
  have HW := Lib.hid hw
  have hcase : decide (idRight at_ n) = false ∨ (decide (idRight at_ n) = true ∧ (decide (0 ≤ who) && decide (who < n)) = false) := by
    by_cases h : idRight at_ n
    · refine .inr ⟨decide_eq_true h, ?_⟩
      by_cases h0 : 0 ≤ who
      · have h1 : ¬ who < n := fun h1 => hno ⟨h, h0, h1⟩
        simp [h1]
      · simp [h0]
    · exact .inl (decide_eq_false h)
  clear hw hb hb1 hno hN
  rcases hcase with h | ⟨h, h2⟩
  · rw [h] at HRi
    clear h HHa
    go_enter Tryd.func55, Tryd.ntmps55
    go_wp2_with fail
    refine (HRi.out _).mono ?_
    rintro e w1 ⟨rfl, k1⟩
    have HK := Lib.hid k1
    clear k1
    go_wp2_with fail
    refine (HE.out _ (HW.out.keeps HK.out (by simp))).mono ?_
    rintro e w3 ⟨rfl, l', hw, ho, hk⟩
    have HP := Lib.hid (⟨hw, ho, hk⟩ : _ ∧ _ ∧ _)
    clear hw ho hk
    go_wp2
    first | go_end0 | refine bodyPost_ret (results_none rfl _ _ _) rfl ?_
    exact ⟨rfl, (HK.out.mono (by simp)).trans HP.out.2.2, .inr ⟨2, 0, [], l', by simp [idM], rfl, by simp, HP.out.1, owns_base HP.out.2.1 HK.out.size⟩⟩
  · rw [h] at HRi
    rw [h2] at HHa
    clear h h2
    go_enter Tryd.func55, Tryd.ntmps55
    go_wp2_with fail
    refine (HRi.out _).mono ?_
    rintro e w1 ⟨rfl, k1⟩
    clear c0 c1 c2
    obtain ⟨c0, c1, c2⟩ := HS.out w1 k1
    have HK1 := Lib.hid k1
    clear k1
    go_wp2_with fail
    refine (HHa.out _).mono ?_
    rintro e w2 ⟨rfl, k2⟩
    have HK := Lib.hid (HK1.out.trans k2)
    clear k2
    go_wp2_with fail
    refine (HE.out _ (HW.out.keeps HK.out (by simp))).mono ?_
    rintro e w3 ⟨rfl, l', hw, ho, hk⟩
    have HP := Lib.hid (⟨hw, ho, hk⟩ : _ ∧ _ ∧ _)
    clear hw ho hk
    go_wp2
    first | go_end0 | refine bodyPost_ret (results_none rfl _ _ _) rfl ?_
    exact ⟨rfl, (HK.out.mono (by simp)).trans HP.out.2.2, .inr ⟨2, 0, [], l', by simp [idM], rfl, by simp, HP.out.1, owns_base HP.out.2.1 HK.out.size⟩⟩

set_option maxHeartbeats 1600000 in
theorem idBegun_made (at_ n kind who : Int) (w : World) (hkind : kind = 1 ∨ kind = 2 ∨ kind = 3 ∨ kind = 4 ∨ kind = 5) :
    Calls Tryd.prog 33 #[.agg #[.int .i64 at_, .int .i64 n], .int .i64 who, .func (.func (idSetF kind)) #[] #[]] w fun e w' => ∃ (m : Nat) (S : List Nat), e = .returned (.pointer (some ⟨m, 0, none⟩)) ∧ LoneI idM (idE m) m w' S (idNew at_ n kind who) ∧ Keeps [] w w' ∧ ∀ k ∈ S, w.heap.size ≤ k := by
  obtain ⟨F, hF⟩ : ∃ F, idSetF kind = F := ⟨_, rfl⟩
  rw [hF]
  obtain ⟨W1, hW1⟩ : ∃ W1, ((w.alloc (.cells #[.int .i64 at_, .int .i64 n] 24)).alloc (.cells #[.int .i64 who] 3)).alloc (.cells #[.func (.func F) #[] #[]] 77) = W1 := ⟨_, rfl⟩
  have hb : Box W1 w.heap.size #[.int .i64 at_, .int .i64 n] := by rw [← hW1]; exact ((Box.new _ _ _).alloc _).alloc _
  have hb1 : Box W1 (w.heap.size + 1) #[.int .i64 who] := by rw [← hW1]; have := Box.new (w.alloc (.cells #[.int .i64 at_, .int .i64 n] 24)) #[.int .i64 who] 3; simpa using this.alloc _
  have hb2 : Box W1 (w.heap.size + 2) #[.func (.func F) #[] #[]] := by rw [← hW1]; have := Box.new ((w.alloc (.cells #[.int .i64 at_, .int .i64 n] 24)).alloc (.cells #[.int .i64 who] 3)) #[.func (.func F) #[] #[]] 77; simpa using this
  have hk1 : Keeps [] w W1 := by rw [← hW1]; exact (((Keeps.refl _ _).alloc _).alloc _).alloc _
  have HN := Lib.hid (new_goes idM (idE (W1.heap.size + 1)) (idNew at_ n kind who) 55 #[.pointer (some ⟨w.heap.size, 0, none⟩), .pointer (some ⟨w.heap.size + 1, 0, none⟩), .pointer (some ⟨w.heap.size + 2, 0, none⟩)] W1 (idE_keeps _) (idEnded _) rfl (fun _ _ => by kernel_rfl) (fun w3 h3 k3 => by
    by_cases hok : idRight at_ n ∧ 0 ≤ who ∧ who < n
    · exact idBegun_goes _ _ _ _ at_ n kind who w3 hok.1 hok.2.1 hok.2.2 hkind h3 (hb.keeps k3 (by simp)) (hb1.keeps k3 (by simp)) (by rw [hF]; exact hb2.keeps k3 (by simp))
    · exact idBegun_refused _ _ _ _ at_ n kind who .nilFunc w3 hok h3 (hb.keeps k3 (by simp)) (hb1.keeps k3 (by simp))))
  have HK := Lib.hid hk1
  clear hb hb1 hb2 hk1 hF
  go_enter Tryd.func33, Tryd.ntmps33
  go_wp2_with fail
  refine HN.out.mono ?_
  rintro e w4 ⟨rfl, S, hI, k4, hS⟩
  have HP : Hid (_ ∧ _ ∧ _) := Lib.hid ⟨hI, HK.out.trans k4, fun k hk => Nat.le_trans HK.out.size (hS k hk)⟩
  clear hI k4 hS
  go_wp2
  go_ret
  exact ⟨_, S, rfl, HP.out⟩
def idMadeBy (F : FuncId) (args : Array Value) (s : IdS) : Prop := ∀ w : World, Calls Tryd.prog F args w fun e w' => ∃ (m : Nat) (S : List Nat), e = .returned (.pointer (some ⟨m, 0, none⟩)) ∧ LoneI idM (idE m) m w' S s ∧ Keeps [] w w' ∧ ∀ k ∈ S, w.heap.size ≤ k
theorem idSleep_made (at_ n who : Int) : idMadeBy 15 #[.agg #[.int .i64 at_, .int .i64 n], .int .i64 who] (idNew at_ n 1 who) := by
  intro w
  have HB := Lib.hid (fun W => idBegun_made at_ n 1 who W (by simp))
  rw [show idSetF 1 = 34 from rfl] at HB
  have k1 : Keeps [] w (w.alloc (.cells #[.int .i64 at_, .int .i64 n] 24)) := (Keeps.refl _ _).alloc _
  have HK := Lib.hid k1
  clear k1
  go_enter Tryd.func15, Tryd.ntmps15
  go_wp2_with fail
  refine (HB.out _).mono ?_
  rintro e w4 ⟨m, S, rfl, hI, k4, hS⟩
  have HP : Hid (_ ∧ _ ∧ _) := Lib.hid ⟨hI, HK.out.trans k4, fun k hk => Nat.le_trans HK.out.size (hS k hk)⟩
  clear hI k4 hS
  go_wp2
  go_ret
  exact ⟨_, S, rfl, HP.out⟩
theorem idLeave_made (at_ n who : Int) : idMadeBy 16 #[.agg #[.int .i64 at_, .int .i64 n], .int .i64 who] (idNew at_ n 2 who) := by
  intro w
  have HB := Lib.hid (fun W => idBegun_made at_ n 2 who W (by simp))
  rw [show idSetF 2 = 36 from rfl] at HB
  have k1 : Keeps [] w (w.alloc (.cells #[.int .i64 at_, .int .i64 n] 24)) := (Keeps.refl _ _).alloc _
  have HK := Lib.hid k1
  clear k1
  go_enter Tryd.func16, Tryd.ntmps16
  go_wp2_with fail
  refine (HB.out _).mono ?_
  rintro e w4 ⟨m, S, rfl, hI, k4, hS⟩
  have HP : Hid (_ ∧ _ ∧ _) := Lib.hid ⟨hI, HK.out.trans k4, fun k hk => Nat.le_trans HK.out.size (hS k hk)⟩
  clear hI k4 hS
  go_wp2
  go_ret
  exact ⟨_, S, rfl, HP.out⟩
theorem idSearch_made (at_ n who : Int) : idMadeBy 17 #[.agg #[.int .i64 at_, .int .i64 n], .int .i64 who] (idNew at_ n 3 who) := by
  intro w
  have HB := Lib.hid (fun W => idBegun_made at_ n 3 who W (by simp))
  rw [show idSetF 3 = 38 from rfl] at HB
  have k1 : Keeps [] w (w.alloc (.cells #[.int .i64 at_, .int .i64 n] 24)) := (Keeps.refl _ _).alloc _
  have HK := Lib.hid k1
  clear k1
  go_enter Tryd.func17, Tryd.ntmps17
  go_wp2_with fail
  refine (HB.out _).mono ?_
  rintro e w4 ⟨m, S, rfl, hI, k4, hS⟩
  have HP : Hid (_ ∧ _ ∧ _) := Lib.hid ⟨hI, HK.out.trans k4, fun k hk => Nat.le_trans HK.out.size (hS k hk)⟩
  clear hI k4 hS
  go_wp2
  go_ret
  exact ⟨_, S, rfl, HP.out⟩
theorem idFound_made (at_ n who : Int) : idMadeBy 18 #[.agg #[.int .i64 at_, .int .i64 n], .int .i64 who] (idNew at_ n 4 who) := by
  intro w
  have HB := Lib.hid (fun W => idBegun_made at_ n 4 who W (by simp))
  rw [show idSetF 4 = 40 from rfl] at HB
  have k1 : Keeps [] w (w.alloc (.cells #[.int .i64 at_, .int .i64 n] 24)) := (Keeps.refl _ _).alloc _
  have HK := Lib.hid k1
  clear k1
  go_enter Tryd.func18, Tryd.ntmps18
  go_wp2_with fail
  refine (HB.out _).mono ?_
  rintro e w4 ⟨m, S, rfl, hI, k4, hS⟩
  have HP : Hid (_ ∧ _ ∧ _) := Lib.hid ⟨hI, HK.out.trans k4, fun k hk => Nat.le_trans HK.out.size (hS k hk)⟩
  clear hI k4 hS
  go_wp2
  go_ret
  exact ⟨_, S, rfl, HP.out⟩
theorem idChoose_made (at_ n : Int) : idMadeBy 19 #[.agg #[.int .i64 at_, .int .i64 n]] (idNew at_ n 5 0) := by
  intro w
  have HB := Lib.hid (fun W => idBegun_made at_ n 5 0 W (by simp))
  rw [show idSetF 5 = 42 from rfl] at HB
  have k1 : Keeps [] w (w.alloc (.cells #[.int .i64 at_, .int .i64 n] 24)) := (Keeps.refl _ _).alloc _
  have HK := Lib.hid k1
  clear k1
  go_enter Tryd.func19, Tryd.ntmps19
  go_wp2_with fail
  refine (HB.out _).mono ?_
  rintro e w4 ⟨m, S, rfl, hI, k4, hS⟩
  have HP : Hid (_ ∧ _ ∧ _) := Lib.hid ⟨hI, HK.out.trans k4, fun k hk => Nat.le_trans HK.out.size (hS k hk)⟩
  clear hI k4 hS
  go_wp2
  go_ret
  exact ⟨_, S, rfl, HP.out⟩
end Go.Proofs.YtamcfobgmpgbeaaDoor
