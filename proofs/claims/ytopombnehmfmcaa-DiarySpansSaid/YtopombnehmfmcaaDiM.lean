import Derived.Test.YtopombnehmfmcaaKeep
/-
  Diaries, in numbers: events, spans, the reader of events, and the document's own words for a right diary and its spans.
-/
namespace Go.Proofs.Ytopombnehmfmcaa
set_option maxRecDepth 100000
set_option linter.unusedSimpArgs false
set_option linter.unusedVariables false
open Go

structure DCall where
  kind : Int
  task : Int
  p : Option Addr
  n : Nat
  c : Nat
  vs : List Int
structure DRes where
  code : Int
  v : Int
  p : Option Addr
  n : Nat
  c : Nat
  ls : List Int
structure DEv where
  step : Int
  who : Int
  nth : Int
  ends : Bool
  call : DCall
  res : DRes
structure DSp where
  who : Int
  nth : Int
  lo : Int
  hi : Int
  call : DCall
  res : DRes
instance : Inhabited DCall := ⟨⟨0, 0, none, 0, 0, []⟩⟩
instance : Inhabited DRes := ⟨⟨0, 0, none, 0, 0, []⟩⟩
instance : Inhabited DEv := ⟨⟨0, 0, 0, false, default, default⟩⟩
instance : Inhabited DSp := ⟨⟨0, 0, 0, 0, default, default⟩⟩

def DRes.none : DRes := ⟨0, 0, Option.none, 0, 0, []⟩
def DCall.same (a b : DCall) : Bool := a.kind == b.kind && a.task == b.task && a.vs == b.vs
def DRes.same (a b : DRes) : Bool := a.code == b.code && a.v == b.v && a.ls == b.ls
def DRes.zero (a : DRes) : Bool := a.code == 0 && a.v == 0 && a.ls.length == 0
def DSp.same (a b : DSp) : Bool := a.who == b.who && a.nth == b.nth && a.lo == b.lo && a.hi == b.hi && a.call.same b.call && a.res.same b.res
def diSame (a b : List DSp) : Bool := a.length == b.length && (List.range a.length).all fun i => (a.getD i default).same (b.getD i default)

/-- What a reader knows of a worker. -/
structure RdW where
  begun : Nat
  opn : Bool
  last : Nat
instance : Inhabited RdW := ⟨⟨0, false, 0⟩⟩
structure Rd where
  step : Int
  sps : List DSp
  ws : List RdW
def Rd.new : Rd := ⟨0, [], List.replicate 16 default⟩
def Rd.wk (s : Rd) (e : DEv) : RdW := s.ws.getD e.who.toNat default
def Rd.begin (s : Rd) (place : Nat) (e : DEv) : Option Rd :=
  if (s.wk e).opn = true ∨ e.nth ≠ (s.wk e).begun ∨ e.res.zero = false then none
  else some ⟨e.step, s.sps ++ [⟨e.who, e.nth, place, -1, e.call, DRes.none⟩], s.ws.set e.who.toNat ⟨(s.wk e).begun + 1, true, s.sps.length⟩⟩
def Rd.end_ (s : Rd) (place : Nat) (e : DEv) : Option Rd :=
  if (s.wk e).opn = false ∨ e.nth ≠ (s.sps.getD (s.wk e).last default).nth ∨ e.call.same (s.sps.getD (s.wk e).last default).call = false then none
  else some ⟨e.step, s.sps.set (s.wk e).last { s.sps.getD (s.wk e).last default with hi := place, res := e.res }, s.ws.set e.who.toNat { s.wk e with opn := false }⟩
def Rd.read (s : Rd) (place : Nat) (e : DEv) : Option Rd :=
  if e.step < s.step ∨ e.who < 0 ∨ 16 ≤ e.who then none
  else if e.ends then s.end_ place e else s.begin place e
/-- The reader behind the first k events. -/
def rdAll (l : List DEv) : Nat → Option Rd
  | 0 => some Rd.new
  | k + 1 => (rdAll l k).bind fun s => s.read k (l.getD k default)

/-- The document's words: the places of a worker's events. -/
def diOwn (l : List DEv) (who : Int) : Nat → List Nat
  | 0 => []
  | k + 1 => diOwn l who k ++ if (l.getD k default).who = who then [k] else []
def diStepOk (l : List DEv) (i : Nat) : Prop :=
  ¬ ((l.getD i default).step < 0 ∨ (0 < i ∧ (l.getD i default).step < (l.getD (i - 1) default).step) ∨ (l.getD i default).who < 0 ∨ 15 < (l.getD i default).who)
def diTurnOk (l : List DEv) (at_ : List Nat) (k : Nat) : Prop :=
  let e := l.getD (at_.getD k 0) default
  e.nth = ((k / 2 : Nat) : Int) ∧ e.ends = decide (k % 2 = 1) ∧ (e.ends = false → e.res.same DRes.none = true) ∧ (e.ends = true → e.call.same (l.getD (at_.getD (k - 1) 0) default).call = true)
/-- The first n events are a right diary. -/
def diRight (l : List DEv) (n : Nat) : Prop :=
  (∀ i, i < n → diStepOk l i) ∧ ∀ w : Nat, w < 16 → ∀ k, k < (diOwn l w n).length → diTurnOk l (diOwn l w n) k
/-- The span of the event at i, behind the first n. -/
def diHi (l : List DEv) (i : Nat) : Nat → Int × DRes
  | 0 => (-1, DRes.none)
  | k + 1 => if i < k ∧ (l.getD k default).who = (l.getD i default).who ∧ (l.getD k default).ends = true ∧ (l.getD k default).nth = (l.getD i default).nth then ((k : Int), (l.getD k default).res) else diHi l i k
def diSpan (l : List DEv) (n i : Nat) : DSp :=
  ⟨(l.getD i default).who, (l.getD i default).nth, i, (diHi l i n).1, (l.getD i default).call, (diHi l i n).2⟩
/-- The places of the beginnings among the first n. -/
def diBegins (l : List DEv) : Nat → List Nat
  | 0 => []
  | k + 1 => diBegins l k ++ if (l.getD k default).ends then [] else [k]
def diSpans (l : List DEv) (n : Nat) : List DSp := (diBegins l n).map (diSpan l n)

theorem DRes.zero_same (r : DRes) : r.same DRes.none = r.zero := by
  obtain ⟨c, v, p, n, k, ls⟩ := r
  simp only [DRes.same, DRes.none, DRes.zero]
  cases ls <;> simp

theorem diBegins_lt (l : List DEv) (n : Nat) : ∀ i ∈ diBegins l n, i < n ∧ (l.getD i default).ends = false := by
  induction n with
  | zero => intro i hi; cases hi
  | succ n ih =>
    intro i hi
    simp only [diBegins, List.mem_append] at hi
    rcases hi with hi | hi
    · exact ⟨by have := (ih i hi).1; omega, (ih i hi).2⟩
    · split at hi
      · cases hi
      · rename_i h
        obtain rfl := List.mem_singleton.1 hi
        exact ⟨by omega, by simpa using h⟩
theorem diOwn_lt (l : List DEv) (w : Int) (n : Nat) : ∀ i ∈ diOwn l w n, i < n ∧ (l.getD i default).who = w := by
  induction n with
  | zero => intro i hi; cases hi
  | succ n ih =>
    intro i hi
    simp only [diOwn, List.mem_append] at hi
    rcases hi with hi | hi
    · exact ⟨by have := (ih i hi).1; omega, (ih i hi).2⟩
    · split at hi
      · rename_i h
        obtain rfl := List.mem_singleton.1 hi
        exact ⟨by omega, h⟩
      · cases hi

/-- What ties a reader to the events that it read. -/
structure RdInv (l : List DEv) (n : Nat) (s : Rd) : Prop where
  right : diRight l n
  spans : s.sps = diSpans l n
  step0 : 0 ≤ s.step
  stepN : 0 < n → s.step = (l.getD (n - 1) default).step
  stepZ : n = 0 → s.step = 0
  len : s.ws.length = 16
  count : ∀ w : Nat, w < 16 → (diOwn l w n).length + (if (s.ws.getD w default).opn then 1 else 0) = 2 * (s.ws.getD w default).begun
  last : ∀ w : Nat, w < 16 → 0 < (s.ws.getD w default).begun → (s.ws.getD w default).last < s.sps.length ∧ (s.sps.getD (s.ws.getD w default).last default).who = w ∧
    (s.sps.getD (s.ws.getD w default).last default).nth + 1 = ((s.ws.getD w default).begun : Int)
  opn : ∀ w : Nat, w < 16 → (s.ws.getD w default).opn = true → (diOwn l w n).length ≠ 0 ∧
    (s.sps.getD (s.ws.getD w default).last default).call = (l.getD ((diOwn l w n).getD ((diOwn l w n).length - 1) 0) default).call ∧ (s.sps.getD (s.ws.getD w default).last default).hi = -1
  each : ∀ j, j < s.sps.length → ∃ w : Nat, w < 16 ∧ (s.sps.getD j default).who = w ∧ (s.sps.getD j default).nth + 1 ≤ ((s.ws.getD w default).begun : Int) ∧
    ((s.sps.getD j default).nth + 1 = ((s.ws.getD w default).begun : Int) → j = (s.ws.getD w default).last)
  places : ∀ j, j < s.sps.length → 0 ≤ (s.sps.getD j default).lo ∧ (s.sps.getD j default).lo < n ∧ (s.sps.getD j default).hi < n ∧ -1 ≤ (s.sps.getD j default).hi
  rise : ∀ i j, i < j → j < s.sps.length → (s.sps.getD i default).lo < (s.sps.getD j default).lo

theorem getD_set {α : Type} (l : List α) (i j : Nat) (x d : α) (hi : i < l.length) : (l.set i x).getD j d = if j = i then x else l.getD j d := by
  simp only [List.getD_eq_getElem?_getD, List.getElem?_set]
  by_cases h : j = i
  · subst h; simp [hi]
  · simp [h, show ¬ i = j from fun e => h e.symm]
theorem getD_push {α : Type} (l : List α) (j : Nat) (x d : α) : (l ++ [x]).getD j d = if j = l.length then x else l.getD j d := by
  simp only [List.getD_eq_getElem?_getD]
  by_cases h : j < l.length
  · rw [List.getElem?_append_left h, if_neg (by omega)]
  · rw [List.getElem?_append_right (by omega)]
    by_cases he : j = l.length
    · subst he; simp
    · rw [if_neg he]
      have : 1 ≤ j - l.length := by omega
      rw [List.getElem?_eq_none (by simp; omega), List.getElem?_eq_none (by omega)]

theorem diOwn_succ_ne (l : List DEv) (w : Nat) (n : Nat) (h : (l.getD n default).who ≠ w) : diOwn l w (n + 1) = diOwn l w n := by
  simp only [diOwn, if_neg h, List.append_nil]
theorem diOwn_succ_eq (l : List DEv) (w : Nat) (n : Nat) (h : (l.getD n default).who = w) : diOwn l w (n + 1) = diOwn l w n ++ [n] := by
  simp only [diOwn, if_pos h]

/-- One event more. -/
theorem diRight_succ (l : List DEv) (n : Nat) : diRight l (n + 1) ↔ diRight l n ∧ diStepOk l n ∧ diTurnOk l (diOwn l (l.getD n default).who.toNat n ++ [n]) (diOwn l (l.getD n default).who.toNat n).length := by
  have key : ∀ (w : Nat) (a : List Nat) (k : Nat), k < a.length → (diTurnOk l (a ++ [n]) k ↔ diTurnOk l a k) := by
    intro w a k hk
    unfold diTurnOk
    rw [getD_push, getD_push, if_neg (by omega), if_neg (by omega)]
  constructor
  · rintro ⟨h1, h2⟩
    have hs : diStepOk l n := h1 n (by omega)
    have hw : 0 ≤ (l.getD n default).who ∧ (l.getD n default).who ≤ 15 := by unfold diStepOk at hs; omega
    refine ⟨⟨fun i hi => h1 i (by omega), fun w hw' k hk => ?_⟩, hs, ?_⟩
    · by_cases he : (l.getD n default).who = (w : Int)
      · have := h2 w hw' k (by rw [diOwn_succ_eq l w n he]; simp; omega)
        rw [diOwn_succ_eq l w n he] at this
        exact (key w _ k hk).1 this
      · have := h2 w hw' k (by rw [diOwn_succ_ne l w n he]; exact hk)
        rw [diOwn_succ_ne l w n he] at this
        exact this
    · have he : (l.getD n default).who = ((l.getD n default).who.toNat : Int) := by omega
      have := h2 (l.getD n default).who.toNat (by omega) (diOwn l (l.getD n default).who.toNat n).length (by rw [diOwn_succ_eq l _ n he]; simp)
      rw [diOwn_succ_eq l _ n he] at this
      exact this
  · rintro ⟨⟨h1, h2⟩, hs, ht⟩
    have hw : 0 ≤ (l.getD n default).who ∧ (l.getD n default).who ≤ 15 := by unfold diStepOk at hs; omega
    refine ⟨fun i hi => ?_, fun w hw' k hk => ?_⟩
    · by_cases h : i = n
      · subst h; exact hs
      · exact h1 i (by omega)
    · by_cases he : (l.getD n default).who = (w : Int)
      · rw [diOwn_succ_eq l w n he] at hk ⊢
        by_cases hkl : k < (diOwn l w n).length
        · exact (key w _ k hkl).2 (h2 w hw' k hkl)
        · have hk' : k = (diOwn l w n).length := by simp at hk; omega
          subst hk'
          rw [he, Int.toNat_natCast] at ht
          exact ht
      · rw [diOwn_succ_ne l w n he] at hk ⊢
        exact h2 w hw' k hk

theorem RdInv.new (l : List DEv) : RdInv l 0 Rd.new := by
  have hr : ∀ w, (Rd.new.ws.getD w default) = (default : RdW) := by
    intro w
    simp only [Rd.new, List.getD_eq_getElem?_getD, List.getElem?_replicate]
    split <;> rfl
  refine ⟨⟨fun i hi => by omega, fun w hw k hk => by simp [diOwn] at hk⟩, rfl, Int.le_refl _, fun h => by omega, fun _ => rfl, by simp [Rd.new], fun w hw => ?_, fun w hw h => ?_, fun w hw h => ?_, fun j hj => ?_, fun j hj => ?_, fun i j hij hj => ?_⟩
  · rw [hr]; rfl
  · rw [hr] at h; cases h
  · rw [hr] at h; cases h
  all_goals exact absurd hj (by simp [Rd.new])

theorem diSpans_begin (l : List DEv) (n : Nat) (h : (l.getD n default).ends = false) : diSpans l (n + 1) = diSpans l n ++ [⟨(l.getD n default).who, (l.getD n default).nth, n, -1, (l.getD n default).call, DRes.none⟩] := by
  have hno : ∀ i m, m ≤ i + 1 → diHi l i m = (-1, DRes.none) := by
    intro i m
    induction m with
    | zero => intro _; rfl
    | succ m ih => intro hm; rw [diHi, if_neg (by omega)]; exact ih (by omega)
  simp only [diSpans, diBegins, h, Bool.false_eq_true, if_false, List.map_append, List.map_cons, List.map_nil]
  congr 1
  · refine List.map_congr_left fun i _ => ?_
    simp only [diSpan, diHi, h, Bool.false_eq_true, false_and, and_false, if_false]
  · simp only [diSpan, hno n (n + 1) (Nat.le_refl _)]

theorem diSpans_getD (l : List DEv) (n j : Nat) (hj : j < (diSpans l n).length) : (diSpans l n).getD j default = diSpan l n ((diBegins l n).getD j 0) ∧ (diBegins l n).getD j 0 < n ∧ (l.getD ((diBegins l n).getD j 0) default).ends = false := by
  simp only [diSpans, List.length_map] at hj
  have hm : (diBegins l n)[j] ∈ diBegins l n := List.getElem_mem hj
  have e : (diBegins l n).getD j 0 = (diBegins l n)[j] := by simp [List.getD_eq_getElem?_getD, hj]
  refine ⟨?_, ?_, ?_⟩
  · simp [diSpans, List.getD_eq_getElem?_getD, hj]
  · rw [e]; exact (diBegins_lt l n _ hm).1
  · rw [e]; exact (diBegins_lt l n _ hm).2

/-- An end of the call that its worker began last. -/
theorem diSpans_end (l : List DEv) (n q : Nat) (h : (l.getD n default).ends = true) (hq : q < (diSpans l n).length)
    (h1 : ((diSpans l n).getD q default).who = (l.getD n default).who) (h2 : ((diSpans l n).getD q default).nth = (l.getD n default).nth)
    (huniq : ∀ j, j < (diSpans l n).length → ((diSpans l n).getD j default).who = (l.getD n default).who → ((diSpans l n).getD j default).nth = (l.getD n default).nth → j = q) :
    diSpans l (n + 1) = (diSpans l n).set q { (diSpans l n).getD q default with hi := n, res := (l.getD n default).res } := by
  have hb : diBegins l (n + 1) = diBegins l n := by simp only [diBegins, h, if_true, List.append_nil]
  have hlen : (diSpans l (n + 1)).length = (diSpans l n).length := by simp [diSpans, hb]
  apply List.ext_getElem?
  intro j
  by_cases hj : j < (diSpans l n).length
  · have hjb : j < (diBegins l n).length := by simpa [diSpans] using hj
    have hj1 : j < (diSpans l (n + 1)).length := by omega
    obtain ⟨e0, hlt, hne⟩ := diSpans_getD l n j hj
    obtain ⟨e1, _, _⟩ := diSpans_getD l (n + 1) j hj1
    rw [hb] at e1
    have g1 : (diSpans l (n + 1))[j]? = some ((diSpans l (n + 1)).getD j default) := by simp [List.getD_eq_getElem?_getD, hj1]
    rw [g1, e1, List.getElem?_set]
    by_cases hjq : q = j
    · subst hjq
      rw [if_pos rfl, if_pos hq, e0]
      rw [e0] at h1 h2
      simp only [diSpan] at h1 h2
      simp only [diSpan, diHi]
      rw [if_pos ⟨hlt, h1.symm, h, h2.symm⟩]
    · rw [if_neg hjq]
      have g0 : (diSpans l n)[j]? = some ((diSpans l n).getD j default) := by simp [List.getD_eq_getElem?_getD, hj]
      rw [g0, e0]
      have hnot : ¬ ((diBegins l n).getD j 0 < n ∧ (l.getD n default).who = (l.getD ((diBegins l n).getD j 0) default).who ∧ (l.getD n default).ends = true ∧ (l.getD n default).nth = (l.getD ((diBegins l n).getD j 0) default).nth) := by
        rintro ⟨_, ha, _, hc⟩
        apply hjq
        refine (huniq j hj ?_ ?_).symm
        · rw [e0]; exact ha.symm
        · rw [e0]; exact hc.symm
      simp only [diSpan, diHi]
      rw [if_neg hnot]
  · rw [List.getElem?_eq_none (by omega), List.getElem?_eq_none (by simp; omega)]

theorem diStepOk_iff {l : List DEv} {n : Nat} {s : Rd} (hI : RdInv l n s) : diStepOk l n ↔ ¬ ((l.getD n default).step < s.step ∨ (l.getD n default).who < 0 ∨ 16 ≤ (l.getD n default).who) := by
  unfold diStepOk
  have := hI.step0
  by_cases h0 : n = 0
  · have := hI.stepZ h0
    omega
  · have := hI.stepN (by omega)
    omega

/-- The reader goes on just where the diary stays right. -/
theorem RdInv.read {l : List DEv} {n : Nat} {s : Rd} (hI : RdInv l n s) :
    match s.read n (l.getD n default) with
    | some s' => RdInv l (n + 1) s'
    | none => ¬ diRight l (n + 1) := by
  generalize he : l.getD n default = e
  unfold Rd.read
  by_cases hs : e.step < s.step ∨ e.who < 0 ∨ 16 ≤ e.who
  · rw [if_pos hs]
    intro hr
    have := ((diRight_succ l n).1 hr).2.1
    rw [diStepOk_iff hI, he] at this
    exact this hs
  rw [if_neg hs]
  have hstep : diStepOk l n := by rw [diStepOk_iff hI, he]; exact hs
  obtain ⟨w, hw, hew⟩ : ∃ w : Nat, w < 16 ∧ e.who = w := ⟨e.who.toNat, by omega, by omega⟩
  have hwk : s.wk e = s.ws.getD w default := by unfold Rd.wk; rw [hew, Int.toNat_natCast]
  have hcnt := hI.count w hw
  have hwl : w < s.ws.length := by rw [hI.len]; exact hw
  have hown : diOwn l w (n + 1) = diOwn l w n ++ [n] := diOwn_succ_eq l w n (by rw [he, hew])
  have hownN : ∀ x : Nat, x < 16 → x ≠ w → diOwn l x (n + 1) = diOwn l x n := fun x hx hxw => diOwn_succ_ne l x n (by rw [he, hew]; omega)
  have hturn : ∀ P : Prop, (diTurnOk l (diOwn l w n ++ [n]) (diOwn l w n).length → P) → (diRight l (n + 1) → P) := by
    intro P hP hr
    have := ((diRight_succ l n).1 hr).2.2
    rw [he, hew, Int.toNat_natCast] at this
    exact hP this
  have hmk : diTurnOk l (diOwn l w n ++ [n]) (diOwn l w n).length → diRight l (n + 1) := by
    intro ht
    refine (diRight_succ l n).2 ⟨hI.right, hstep, ?_⟩
    rw [he, hew, Int.toNat_natCast]
    exact ht
  have hat : (diOwn l w n ++ [n]).getD (diOwn l w n).length 0 = n := by rw [getD_push, if_pos rfl]
  by_cases hends : e.ends = true
  · rw [if_pos hends]
    unfold Rd.end_
    rw [hwk]
    by_cases ho : (s.ws.getD w default).opn = true
    · obtain ⟨hne, hcall, hhi⟩ := hI.opn w hw ho
      rw [ho] at hcnt
      simp only [if_true] at hcnt
      obtain ⟨hlast, hlw, hln⟩ := hI.last w hw (by omega)
      have hpre : (diOwn l w n ++ [n]).getD ((diOwn l w n).length - 1) 0 = (diOwn l w n).getD ((diOwn l w n).length - 1) 0 := by rw [getD_push, if_neg (by omega)]
      have hiff : diTurnOk l (diOwn l w n ++ [n]) (diOwn l w n).length ↔ e.nth = (s.sps.getD (s.ws.getD w default).last default).nth ∧ e.call.same (s.sps.getD (s.ws.getD w default).last default).call = true := by
        unfold diTurnOk
        rw [hat, he, hpre, ← hcall]
        constructor
        · rintro ⟨a, b, c, d⟩
          exact ⟨by omega, d hends⟩
        · rintro ⟨a, b⟩
          refine ⟨by omega, ?_, fun h => (by rw [hends] at h; cases h), fun _ => b⟩
          rw [hends]
          have : (diOwn l w n).length % 2 = 1 := by omega
          simp [this]
      by_cases hok : e.nth = (s.sps.getD (s.ws.getD w default).last default).nth ∧ e.call.same (s.sps.getD (s.ws.getD w default).last default).call = true
      · rw [if_neg (by rw [ho, hok.2]; simp [hok.1])]
        have hr := hmk (hiff.2 hok)
        have hsp := hI.spans
        have hset : diSpans l (n + 1) = s.sps.set (s.ws.getD w default).last { s.sps.getD (s.ws.getD w default).last default with hi := n, res := e.res } := by
          have := diSpans_end l n (s.ws.getD w default).last (by rw [he]; exact hends) (by rw [← hsp]; exact hlast) (by rw [← hsp, he, hlw, hew]) (by rw [← hsp, he, hok.1]) (by
            rw [← hsp, he]
            intro j hj hjw hjn
            obtain ⟨w', hw', hj1, hj2, hj3⟩ := hI.each j hj
            have : w' = w := by omega
            subst this
            exact hj3 (by rw [hjn, hok.1, hln]))
          rw [this, ← hsp, he]
        dsimp only
        have gw : ∀ x, ((s.ws.set w { s.ws.getD w default with opn := false }).getD x default) = if x = w then { s.ws.getD w default with opn := false } else s.ws.getD x default := fun x => getD_set _ _ _ _ _ hwl
        have gs : ∀ j, ((s.sps.set (s.ws.getD w default).last { s.sps.getD (s.ws.getD w default).last default with hi := n, res := e.res }).getD j default) = if j = (s.ws.getD w default).last then { s.sps.getD (s.ws.getD w default).last default with hi := n, res := e.res } else s.sps.getD j default := fun j => getD_set _ _ _ _ _ hlast
        rw [hew, Int.toNat_natCast]
        refine ⟨hr, hset.symm, ?_, fun _ => ?_, fun h => by omega, by simp [hI.len], fun x hx => ?_, fun x hx hb => ?_, fun x hx hb => ?_, fun j hj => ?_, fun j hj => ?_, fun i j hij hj => ?_⟩
        · have := hI.step0; dsimp only; omega
        · rw [Nat.add_sub_cancel, he]
        · dsimp only
          rw [gw]
          by_cases hxw : x = w
          · subst hxw
            rw [if_pos rfl, hown]
            simp only [List.length_append, List.length_singleton, Bool.false_eq_true, if_false]
            omega
          · rw [if_neg hxw, hownN x hx hxw]
            exact hI.count x hx
        · dsimp only at hb ⊢
          rw [gw] at hb ⊢
          rw [gs]
          rw [List.length_set]
          by_cases hxw : x = w
          · subst hxw
            simp only [if_true] at hb ⊢
            exact ⟨hlast, hlw, hln⟩
          · simp only [if_neg hxw] at hb ⊢
            obtain ⟨a, b, c⟩ := hI.last x hx hb
            have hd : ¬ (s.ws.getD x default).last = (s.ws.getD w default).last := by
              intro h; rw [h, hlw] at b; omega
            rw [if_neg hd]
            exact ⟨a, b, c⟩
        · dsimp only at hb ⊢
          rw [gw] at hb ⊢
          rw [gs]
          by_cases hxw : x = w
          · subst hxw
            simp only [if_true] at hb
            cases hb
          · simp only [if_neg hxw] at hb ⊢
            obtain ⟨a, b, c⟩ := hI.opn x hx hb
            rw [hownN x hx hxw]
            obtain ⟨a', b', _⟩ := hI.last x hx (by have := hI.count x hx; rw [hb] at this; simp only [if_true] at this; omega)
            have hd : ¬ (s.ws.getD x default).last = (s.ws.getD w default).last := by
              intro h; rw [h, hlw] at b'; omega
            rw [if_neg hd]
            exact ⟨a, b, c⟩
        · dsimp only at hj ⊢
          rw [List.length_set] at hj
          obtain ⟨w', hw', a, b, c⟩ := hI.each j hj
          refine ⟨w', hw', ?_⟩
          rw [gs, gw]
          by_cases hjl : j = (s.ws.getD w default).last
          · subst hjl
            have : w' = w := by omega
            subst this
            simp only [if_true]
            exact ⟨a, b, fun _ => trivial⟩
          · rw [if_neg hjl]
            by_cases hww : w' = w
            · subst hww; simp only [if_true]; exact ⟨a, b, c⟩
            · simp only [if_neg hww]; exact ⟨a, b, c⟩
        · dsimp only at hj ⊢
          rw [List.length_set] at hj
          rw [gs]
          have := hI.places j hj
          split
          · rename_i h; subst h; dsimp only; omega
          · omega
        · dsimp only at hj ⊢
          rw [List.length_set] at hj
          rw [gs, gs]
          have := hI.rise i j hij hj
          split <;> split
          · rename_i h h'; omega
          · rename_i h h'; subst h; exact this
          · rename_i h h'; subst h'; exact this
          · exact this
      · rw [if_pos (by
          by_cases h : e.nth = (s.sps.getD (s.ws.getD w default).last default).nth
          · exact .inr (.inr (by simpa using fun h2 => hok ⟨h, h2⟩))
          · exact .inr (.inl h))]
        exact hturn _ fun ht => hok (hiff.1 ht)
    · have ho' : (s.ws.getD w default).opn = false := by simpa using ho
      rw [if_pos (.inl ho')]
      refine hturn _ fun ht => ?_
      unfold diTurnOk at ht
      rw [hat, he] at ht
      rw [ho'] at hcnt
      simp only [Bool.false_eq_true, if_false] at hcnt
      have h2 := ht.2.1
      rw [hends] at h2
      have : (diOwn l w n).length % 2 = 1 := by simpa using h2.symm
      omega
  · have hends' : e.ends = false := by simpa using hends
    rw [if_neg hends]
    unfold Rd.begin
    rw [hwk]
    have hiff : diTurnOk l (diOwn l w n ++ [n]) (diOwn l w n).length ↔ e.nth = (((diOwn l w n).length / 2 : Nat) : Int) ∧ (diOwn l w n).length % 2 = 0 ∧ e.res.zero = true := by
      unfold diTurnOk
      rw [hat, he]
      dsimp only
      rw [hends', DRes.zero_same]
      constructor
      · rintro ⟨a, b, c, d⟩
        have : ¬ (diOwn l w n).length % 2 = 1 := by simpa using b.symm
        exact ⟨a, by omega, c rfl⟩
      · rintro ⟨a, b, c⟩
        refine ⟨a, ?_, fun _ => c, fun h => by cases h⟩
        have : ¬ (diOwn l w n).length % 2 = 1 := by omega
        simp [this]
    by_cases ho : (s.ws.getD w default).opn = true
    · rw [if_pos (.inl ho)]
      refine hturn _ fun ht => ?_
      have := hiff.1 ht
      rw [ho] at hcnt
      simp only [if_true] at hcnt
      omega
    · have ho' : (s.ws.getD w default).opn = false := by simpa using ho
      rw [ho'] at hcnt
      simp only [Bool.false_eq_true, if_false] at hcnt
      by_cases hok : e.nth = (s.ws.getD w default).begun ∧ e.res.zero = true
      · rw [if_neg (by rw [ho', hok.2]; simp [hok.1])]
        have hr := hmk (hiff.2 ⟨by rw [hok.1]; omega, by omega, hok.2⟩)
        have hset : diSpans l (n + 1) = s.sps ++ [⟨e.who, e.nth, n, -1, e.call, DRes.none⟩] := by
          have := diSpans_begin l n (by rw [he]; exact hends')
          rw [this, ← hI.spans, he]
        dsimp only
        have gw : ∀ x, ((s.ws.set w ⟨(s.ws.getD w default).begun + 1, true, s.sps.length⟩).getD x default) = if x = w then ⟨(s.ws.getD w default).begun + 1, true, s.sps.length⟩ else s.ws.getD x default := fun x => getD_set _ _ _ _ _ hwl
        have gs : ∀ j, ((s.sps ++ [(⟨e.who, e.nth, n, -1, e.call, DRes.none⟩ : DSp)]).getD j default) = if j = s.sps.length then ⟨e.who, e.nth, n, -1, e.call, DRes.none⟩ else s.sps.getD j default := fun j => getD_push _ _ _ _
        have hw2 : e.who.toNat = w := by omega
        rw [hw2]
        refine ⟨hr, hset.symm, ?_, fun _ => ?_, fun h => by omega, by simp [hI.len], fun x hx => ?_, fun x hx hb => ?_, fun x hx hb => ?_, fun j hj => ?_, fun j hj => ?_, fun i j hij hj => ?_⟩
        · have := hI.step0; dsimp only; omega
        · rw [Nat.add_sub_cancel, he]
        · dsimp only
          rw [gw]
          by_cases hxw : x = w
          · subst hxw
            rw [if_pos rfl, hown]
            simp only [List.length_append, List.length_singleton, if_true]
            omega
          · rw [if_neg hxw, hownN x hx hxw]
            exact hI.count x hx
        · dsimp only at hb ⊢
          rw [gw] at hb ⊢
          rw [gs]
          rw [List.length_append, List.length_singleton]
          by_cases hxw : x = w
          · subst hxw
            simp only [if_true]
            exact ⟨by omega, hew, by rw [hok.1]; omega⟩
          · simp only [if_neg hxw] at hb ⊢
            obtain ⟨a, b, c⟩ := hI.last x hx hb
            rw [if_neg (by omega)]
            exact ⟨by omega, b, c⟩
        · dsimp only at hb ⊢
          rw [gw] at hb ⊢
          rw [gs]
          by_cases hxw : x = w
          · subst hxw
            simp only [if_true]
            rw [hown]
            refine ⟨by simp, ?_, trivial⟩
            rw [List.length_append, List.length_singleton, Nat.add_sub_cancel, hat, he]
          · simp only [if_neg hxw] at hb ⊢
            obtain ⟨a, b, c⟩ := hI.opn x hx hb
            obtain ⟨a', _, _⟩ := hI.last x hx (by have := hI.count x hx; rw [hb] at this; simp only [if_true] at this; omega)
            rw [hownN x hx hxw, if_neg (by omega)]
            exact ⟨a, b, c⟩
        · dsimp only at hj ⊢
          rw [List.length_append, List.length_singleton] at hj
          rw [gs]
          by_cases hjl : j = s.sps.length
          · refine ⟨w, hw, ?_⟩
            rw [gw, if_pos rfl, if_pos hjl]
            dsimp only
            exact ⟨hew, by rw [hok.1]; omega, fun _ => hjl⟩
          · obtain ⟨w', hw', a, b, c⟩ := hI.each j (by omega)
            refine ⟨w', hw', ?_⟩
            rw [gw, if_neg hjl]
            by_cases hww : w' = w
            · subst hww
              simp only [if_true]
              exact ⟨a, by omega, fun h => by omega⟩
            · simp only [if_neg hww]; exact ⟨a, b, c⟩
        · dsimp only at hj ⊢
          rw [List.length_append, List.length_singleton] at hj
          rw [gs]
          split
          · dsimp only; omega
          · have := hI.places j (by omega); omega
        · dsimp only at hj ⊢
          rw [List.length_append, List.length_singleton] at hj
          rw [gs, gs, if_neg (by omega)]
          split
          · have := hI.places i (by omega); dsimp only; omega
          · exact hI.rise i j hij (by omega)
      · rw [if_pos (by
          by_cases h : e.nth = (s.ws.getD w default).begun
          · exact .inr (.inr (by simpa using fun h2 => hok ⟨h, h2⟩))
          · exact .inr (.inl h))]
        refine hturn _ fun ht => hok ?_
        have := hiff.1 ht
        exact ⟨by rw [this.1]; omega, this.2.2⟩

/-- The reader reads right diaries, and knows their spans. -/
theorem rdAll_inv (l : List DEv) (n : Nat) : match rdAll l n with | some s => RdInv l n s | none => ¬ diRight l n := by
  induction n with
  | zero => exact RdInv.new l
  | succ n ih =>
    unfold rdAll
    cases h : rdAll l n with
    | none =>
      rw [h] at ih
      exact fun hr => ih ((diRight_succ l n).1 hr).1
    | some s =>
      rw [h] at ih
      exact RdInv.read ih
theorem rdAll_some {l : List DEv} {n : Nat} {s : Rd} (h : rdAll l n = some s) : RdInv l n s := by
  have := rdAll_inv l n; rw [h] at this; exact this
theorem rdAll_none {l : List DEv} {n : Nat} (h : rdAll l n = none) : ¬ diRight l n := by
  have := rdAll_inv l n; rw [h] at this; exact this
end Go.Proofs.Ytopombnehmfmcaa
