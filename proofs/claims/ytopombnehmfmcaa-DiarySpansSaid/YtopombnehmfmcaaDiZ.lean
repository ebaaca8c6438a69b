import Derived.Test.YtopombnehmfmcaaDiX
import Derived.Test.YtopombnehmfmcaaDiY
/-
  Contracts of package diary's reader: an event; all events.
-/
namespace Go.Proofs.Ytopombnehmfmcaa
set_option maxRecDepth 100000
set_option linter.unusedSimpArgs false
set_option linter.unusedVariables false
open Go.ChangeShapes Go.WideShapes Go.ChangeAt Go.RowKit

/-- What a reader's numbers keep. -/
structure Rd.Ok (s : Rd) (n : Nat) : Prop where
  len : s.ws.length = 16
  begun : ∀ k, k < 16 → (s.ws.getD k default).begun ≤ n
  last : ∀ k, k < 16 → (s.ws.getD k default).opn = true → (s.ws.getD k default).last < s.sps.length
  sps : s.sps.length ≤ n

theorem Rd.Ok.new : Rd.new.Ok 0 := by
  have hr : ∀ w, (Rd.new.ws.getD w default) = (default : RdW) := by
    intro w
    simp only [Rd.new, List.getD_eq_getElem?_getD, List.getElem?_replicate]
    split <;> rfl
  refine ⟨by simp [Rd.new], fun k _ => by rw [hr]; exact Nat.le_refl _, fun k _ h => (by rw [hr] at h; cases h), (by simp [Rd.new])⟩

theorem Rd.Ok.read {s s' : Rd} {n place : Nat} {e : DEv} (h : s.Ok n) (hr : s.read place e = some s') : s'.Ok (n + 1) := by
  unfold Rd.read at hr
  by_cases hs : e.step < s.step ∨ e.who < 0 ∨ 16 ≤ e.who
  · rw [if_pos hs] at hr; cases hr
  rw [if_neg hs] at hr
  obtain ⟨w, hw, hew⟩ : ∃ w : Nat, w < 16 ∧ e.who = w := ⟨e.who.toNat, by omega, by omega⟩
  have hwk : s.wk e = s.ws.getD w default := by unfold Rd.wk; rw [hew, Int.toNat_natCast]
  have hwl : w < s.ws.length := by rw [h.len]; exact hw
  have hw2 : e.who.toNat = w := by omega
  split at hr
  · unfold Rd.end_ at hr
    rw [hwk, hw2] at hr
    split at hr
    · cases hr
    · cases hr
      refine ⟨by simp [h.len], fun k hk => ?_, fun k hk ho => ?_, ?_⟩
      · dsimp only
        rw [getD_set _ _ _ _ _ hwl]
        split
        · have := h.begun w hw; dsimp only; omega
        · have := h.begun k hk; omega
      · dsimp only at ho ⊢
        rw [getD_set _ _ _ _ _ hwl] at ho ⊢
        rw [List.length_set]
        split at ho
        · cases ho
        · rename_i hkw
          rw [if_neg hkw]
          exact h.last k hk ho
      · have := h.sps; simp; omega
  · unfold Rd.begin at hr
    rw [hwk, hw2] at hr
    split at hr
    · cases hr
    · cases hr
      refine ⟨by simp [h.len], fun k hk => ?_, fun k hk ho => ?_, ?_⟩
      · dsimp only
        rw [getD_set _ _ _ _ _ hwl]
        split
        · have := h.begun w hw; dsimp only; omega
        · have := h.begun k hk; omega
      · dsimp only at ho ⊢
        rw [getD_set _ _ _ _ _ hwl] at ho ⊢
        rw [List.length_append, List.length_singleton]
        split
        · dsimp only; omega
        · rename_i hkw
          rw [if_neg hkw] at ho
          have := h.last k hk ho
          omega
      · have := h.sps; simp; omega

set_option maxHeartbeats 4000000 in
theorem rdRead (W0 w : World) (R : Nat) (s : Rd) (sv : Value) (place : Nat) (e : DEv) (h : RdAt W0 w R s sv) (hok : s.Ok 1000000) (hp : place ≤ 1000000) (hn : e.res.n = e.res.ls.length) (hc : e.call.At W0) (hr : e.res.At W0) :
    Calls Try.prog 26 #[.pointer (some ⟨R, 0, none⟩), .int .i64 (place : Int), e.val] w fun v w' =>
      match s.read place e with
      | some s' => v = .returned (.bool true) ∧ ∃ sv', RdAt W0 w' R s' sv'
      | none => v = .returned (.bool false) ∧ Below W0.heap.size w w' := by
  have hBg := fun W (k : Nat) (hk : e.who = (k : Int)) (h16 : k < 16) (hW : RdAt W0 W R ⟨e.step, s.sps, s.ws⟩ sv) => rdBegin W0 W R ⟨e.step, s.sps, s.ws⟩ sv place e k hW hok.sps rfl hn hk h16 hok.len (hok.begun k h16) hp hc
  have hEn := fun W (k : Nat) (hk : e.who = (k : Int)) (h16 : k < 16) (hW : RdAt W0 W R ⟨e.step, s.sps, s.ws⟩ sv) => rdEnd W0 W R ⟨e.step, s.sps, s.ws⟩ sv place e k hW rfl hk h16 hok.len (hok.last k h16) hok.sps hp hc hr
  have eB : Rd.begin ⟨e.step, s.sps, s.ws⟩ place e = s.begin place e := rfl
  have eE : Rd.end_ ⟨e.step, s.sps, s.ws⟩ place e = s.end_ place e := rfl
  rw [eB] at hBg
  rw [eE] at hEn
  have c0 := h.row.cell (j := 0) (u := .int .i64 s.step) rfl
  have f0 := h.row.frozen 0
  have lR := h.row.lt
  have hbel := h.bel.size
  unfold Rd.read
  obtain ⟨ob, hob⟩ : ∃ ob, s.begin place e = ob := ⟨_, rfl⟩
  obtain ⟨oe, hoe⟩ : ∃ oe, s.end_ place e = oe := ⟨_, rfl⟩
  rw [hob] at hBg ⊢
  rw [hoe] at hEn ⊢
  clear hob hoe eB eE hn hc hr
  obtain ⟨step, who, nth, ends, ⟨kind, task, p, n, cc, vs⟩, ⟨code, v, q, m, d, ls⟩⟩ := e
  obtain ⟨sstep, sps, ws⟩ := s
  simp only [DEv.val] at hBg hEn c0 ⊢
  obtain ⟨V0, hV0⟩ : ∃ V0, w.alloc (.cells #[.int .i64 step, .int .i64 who, .int .i64 nth, .bool ends, .int .i64 kind, .int .u64 task, .slice p n cc, .int .i64 code, .int .u64 v, .slice q m d] 33) = V0 := ⟨_, rfl⟩
  have HB : Hid (Box V0 w.heap.size #[.int .i64 step, .int .i64 who, .int .i64 nth, .bool ends, .int .i64 kind, .int .u64 task, .slice p n cc, .int .i64 code, .int .u64 v, .slice q m d]) := Lib.hid (by rw [← hV0]; exact Box.new _ _ _)
  have HK : Hid (Keeps [] w V0) := Lib.hid (by rw [← hV0]; exact (Keeps.refl _ _).alloc _)
  have d0 := (HK.out.cell (p := ⟨R, 0, none⟩) lR (by simp)).trans c0
  have g0 := (HK.out.frozen (p := ⟨R, 0, none⟩) lR (by simp)).trans f0
  have KB : Hid (Below W0.heap.size w V0) := Lib.hid (HK.out.below hbel (by simp))
  have HNR : Hid (w.heap.size ≠ R) := Lib.hid (by omega)
  have HH := Lib.hid (h.keeps HK.out)
  have HBg := Lib.hid hBg
  have HEn := Lib.hid hEn
  clear c0 f0 h hBg hEn hok
  have cx := HB.out.cells
  by_cases h1 : step < sstep
  · have h1' : decide (step < sstep) = true := by simp [h1]
    rw [if_pos (.inl h1)]
    go_enter Try.func26, Try.ntmps26
    go_wp2
    go_quiet (fail)
    go_wp2
    go_ret
    exact ⟨rfl, by first | exact belowD (belowD KB.out) | exact belowD KB.out⟩
  · have h1' : decide (step < sstep) = false := by simp [h1]
    by_cases h2 : who < 0
    · have h2' : decide (who < 0) = true := by simp [h2]
      rw [if_pos (.inr (.inl h2))]
      go_enter Try.func26, Try.ntmps26
      go_wp2
      go_quiet (fail)
      go_wp2
      go_ret
      exact ⟨rfl, by first | exact belowD (belowD KB.out) | exact belowD KB.out⟩
    · have h2' : decide (who < 0) = false := by simp [h2]
      by_cases h3 : 16 ≤ who
      · have h3' : decide (who ≥ 16) = true := by simp [h3]
        rw [if_pos (.inr (.inr h3))]
        go_enter Try.func26, Try.ntmps26
        go_wp2
        go_quiet (fail)
        go_wp2
        go_ret
        exact ⟨rfl, by first | exact belowD (belowD KB.out) | exact belowD KB.out⟩
      · have h3' : decide (who ≥ 16) = false := by simp [h3]
        rw [if_neg (by omega)]
        obtain ⟨k, rfl⟩ : ∃ k : Nat, who = (k : Int) := ⟨who.toNat, by omega⟩
        have h16 : k < 16 := by omega
        have hset : ∀ qq, RdAt W0 ((V0.drewN qq).setCell ⟨R, 0, none⟩ (.int .i64 step)) R ⟨step, sps, ws⟩ sv := fun qq => by
          have hd : RdAt W0 (V0.drewN qq) R ⟨sstep, sps, ws⟩ sv := HH.out.keeps (Keeps.of_drewN _ _)
          have kk := (Keeps.refl [R] (V0.drewN qq)).put (by simp : R ∈ [R]) 0 (.int .i64 step)
          refine ⟨hd.bel.trans (kk.below hd.bel.size (fun x hx => by rw [List.mem_singleton] at hx; subst hx; exact hd.new)), hd.row.set 0 (.int .i64 step), diOwnsKeeps hd.own kk (fun g' hg hm => by rw [List.mem_singleton] at hm; subst hm; exact hd.apart hg), hd.new, hd.apart, hd.at_⟩
        have hbelS : ∀ qq, Below W0.heap.size w ((V0.drewN qq).setCell ⟨R, 0, none⟩ (.int .i64 step)) := fun qq =>
          (belowD KB.out).trans (((Keeps.refl [R] (V0.drewN qq)).put (by simp : R ∈ [R]) 0 (.int .i64 step)).below (Nat.le_trans hbel HK.out.size) (fun x hx => by rw [List.mem_singleton] at hx; subst hx; exact HH.out.new))
        have HSet := Lib.hid hset
        have HBelS := Lib.hid hbelS
        clear hset hbelS
        cases ends with
        | true =>
          simp only [if_true]
          cases oe with
          | none =>
            go_enter Try.func26, Try.ntmps26
            go_wp2
            go_quiet (fail)
            go_wp2_with (go_at_call 33; refine (HEn.out _ k rfl h16 (HSet.out _)).mono ?_; rintro e1 w1 ⟨rfl, hb⟩)
            go_ret
            exact ⟨rfl, (HBelS.out _).trans hb⟩
          | some s' =>
            go_enter Try.func26, Try.ntmps26
            go_wp2
            go_quiet (fail)
            go_wp2_with (go_at_call 33; refine (HEn.out _ k rfl h16 (HSet.out _)).mono ?_; rintro e1 w1 ⟨rfl, sv', hb⟩)
            go_ret
            exact ⟨rfl, sv', hb⟩
        | false =>
          simp only [Bool.false_eq_true, if_false]
          cases ob with
          | none =>
            go_enter Try.func26, Try.ntmps26
            go_wp2
            go_quiet (fail)
            go_wp2_with (go_at_call 34; refine (HBg.out _ k rfl h16 (HSet.out _)).mono ?_; rintro e1 w1 ⟨rfl, hb⟩)
            go_ret
            exact ⟨rfl, (HBelS.out _).trans hb⟩
          | some s' =>
            go_enter Try.func26, Try.ntmps26
            go_wp2
            go_quiet (fail)
            go_wp2_with (go_at_call 34; refine (HBg.out _ k rfl h16 (HSet.out _)).mono ?_; rintro e1 w1 ⟨rfl, sv', hb⟩)
            go_ret
            exact ⟨rfl, sv', hb⟩
end Go.Proofs.Ytopombnehmfmcaa
