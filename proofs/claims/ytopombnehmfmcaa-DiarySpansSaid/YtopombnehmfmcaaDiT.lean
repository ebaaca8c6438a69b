import Derived.Test.YtopombnehmfmcaaDiZ
import Derived.Test.YtopombnehmfmcaaDiR
/-
  Contracts of package diary: all events, the spans.
-/
namespace Go.Proofs.Ytopombnehmfmcaa
set_option maxRecDepth 100000
set_option linter.unusedSimpArgs false
set_option linter.unusedVariables false
open Go.ChangeShapes Go.WideShapes Go.ChangeAt Go.RowKit

theorem rdAll_stop (l : List DEv) (k n : Nat) (h : rdAll l k = none) (hk : k ≤ n) : rdAll l n = none := by
  induction n with
  | zero =>
    have : k = 0 := by omega
    rw [← this]; exact h
  | succ n ih =>
    by_cases he : k = n + 1
    · subst he; exact h
    · unfold rdAll; rw [ih (by omega)]; rfl
theorem Rd.Ok.mono {s : Rd} {a b : Nat} (h : s.Ok a) (hab : a ≤ b) : s.Ok b := ⟨h.len, fun k hk => Nat.le_trans (h.begun k hk) hab, h.last, Nat.le_trans h.sps hab⟩

/-- What a reader of all events tells. -/
def RdDone (W0 : World) (R : Nat) (o : Option Rd) (e : Ending) (w' : World) : Prop :=
  match o with
  | some s => e = .returned (.bool true) ∧ ∃ sv', RdAt W0 w' R s sv'
  | none => e = .returned (.bool false) ∧ Below W0.heap.size W0 w'
set_option maxHeartbeats 1000000 in
theorem readAll_any (W0 w : World) (R : Nat) (sv : Value) (v : Value) (l : List DEv) (hl : l.length ≤ 1000000) (hv : EvsAt W0 v l) (h : RdAt W0 w R Rd.new sv) :
    Calls Try.prog 18 #[.pointer (some ⟨R, 0, none⟩), v] w fun e w' => RdDone W0 R (rdAll l l.length) e w' := by
  obtain ⟨p, c, rfl⟩ := hv.sl.len
  have HF := Lib.hid (slFace hv.sl)
  have HA := Lib.hid hv.at_
  have H0 := Lib.hid h
  clear hv h
  go_enter Try.func18, Try.ntmps18
  go_wp2
  go_loopw [9] (fun i wr => ∃ k : Nat, k ≤ l.length ∧ i = .int .i64 (k : Int) ∧ ∃ s sv', rdAll l k = some s ∧ s.Ok k ∧ RdAt W0 wr R s sv') (fun i _ => l.length - (intOf i).toNat)
  case atStart => exact ⟨0, Nat.zero_le _, rfl, Rd.new, sv, rfl, Rd.Ok.new, H0.out⟩
  case round =>
    obtain ⟨k, hk, rfl, s, sv', hrd, hok, hat⟩ := hrel
    by_cases hlt : k < l.length
    · rcases HF.out with h0 | ⟨b, off, rfl, hb, hc⟩
      · omega
      obtain ⟨x, hx⟩ : ∃ x, l[k]? = some x := ⟨_, List.getElem?_eq_getElem hlt⟩
      have hcell : ∀ j u, j < 10 → [Value.int .i64 x.step, .int .i64 x.who, .int .i64 x.nth, .bool x.ends, .int .i64 x.call.kind, .int .u64 x.call.task, .slice x.call.p x.call.n x.call.c, .int .i64 x.res.code, .int .u64 x.res.v, .slice x.res.p x.res.n x.res.c][j]? = some u → wr.cell? ⟨b, off + k * 10 + j, none⟩ = some u := fun j u hj hu => by
        rw [Nat.add_assoc]
        exact (hat.bel.cell (p := ⟨b, off + (k * 10 + j), none⟩) hb).trans (hc _ _ ((ev_at l k j x hx hj).trans hu))
      have c0 := hcell 0 _ (by omega) rfl
      have c1 := hcell 1 _ (by omega) rfl
      have c2 := hcell 2 _ (by omega) rfl
      have c3 := hcell 3 _ (by omega) rfl
      have c4 := hcell 4 _ (by omega) rfl
      have c5 := hcell 5 _ (by omega) rfl
      have c6 := hcell 6 _ (by omega) rfl
      have c7 := hcell 7 _ (by omega) rfl
      have c8 := hcell 8 _ (by omega) rfl
      have c9 := hcell 9 _ (by omega) rfl
      have hxm := List.mem_of_getElem? hx
      have hxd : l.getD k default = x := by rw [List.getD_eq_getElem?_getD, hx]; rfl
      have hnext : rdAll l (k + 1) = s.read k x := by unfold rdAll; rw [hrd, hxd]; rfl
      have hR := fun W (hW : Keeps [] wr W) => rdRead W0 W R s sv' k x (hat.keeps hW) (hok.mono (by omega)) (by omega) (HA.out x hxm).2.1.ints_len.symm (HA.out x hxm).1 (HA.out x hxm).2
      simp only [DEv.val] at hR
      have HAt := Lib.hid hat
      have HOk := Lib.hid hok
      rw [Nat.add_zero] at c0
      cases hrr : s.read k x with
      | none =>
        rw [hrr] at hR hnext
        have HStop := Lib.hid (rdAll_stop l (k + 1) l.length hnext (by omega))
        have HR := Lib.hid hR
        clear hx hb hc hat hrd hok hcell hR hxm hxd hnext hrr
        go_wp2_with (go_at_call 26; refine (HR.out _ ((Keeps.refl [] wr).alloc _)).mono ?_; rintro e1 w1 ⟨rfl, hb1⟩)
        go_ret
        rw [HStop.out]
        exact ⟨rfl, (HAt.out.bel.trans (((Keeps.refl [] wr).alloc _).below HAt.out.bel.size (by simp))).trans hb1⟩
      | some s1 =>
        rw [hrr] at hR hnext
        have HR := Lib.hid hR
        have HNext := Lib.hid hnext
        have HOk1 := Lib.hid (hok.read hrr)
        clear hx hb hc hat hrd hok hcell hR hxm hxd hnext hrr
        go_wp2_with (go_at_call 26; refine (HR.out _ ((Keeps.refl [] wr).alloc _)).mono ?_; rintro e1 w1 ⟨rfl, sv1, hb1⟩)
        go_roundw
        case rel => exact ⟨k + 1, by omega, by go_num, s1, sv1, HNext.out, HOk1.out, hb1⟩
        case measure => simp [intOf]; omega
    · obtain rfl : k = l.length := by omega
      have HAt := Lib.hid hat
      have HRd := Lib.hid hrd
      clear hat hrd hok
      go_wp2
      go_ret
      rw [HRd.out]
      exact ⟨rfl, sv', HAt.out⟩
end Go.Proofs.Ytopombnehmfmcaa
