/-
  Contracts: a walk that went into another one goes on behind it.
-/
import Derived.Test.YtihlfcggggloaaaWalk4
namespace Go.Proofs.Ytihlfcggggloaaa
set_option maxRecDepth 100000
open Go.ChangeShapes Go.WideShapes Go.ChangeAt Go.RowKit

set_option maxHeartbeats 1600000 in
/-- It goes on behind one that has ended: what it does then is F. -/
theorem wBack1 (m b0 b1 : Nat) (s : WSt) (F : FuncId) (fi ca : Array Value) (n : Nat) (us : List Int) (w : World) (Q : World → Prop) (hcf : ∀ args w, (callFunc F args).run Try.prog w = .ok (.enter F args) w)
    (hm : Wk w m s) (h0 : w.cell? ⟨b0, 0, none⟩ = some (.func (.func F) fi ca)) (h1 : w.cell? ⟨b1, 0, none⟩ = some (.pointer (some ⟨m, 0, none⟩))) (l0 : b0 < w.heap.size) (l1 : b1 < w.heap.size) (hl : Sl w 1 s.l n (ints .u64 us)) (hn : n ≤ 10000000)
    (hF : ∀ w1 q c, Keeps [] w w1 → Sl w1 1 (.slice q n c) n (ints .u64 us) → Calls Try.prog F (fi.push (.agg #[.int .i64 s.code, .int .u64 s.v, .slice q n c]) ++ ca) w1 fun e w' => e = .returned (.tuple #[]) ∧ Q w')
    (hQ : ∀ w', Q w' → w'.cell? ⟨b0, 0, none⟩ = some (.func (.func F) fi ca) ∧ w'.cell? ⟨b1, 0, none⟩ = some (.pointer (some ⟨m, 0, none⟩)) ∧ w'.cell? ⟨m, 11, none⟩ = some (.int .i64 s.code) ∧ w'.cell? ⟨m, 12, none⟩ = some (.int .u64 s.v) ∧ w'.cell? ⟨m, 13, none⟩ = some s.l) :
    Calls Try.prog 103 #[.pointer (some ⟨b0, 0, none⟩), .pointer (some ⟨b1, 0, none⟩)] w fun e w' => e = .returned (.tuple #[]) ∧ Q w' := by
  have HC := Lib.hid (fun W h => wCopied s.code s.v s.l n us W h hn)
  obtain ⟨-, -, -, -, -, -, -, -, -, -, -, a11, a12, a13⟩ := hm.at
  have hlm := hm.lt
  have HF := Lib.hid hF
  have HQ := Lib.hid hQ
  have HL := Lib.hid hl
  obtain ⟨lp, lc, hls⟩ := hl.len
  rw [hls] at HC HQ HL a13
  clear hF hm hl hQ hls
  go_enter Try.func103, Try.ntmps103
  go_wp2_with fail
  go_region_held3 (fun w' => w'.cell? ⟨b0, 0, none⟩ = some (.func (.func F) fi ca) ∧ w'.cell? ⟨b1, 0, none⟩ = some (.pointer (some ⟨m, 0, none⟩)) ∧ w'.cell? ⟨m, 11, none⟩ = some (.int .i64 s.code) ∧ w'.cell? ⟨m, 12, none⟩ = some (.int .u64 s.v) ∧ w'.cell? ⟨m, 13, none⟩ = some (.slice lp n lc))
    (first
      | exact ⟨by assumption, by assumption, by assumption, by assumption, by assumption⟩
      | exact HQ.out _ hq
      | fail)
    (first
      | (go_at_call 51; refine (HC.out _ (HL.out.keeps ((Keeps.refl [] _).drew) (by simp))).mono ?_; rintro e w2 ⟨l', rfl, hol, k2⟩; obtain ⟨lq, lc', rfl⟩ := (Sl.of_owns hol).len; have hl2 := Lib.hid (Sl.of_owns hol); clear hol; have hk2 : Keeps [] w w2 := k2.undrew; have a2 := (hk2.cell (p := ⟨b0, 0, none⟩) l0 (by simp)).trans h0; have c2 := (hk2.cell (p := ⟨b1, 0, none⟩) l1 (by simp)).trans h1; have d2 := (hk2.cell (p := ⟨m, 11, none⟩) hlm (by simp)).trans a11; have e2 := (hk2.cell (p := ⟨m, 12, none⟩) hlm (by simp)).trans a12; have f2 := (hk2.cell (p := ⟨m, 13, none⟩) hlm (by simp)).trans a13; clear k2)
      | (refine (HF.out _ _ _ hk2 hl2.out).mono ?_; rintro e w3 ⟨rfl, hq⟩)
      | fail)
  first | go_end0 | refine bodyPost_ret (results_none rfl _ _ _) rfl ?_
  exact ⟨rfl, hq⟩

set_option maxHeartbeats 1600000 in
theorem wBack (m o : Nat) (s so : WSt) (F : FuncId) (fi ca : Array Value) (n : Nat) (us : List Int) (Sx : List Nat) (w : World) (R : World → WSt → Prop) (hm : Wk w m s) (ho : Wk w o so) (hne : m ≠ o)
    (hsub : so.sub = some ⟨m, 0, none⟩) (hout : s.outer = .slice none 0 0) (hov : so.over = false) (haf : so.after = .func (.func F) fi ca) (hu : so.under = 0) (hcf : ∀ args w, (callFunc F args).run Try.prog w = .ok (.enter F args) w)
    (hl : Sl w 1 s.l n (ints .u64 us)) (hn : n ≤ 10000000) (hlb : ∀ g, s.l.ownBlock = some g → g ≠ m ∧ g ≠ o) (hSx : ∀ k ∈ Sx, k < w.heap.size)
    (hF : ∀ w1 q c, Wk w1 o { so with nxt := .nilFunc, sub := none, after := .nilFunc, under := 1 } → Wk w1 m s → Keeps [m, o] w w1 → Sl w1 1 (.slice q n c) n (ints .u64 us) → Calls Try.prog F (fi.push (.agg #[.int .i64 s.code, .int .u64 s.v, .slice q n c]) ++ ca) w1 fun e w2 => e = .returned (.tuple #[]) ∧
      ∃ so2, Wk w2 o so2 ∧ so2.under = 1 ∧ (so2.over = false ∨ so2.outer = .slice none 0 0) ∧ Keeps Sx w1 w2 ∧ (∃ s2, Wk w2 m s2 ∧ s2.code = s.code ∧ s2.v = s.v ∧ s2.l = s.l) ∧ R w2 so2) :
    Calls Try.prog 95 #[.pointer (some ⟨o, 0, none⟩), .pointer (some ⟨m, 0, none⟩)] w fun e w' => e = .returned (.tuple #[]) ∧ ∃ w2 so2, R w2 so2 ∧ Keeps [o] w2 w' ∧ Wk w' o { so2 with under := 0 } := by
  have hq := fun W => walkPtr W ⟨m, 0, none⟩
  obtain ⟨-, -, -, -, -, -, h6, h7, -, -, h10, -, -, -⟩ := ho.at
  rw [hsub] at h6
  rw [haf] at h7
  rw [hov] at h10
  have hlto := ho.lt
  have hltm := hm.lt
  have HM := Lib.hid hm
  have HO := Lib.hid ho
  have HL := Lib.hid (fun W h1 h2 => wLeaveSub m o s so W h1 h2 hne hsub hout)
  have HH : Hid (_ ∧ _ ∧ _ ∧ _) := Lib.hid ⟨hl, hn, hlb, hSx⟩
  have HF := Lib.hid hF
  have HCF := Lib.hid hcf
  have HU := Lib.hid hu
  clear hm ho hsub hout hov haf hu hcf hl hn hlb hSx hF
  go_enter Try.func95, Try.ntmps95
  go_wp2_with fail
  go_quiet (fail)
  go_wp2_with fail
  generalize hW : World.alloc _ _ = W1
  have k1 : Keeps [] w W1 := by rw [← hW]; exact (((Keeps.refl _ _).alloc _).drewN).alloc _
  have b0 : Box W1 w.heap.size #[.pointer (some ⟨m, 0, none⟩)] := by rw [← hW]; exact ((Box.new w #[.pointer (some ⟨m, 0, none⟩)] 46).keeps ((Keeps.refl [] _).drewN) (by simp)).alloc _
  have b1 : Box W1 (w.heap.size + 1) #[.func (.func F) fi ca] := by rw [← hW]; have := Box.new ((w.alloc (.cells #[.pointer (some ⟨m, 0, none⟩)] 46)).drewN nq) #[.func (.func F) fi ca] 97; simpa [World.drewN] using this
  clear hW
  refine (HL.out W1 (HM.out.keeps k1 (by simp)) (HO.out.keeps k1 (by simp))).mono ?_
  rintro e w2 ⟨rfl, ho2, hm2, k2⟩
  have c0 := b0.keeps k2 (by simp; omega)
  have c1 := b1.keeps k2 (by simp; omega)
  have hk2 : Keeps [m, o] w w2 := (k1.mono (by simp)).trans k2
  have D := wDo o _ 103 #[.pointer (some ⟨w.heap.size + 1, 0, none⟩), .pointer (some ⟨w.heap.size, 0, none⟩)] w2 R ho2 (by show 0 ≤ so.under; rw [HU.out]; exact Int.le_refl 0) (by show so.under ≤ 1000; rw [HU.out]; decide) (fun _ _ => by kernel_rfl) (fun w3 h3 k3 =>
    have hm3 := hm2.keeps k3 (by simpa using hne)
    have e1 := (c1.keeps k3 (by simp; omega))
    have e0 := (c0.keeps k3 (by simp; omega))
    have hk3 : Keeps [m, o] w w3 := hk2.trans (k3.mono (by simp))
    (wBack1 m (w.heap.size + 1) w.heap.size s F fi ca n us w3 (fun w' => ∃ so2, Wk w' o so2 ∧ so2.under = 1 ∧ (so2.over = false ∨ so2.outer = .slice none 0 0) ∧ (∃ w4, Keeps [] w3 w4 ∧ Keeps Sx w4 w') ∧ (∃ s2, Wk w' m s2 ∧ s2.code = s.code ∧ s2.v = s.v ∧ s2.l = s.l) ∧ R w' so2) HCF.out hm3 (e1.cells 0) (e0.cells 0) e1.lt e0.lt
      (HH.out.1.but hk3 (fun g hg => by have := HH.out.2.2.1 g hg; simp [this.1, this.2])) HH.out.2.1
      (fun w4 q c k4 hq4 => ((HF.out w4 q c (by have := h3.keeps k4 (by simp); simpa [HU.out] using this) (hm3.keeps k4 (by simp)) (hk3.trans (k4.mono (by simp))) hq4).mono fun e w5 ⟨he, so2, a, b, c, d, f, g⟩ => ⟨he, so2, a, b, c, ⟨w4, k4, d⟩, f, g⟩))
      (fun w' ⟨so2, a, b, c, ⟨w4, k4, d⟩, ⟨s2, f1, f2, f3, f4⟩, g⟩ => by
        have n0 : w.heap.size ∉ Sx := fun h => by have := HH.out.2.2.2 _ h; omega
        have n1 : w.heap.size + 1 ∉ Sx := fun h => by have := HH.out.2.2.2 _ h; omega
        refine ⟨((e1.keeps k4 (by simp)).keeps d n1).cells 0, ((e0.keeps k4 (by simp)).keeps d n0).cells 0, ?_⟩
        obtain ⟨-, -, -, -, -, -, -, -, -, -, -, x1, x2, x3⟩ := f1.at
        rw [f2] at x1
        rw [f3] at x2
        rw [f4] at x3
        exact ⟨x1, x2, x3⟩)).mono fun e w5 ⟨he, so2, a, b, c, _, _, g⟩ => ⟨he, so2, a, by simpa [HU.out] using b, by rcases c with c | c; exact .inl c; exact .inr (.inr c), g⟩)
  have HD := Lib.hid D
  have HC1 := Lib.hid (c1.cells 0)
  clear D b0 b1 k1 k2 ho2 hm2 c0 c1
  go_wp2_with fail
  refine HD.out.mono ?_
  rintro e w5 ⟨rfl, w4, so2, hR, k4, w5k⟩
  have HP := Lib.hid (show R w4 so2 ∧ Keeps [o] w4 w5 ∧ Wk w5 o { so2 with under := 0 } from ⟨hR, k4, by simpa [HU.out] using w5k⟩)
  clear hR k4 w5k
  go_wp2
  first | go_end0 | refine bodyPost_ret (results_none rfl _ _ _) rfl ?_
  exact ⟨rfl, _, _, HP.out⟩
end Go.Proofs.Ytihlfcggggloaaa
