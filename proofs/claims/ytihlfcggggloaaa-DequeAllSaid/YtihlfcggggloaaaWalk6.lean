/-
  Contracts: what has ended tells the one that went into it; Give, where that may happen.
-/
import Derived.Test.YtihlfcggggloaaaWalk5
namespace Go.Proofs.Ytihlfcggggloaaa
set_option maxRecDepth 100000
open Go.ChangeShapes Go.WideShapes Go.ChangeAt Go.RowKit

set_option maxHeartbeats 1600000 in
theorem wTellOne (m o g cap : Nat) (ty : TypeId) (s so : WSt) (F : FuncId) (fi ca : Array Value) (n : Nat) (us : List Int) (Sx : List Nat) (w : World) (R : World → WSt → Prop) (hm : Wk w m s) (ho : Wk w o so) (hne : m ≠ o)
    (hs : s.over = true) (hu0 : s.under = 0) (hout : s.outer = .slice (some ⟨g, 0, none⟩) 1 cap) (hg : Row w g ty [.pointer (some ⟨o, 0, none⟩)]) (hgm : g ≠ m)
    (hsub : so.sub = some ⟨m, 0, none⟩) (hov : so.over = false) (haf : so.after = .func (.func F) fi ca) (hu : so.under = 0) (hcf : ∀ args w, (callFunc F args).run Try.prog w = .ok (.enter F args) w)
    (hl : Sl w 1 s.l n (ints .u64 us)) (hn : n ≤ 10000000) (hlb : ∀ g, s.l.ownBlock = some g → g ≠ m ∧ g ≠ o) (hSx : ∀ k ∈ Sx, k < w.heap.size)
    (hF : ∀ w1 q c, Wk w1 o { so with nxt := .nilFunc, sub := none, after := .nilFunc, under := 1 } → Wk w1 m { s with outer := .slice none 0 0 } → Keeps [m, o] w w1 → Sl w1 1 (.slice q n c) n (ints .u64 us) → Calls Try.prog F (fi.push (.agg #[.int .i64 s.code, .int .u64 s.v, .slice q n c]) ++ ca) w1 fun e w2 => e = .returned (.tuple #[]) ∧
      ∃ so2, Wk w2 o so2 ∧ so2.under = 1 ∧ (so2.over = false ∨ so2.outer = .slice none 0 0) ∧ Keeps Sx w1 w2 ∧ (∃ s2, Wk w2 m s2 ∧ s2.code = s.code ∧ s2.v = s.v ∧ s2.l = s.l) ∧ R w2 so2) :
    Calls Try.prog 83 #[.pointer (some ⟨m, 0, none⟩)] w fun e w' => e = .returned (.tuple #[]) ∧ ∃ w2 so2, R w2 so2 ∧ Keeps [o] w2 w' ∧ Wk w' o { so2 with under := 0 } := by
  obtain ⟨-, -, -, -, -, -, -, -, h8, h9, h10, -, -, -⟩ := hm.at
  have f8 := hm.fr 8
  rw [hs] at h10
  rw [hu0] at h9
  rw [hout] at h8
  have W1 : Keeps [m] w (w.setCell ⟨m, 8, none⟩ (.slice none 0 0)) := (Keeps.refl _ _).set (by simp) _ _
  have hB := Lib.hid (wBack m o { s with outer := .slice none 0 0 } so F fi ca n us Sx (w.setCell ⟨m, 8, none⟩ (.slice none 0 0)) R (hm.outerAt _) (ho.keeps W1 (by simpa using Ne.symm hne)) hne hsub rfl hov haf hu hcf
    (hl.but W1 (fun g hg => by have := hlb g hg; simp [this.1])) hn hlb (by simpa using hSx) (fun w1 q c a b k d => hF w1 q c a b ((W1.mono (by simp)).trans k) d))
  have hg0 : (w.setCell ⟨m, 8, none⟩ (.slice none 0 0)).cell? ⟨g, 0, none⟩ = some (.pointer (some ⟨o, 0, none⟩)) := (hg.keeps W1 (by simpa using hgm)).cell (j := 0) rfl
  clear hs hu0 hout hm ho hsub hov haf hu hcf hl hn hlb hSx hF W1 hg
  go_enter Try.func83, Try.ntmps83
  go_wp2
  refine wp_loop_rounds 2 ?_
  rw [rounds_succ]
  go_wp2_with fail
  refine hB.out.mono ?_
  rintro e w1 ⟨rfl, w2, so2, hR, k2, w2k⟩
  have HP : Hid (_ ∧ _ ∧ _) := Lib.hid ⟨hR, k2, w2k⟩
  clear hR k2 w2k
  go_wp2
  rw [rounds_succ]
  go_wp2
  first | go_end0 | refine bodyPost_ret (results_none rfl _ _ _) rfl ?_
  exact ⟨rfl, _, _, HP.out⟩

set_option maxHeartbeats 800000 in
/-- A function that is done for a walk, and what is told behind it. -/
theorem wDoT (m : Nat) (s : WSt) (F : FuncId) (ca : Array Value) (w : World) (R : World → WSt → Prop) (R' : World → Prop) (h : Wk w m s) (hu : 0 ≤ s.under) (hu1 : s.under ≤ 1000) (hcf : ∀ args w, (callFunc F args).run Try.prog w = .ok (.enter F args) w)
    (hF : ∀ w1, Wk w1 m { s with under := s.under + 1 } → Keeps [m] w w1 → Calls Try.prog F ca w1 fun e w2 => e = .returned (.tuple #[]) ∧ ∃ s2, Wk w2 m s2 ∧ s2.under = s.under + 1 ∧ R w2 s2)
    (hT : ∀ w2 s2 w3, R w2 s2 → Keeps [m] w2 w3 → Wk w3 m { s2 with under := s.under } → Calls Try.prog 83 #[.pointer (some ⟨m, 0, none⟩)] w3 fun e w4 => e = .returned (.tuple #[]) ∧ R' w4) :
    Calls Try.prog 63 #[.pointer (some ⟨m, 0, none⟩), .func (.func F) #[] ca] w fun e w' => e = .returned (.tuple #[]) ∧ R' w' := by
  have HF := Lib.hid hF
  have HT := Lib.hid hT
  have HCF := Lib.hid hcf
  obtain ⟨-, -, -, -, -, -, -, -, -, h9, -, -, -, -⟩ := h.at
  have f9 := h.fr 9
  have HW := Lib.hid h
  obtain ⟨u, hsu⟩ : ∃ u, s.under = u := ⟨_, rfl⟩
  rw [hsu] at h9 hu hu1
  have HU := Lib.hid hsu
  clear hF hT hcf h hsu
  go_enter Try.func63, Try.ntmps63
  go_wp2_with fail
  have w1 := HW.out.underAt (u + 1)
  have C := HF.out _ (by rw [HU.out]; exact w1) ((Keeps.refl [m] w).set (by simp) _ _)
  refine (wTry F ca _ _ HCF.out C).mono ?_
  clear C w1
  rintro e w2 ⟨rfl, s2, w2k, u2, hR⟩
  obtain ⟨-, -, -, -, -, -, -, -, -, b9, -, -, -, -⟩ := w2k.at
  have g9 := w2k.fr 9
  rw [u2, HU.out] at b9
  have HW2 := Lib.hid w2k
  have HR := Lib.hid hR
  clear w2k u2 hR h9 f9
  go_wp2_with fail
  have w3 := HW2.out.underAt u
  refine (HT.out w2 s2 _ HR.out ((Keeps.refl [m] w2).set (by simp) _ _) (by rw [HU.out]; exact w3)).mono ?_
  rintro e w4 ⟨rfl, hR'⟩
  have HR' := Lib.hid hR'
  clear hR' w3
  go_wp2
  go_end0
  exact ⟨rfl, HR'.out⟩

set_option maxHeartbeats 1600000 in
theorem wGiveT (m : Nat) (s : WSt) (F : FuncId) (fi ca : Array Value) (v : Int) (won : Bool) (w : World) (R : World → WSt → Prop) (R' : World → Prop) (h : Wk w m s) (hs : s.sub = none) (hn : s.nxt = .func (.func F) fi ca) (hu : s.under = 0)
    (hcf : ∀ args w, (callFunc F args).run Try.prog w = .ok (.enter F args) w)
    (hF : ∀ w1, Wk w1 m { s with nxt := .nilFunc, sub := none, after := .nilFunc, under := 1 } → Keeps [m] w w1 → Calls Try.prog F (fi ++ (#[.int .u64 v, .bool won] ++ ca)) w1 fun e w2 => e = .returned (.tuple #[]) ∧ ∃ s2, Wk w2 m s2 ∧ s2.under = 1 ∧ R w2 s2)
    (hT : ∀ w2 s2 w3, R w2 s2 → Keeps [m] w2 w3 → Wk w3 m { s2 with under := 0 } → Calls Try.prog 83 #[.pointer (some ⟨m, 0, none⟩)] w3 fun e w4 => e = .returned (.tuple #[]) ∧ R' w4) :
    Calls Try.prog 50 #[.pointer (some ⟨m, 0, none⟩), .int .u64 v, .bool won] w fun e w' => e = .returned (.tuple #[]) ∧ R' w' := by
  have HA := Lib.hid (fun W h => wAsker m s W h hs (.func F) fi ca hn)
  have HL := Lib.hid (fun W h => wLeave m s W h hs)
  have HF := Lib.hid hF
  have HT := Lib.hid hT
  have HCF := Lib.hid hcf
  have HU := Lib.hid hu
  have HW := Lib.hid h
  have hlt := h.lt
  have h5 := h.at.2.2.2.2.2.1
  rw [hn] at h5
  clear hF hT hcf hu h hs hn
  go_enter Try.func50, Try.ntmps50
  go_wp2_with fail
  refine (HA.out _ ((HW.out.alloc _).alloc _)).mono ?_
  rintro e w0 ⟨rfl, rfl⟩
  go_wp2_with fail
  generalize hW : World.alloc _ _ = W1
  have k1 : Keeps [] w W1 := by rw [← hW]; exact (((Keeps.refl _ _).alloc _).alloc _).alloc _
  have w1 : Wk W1 m s := HW.out.keeps k1 (by simp)
  have b0 : Box W1 w.heap.size #[.int .u64 v] := by rw [← hW]; exact ((Box.new _ _ _).alloc _).alloc _
  have b1 : Box W1 (w.heap.size + 1) #[.bool won] := by rw [← hW]; have := (Box.new (w.alloc (.cells #[.int .u64 v] 38)) #[.bool won] 4).alloc (.cells #[.func (.func F) fi ca] 96); simpa using this
  have b2 : Box W1 (w.heap.size + 2) #[.func (.func F) fi ca] := by rw [← hW]; have := (Box.new ((w.alloc (.cells #[.int .u64 v] 38)).alloc (.cells #[.bool won] 4)) #[.func (.func F) fi ca] 96); simpa using this
  clear hW
  refine (HL.out _ w1).mono ?_
  rintro e w2 ⟨rfl, w2k, k2⟩
  have HK := Lib.hid (k1.nil.trans k2)
  have HC0 := Lib.hid (b0.keeps k2 (by simp; omega))
  have HC1 := Lib.hid (b1.keeps k2 (by simp; omega))
  have HC2 := Lib.hid (b2.keeps k2 (by simp; omega))
  have HW2 := Lib.hid w2k
  clear k1 k2 w1 b0 b1 b2 w2k h5
  have D := wDoT m _ 64 #[.pointer (some ⟨w.heap.size + 2, 0, none⟩), .pointer (some ⟨w.heap.size, 0, none⟩), .pointer (some ⟨w.heap.size + 1, 0, none⟩)] w2 R R' HW2.out (by show 0 ≤ s.under; rw [HU.out]; exact Int.le_refl 0) (by show s.under ≤ 1000; rw [HU.out]; decide) (fun _ _ => by kernel_rfl) (fun w3 h3 k3 => wGive1 F fi ca v won _ _ _ w3 _ (fun _ _ h => h.1) HCF.out ((HC2.out.keeps k3 (by simp; omega)).cells 0) ((HC0.out.keeps k3 (by simp; omega)).cells 0) ((HC1.out.keeps k3 (by simp; omega)).cells 0)
    ((HF.out w3 (by have := h3; simpa [HU.out] using this) (HK.out.trans k3)).mono fun e w4 ⟨he, s2, a, b, d⟩ => ⟨he, s2, a, by simpa [HU.out] using b, d⟩))
    (fun w4 s2 w5 hR k h => HT.out w4 s2 w5 hR k (by simpa [HU.out] using h))
  have HD := Lib.hid D
  clear D
  go_wp2_with fail
  refine HD.out.mono ?_
  rintro e w5 ⟨rfl, hR⟩
  have HP := Lib.hid hR
  clear hR
  go_wp2
  first | go_end0 | refine bodyPost_ret (results_none rfl _ _ _) rfl ?_
  exact ⟨rfl, HP.out⟩
end Go.Proofs.Ytihlfcggggloaaa
