import Derived.Test.YtjfgpplnlepnoaaGreatLcN
import Derived.Test.YtjfgpplnlepnoaaGreatLcP
import Derived.Test.YtjfgpplnlepnoaaGreatRgB
import Derived.Test.YtjfgpplnlepnoaaGreatDqA
import Derived.Test.YtjfgpplnlepnoaaGreatRef7a
import Derived.Test.YtjfgpplnlepnoaaGreatRef8b
/-
  What is in a local row: All; the document's Right and All.
-/
namespace Go.Proofs.YtjfgpplnlepnoaaGreat
set_option maxRecDepth 100000
set_option linter.unusedSimpArgs false
set_option linter.unusedVariables false
open Go.ChangeShapes Go.WideShapes Go.ChangeAt Go.RowKit

theorem Solo.begunL {σ : Type} {K : Mach σ} {I : World → List Nat → σ → Prop} {m : Nat} {R : Runs K I m} {us' : List Int} {s s' : σ} {n : Nat} {L : LSt} (h : Solo K L.us s n us' s') (D : Nat → Prop) (who most : Nat) (r : Rs) (o : Option Strand) (S : List Nat) (w0 w1 : World) (hL : Loom D w0 L) (hk : Keeps [] w0 w1) (ho : L.ts[who]? = some o) (hb : busy o = false) (hI : I w1 S s) (hS : ∀ k ∈ S, w0.heap.size ≤ k)
    (h0 : 0 < n) (hn : n ≤ most) (hm : most ≤ 1000000) (hst : L.steps ≤ 100000000000) (hr : K.res s' = some r) :
    ∃ (L1 M : LSt) (o' : Option Strand), (M.l = L.l ∧ M.mm = L.mm ∧ M.us = us' ∧ M.steps = L.steps + n ∧ M.ts[who]? = some o' ∧ busy o' = false ∧ o'.bind Strand.res = some r) ∧
      Calls Tryz.prog 26 #[.pointer (some ⟨L.l, 0, none⟩), .int .i64 (who : Int), .pointer (some ⟨m, 0, none⟩)] w1 (fun e w' => e = .returned (.int .i64 0) ∧ Loom D w' L1 ∧ Held D w0 w') ∧
      ∀ (w : World), Loom D w L1 → Calls Tryz.prog 27 #[.pointer (some ⟨L.l, 0, none⟩), .int .i64 (who : Int), .int .i64 (most : Int)] w fun e w' => e = .returned (.tuple #[.int .i64 (n : Int), .int .i64 0]) ∧ Loom D w' M ∧ Held D w w' := by
  have hlt := (List.getElem?_eq_some_iff.1 ho).1
  have hSt := start_at D L who o ⟨σ, K, I, m, R, s⟩ S w0 w1 hL hk ho hb hI hS
  refine ⟨{ L with ts := L.ts.set who (some ⟨σ, K, I, m, R, s⟩) }, LSt.ran { L with ts := L.ts.set who (some ⟨σ, K, I, m, R, s⟩) } who K I m R n us' s', some ⟨σ, K, I, m, R, s'⟩, ⟨rfl, rfl, rfl, rfl, ?_, by simp [busy, Strand.res, hr], by simp [Strand.res, hr]⟩, hSt.mono ?_, fun w hw => ?_⟩
  · show (List.set _ _ _)[who]? = _
    exact List.getElem?_set_self (by simpa using hlt)
  · rintro e w' ⟨rfl, a, b⟩
    exact ⟨rfl, a, (hk.held hL.dom (by simp)).trans (b.held (fun k hk' => Nat.lt_of_lt_of_le (hL.dom k hk') hk.size) (fun k hk' => by simp at hk'; subst hk'; exact hL.base.2.1))⟩
  · exact h.alone (I := I) (m := m) (R := R) D { L with ts := L.ts.set who (some ⟨σ, K, I, m, R, s⟩) } who most r w hw rfl (List.getElem?_set_self hlt) h0 hn hm hst hr
def lcRefused (len kind at_ size : Int) : Int := if ¬ lcRight kind at_ size then 2 else if len ≤ at_ + size + 1 then 3 else 0
theorem lcNoAll_nil (w : World) : Calls Tryz.prog 299 #[.agg #[], .pointer none] w fun e w' => e = .returned (.tuple #[.slice none 0 0, .int .i64 1]) ∧ Keeps [] w w' := by
  go_enter Tryz.func299, Tryz.ntmps299
  go_wp2
  go_ret2
  exact ⟨rfl, by repeat (first | exact Keeps.refl _ _ | refine Keeps.drewN ?_ | refine Keeps.alloc ?_ _ | refine Keeps.drew ?_)⟩
theorem lcNoAll_arg (m : Nat) (w : World) : Calls Tryz.prog 299 #[.agg #[], .pointer (some ⟨m, 0, none⟩)] w fun e w' => e = .returned (.tuple #[.slice none 0 0, .int .i64 2]) ∧ Keeps [] w w' := by
  go_enter Tryz.func299, Tryz.ntmps299
  go_wp2
  go_ret2
  exact ⟨rfl, by repeat (first | exact Keeps.refl _ _ | refine Keeps.drewN ?_ | refine Keeps.alloc ?_ _ | refine Keeps.drew ?_)⟩
set_option maxHeartbeats 1600000 in
/-- All of the row behind the face is what All is. -/
theorem lcAll_face (kind at_ size : Int) (mv : Value) (hmv : mv = .pointer none ∨ ∃ m : Nat, mv = .pointer (some ⟨m, 0, none⟩)) (w : World) (R : World → Ending → World → Prop) (hR : ∀ W e w', Keeps [] w W → R W e w' → R w e w')
    (hp : ∀ W e w', R W e w' → ∃ l c, e = .returned (.tuple #[l, .int .i64 c]))
    (h0 : kind = 0 → ∀ W, Keeps [] w W → Calls Tryz.prog 260 #[.agg #[.int .i64 at_, .int .i64 size], mv] W (R W))
    (h1 : kind = 1 → ∀ W, Keeps [] w W → Calls Tryz.prog 284 #[.agg #[.int .i64 at_, .int .i64 size], mv] W (R W))
    (h2 : kind ≠ 0 → kind ≠ 1 → ∀ W, Keeps [] w W → Calls Tryz.prog 299 #[.agg #[], mv] W (R W)) :
    Calls Tryz.prog 22 #[.agg #[.int .i64 kind, .int .i64 at_, .int .i64 size], mv] w (R w) := by
  have HB := Lib.hid (fun W => lcBehind_any kind at_ size W)
  have HR := Lib.hid hR
  have HPp := Lib.hid hp
  clear hR hp
  by_cases e0 : kind = 0
  · subst e0
    have HF : Hid (lcFace 0 at_ size = .iface 75 (.agg #[.int .i64 at_, .int .i64 size])) := Lib.hid rfl
    rw [HF.out] at HB
    have HA := Lib.hid (h0 rfl)
    have hm := lcMAll_dq at_ size
    clear h0 h1 h2
    rcases hmv with rfl | ⟨m, rfl⟩
    all_goals
      go_enter Tryz.func22, Tryz.ntmps22
      go_wp2_with fail
      refine (HB.out _).mono ?_
      rintro e w1 ⟨rfl, k1⟩
      have HK : Hid (Keeps [] w w1) := Lib.hid (((Keeps.refl [] w).alloc _).trans (by first | exact k1 | exact k1.undrew))
      clear k1
      go_wp2_with fail
      refine (HA.out _ (by first | exact HK.out | exact HK.out.drew)).mono ?_
      rintro e w2 hr
      have hr' := HR.out _ _ _ (by first | exact HK.out | exact HK.out.drew) hr
      have HP := Lib.hid hr'
      obtain ⟨l, c, rfl⟩ := HPp.out _ _ _ hr
      clear hr hr'
      go_wp2
      first | exact HP.out | (go_ret2; exact HP.out)
  by_cases e1 : kind = 1
  · subst e1
    have HF : Hid (lcFace 1 at_ size = .iface 77 (.agg #[.int .i64 at_, .int .i64 size])) := Lib.hid rfl
    rw [HF.out] at HB
    have HA := Lib.hid (h1 rfl)
    have hm := lcMAll_rg at_ size
    clear h0 h1 h2 e0
    rcases hmv with rfl | ⟨m, rfl⟩
    all_goals
      go_enter Tryz.func22, Tryz.ntmps22
      go_wp2_with fail
      refine (HB.out _).mono ?_
      rintro e w1 ⟨rfl, k1⟩
      have HK : Hid (Keeps [] w w1) := Lib.hid (((Keeps.refl [] w).alloc _).trans (by first | exact k1 | exact k1.undrew))
      clear k1
      go_wp2_with fail
      refine (HA.out _ (by first | exact HK.out | exact HK.out.drew)).mono ?_
      rintro e w2 hr
      have hr' := HR.out _ _ _ (by first | exact HK.out | exact HK.out.drew) hr
      have HP := Lib.hid hr'
      obtain ⟨l, c, rfl⟩ := HPp.out _ _ _ hr
      clear hr hr'
      go_wp2
      first | exact HP.out | (go_ret2; exact HP.out)
  · have HF : Hid (lcFace kind at_ size = .iface 128 (.agg #[])) := Lib.hid (by simp [lcFace, e0, e1])
    rw [HF.out] at HB
    have HA := Lib.hid (h2 e0 e1)
    have hm := lcMAll_no
    clear h0 h1 h2 e0 e1
    rcases hmv with rfl | ⟨m, rfl⟩
    all_goals
      go_enter Tryz.func22, Tryz.ntmps22
      go_wp2_with fail
      refine (HB.out _).mono ?_
      rintro e w1 ⟨rfl, k1⟩
      have HK : Hid (Keeps [] w w1) := Lib.hid (((Keeps.refl [] w).alloc _).trans (by first | exact k1 | exact k1.undrew))
      clear k1
      go_wp2_with fail
      refine (HA.out _ (by first | exact HK.out | exact HK.out.drew)).mono ?_
      rintro e w2 hr
      have hr' := HR.out _ _ _ (by first | exact HK.out | exact HK.out.drew) hr
      have HP := Lib.hid hr'
      obtain ⟨l, c, rfl⟩ := HPp.out _ _ _ hr
      clear hr hr'
      go_wp2
      first | exact HP.out | (go_ret2; exact HP.out)
theorem lcAll_nil (kind at_ size : Int) (w : World) :
    Calls Tryz.prog 22 #[.agg #[.int .i64 kind, .int .i64 at_, .int .i64 size], .pointer none] w fun e w' => e = .returned (.tuple #[.slice none 0 0, .int .i64 1]) ∧ Keeps [] w w' :=
  lcAll_face kind at_ size _ (.inl rfl) w (fun W e w' => e = .returned (.tuple #[.slice none 0 0, .int .i64 1]) ∧ Keeps [] W w') (fun W e w' hk h => ⟨h.1, hk.trans h.2⟩) (fun W e w' h => ⟨_, _, h.1⟩)
    (fun _ W _ => dqAll_nil at_ size W) (fun _ W _ => rgAll_nil at_ size W) (fun _ _ W _ => lcNoAll_nil W)
theorem lcAll_refused (kind at_ size : Int) (m b : Nat) (us : List Int) (w : World) (h : Mem w m b us) (hs : -9223372036854775808 ≤ size) (hr : lcRefused us.length kind at_ size ≠ 0) :
    Calls Tryz.prog 22 #[.agg #[.int .i64 kind, .int .i64 at_, .int .i64 size], .pointer (some ⟨m, 0, none⟩)] w fun e w' => e = .returned (.tuple #[.slice none 0 0, .int .i64 (lcRefused us.length kind at_ size)]) ∧ Keeps [] w w' := by
  refine lcAll_face kind at_ size _ (.inr ⟨m, rfl⟩) w (fun W e w' => e = .returned (.tuple #[.slice none 0 0, .int .i64 (lcRefused us.length kind at_ size)]) ∧ Keeps [] W w') (fun W e w' hk h => ⟨h.1, hk.trans h.2⟩) (fun W e w' h => ⟨_, _, h.1⟩) ?_ ?_ ?_
  · rintro rfl W hk
    have e : lcRefused us.length 0 at_ size = dqRefused us.length at_ size := by simp [lcRefused, dqRefused, lcRight]
    rw [e] at hr ⊢
    exact dqAll_refused at_ size m b us W (h.keeps hk (by simp) (by simp)) hs hr
  · rintro rfl W hk
    have e : lcRefused us.length 1 at_ size = rgRefused us.length at_ size := by simp [lcRefused, rgRefused, lcRight]
    rw [e] at hr ⊢
    exact rgAll_refused at_ size m b us W (h.keeps hk (by simp) (by simp)) hs hr
  · intro e0 e1 W hk
    have e : lcRefused us.length kind at_ size = 2 := by simp [lcRefused, lcRight, e0, e1]
    rw [e]
    exact lcNoAll_arg m W
/-- What All tells. -/
def lcTold (w w' : World) (e : Ending) (O : Option (List Int)) : Prop :=
  (O = none → e = .returned (.tuple #[.slice none 0 0, .int .i64 9])) ∧ ∀ xs, O = some xs → ∃ l, e = .returned (.tuple #[l, .int .i64 0]) ∧ w'.ownsRow w.heap.size 26 1 l xs.length (ints .u64 xs)
theorem lcAll_any (kind : Int) (a : Nat) (size : Int) (m b : Nat) (us : List Int) (w : World) (h : Mem w m b us) (hr : lcRight kind a size) (hl : (a : Int) + size + 1 < us.length) :
    Calls Tryz.prog 22 #[.agg #[.int .i64 kind, .int .i64 (a : Int), .int .i64 size], .pointer (some ⟨m, 0, none⟩)] w fun e w' => Keeps [] w w' ∧ lcTold w w' e (lcAllOf kind a size us) := by
  refine lcAll_face kind a size _ (.inr ⟨m, rfl⟩) w (fun W e w' => Keeps [] W w' ∧ lcTold W w' e (lcAllOf kind a size us)) (fun W e w' hk h => ⟨hk.trans h.1, h.2.1, fun xs hx => ?_⟩) (fun W e w' h => ?_) ?_ ?_ ?_
  · obtain ⟨l, h1, h2⟩ := h.2.2 xs hx
    exact ⟨l, h1, owns_base h2 hk.size⟩
  · cases hO : lcAllOf kind a size us with
    | none => exact ⟨_, _, h.2.1 hO⟩
    | some xs =>
      obtain ⟨l, h1, -⟩ := h.2.2 xs hO
      exact ⟨l, _, h1⟩
  · rintro rfl W hk
    exact (dqAll_any a size m b us W (h.keeps hk (by simp) (by simp)) hr.2 hl).mono fun e w' h => h
  · rintro rfl W hk
    exact (rgAll_any a size m b us W (h.keeps hk (by simp) (by simp)) hr.2 hl).mono fun e w' h => h
  · intro e0 e1
    rcases hr.1 with h | h
    · exact absurd h e0
    · exact absurd h e1
theorem rcRight_any (kind at_ size : Int) (w : World) :
    Calls Tryz.prog 8 #[.int .i64 kind, .int .i64 at_, .int .i64 size] w fun e w' => e = .returned (.bool (decide (lcRight kind at_ size))) ∧ w = w' := by
  have HR := Lib.hid (fun W => rRight_any at_ size W)
  by_cases h0 : kind = 0
  · subst h0
    have HD : Hid (decide (lcRight 0 at_ size) = decide (dqRight at_ size)) := Lib.hid (by simp [lcRight])
    rw [HD.out]
    go_enter Tryz.func8, Tryz.ntmps8
    go_wp2_with fail
    refine (HR.out _).mono ?_
    rintro e w1 ⟨rfl, rfl⟩
    go_wp2
    go_ret
    exact ⟨rfl, rfl⟩
  by_cases h1 : kind = 1
  · subst h1
    have HD : Hid (decide (lcRight 1 at_ size) = decide (dqRight at_ size)) := Lib.hid (by simp [lcRight])
    rw [HD.out]
    go_enter Tryz.func8, Tryz.ntmps8
    go_wp2_with fail
    refine (HR.out _).mono ?_
    rintro e w1 ⟨rfl, rfl⟩
    go_wp2
    go_ret
    exact ⟨rfl, rfl⟩
  · have HD : Hid (decide (lcRight kind at_ size) = false) := Lib.hid (by simp [lcRight, h0, h1])
    rw [HD.out]
    have e0 : (kind == 0) = false := by simpa using h0
    have e1 : (kind == 1) = false := by simpa using h1
    clear HR
    go_enter Tryz.func8, Tryz.ntmps8
    go_wp2
    go_ret
    exact ⟨rfl, rfl⟩
/-- What the document's All tells. -/
def rcTold (w w' : World) (e : Ending) (O : Option (List Int)) : Prop :=
  (O = none → e = .returned (.tuple #[.slice none 0 0, .bool false])) ∧ ∀ xs, O = some xs → ∃ l, e = .returned (.tuple #[l, .bool true]) ∧ w'.ownsRow w.heap.size 26 1 l xs.length (ints .u64 xs)
theorem rcAll_any (kind : Int) (hk : kind = 0 ∨ kind = 1) (size : Nat) (b off cap : Nat) (us : List Int) (w : World) (hr : dqRight 0 size) (hl : us.length = size + 2) (hu : ∀ i : Nat, i < us.length → M.U (us.getD i 0)) (hb : b < w.heap.size)
    (hc : ∀ j : Nat, j < us.length → w.cell? ⟨b, off + j, none⟩ = some (.int .u64 (us.getD j 0))) :
    Calls Tryz.prog 23 #[.int .i64 kind, .slice (some ⟨b, off, none⟩) (size + 2) cap] w fun e w' => Keeps [] w w' ∧ rcTold w w' e (lcAllOf kind 0 size us) := by
  have H0 := Lib.hid (rAll_any size b off cap us w hr hl hu hb hc)
  have H1 := Lib.hid (rAll8_any size b off cap us w hr hl hu hb hc)
  clear hr hl hu hb hc
  rcases hk with rfl | rfl
  · go_enter Tryz.func23, Tryz.ntmps23
    go_wp2_with fail
    refine H0.out.mono ?_
    rintro e w2 ⟨k, ht⟩
    have HP : Hid (Keeps [] w w2 ∧ rcTold w w2 e (lcAllOf 0 0 size us)) := Lib.hid ⟨k, ht⟩
    have hsh : ∃ l c, e = .returned (.tuple #[l, .bool c]) := by
      cases hO : dqAllOf 0 size us with
      | none => exact ⟨_, _, ht.1 hO⟩
      | some xs => obtain ⟨l, h1, -⟩ := ht.2 xs hO; exact ⟨l, _, h1⟩
    obtain ⟨l, c, rfl⟩ := hsh
    clear k ht
    go_wp2
    go_ret2
    exact HP.out
  · go_enter Tryz.func23, Tryz.ntmps23
    go_wp2_with fail
    refine H1.out.mono ?_
    rintro e w2 ⟨k, ht⟩
    have HP : Hid (Keeps [] w w2 ∧ rcTold w w2 e (lcAllOf 1 0 size us)) := Lib.hid ⟨k, ht⟩
    have hsh : ∃ l c, e = .returned (.tuple #[l, .bool c]) := by
      cases hO : rgAllOf 0 size us with
      | none => exact ⟨_, _, ht.1 hO⟩
      | some xs => obtain ⟨l, h1, -⟩ := ht.2 xs hO; exact ⟨l, _, h1⟩
    obtain ⟨l, c, rfl⟩ := hsh
    clear k ht
    go_wp2
    go_ret2
    exact HP.out
end Go.Proofs.YtjfgpplnlepnoaaGreat
