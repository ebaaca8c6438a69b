/-
  Contracts: an arena's Free.
-/
import Derived.Test.YtejekciekcbagaaGreatArI
import Derived.Test.YtejekciekcbagaaGreatLd
import Derived.Test.YtejekciekcbagaaGreatOnce
import Derived.Test.YtejekciekcbagaaGreatFresh
namespace Go.Proofs.YtejekciekcbagaaGreat
set_option maxRecDepth 100000
set_option linter.unusedSimpArgs false
set_option linter.unusedVariables false
open Go.ChangeShapes Go.WideShapes Go.ChangeAt Go.RowKit

set_option maxHeartbeats 800000 in
theorem behind_any (m b a n i : Nat) (us : List Int) (w : World) (h : Mem w m b us) (hi : a + i < us.length) :
    Calls Tryz.prog 74 #[.agg #[.int .i64 (a : Int), .int .i64 (n : Int)], .pointer (some ⟨m, 0, none⟩), .int .i64 (i : Int)] w fun e w' => e = .returned (.int .i64 (us.getD (a + i) 0 % 4294967296)) ∧ Keeps [] w w' := by
  have hlen := h.len
  have hU := (h.word hi).2.2
  obtain ⟨v, hv⟩ : ∃ v, us.getD (a + i) 0 = v := ⟨_, rfl⟩
  obtain ⟨W1, hW1⟩ : ∃ W1, w.alloc (.cells #[.int .i64 (a : Int), .int .i64 (n : Int)] 28) = W1 := ⟨_, rfl⟩
  have hb : Box W1 w.heap.size #[.int .i64 (a : Int), .int .i64 (n : Int)] := by rw [← hW1]; exact Box.new _ _ _
  have hk1 : Keeps [] w W1 := by rw [← hW1]; exact (Keeps.refl _ _).alloc _
  have hD := do_load m b us (a + i) W1 (h.keeps hk1 (by simp) (by simp)) hi
  rw [hv] at hD hU ⊢
  rw [show ((a + i : Nat) : Int) = (a : Int) + (i : Int) by omega] at hD
  have HD := Lib.hid hD
  have HN := Lib.hid (fun W => number_any v W hU)
  obtain ⟨lo, hlo⟩ : ∃ lo, v % 4294967296 = lo := ⟨_, rfl⟩
  rw [hlo] at HN ⊢
  have l0 : 0 ≤ lo := by omega
  have l1 : lo < 4294967296 := by omega
  have c0 := hb.cells 0
  have c1 := hb.cells 1
  have HK := Lib.hid hk1
  clear hb hk1 hD h hU hlo hv
  go_enter Tryz.func74, Tryz.ntmps74
  go_wp2_with fail
  refine HD.out.mono ?_
  rintro e w2 ⟨rfl, k2⟩
  have HK2 := Lib.hid (HK.out.trans k2)
  clear k2
  go_wp2_with fail
  refine (HN.out _).mono ?_
  rintro e w3 ⟨rfl, rfl⟩
  go_wp2
  go_ret
  exact ⟨rfl, HK2.out⟩

def sliceLen : Value → Nat
  | .slice _ n _ => n
  | _ => 0
set_option maxHeartbeats 3200000 in
theorem free_any (m b a n : Nat) (us : List Int) (F : List Nat) (w : World) (h : Mem w m b us) (hr : arRight a n) (hl : a + n < us.length) (hh : us.getD a 0 % 4294967296 = (F.headD 0 : Nat)) (hc : ∀ k x, F[k]? = some x → us.getD (a + x) 0 % 4294967296 = ((F[k + 1]?).getD 0 : Nat))
    (hi : ∀ x ∈ F, 1 ≤ x ∧ x ≤ n) (hF : F.length ≤ n) :
    Calls Tryz.prog 29 #[.agg #[.int .i64 (a : Int), .int .i64 (n : Int)], .pointer (some ⟨m, 0, none⟩)] w fun e w' => ∃ fv, e = .returned (.tuple #[fv, .int .i64 0]) ∧ w'.ownsRow w.heap.size 3 1 fv F.length (nodes F) ∧ Keeps [] w w' := by
  have hlen := h.len
  have hn4 : n ≤ 4096 := by have := hr.2.1; omega
  obtain ⟨W1, hW1⟩ : ∃ W1, w.alloc (.cells #[.int .i64 (a : Int), .int .i64 (n : Int)] 28) = W1 := ⟨_, rfl⟩
  have hb : Box W1 w.heap.size #[.int .i64 (a : Int), .int .i64 (n : Int)] := by rw [← hW1]; exact Box.new _ _ _
  have hk1 : Keeps [] w W1 := by rw [← hW1]; exact (Keeps.refl _ _).alloc _
  have hm1 := h.keeps hk1 (by simp) (by simp)
  have HRe := Lib.hid (refused_any m b us a n true W1 hm1)
  rw [show arRefused a n us.length true = 0 by unfold arRefused; rw [if_pos ⟨rfl, hr⟩, if_neg (by omega)]] at HRe
  have HBe : Hid (∀ i W, i ≤ n → Keeps [] W1 W → Calls Tryz.prog 74 #[.agg #[.int .i64 (a : Int), .int .i64 (n : Int)], .pointer (some ⟨m, 0, none⟩), .int .i64 (i : Int)] W fun e w' => e = .returned (.int .i64 (us.getD (a + i) 0 % 4294967296)) ∧ Keeps [] W w') :=
    Lib.hid fun i W hin hk => behind_any m b a n i us W (hm1.keeps hk (by simp) (by simp)) (by omega)
  have c0 := hb.cells 0
  have c1 := hb.cells 1
  have HS1 := Lib.hid (show W1.heap.size = w.heap.size + 1 by rw [← hW1]; simp)
  have HB := Lib.hid hb
  have HK := Lib.hid hk1
  have HH : Hid (us.getD (a + 0) 0 % 4294967296 = ((F[0]?).getD 0 : Nat)) := Lib.hid (by rw [Nat.add_zero, hh]; cases F <;> rfl)
  have HC := Lib.hid hc
  have HI := Lib.hid hi
  clear hb hk1 hm1 h hr hh hc hi
  go_enter Tryz.func29, Tryz.ntmps29
  go_wp2_with fail
  refine HRe.out.mono ?_
  rintro e w2 ⟨rfl, k2⟩
  have hb2 := HB.out.keeps k2 (by simp)
  have e0 := hb2.cells 0
  have e1 := hb2.cells 1
  have HK2 := Lib.hid k2
  clear k2 hb2
  go_wp2_with fail
  have hB0 := HBe.out 0 w2 (Nat.zero_le _) HK2.out
  rw [show ((0 : Nat) : Int) = 0 from rfl] at hB0
  refine hB0.mono ?_
  rintro e w3 ⟨rfl, k3⟩
  have HK3 := Lib.hid (HK2.out.trans k3)
  clear k3 hB0
  rw [HH.out]
  go_wp2
  go_loopw [7, 8] (fun v i wr => ∃ k : Nat, k ≤ F.length ∧ i = .int .i64 (((F[k]?).getD 0 : Nat) : Int) ∧ wr.ownsRow W1.heap.size 3 1 v k (nodes (F.take k)) ∧ Keeps [] W1 wr) (fun v _ _ => F.length - sliceLen v)
  case atStart => exact ⟨0, Nat.zero_le _, rfl, World.ownsRow_nil _ _ _ _, HK3.out⟩
  case round =>
    obtain ⟨k, hk, rfl, hown, hkr⟩ := hrel
    have hbr := HB.out.keeps hkr (by simp)
    have x0 := hbr.cells 0
    have x1 := hbr.cells 1
    have HKr := Lib.hid hkr
    obtain ⟨pv, cv, rfl⟩ := (Sl.of_owns hown).len
    have HOwn := Lib.hid hown
    clear hbr hown
    by_cases hlt : k < F.length
    · obtain ⟨x, hx⟩ : ∃ x, F[k]? = some x := ⟨_, List.getElem?_eq_getElem hlt⟩
      obtain ⟨y1, y2⟩ := HI.out x (List.mem_of_getElem? hx)
      have hcx := HC.out k x hx
      have HX := Lib.hid hx
      rw [show (F[k]?).getD 0 = x by rw [hx]; rfl]
      have z1 : ¬ ((x : Int) = 0) := by omega
      have z2 : decide (n < x) = false := decide_eq_false (by omega)
      have z3 : ((k : Int) == (n : Int)) = false := beq_eq_false_iff_ne.2 (by omega)
      have hsz := hkr.size
      clear hx hkr
      go_wp2_with (at_builtin; refine append_fresh rfl _ _ 60 rfl W1.heap.size 3 _ 1 8 Tryz.underlying60 elemInt' _ _ _ rfl HOwn.out #[.int .i64 (x : Int)] rfl rfl (by simp [Value.oneCell']) ?c2 ?c3 ?_)
      case c2 => omega
      case c3 => exact hsz
      intro v2 w4 own4 k4 f4 ne4
      have hk4 : Keeps [] W1 w4 := HKr.out.step k4 (fun g hg => by
        have := HOwn.out.lt g ((ownBlock_toList _ _).1 hg)
        omega)
      have hb4 := HB.out.keeps hk4 (by simp)
      have u0 := hb4.cells 0
      have u1 := hb4.cells 1
      have hT : nodes (F.take k) ++ [.int .i64 (x : Int)] = nodes (F.take (k + 1)) := by
        rw [List.take_add_one, HX.out, nodes_append]; rfl
      have own5 : w4.ownsRow W1.heap.size 3 1 v2 (k + 1) (nodes (F.take (k + 1))) := by rw [← hT]; exact own4
      have HOwn5 := Lib.hid own5
      obtain ⟨pv2, cv2, rfl⟩ := (Sl.of_owns own5).len
      have HK4 := Lib.hid hk4
      have hBe := HBe.out x w4 y2 hk4
      rw [hcx] at hBe
      have HBx := Lib.hid hBe
      clear hb4 hk4 own4 own5 k4 f4 ne4 hT hBe hcx
      go_wp2_with fail
      refine HBx.out.mono ?_
      rintro e w5 ⟨rfl, k5⟩
      have HP : Hid (w5.ownsRow W1.heap.size 3 1 (.slice pv2 (k + 1) cv2) (k + 1) (nodes (F.take (k + 1))) ∧ Keeps [] W1 w5) := Lib.hid ⟨owns_keeps HOwn5.out k5 (by simp), HK4.out.trans k5⟩
      clear k5
      go_wp2
      go_roundw
      case rel => exact ⟨k + 1, by omega, rfl, HP.out.1, HP.out.2⟩
      case measure => simp [sliceLen]; omega
    · obtain rfl : k = F.length := by omega
      rw [show (F[F.length]?).getD 0 = 0 by simp]
      have HW := Lib.hid (show wr.ownsRow W1.heap.size 3 1 (.slice pv F.length cv) F.length (nodes F) by have := HOwn.out; rwa [List.take_length] at this)
      clear hkr
      go_wp2
      go_ret2
      exact ⟨_, rfl, owns_base HW.out (by have := HS1.out; omega), HK.out.trans HKr.out⟩
theorem nodup_len (n : Nat) : ∀ F : List Nat, F.Nodup → (∀ x ∈ F, 1 ≤ x ∧ x ≤ n) → F.length ≤ n := by
  induction n with
  | zero =>
    intro F _ h
    cases F with
    | nil => simp
    | cons x F => have := h x (by simp); omega
  | succ n ih =>
    intro F hd h
    have h1 := ih (F.erase (n + 1)) (hd.erase _) (fun x hx => by
      have h2 := (hd.mem_erase_iff).1 hx
      have h3 := h x h2.2
      have h4 := h2.1
      omega)
    have h2 : F.length ≤ (F.erase (n + 1)).length + 1 := by rw [List.length_erase]; split <;> omega
    omega
theorem free0_any (m b n : Nat) (us : List Int) (F : List Nat) (w : World) (h : Mem w m b us) (hl : us.length = n + 1) (h1 : 1 ≤ n) (h4 : n ≤ 4096) (hh : us.getD 0 0 % 4294967296 = (F.headD 0 : Nat)) (hc : ∀ k x, F[k]? = some x → us.getD x 0 % 4294967296 = ((F[k + 1]?).getD 0 : Nat))
    (hi : ∀ x ∈ F, 1 ≤ x ∧ x ≤ n) (hd : F.Nodup) :
    Calls Tryz.prog 29 #[.agg #[.int .i64 0, .int .i64 (n : Int)], .pointer (some ⟨m, 0, none⟩)] w fun e w' => ∃ fv, e = .returned (.tuple #[fv, .int .i64 0]) ∧ Sl w' 1 fv F.length (nodes F) ∧ Keeps [] w w' := by
  have hle : F.length ≤ n := nodup_len n F hd hi
  refine (free_any m b 0 n us F w h ⟨by omega, by omega, by decide, by omega⟩ (by omega) hh (fun k x hk => by rw [Nat.zero_add]; exact hc k x hk) hi hle).mono ?_
  rintro e w' ⟨fv, he, ho, hk⟩
  exact ⟨fv, he, Sl.of_owns ho, hk⟩
end Go.Proofs.YtejekciekcbagaaGreat
