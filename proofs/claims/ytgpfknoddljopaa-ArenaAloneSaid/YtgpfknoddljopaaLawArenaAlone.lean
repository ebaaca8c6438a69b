/-
  The law ArenaAlone of the statements holds for every input: the call returns true, and the arguments read as before.
-/
import Derived.Test.YtgpfknoddljopaaArAl
import Derived.Test.YtgpfknoddljopaaOpenA
import Derived.Test.YtgpfknoddljopaaLook
import Derived.Test.YtgpfknoddljopaaOpen
import Derived.Test.YtgpfknoddljopaaAcc
import Derived.Test.YtgpfknoddljopaaMem3
import Derived.Deep.RegionLaw
import Derived.Test.YtgpfknoddljopaaRows
import Derived.WalkKit
import Derived.ProofKit
import Derived.OpenShut
import Derived.ShutString
import Derived.ChangeOld
import Derived.Below
import Derived.Test.YtgpfknoddljopaaOpen
namespace Go.Proofs.Ytgpfknoddljopaa.arenaAlone
open Go.ChangeShapes Go.WideShapes Go.ChangeAt Go.RowKit
open Go.ChangeMaps (open_string shut_string)
set_option linter.unusedVariables false

theorem own : ownKnob Try.prog.godebug = none := by kernel_rfl
theorem laidOut : laidOutB Try.prog = true := by kernel_rfl

set_option maxHeartbeats 12800000 in
set_option maxRecDepth 200000 in
theorem walk (n : Int) (pp : Option Addr) (q cp : Nat) (ys : List Int) (w : World) (hno : (Lit.int .i64 n).wf = true) (hp : Sl w 1 (.slice pp q cp) q (ints .u8 ys)) (hq : q ≤ maxLen) (hy : ∀ y ∈ ys, (Lit.int .u8 y).wf = true) :
    Calls Try.prog 6 #[.int .i64 n, .slice pp q cp] w fun e w' => e = .returned (.bool true) ∧ Below w.heap.size w w' := by
  obtain ⟨B, hB⟩ : ∃ B, w.heap.size = B := ⟨_, rfl⟩
  rw [hB]
  have HY : Hid (∀ y ∈ ys, 0 ≤ y ∧ y < 256) := Lib.hid fun y h => by
    have := bounds_u8 (hy y h)
    omega
  have HSP := Lib.hid hp
  have HLP := Lib.hid hp.ints_len
  unfold maxLen at hq
  clear hp hy hno
  go_enter Try.func6, Try.ntmps6
  go_wp2_with fail
  refine (awake6 w).mono ?_
  rintro e w1 ⟨rfl, b1⟩
  rw [hB] at b1
  have HB1 := Lib.hid b1
  clear b1
  by_cases h3 : n < 1
  · have d3 : decide (n < 1) = true := decide_eq_true (by omega)
    go_wp2
    go_ret
    exact ⟨rfl, HB1.out⟩
  by_cases h4 : 20 < n
  · have d3 : decide (n < 1) = false := decide_eq_false (by omega)
    have d4 : decide (20 < n) = true := decide_eq_true (by omega)
    go_wp2
    go_ret
    exact ⟨rfl, HB1.out⟩
  obtain ⟨N, rfl⟩ : ∃ N : Nat, n = (N : Int) := ⟨n.toNat, by omega⟩
  have d3 : decide ((N : Int) < 1) = false := decide_eq_false (by omega)
  have d4 : decide (20 < (N : Int)) = false := decide_eq_false (by omega)
  by_cases h5 : 100 < q
  · have d5 : decide ((100 : Int) < q) = true := decide_eq_true (by omega)
    go_wp2
    go_ret
    exact ⟨rfl, HB1.out⟩
  have d5 : decide ((100 : Int) < q) = false := decide_eq_false (by omega)
  have s1 := HB1.out.size
  go_wp2_with fail
  generalize hW : World.alloc _ _ = W2
  have k2 : Keeps [] w1 W2 := by rw [← hW]; exact (Keeps.refl _ _).alloc _
  have bx : Box W2 w1.heap.size #[.int .i64 0, .int .i64 (N : Int)] := by rw [← hW]; exact Box.new _ _ _
  obtain ⟨ab, hab⟩ : ∃ ab, w1.heap.size = ab := ⟨_, rfl⟩
  rw [hab] at bx ⊢
  have HBx2 := Lib.hid bx
  have HB2 := Lib.hid (HB1.out.trans (k2.below (by omega) (by simp)))
  have hablt := HBx2.out.lt
  have s2 := HB2.out.size
  clear hW bx k2 HB1
  have NA := new_any (N + 1) W2 (by omega) (by omega)
  rw [show ((N + 1 : Nat) : Int) = (N : Int) + 1 by omega] at NA
  refine NA.mono ?_
  clear NA
  rintro e w3 ⟨m, b, rfl, hM, k3, hm, hb⟩
  have HM3 := Lib.hid hM
  have HB3 := Lib.hid (HB2.out.trans (k3.below (by omega) (by simp)))
  have HBx3 := Lib.hid (HBx2.out.keeps k3 (by simp))
  have s3 := HB3.out.size
  have hmlt := hM.lt
  have hab3 := HBx3.out.lt
  clear hM k3 HB2 HBx2
  -- the blocks that nobody writes
  obtain ⟨E, hE⟩ : ∃ E : Nat → Prop, (fun x => x < B ∨ x = ab) = E := ⟨_, rfl⟩
  have HE : Hid ((∀ k, k < B → E k) ∧ E ab ∧ ∀ k, E k → k < B ∨ k = ab) := Lib.hid (by rw [← hE]; exact ⟨fun k hk => .inl hk, .inr rfl, fun k hk => hk⟩)
  clear hE
  have LN := loomNew_any E 1 m b _ w3 HM3.out (by omega) (by omega) (fun k hk => by rcases HE.out.2.2 k hk with h | h <;> omega) (fun hk => by rcases HE.out.2.2 b hk with h | h <;> omega)
  go_wp2_with fail
  refine LN.mono ?_
  clear LN
  rintro e w4 ⟨l, g, rfl, hL4, k4⟩
  have HL4 := Lib.hid hL4
  have HBx4 := Lib.hid (HBx3.out.keeps k4 (by simp))
  have HM4 := Lib.hid (HM3.out.keeps k4 (by simp) (by simp))
  have HB4 := Lib.hid (HB3.out.trans (k4.below (by omega) (by simp)))
  have s4 := HB4.out.size
  have s34 := k4.size
  clear hL4 k4 HBx3 HM3 HB3
  have b40 := HBx4.out.cells 0
  have b41 := HBx4.out.cells 1
  simp at b40 b41
  have hl4 := HBx4.out.lt
  have NI := init0_any m b N _ w4 HM4.out (by simp) (by omega) (by omega)
  go_wp2_with fail
  refine NI.mono ?_
  clear NI
  rintro e w5 ⟨rfl, us, hM5, hus, hu0, hui, k5⟩
  have HL5 := Lib.hid (show Loom E w5 ⟨l, g, m, b, us, List.replicate 1 none, 0⟩ from HL4.out.setMem k5 hM5)
  have hbab : b ≠ ab := by omega
  have HBx5 := Lib.hid (HBx4.out.keeps k5 (by simp; exact Ne.symm hbab))
  have HB5 := Lib.hid (HB4.out.trans (k5.below (by omega) (by simp; omega)))
  have s5 := HB5.out.size
  have s45 := k5.size
  have HInv := Lib.hid (ArInv.start N 1 (by omega) (by omega) us hus hu0 hui)
  clear hM5 hus hu0 hui k5 HL4 HBx4 HM4 HB4 b40 b41
  -- the two rows
  obtain ⟨P, hP⟩ : ∃ P, w5.heap.size = P := ⟨_, rfl⟩
  obtain ⟨W7, hW7⟩ : ∃ W7, (w5.alloc (.cells #[] 3)).alloc (.cells #[] 3) = W7 := ⟨_, rfl⟩
  have k7 : Keeps [] w5 W7 := by rw [← hW7]; exact ((Keeps.refl _ _).alloc _).alloc _
  have o70 : W7.ownsRow P 3 1 (.slice (some ⟨P, 0, none⟩) 0 0) 0 (nodes []) := by
    rw [← hW7, ← hP]; exact owns_keeps (owns_empty w5 3 1) ((Keeps.refl [] _).alloc _) (by simp)
  have o71 : W7.ownsRow P 3 1 (.slice (some ⟨P + 1, 0, none⟩) 0 0) 0 (nodes []) := by
    have := owns_empty (w5.alloc (.cells #[] 3)) 3 1
    rw [hW7, show (w5.alloc (.cells #[] 3)).heap.size = P + 1 by rw [← hP]; simp] at this
    exact owns_base this (by omega)
  have hz7 : W7.heap.size = P + 2 := by rw [← hW7, ← hP]; simp
  have HK7 := Lib.hid k7
  have HO70 := Lib.hid o70
  have HO71 := Lib.hid o71
  have HPs := Lib.hid (⟨hP, hz7⟩ : _ ∧ _)
  have hPl : m < P ∧ b < P ∧ ab < P := by have := HBx5.out.lt; omega
  clear k7 o70 o71 hz7
  go_wp2
  go_loopw [10, 12] (fun v i wr => ∃ k j g' c' : Nat, k + j = N ∧ i = .int .i64 (j : Int) ∧ v = .slice (some ⟨g', 0, none⟩) k c' ∧ g' ≠ P + 1 ∧ wr.ownsRow P 3 1 v k (nodes ((List.range k).map fun x => N - x)) ∧ wr.ownsRow P 3 1 (.slice (some ⟨P + 1, 0, none⟩) 0 0) 0 (nodes []) ∧ Keeps [] w5 wr) (fun _ i _ => (intOf i).toNat)
  case atStart => exact ⟨0, N, P, 0, by omega, rfl, rfl, by omega, HO70.out, HO71.out, HK7.out⟩
  case round =>
    obtain ⟨k, j, g', c', hkj, rfl, rfl, hgP, hown, hown2, hkr⟩ := hrel
    have HKr := Lib.hid hkr
    have HOwn := Lib.hid hown
    have HOwn2 := Lib.hid hown2
    have hsz := hkr.size
    clear hown hown2 hkr
    by_cases hlt : 1 ≤ j
    · have d6 : decide ((1 : Int) ≤ (j : Int)) = true := decide_eq_true (by omega)
      go_wp2_with (at_builtin; refine append_fresh rfl _ _ 47 rfl P 3 _ 1 8 Try.underlying47 elemInt' _ _ _ rfl HOwn.out #[.int .i64 (j : Int)] rfl rfl (by simp [Value.oneCell']) ?c2 ?c3 ?_)
      case c2 => omega
      case c3 => have := HPs.out; omega
      intro v2 w8 own8 k8 f8 ne8
      have hk8 : Keeps [] w5 w8 := HKr.out.step k8 (fun g hg => by
        have := HOwn.out.lt g ((ownBlock_toList _ _).1 hg)
        have := HPs.out
        omega)
      have hT : nodes ((List.range k).map fun x => N - x) ++ [.int .i64 (j : Int)] = nodes ((List.range (k + 1)).map fun x => N - x) := by
        rw [List.range_succ, List.map_append, nodes_append, show j = N - k by omega]; rfl
      have own9 : w8.ownsRow P 3 1 v2 (k + 1) (nodes ((List.range (k + 1)).map fun x => N - x)) := by rw [← hT]; exact own8
      have ho2 : w8.ownsRow P 3 1 (.slice (some ⟨P + 1, 0, none⟩) 0 0) 0 (nodes []) := owns_keeps HOwn2.out k8 (fun g hg => by
        simp [Value.ownBlock] at hg ⊢; omega)
      have hP1 : P + 1 < wr.heap.size := (HOwn2.out.lt (P + 1) rfl).2
      have hf8 : ∀ g, v2.ownBlock = some g → g ≠ P + 1 := fun g hg he => by
        rcases f8 g hg with h | h
        · simp [Value.ownBlock] at h; omega
        · omega
      obtain ⟨g9, c9, rfl, -⟩ := owns_at' own9 ne8
      have HQ : Hid (g9 ≠ P + 1 ∧ w8.ownsRow P 3 1 (.slice (some ⟨g9, 0, none⟩) (k + 1) c9) (k + 1) (nodes ((List.range (k + 1)).map fun x => N - x)) ∧ w8.ownsRow P 3 1 (.slice (some ⟨P + 1, 0, none⟩) 0 0) 0 (nodes []) ∧ Keeps [] w5 w8) := Lib.hid ⟨hf8 g9 rfl, own9, ho2, hk8⟩
      clear own8 k8 f8 ne8 hk8 hT own9 ho2 hP1 hf8
      obtain ⟨jj, hjj⟩ : ∃ jj, j = jj + 1 := ⟨j - 1, by omega⟩
      have HJ := Lib.hid hjj
      have hj1 : (j : Int) - 1 = (jj : Int) := by omega
      clear hjj
      go_wp2
      go_roundw
      case rel => exact ⟨k + 1, jj, g9, c9, by have := HJ.out; omega, by first | rfl | go_num, rfl, HQ.out⟩
      case measure => have := HJ.out; simp [intOf]; omega
    · obtain rfl : j = 0 := by omega
      rw [show ((0 : Nat) : Int) = 0 from rfl]
      obtain rfl : N = k := by omega
      have hrows : wr.ownsRow P 3 1 (.slice (some ⟨g', 0, none⟩) N c') (List.range' 1 N).length (nodes (List.range' 1 N).reverse) := by
        rw [range_down, List.length_range']; exact HOwn.out
      have hlow : (∀ x, E x → x < P) ∧ m < P := ⟨fun x hx => by rcases HE.out.2.2 x hx with h | h <;> omega, by omega⟩
      have hr2 := hrows.lt g' rfl
      have hr3 := HOwn2.out.lt (P + 1) rfl
      have hSolo : Solo E l g m b N P wr (.slice (some ⟨g', 0, none⟩) N c') (.slice (some ⟨P + 1, 0, none⟩) 0 0) ⟨l, g, m, b, us, List.replicate 1 none, 0⟩ (fun _ => none) (fun _ => []) 0 (List.range' 1 N) :=
        ⟨HL5.out.widen HKr.out (fun x hx => by
          rcases hx with hx | hx
          · exact .inl hx
          · simp [Value.ownBlock] at hx
            have := HPs.out
            right
            omega), ⟨rfl, rfl, rfl, rfl, by simp, fun i hi => ⟨none, by simp [hi], rfl⟩, HInv.out⟩, rfl, hrows, HOwn2.out, fun gg h1 h2 => by simp [Value.ownBlock] at h1 h2; omega, hlow⟩
      have HSolo := Lib.hid hSolo
      have HBV := Lib.hid (HB5.out.trans (HKr.out.below (by omega) (by simp)))
      have HBxV := Lib.hid (HBx5.out.keeps HKr.out (by simp))
      have hWl := HBV.out.size
      clear hrows hr2 hr3 hSolo hlow
      rename World => V
      have HEV := Lib.hid (show ∀ x, E x → x < V.heap.size from fun x hx => by
        have := HSolo.out.low.1 x hx
        have := HSolo.out.own g' (by simp [Value.ownBlock])
        omega)
      go_wp2
      go_loopw [10, 11, 13] (fun fv hv i wr => ∃ kk : Nat, kk ≤ q ∧ i = .int .i64 (kk : Int) ∧ Held E V wr ∧ ∃ (L : LSt) (ss : Nat → Option ArS) (hs : Nat → List Nat) (tag : Nat) (F : List Nat),
        Solo E l g m b N P wr fv hv L ss hs tag F ∧ tag ≤ 3 * kk ∧ L.steps ≤ 3 * kk) (fun _ _ i _ => q - (intOf i).toNat)
      case atStart => exact ⟨0, Nat.zero_le _, rfl, Held.refl _ _, _, _, _, 0, _, HSolo.out, Nat.le_refl _, Nat.le_refl _⟩
      case round =>
        obtain ⟨kk, hkq, rfl, hh, L, ss, hs, tag, F, hS, htag, hst⟩ := hrel
        have HSr := Lib.hid hS
        have HHr := Lib.hid hh
        have HBr := Lib.hid (HBV.out.trans (Held.below (hh.narrow (E := (· < B)) (fun k hk => HE.out.1 k hk))))
        have hbx := HBxV.out.block hh.size (hh.block ab HE.out.2.1)
        have b0 := hbx.cells 0
        have b1 := hbx.cells 1
        have hbl := hbx.lt
        simp at b0 b1
        have HBxr := Lib.hid hbx
        obtain ⟨pf, cf, rfl⟩ := (Sl.of_owns hS.free).len
        obtain ⟨ph, ch, rfl⟩ := (Sl.of_owns hS.had).len
        have hsw := HBr.out.size
        clear hS hh hbx
        by_cases hlt : kk < q
        · have hsl := HSP.out.below HBr.out (by omega)
          obtain ⟨pb2, po, pc, he, hpb2, hpc⟩ := hsl.some (by omega)
          cases he
          have hkz : kk < ys.length := by rw [HLP.out]; exact hlt
          have ay := hpc kk _ (ints_at (k := .u8) hkz)
          have hyb := HY.out (ys.getD kk 0) (by rw [List.getD, List.getElem?_eq_getElem hkz]; exact List.getElem_mem hkz)
          obtain ⟨y, hy⟩ : ∃ y, ys.getD kk 0 = y := ⟨_, rfl⟩
          rw [hy] at ay hyb
          obtain ⟨yn, rfl⟩ : ∃ yn : Nat, y = (yn : Int) := ⟨y.toNat, by omega⟩
          have hkq2 : (kk : Int) < (q : Int) := by omega
          obtain ⟨ln, hln⟩ : ∃ ln, (hs 0).length = ln := ⟨_, rfl⟩
          have HLn := Lib.hid hln
          rw [hln] at HSr ⊢
          obtain ⟨fl, hfl⟩ : ∃ fl, F.length = fl := ⟨_, rfl⟩
          have HFl := Lib.hid hfl
          rw [hfl] at HSr ⊢
          clear hpc hsl hy hln hfl
          have hno := Lib.hid (flies_no HSr.out.fly)
          obtain ⟨o, ho, hbo⟩ := HSr.out.ar.busy (who := 0) (by omega)
          rw [HSr.out.fly] at hbo
          have HO := Lib.hid (⟨ho, hbo⟩ : _ ∧ _)
          clear ho hbo
          have hN20 : N ≤ 20 := by omega
          have hN1 : 1 ≤ N := by omega
          have hq100 : q ≤ 100 := by omega
          have hsum : ln ≤ N ∧ fl ≤ N := by
            have h1 := HSr.out.ar.inv.lack
            have h2 := sumN_one (fun i => (hs i).length) (i := 0) (n := 1) (by omega)
            have h3 := HLn.out
            have h4 := HFl.out
            have h2' : (hs 0).length ≤ sumN (fun i => (hs i).length) 1 := h2
            omega
          obtain ⟨hln20, hfl20⟩ := hsum
          by_cases hP : 128 ≤ yn ∧ 0 < ln
          · obtain ⟨h128, hl0⟩ := hP
            obtain ⟨ix, hix⟩ : ∃ ix, yn % ln = ix := ⟨_, rfl⟩
            have hixl : ix < ln := by rw [← hix]; exact Nat.mod_lt _ hl0
            have hmod : (yn : Int) % (ln : Int) = (ix : Int) := by rw [← hix]; exact (Int.natCast_emod _ _).symm
            obtain ⟨gh, hgh, hcap1, hcap2⟩ : ∃ gh, ph = some ⟨gh, 0, none⟩ ∧ ln ≤ ch ∧ ch ≤ maxLen := by
              have hh := HSr.out.had
              rw [HLn.out] at hh
              rcases hh.2 with ⟨he, -⟩ | ⟨g0, cap0, cur, he, -, -, h1, h2, -⟩
              · cases he; omega
              · cases he; exact ⟨_, rfl, h1, h2⟩
            subst hgh
            unfold maxLen at hcap2
            obtain ⟨x, hx⟩ : ∃ x, (hs 0).getD ix 0 = x := ⟨_, rfl⟩
            have hxl : ix < (hs 0).length := by rw [HLn.out]; exact hixl
            have hsplit : hs 0 = (hs 0).take ix ++ x :: (hs 0).drop (ix + 1) := by
              have h1 : hs 0 = (hs 0).take ix ++ (hs 0).drop ix := (List.take_append_drop _ _).symm
              have h2 : (hs 0).drop ix = x :: (hs 0).drop (ix + 1) := by
                rw [List.drop_eq_getElem_cons hxl]
                rw [List.getD, List.getElem?_eq_getElem hxl] at hx
                simp at hx
                rw [hx]
              rw [h2] at h1
              exact h1
            obtain ⟨x1, x2, hinv⟩ := HSr.out.ar.inv.put (who := 0) (by omega) hno.out _ _ _ hsplit
            have HInvP := Lib.hid hinv
            have hax : ∀ W : World, W.ownsRow P 3 1 (.slice (some ⟨gh, 0, none⟩) ln ch) (hs 0).length (nodes (hs 0)) → W.cell? ⟨gh, ix, none⟩ = some (.int .i64 (x : Int)) := fun W h => by
              have h1 := h
              rw [HLn.out] at h1
              have := (Row.of_owns h1).cell (nodes_at hxl)
              rw [hx] at this
              exact this
            have HAx := Lib.hid hax
            have d128 : decide ((128 : Int) ≤ (yn : Int)) = true := decide_eq_true (by omega)
            have dl0 : decide ((0 : Int) < (ln : Int)) = true := decide_eq_true (by omega)
            have iil : (ix : Int) < (ln : Int) := by omega
            have hyw : IntKind.i64.wrap (yn : Int) = (yn : Int) := IntWalk.i64_in _ (by omega)
            clear hix hx hxl hsplit hinv hax
            go_wp2_with fail
            refine (take_any 0 N wr).mono ?_
            rintro e w2 ⟨t0, S0, rfl, -, -, k2, -⟩
            have HS2 := Lib.hid (HSr.out.keeps k2)
            have HH2 := Lib.hid (HHr.out.trans (k2.held (fun k hk => HSr.out.loom.dom k (.inl hk)) (by simp)))
            have hbx2 := HBxr.out.keeps k2 (by simp)
            have b20 := hbx2.cells 0
            have b21 := hbx2.cells 1
            simp at b20 b21
            have hbl2 := hbx2.lt
            have ay2 := (k2.cell (p := ⟨pb2, po + kk, none⟩) hpb2 (by simp)).trans ay
            have ax2 := HAx.out w2 HS2.out.had
            clear k2 hbx2
            go_wp2_with fail
            rw [hmod]
            refine wp_region_mid 5 (by kernel_rfl) (by kernel_rfl) ?_
            simp only [List.take_succ_cons, List.take_zero, List.drop_succ_cons, List.drop_zero]
            repeat still_step
            refine wpStill_nil ?_
            go_wp2_with fail
            refine (put_any 0 N x w2.drew).mono ?_
            rintro e w3' ⟨t, S, rfl, ht, hI, k3', hS3⟩
            have k3 : Keeps [] w2 w3' := k3'.undrew
            have hAb := HS2.out.ar.begun ht HInvP.out
            obtain ⟨M, s', tag', t1, t2, t3, hA3, hAR⟩ := hAb.soloPut (who := 0) (most := 9) (y := x) (by omega) (updO_same _ _ _) ⟨x1, x2⟩ (by omega) (by omega) (show L.steps ≤ _ by omega) (by omega) (by omega)
            have hSt := start_at _ L 0 o t S w2 w3' HS2.out.loom k3 HO.out.1 HO.out.2 hI hS3
            obtain ⟨D, hD⟩ : ∃ D : Nat → Prop, (fun z => E z ∨ z ∈ (Value.slice pf fl cf).ownBlock.toList ++ (Value.slice (some ⟨gh, 0, none⟩) ln ch).ownBlock.toList) = D := ⟨_, rfl⟩
            obtain ⟨L1, hL1⟩ : ∃ L1, ({ L with ts := L.ts.set 0 (some t) } : LSt) = L1 := ⟨_, rfl⟩
            have hLo2 := HS2.out.loom
            rw [hD] at hSt hLo2
            rw [hL1] at hSt
            rw [HS2.out.ar.l] at hSt
            have hAl := hAR.1 D
            have hRe := hAR.2 D
            rw [hL1] at hAl
            have HSt := Lib.hid hSt
            have HAl := Lib.hid hAl
            have HRe := Lib.hid hRe
            have HD := Lib.hid hD
            have HGL := Lib.hid (show ∀ k ∈ [L.g], ¬ D k from fun k hk => by simp at hk; subst hk; exact hLo2.base.2.1)
            have HDm := Lib.hid (show ∀ k, D k → k < w3'.heap.size from fun k hk => Nat.lt_of_lt_of_le (hLo2.dom k hk) k3.size)
            have HH3 := Lib.hid (show Held D w2 w3' from k3.held (fun k hk => hLo2.dom k hk) (by simp))
            have HNew := Lib.hid (⟨hA3, t3, t1, t2⟩ : _ ∧ _ ∧ _ ∧ _)
            clear ht hI k3' hS3 k3 hAb t1 t2 t3 hA3 hAR hSt hAl hRe hD hL1 hLo2 b20 b21 ay2 ax2 ay b0 b1
            go_wp2
            show wpStill _ _ _ _ _ _
            repeat still_step
            refine wpStill_nil ?_
            go_wp2_with fail
            refine HSt.out.mono ?_
            rintro e w4' ⟨rfl, hL4, k4⟩
            have HL4' := Lib.hid hL4
            have HH4 := Lib.hid (HH3.out.trans (k4.held HDm.out HGL.out))
            have s4' := k4.size
            clear hL4 k4
            go_wp2_with fail
            refine (HAl.out w4' HL4'.out).mono ?_
            rintro e w5' ⟨rfl, hL5, hh5⟩
            have HL5' := Lib.hid hL5
            have HH5 := Lib.hid (HH4.out.trans hh5)
            have s5' := hh5.size
            clear hL5 hh5
            go_wp2_with fail
            refine (HRe.out w5' HL5'.out).mono ?_
            rintro e w6' ⟨qr, cr, rfl, k6⟩
            obtain ⟨W8, hW8⟩ : ∃ W8, w6'.alloc (.cells #[.int .i64 0, .int .u64 0, .slice qr 0 cr] 66) = W8 := ⟨_, rfl⟩
            have k8 : Keeps [] w6' W8 := by rw [← hW8]; exact (Keeps.refl _ _).alloc _
            have r8 : Row W8 w6'.heap.size 66 [.int .i64 0, .int .u64 0, .slice qr 0 cr] := by rw [← hW8]; exact Row.new _ _ _
            have hL8 := (HL5'.out.keeps k6).keeps k8
            have hh8 := HH5.out.trans ((k6.trans k8).held (fun k hk => HL5'.out.dom k hk) (by simp))
            have hrows := HS2.out.rows (by rw [HD.out]; exact hh8)
            have ax8 := HAx.out W8 hrows.2
            have HR8 := Lib.hid r8
            have HL8 := Lib.hid hL8
            have HH8 := Lib.hid hh8
            have HRows := Lib.hid hrows
            have hr8lt := r8.lt
            have c0 := r8.cell (j := 0) rfl
            have c1 := r8.cell (j := 1) rfl
            have hgh8 := (hrows.2.lt gh rfl).2
            have hszs : w3'.heap.size ≤ w6'.heap.size := by
              have := s4'; have := s5'; have := k6.size; omega
            have HApart := Lib.hid HS2.out.apart
            have hPg : P ≤ gh := (hrows.2.lt gh rfl).1
            have hFN : F.length ≤ N := by rw [HFl.out]; exact hfl20
            clear k6 k8 r8 hL8 hh8 hrows s4' s5'
            go_wp2_with (at_builtin; refine append_fresh rfl _ _ 47 rfl P 3 _ 1 8 Try.underlying47 elemInt' _ _ _ rfl HRows.out.1 #[.int .i64 (x : Int)] rfl rfl (by simp [Value.oneCell']) ?c2 ?c3 ?_)
            case c2 => omega
            case c3 => omega
            intro v9 w9 own9 k9 f9 ne9
            have hfvl : ∀ z, (Value.slice pf fl cf).ownBlock = some z → z < w3'.heap.size ∧ z ≠ gh := fun z hz => by
              refine ⟨HDm.out z (by rw [← HD.out]; exact .inr (List.mem_append_left _ ((ownBlock_toList _ _).2 hz))), fun he => HApart.out z hz (by rw [he]; rfl)⟩
            have own9' : w9.ownsRow P 3 1 v9 (x :: F).length (nodes (x :: F).reverse) := by
              rw [List.reverse_cons, nodes_append]; exact own9
            obtain ⟨g9, c9, rfl, hPg9⟩ := owns_at' own9' ne9
            have had9 := owns_keeps HRows.out.2 k9 (fun z hz => by
              simp [Value.ownBlock] at hz
              subst hz
              intro hm
              exact (hfvl _ ((ownBlock_toList _ _).1 hm)).2 rfl)
            have hbxn : w6'.heap.size ∉ (Value.slice pf fl cf).ownBlock.toList := fun hm => by
              have := (hfvl _ ((ownBlock_toList _ _).1 hm)).1
              omega
            have c09 := (k9.cell (p := ⟨w6'.heap.size, 0, none⟩) hr8lt hbxn).trans c0
            have c19 := (k9.cell (p := ⟨w6'.heap.size, 1, none⟩) hr8lt hbxn).trans c1
            have hs89 := k9.size
            have hgh9 : gh < w9.heap.size := by omega
            have hg9 : g9 < w9.heap.size := (own9'.lt g9 rfl).2
            have HOwn9 := Lib.hid own9'
            have HHad9 := Lib.hid had9
            have HK9 := Lib.hid k9
            have HF9 := Lib.hid (show ∀ z, (Value.slice (some ⟨g9, 0, none⟩) (F.length + 1) c9).ownBlock = some z → (Value.slice pf fl cf).ownBlock = some z ∨ W8.heap.size ≤ z from f9)
            -- the rest of the row, in new blocks
            obtain ⟨Wl, hWl9⟩ : ∃ Wl, w9.drew.alloc (.cells #[] 3) = Wl := ⟨_, rfl⟩
            have kl : Keeps [] w9 Wl := by rw [← hWl9]; exact ((Keeps.refl [] w9).drew).alloc _
            have HLit : Hid (Wl.ownsRow P 3 1 (.slice (some ⟨w9.heap.size, 0, none⟩) 0 0) 0 (nodes [])) := Lib.hid (by
              rw [← hWl9]; exact owns_base (owns_empty w9.drew 3 1) (by show P ≤ w9.heap.size; omega))
            have hadl := owns_keeps had9 kl (by simp)
            rw [HLn.out] at hadl
            have HA : Hid (Sl Wl 1 (.slice (some ⟨gh, 0, none⟩) ix ch) ix (nodes ((hs 0).take ix))) := Lib.hid (by
              have := Sl.of_owns (owns_cut hadl (Nat.le_of_lt hixl))
              rw [Nat.mul_one] at this
              rw [nodes_take] at this
              exact this)
            have HT : Hid (∀ W, Keeps [w9.heap.size] Wl W → Sl W 1 (.slice (some ⟨gh, ix + 1, none⟩) (ln - (ix + 1)) (ch - (ix + 1))) (ln - (ix + 1)) (nodes ((hs 0).drop (ix + 1)))) := Lib.hid fun W hk => by
              have hr := (Row.of_owns hadl).keeps hk (by simp; omega)
              refine ⟨by rw [nodes_length, List.length_drop, HLn.out]; omega, .inr ⟨gh, ix + 1, _, rfl, hr.lt, fun j u hu => ?_⟩⟩
              refine hr.cell ?_
              rw [← nodes_drop, List.getElem?_drop] at hu
              exact hu
            have HKl := Lib.hid kl
            have hwl : Wl.heap.size = w9.heap.size + 1 := by rw [← hWl9]; simp
            have HWl := Lib.hid hwl
            have i1 : (ix : Int) ≤ (ch : Int) := by omega
            have i2 : (ix : Int) + 1 ≤ (ln : Int) := by omega
            have i3 : (ln : Int) ≤ (ch : Int) := by omega
            have i4 : ix ≤ ch := by omega
            have i5 : ix + 1 ≤ ln := by omega
            have hPl9 : P ≤ Wl.heap.size := by omega
            clear own9 own9' k9 f9 ne9 had9 hadl kl hfvl hwl c0 c1 ax8
            go_wp2_with fail
            have hwx : IntKind.i64.wrap ((ix : Int) + 1) = (ix : Int) + 1 := IntWalk.i64_in _ (by omega)
            have htn : ((ix : Int) + 1).toNat = ix + 1 := by omega
            have i6 : (0 : Int) ≤ (ix : Int) + 1 := by omega
            have HT0 : Hid (ch = ix + 1 → ∀ W : World, Sl W 1 (.slice (some ⟨gh, 0, none⟩) (ln - (ix + 1)) (ch - (ix + 1))) (ln - (ix + 1)) (nodes ((hs 0).drop (ix + 1)))) := Lib.hid fun hce W => by
              have h0 : ln - (ix + 1) = 0 := by omega
              rw [h0]
              refine ⟨by rw [nodes_length, List.length_drop, HLn.out]; omega, .inl ⟨_, _, rfl, rfl⟩⟩
            by_cases hce : ch = ix + 1
            case' pos =>
              have HCE := Lib.hid hce
              have hcb : (ch = ix + 1) = True := eq_true hce
              clear hce
            case' neg =>
              have HCE := Lib.hid (trivial : True)
              have hcb : (ch = ix + 1) = False := eq_false hce
              clear hce
            all_goals
              go_region_law (first
                | (have _q := q10; refine step_append_sl (by rfl) _ _ 47 (by rfl) P 3 _ 1 8 Try.underlying47 elemInt' _ (0 + ix) _ (by rfl) q10 _ (ln - (ix + 1)) (nodes ((hs 0).drop (ix + 1))) (by rfl) (by first | exact HT.out w10 (by simpa [Value.ownBlock] using k10) | exact HT0.out HCE.out w10) (fun u hu => ints_oneCell .i64 _ u hu) (by omega) hs10 ?_; intro v11 w11 q11 k11 f11 ne11)
                | (refine step_append_sl (by rfl) _ _ 47 (by rfl) P 3 _ 1 8 Try.underlying47 elemInt' _ 0 (nodes []) (by rfl) HLit.out _ ix (nodes ((hs 0).take ix)) (by rfl) HA.out (fun u hu => ints_oneCell .i64 _ u hu) (by omega) hPl9 ?_; intro v10 w10 q10 k10 f10 ne10; have hs10 : P ≤ w10.heap.size := Nat.le_trans hPl9 k10.size))
            all_goals
              have kk10 : Keeps [] w9 w10 := HKl.out.step k10 (fun z hz => by simp [Value.ownBlock] at hz; omega)
              have ho10 : ∀ z, v10.ownBlock = some z → w9.heap.size ≤ z := fun z hz => by
                have hw := HWl.out
                rcases f10 z hz with h | h
                · simp [Value.ownBlock] at h; omega
                · omega
              have kk11 : Keeps [] w9 w11 := kk10.step k11 (fun z hz => ho10 z ((ownBlock_toList _ _).1 hz))
              have ho11 : ∀ z, v11.ownBlock = some z → w9.heap.size ≤ z := fun z hz => by
                rcases f11 z hz with h | h
                · exact ho10 z h
                · have := kk10.size; omega
              have had' : w11.ownsRow P 3 1 v11 (updL hs 0 ((hs 0).take ix ++ (hs 0).drop (ix + 1)) 0).length (nodes (updL hs 0 ((hs 0).take ix ++ (hs 0).drop (ix + 1)) 0)) := by
                have hll := HLn.out
                rw [updL_same, nodes_append, show ((hs 0).take ix ++ (hs 0).drop (ix + 1)).length = 0 + ix + (ln - (ix + 1)) by simp only [List.length_append, List.length_take, List.length_drop]; omega]
                exact q11
              have hnx := Solo.next (E := E) (l := l) (g := g) (m := m) (b := b) (n := N) (P := P) (fv := .slice pf fl cf) (hv := .slice (some ⟨gh, 0, none⟩) ln ch) (fv' := .slice (some ⟨g9, 0, none⟩) (F.length + 1) c9) (hv' := v11) (W := W8) (w' := w11) (F' := x :: F) (X := (Value.slice pf fl cf).ownBlock.toList) (by have := HL8.out; rw [← HD.out] at this; exact this) HNew.out.1 (by rw [updO_same]; exact HNew.out.2.1)
                (fun z hz => List.mem_append_left _ hz) (HK9.out.trans (kk11.mono (by simp))) (fun z hz => (HS2.out.own z hz).1) (owns_keeps HOwn9.out kk11 (by simp)) had'
                (fun z hz => by
                  rcases hz with hz | hz
                  · rcases HF9.out z hz with h | h
                    · exact .inl (List.mem_append_left _ ((ownBlock_toList _ _).2 h))
                    · exact .inr h
                  · have := ho11 z hz; exact .inr (by omega))
                (fun z h1 h2 => by
                  have := ho11 z h2
                  simp [Value.ownBlock] at h1
                  omega) HS2.out.low
              have HNx := Lib.hid hnx
              have HHf := Lib.hid ((HH2.out.trans (HH8.out.narrow (fun z hz => by rw [← HD.out]; exact .inl hz))).trans hnx.1)
              have c0f := (kk11.cell (p := ⟨w6'.heap.size, 0, none⟩) (show w6'.heap.size < _ by omega) (by simp)).trans c09
              have c1f := (kk11.cell (p := ⟨w6'.heap.size, 1, none⟩) (show w6'.heap.size < _ by omega) (by simp)).trans c19
              have hrlf : w6'.heap.size < w11.heap.size := by have := kk11.size; omega
              have hstM : M.steps ≤ L.steps + 3 := HNew.out.2.2.2
              have htgM : tag' ≤ tag + 3 := HNew.out.2.2.1
              clear kk10 ho10 kk11 ho11 had' hnx q10 q11 k10 k11 f10 f11 ne10 ne11 c09 c19
              go_wp2
              go_roundw
              case rel => exact ⟨kk + 1, by omega, by go_num, HHf.out, M, _, _, tag', _, HNx.out.2, by omega, by omega⟩
              case measure => simp [intOf]; omega
          · have hno2 : Hid (decide ((128 : Int) ≤ (yn : Int)) = false ∨ decide ((128 : Int) ≤ (yn : Int)) = true ∧ decide (0 < ln) = false) := Lib.hid (by
              by_cases h : 128 ≤ yn
              · exact .inr ⟨decide_eq_true (by omega), decide_eq_false (by omega)⟩
              · exact .inl (decide_eq_false (by omega)))
            have HInvT := Lib.hid (HSr.out.ar.inv.take (who := 0) (by omega) hno.out hN1)
            have ayH := Lib.hid ay
            clear hP
            rcases hno2.out with d128 | ⟨d128, dl0⟩
            all_goals
              go_wp2_with fail
              refine (take_any 0 N wr).mono ?_
              rintro e w3' ⟨t, S, rfl, ht, hI, k3, hS3⟩
              have hAb := HSr.out.ar.begun ht HInvT.out
              obtain ⟨M, s', tag', has', t1, t2, t3, hA3, hhas, hAR⟩ := hAb.soloTake (who := 0) (most := 9) (by omega) (updO_same _ _ _) hN1 (by omega) (by omega) (show L.steps ≤ _ by omega) (by omega) (by omega)
              have hSt := start_at _ L 0 o t S wr w3' HSr.out.loom k3 HO.out.1 HO.out.2 hI hS3
              obtain ⟨D, hD⟩ : ∃ D : Nat → Prop, (fun z => E z ∨ z ∈ (Value.slice pf fl cf).ownBlock.toList ++ (Value.slice ph ln ch).ownBlock.toList) = D := ⟨_, rfl⟩
              obtain ⟨L1, hL1⟩ : ∃ L1, ({ L with ts := L.ts.set 0 (some t) } : LSt) = L1 := ⟨_, rfl⟩
              have hLo2 := HSr.out.loom
              rw [hD] at hSt hLo2
              rw [hL1] at hSt
              rw [HSr.out.ar.l] at hSt
              have hAl := hAR.1 D
              have hRe := hAR.2 D
              rw [hL1] at hAl
              obtain ⟨cd, hcd⟩ : ∃ cd : Int, (if F = [] then 7 else 0) = cd := ⟨_, rfl⟩
              obtain ⟨dd, hdd⟩ : ∃ dd : Nat, (if F = [] then 1 else 3) = dd := ⟨_, rfl⟩
              obtain ⟨y0, hy0⟩ : ∃ y0, F.headD 0 = y0 := ⟨_, rfl⟩
              rw [hcd, hy0] at hRe
              rw [hdd] at hAl
              have HFc : Hid ((F = [] ∧ cd = 7 ∧ dd = 1) ∨ (∃ F', F = y0 :: F' ∧ cd = 0 ∧ dd = 3)) := Lib.hid (by
                cases F with
                | nil => left; simp at hcd hdd; exact ⟨rfl, hcd.symm, hdd.symm⟩
                | cons z F' => right; simp at hcd hdd hy0; exact ⟨F', by rw [hy0], hcd.symm, hdd.symm⟩)
              have HSt := Lib.hid hSt
              have HAl := Lib.hid hAl
              have HRe := Lib.hid hRe
              have HD := Lib.hid hD
              have HGL := Lib.hid (show ∀ k ∈ [L.g], ¬ D k from fun k hk => by simp at hk; subst hk; exact hLo2.base.2.1)
              have HDm := Lib.hid (show ∀ k, D k → k < w3'.heap.size from fun k hk => Nat.lt_of_lt_of_le (hLo2.dom k hk) k3.size)
              have HH3 := Lib.hid (show Held D wr w3' from k3.held (fun k hk => hLo2.dom k hk) (by simp))
              have HNew := Lib.hid (⟨hA3, t3, t1, t2, hhas⟩ : _ ∧ _ ∧ _ ∧ _ ∧ _)
              clear ht hI hS3 k3 hAb t1 t2 t3 hA3 hAR hSt hAl hRe hD hL1 hLo2 hcd hdd hy0 hhas b0 b1
              go_wp2_with fail
              refine HSt.out.mono ?_
              rintro e w4' ⟨rfl, hL4, k4⟩
              have HL4' := Lib.hid hL4
              have HH4 := Lib.hid (HH3.out.trans (k4.held HDm.out HGL.out))
              have s4' := k4.size
              clear hL4 k4
              go_wp2_with fail
              refine (HAl.out w4' HL4'.out).mono ?_
              rintro e w5' ⟨rfl, hL5, hh5⟩
              have HL5' := Lib.hid hL5
              have HH5 := Lib.hid (HH4.out.trans hh5)
              have s5' := hh5.size
              clear hL5 hh5
              go_wp2_with fail
              refine (HRe.out w5' HL5'.out).mono ?_
              rintro e w6' ⟨qr, cr, rfl, k6⟩
              obtain ⟨W8, hW8⟩ : ∃ W8, w6'.alloc (.cells #[.int .i64 cd, .int .u64 (y0 : Int), .slice qr 0 cr] 66) = W8 := ⟨_, rfl⟩
              have k8 : Keeps [] w6' W8 := by rw [← hW8]; exact (Keeps.refl _ _).alloc _
              have r8 : Row W8 w6'.heap.size 66 [.int .i64 cd, .int .u64 (y0 : Int), .slice qr 0 cr] := by rw [← hW8]; exact Row.new _ _ _
              have hL8 := (HL5'.out.keeps k6).keeps k8
              have hh8 := HH5.out.trans ((k6.trans k8).held (fun k hk => HL5'.out.dom k hk) (by simp))
              have hrows := HSr.out.rows (by rw [HD.out]; exact hh8)
              have HL8 := Lib.hid hL8
              have HH8 := Lib.hid hh8
              have HRows := Lib.hid hrows
              have hr8lt := r8.lt
              have c0 := r8.cell (j := 0) rfl
              have c1 := r8.cell (j := 1) rfl
              have hszs : w3'.heap.size ≤ w6'.heap.size := by
                have := k6.size; omega
              have hstM : M.steps ≤ L.steps + 3 := HNew.out.2.2.2.1
              have htgM : tag' ≤ tag + 3 := HNew.out.2.2.1
              have hPW8 : P ≤ W8.heap.size := by
                have h1 := HSr.out.low.2
                have h2 := HL8.out.mem.lt.1
                rw [HNew.out.1.m] at h2
                have h3 := HSolo.out.own (P + 1) (by simp [Value.ownBlock])
                have h4 := HHr.out.size
                have h5 := HH8.out.size
                omega
              clear k6 k8 r8 hL8 hh8 hrows s4' s5'
              rcases HFc.out with ⟨hF, rfl, rfl⟩ | ⟨F', hF, rfl, rfl⟩
              · have hfl0 : fl = 0 := by rw [← HFl.out, hF]; rfl
                have HF0 := Lib.hid hF
                have HFl0 := Lib.hid hfl0
                have hflz : ((fl : Int) == 0) = true := beq_iff_eq.2 (by omega)
                clear hF hfl0
                have hnx := Solo.next (E := E) (l := l) (g := g) (m := m) (b := b) (n := N) (P := P) (fv := .slice pf fl cf) (hv := .slice ph ln ch) (fv' := .slice pf fl cf) (hv' := .slice ph ln ch) (W := W8) (w' := W8) (F' := F.tail) (X := []) (by have := HL8.out; rw [← HD.out] at this; exact this) HNew.out.1 (by rw [updO_same]; exact HNew.out.2.1)
                  (by simp) (Keeps.refl _ _) (fun z hz => (HSr.out.own z hz).1) (by have := HRows.out.1; rw [HF0.out] at this ⊢; exact this) (by rw [HNew.out.2.2.2.2, HF0.out]; simpa using HRows.out.2)
                  (fun z hz => by
                    rcases hz with hz | hz
                    · exact .inl (List.mem_append_left _ ((ownBlock_toList _ _).2 hz))
                    · exact .inl (List.mem_append_right _ ((ownBlock_toList _ _).2 hz)))
                  HSr.out.apart HSr.out.low
                have HNx := Lib.hid hnx
                have HHf := Lib.hid ((HHr.out.trans (HH8.out.narrow (fun z hz => by rw [← HD.out]; exact .inl hz))).trans hnx.1)
                clear hnx
                go_wp2
                go_roundw
                case rel => exact ⟨kk + 1, by omega, by go_num, HHf.out, M, _, _, tag', _, HNx.out.2, by omega, by omega⟩
                case measure => simp [intOf]; omega
              · have hfl1 : fl = F'.length + 1 := by rw [← HFl.out, hF]; rfl
                obtain ⟨f1, hf1⟩ : ∃ f1, F'.length = f1 := ⟨_, rfl⟩
                obtain ⟨gf, hgf, hcf1, hcf2⟩ : ∃ gf, pf = some ⟨gf, 0, none⟩ ∧ fl ≤ cf ∧ cf ≤ maxLen := by
                  have hh := HSr.out.free
                  rw [HFl.out] at hh
                  rcases hh.2 with ⟨he, -⟩ | ⟨g0, cap0, cur, he, -, -, h1, h2, -⟩
                  · cases he; omega
                  · cases he; exact ⟨_, rfl, h1, h2⟩
                subst hgf
                unfold maxLen at hcf2
                have hy0 : 1 ≤ y0 ∧ y0 ≤ N := HSr.out.ar.inv.free (x := y0) (by rw [hF]; simp)
                have hfree := HRows.out.1
                rw [HFl.out] at hfree
                have hrev : F.reverse = F'.reverse ++ [y0] := by rw [hF, List.reverse_cons]
                have ax := (Row.of_owns hfree).cell (nodes_at (l := F.reverse) (j := f1) (by rw [List.length_reverse, HFl.out]; omega))
                have hgx : F.reverse.getD f1 0 = y0 := by
                  rw [hrev, List.getD, List.getElem?_append_right (by rw [List.length_reverse]; omega), List.length_reverse, hf1]; simp
                rw [hgx] at ax
                have hcut : W8.ownsRow P 3 1 (.slice (some ⟨gf, 0, none⟩) f1 cf) f1 (nodes F'.reverse) := by
                  have := owns_cut hfree (m := f1) (by omega)
                  rw [Nat.mul_one, nodes_take, hrev, List.take_left' (by rw [List.length_reverse, hf1])] at this
                  exact this
                have HCut := Lib.hid hcut
                have HF0 := Lib.hid hF
                have HFl0 := Lib.hid (⟨hfl1, hf1⟩ : _ ∧ _)
                have hflz : ((fl : Int) == 0) = false := beq_eq_false_iff_ne.2 (by omega)
                have hfw : IntKind.i64.wrap ((fl : Int) - 1) = (f1 : Int) := by rw [IntWalk.i64_in _ (by omega)]; omega
                have hfw2 : (fl : Int) - 1 = (f1 : Int) := by omega
                have if1 : (f1 : Int) < (fl : Int) := by omega
                have if2 : (f1 : Int) ≤ (cf : Int) := by omega
                have if3 : f1 ≤ cf := by omega
                have hyw : IntKind.u64.wrap (y0 : Int) = (y0 : Int) := by show (y0 : Int) % 18446744073709551616 = _; omega
                have hgf8 : gf < W8.heap.size := (hfree.lt gf rfl).2
                have hPgf : P ≤ gf := (hfree.lt gf rfl).1
                have hhad := HRows.out.2
                rw [HLn.out] at hhad
                have HHad := Lib.hid hhad
                have HApart := Lib.hid HSr.out.apart
                have hhv : ∀ z, (Value.slice ph ln ch).ownBlock = some z → z < w3'.heap.size ∧ z ≠ gf := fun z hz => by
                  refine ⟨HDm.out z (by rw [← HD.out]; exact .inr (List.mem_append_right _ ((ownBlock_toList _ _).2 hz))), fun he => HApart.out gf rfl (by rw [← he]; exact hz)⟩
                have HHv := Lib.hid hhv
                clear hF hfl1 hf1 hfree hrev hgx hcut hhad hhv
                go_wp2
                go_quiet (fail)
                go_wp2_with (at_builtin; refine append_fresh rfl _ _ 47 rfl P 3 _ 1 8 Try.underlying47 elemInt' _ ln (nodes (hs 0)) rfl (owns_keeps HHad.out (Keeps.refl [] W8).drewN (by simp)) #[.int .i64 (y0 : Int)] rfl rfl (by simp [Value.oneCell']) (by omega) (show P ≤ W8.heap.size from hPW8) ?_)
                intro v9 w9 own9 k9 f9 ne9
                have k89 : Keeps (Value.slice ph ln ch).ownBlock.toList W8 w9 := ((Keeps.refl [] W8).drewN.nil).trans k9
                have f89 : ∀ z, v9.ownBlock = some z → (Value.slice ph ln ch).ownBlock = some z ∨ W8.heap.size ≤ z := f9
                have hhs : has' 0 = hs 0 ++ [y0] := by rw [HNew.out.2.2.2.2, HF0.out]; rfl
                have had' : w9.ownsRow P 3 1 v9 (has' 0).length (nodes (has' 0)) := by
                  rw [hhs, nodes_append, List.length_append, HLn.out]; exact own9
                have free' : w9.ownsRow P 3 1 (.slice (some ⟨gf, 0, none⟩) f1 cf) F.tail.length (nodes F.tail.reverse) := by
                  rw [HF0.out, List.tail_cons, HFl0.out.2]
                  exact owns_keeps HCut.out k89 (fun z hz hm => by
                    simp [Value.ownBlock] at hz
                    exact (HHv.out z ((ownBlock_toList _ _).1 hm)).2 hz.symm)
                have hnx := Solo.next (E := E) (l := l) (g := g) (m := m) (b := b) (n := N) (P := P) (fv := .slice (some ⟨gf, 0, none⟩) fl cf) (hv := .slice ph ln ch) (fv' := .slice (some ⟨gf, 0, none⟩) f1 cf) (hv' := v9) (W := W8) (w' := w9) (F' := F.tail) (X := (Value.slice ph ln ch).ownBlock.toList) (by have := HL8.out; rw [← HD.out] at this; exact this) HNew.out.1 (by rw [updO_same]; exact HNew.out.2.1)
                  (fun z hz => List.mem_append_right _ hz) k89 (fun z hz => (HSr.out.own z hz).1) free' had'
                  (fun z hz => by
                    rcases hz with hz | hz
                    · exact .inl (List.mem_append_left _ ((ownBlock_toList _ _).2 hz))
                    · rcases f89 z hz with h | h
                      · exact .inl (List.mem_append_right _ ((ownBlock_toList _ _).2 h))
                      · exact .inr h)
                  (fun z h1 h2 => by
                    simp [Value.ownBlock] at h1
                    rcases f89 z h2 with h | h
                    · exact (HHv.out z h).2 h1.symm
                    · omega) HSr.out.low
                have HNx := Lib.hid hnx
                have HHf := Lib.hid ((HHr.out.trans (HH8.out.narrow (fun z hz => by rw [← HD.out]; exact .inl hz))).trans hnx.1)
                clear k89 f89 hhs had' free' hnx own9 k9 f9 ne9
                go_wp2
                go_roundw
                case rel => exact ⟨kk + 1, by omega, by go_num, HHf.out, M, _, _, tag', _, HNx.out.2, by omega, by omega⟩
                case measure => simp [intOf]; omega
        · obtain rfl : q = kk := by omega
          go_wp2
          go_ret
          exact ⟨rfl, HBr.out⟩

set_option maxRecDepth 100000 in
theorem lifted (os : Os) (started : os.Started) (H : Type) (enc : TypeId × Value → H) :
    ReturnsInHanded {} Try.checked os 6 .any (Rows.arenaAloneSpec.pre6 enc Try.prog Try.f6 Rows.arenaAloneRow.domain false) (Rows.arenaAloneSpec.post enc Try.prog Try.f6 false true false false) := by
  refine returnsInHanded_of_change (C := Try.checked) own started (by kernel_rfl) Try.func6
    (ChangeSpec.witness6 (enc := enc) (C := Try.checked) false ⟨#[], #[.int .i64 0, .slice none 0 0], []⟩ 8 (by kernel_rfl) (by kernel_rfl) (by kernel_rfl) (by kernel_rfl)) ?_
  intro W base args ds gs before hval0 hW hcnd _
  have hval : ∀ (j : Nat) t v, Try.f6.params[j]? = some t → args[j]? = some v → Value.okWide Try.prog W .any base t v := hval0
  have hW' := hW
  obtain ⟨p, q, hA0, hV, rfl, hfz, hnd⟩ := hW
  have hA : DataW.TrodAll enc Try.prog W 0 (fun _ => true) true Try.f6.params.toList args.toList ds p := hA0
  rw [Try.params6] at hA hval
  obtain ⟨v0, vs0, d0, ds0, q0, qs0, hargs, rfl, rfl, h0, r0⟩ := trodAll_cons hA
  obtain ⟨v1, vs1, d1, ds1, q1, qs1, rfl, rfl, rfl, h1, r1⟩ := trodAll_cons r0
  obtain ⟨rfl, rfl, rfl⟩ := trodAll_nil r1
  obtain rfl : args = #[v0, v1] := by cases args; simp_all
  obtain ⟨rfl, rfl⟩ := trodVars_none hV
  obtain ⟨a0, rfl, rfl, rfl, w0⟩ := open_int Try.underlying3 (hval 0 3 v0 rfl rfl) h0
  obtain ⟨p1, n1, c1, rfl⟩ := okWide_slice Try.underlying54 (hval 1 54 v1 rfl rfl)
  have k1 := h1
  have lt1 : ∀ x ∈ q1, x.block < W.heap.size := by obtain ⟨m, hm⟩ := k1; exact DataW.trod_lt m _ _ _ hm
  obtain ⟨z1, s1, m1, b1⟩ := (by obtain ⟨fu, hf⟩ := h1; exact sl_ints Try.underlying54 Try.underlying5 (by kernel_rfl) hf : ∃ zs : List Int, Sl W 1 (.slice p1 n1 c1) n1 (ints .u8 zs) ∧ n1 ≤ maxLen ∧ ∀ z ∈ zs, (Lit.int .u8 z).wf = true)
  clear hA0 hval0
  simp only [List.append_nil] at hW'
  refine (walk a0 p1 n1 c1 z1 W w0 s1 m1 b1).mono fun e W' ⟨he, bel⟩ => ?_
  subst he
  exact ⟨_, rfl, _, _, _, [], _, [], hW', trodAll_mk1 (shut_bool Try.underlying4 _), (trodAll_cons_mk (shut_int Try.underlying3 w0) (trodAll_cons_mk (Below.trod laidOut (by kernel_rfl) (of_decide_eq_true (by kernel_rfl)) k1 bel lt1) trodAll_mk0)), rfl, bel.frame _, fun h => by cases h⟩

theorem proved : Rows.ArenaAloneSaid :=
  OpenClaim.holds_of_wide 6 Try.f6 rfl rfl rfl rfl rfl rfl rfl ⟨rfl, rfl, rfl, rfl, rfl⟩ rfl rfl rfl rfl rfl (by kernel_rfl) Try.func6 (by kernel_rfl)
    (of_decide_eq_true (by kernel_rfl)) (by unfold Func.isWrapper; first | (rw [if_pos (by decide +kernel)]; kernel_rfl) | (rw [if_neg (by decide +kernel)]; exact ⟨rfl, rfl⟩))
    (fun os started H enc _ => lifted os started H enc)
#print axioms proved
end Go.Proofs.Ytgpfknoddljopaa.arenaAlone
