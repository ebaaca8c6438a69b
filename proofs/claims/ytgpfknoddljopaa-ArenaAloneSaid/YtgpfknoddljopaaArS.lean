/-
  A worker who is alone, from the beginning of a Take or a Put to its end; the chapter's example of layer 6.
-/
import Derived.Test.YtgpfknoddljopaaArF
import Derived.Test.YtgpfknoddljopaaMem3
import Derived.Test.YtgpfknoddljopaaLook
import Derived.Deep.CutRange
import Derived.Deep.CutBlock
namespace Go.Proofs.Ytgpfknoddljopaa
set_option maxRecDepth 100000
open Go.ChangeShapes Go.WideShapes Go.ChangeAt Go.RowKit

section
variable {l g m b n W : Nat} {L : LSt} {ss : Nat → Option ArS} {has has1 : Nat → List Nat} {tag : Nat} {F : List Nat}
/-- A worker's new walk. -/
theorem ArLoom.begun (h : ArLoom l g m b n W L ss has tag F) {who : Nat} {s : ArS} {t : Strand} (ht : IsAr t s) (hi : ArInv n W L.us (updO ss who (some s)) has1 tag F) :
    ArLoom l g m b n W { L with ts := L.ts.set who (some t) } (updO ss who (some s)) has1 tag F := by
  refine ⟨h.l, h.g, h.m, h.b, by simpa using h.len, fun i hiW => ?_, hi⟩
  have hlt : i < L.ts.length := by rw [h.len]; exact hiW
  show ∃ o, (L.ts.set who _)[i]? = some o ∧ _
  by_cases e : i = who
  · subst e
    rw [List.getElem?_set_self hlt, updO_same]
    exact ⟨_, rfl, _, rfl, ht⟩
  · rw [List.getElem?_set_ne (Ne.symm e), updO_ne _ _ e]
    exact h.at_ i hiW
/-- What Alone does, and what Result tells then. -/
def AloneDoes (l who most d : Nat) (L M : LSt) (code v : Int) : Prop :=
  (∀ (D : Nat → Prop) (w : World), Loom D w L → Calls Try.prog 29 #[.pointer (some ⟨l, 0, none⟩), .int .i64 (who : Int), .int .i64 (most : Int)] w fun e w' => e = .returned (.tuple #[.int .i64 (d : Int), .int .i64 0]) ∧ Loom D w' M ∧ Held D w w') ∧
  (∀ (D : Nat → Prop) (w : World), Loom D w M → Calls Try.prog 30 #[.pointer (some ⟨l, 0, none⟩), .int .i64 (who : Int)] w fun e w' => ∃ q c, e = .returned (.tuple #[.agg #[.int .i64 code, .int .u64 v, .slice q 0 c], .bool true]) ∧ Keeps [] w w')

theorem ArLoom.solo (h : ArLoom l g m b n W L ss has tag F) {who most : Nat} (hw : who < W) {s : ArS} (hs : ss who = some s) (ho : s.over = none) (ht : tag + 3 < 4294967296) (hst : L.steps ≤ 10000000000) (h3 : 3 ≤ most) (hm : most ≤ 1000000) (hs1 : s.step = 1) :
    ∃ (M : LSt) (s' : ArS) (tag' : Nat) (F' : List Nat) (has' : Nat → List Nat) (r : Rs), tag' ≤ tag + 3 ∧ M.steps ≤ L.steps + 3 ∧ s'.over = some r ∧ ArLoom l g m b n W M (updO ss who (some s')) has' tag' F' ∧ ArEnd s who F F' has has' (some r) ∧ AloneDoes l who most (if s.puts = false ∧ F = [] then 1 else 3) L M r.code r.v := by
  obtain ⟨d, hd⟩ : ∃ d, arLeft L.us F s = d := ⟨_, rfl⟩
  have hd3 : d = if s.puts = false ∧ F = [] then 1 else 3 := by
    rw [← hd]
    unfold arLeft
    simp only [ho, hs1]
    rw [if_neg (by simp)]
    by_cases e : s.puts = false ∧ F = []
    · rw [if_pos e, if_pos e]; rfl
    · rw [if_neg e, if_neg e]; rfl
  have hle : d ≤ 3 := by rw [hd3]; split <;> omega
  obtain ⟨hd0, Ls, s', tag', F', has', hL0, hone, htag, hA, hend, hov⟩ := h.alone d (by omega) hw hs ho hd
  obtain ⟨t', ht1, ht2⟩ := hA.worker hw (updO_same _ _ _)
  cases hov' : s'.over with
  | none => rw [hov'] at hov; cases hov
  | some r =>
    rw [hov'] at hend
    have hrl : r.l = [] := by cases hend <;> rfl
    have hsd := steps_l hone d (Nat.le_refl _)
    rw [hL0] at hsd
    have hw3 : (some t').bind Strand.want = none := by
      show t'.want = none
      rw [ht2.want]
      simp [arenaM, hov']
    have hb3 : Go.Proofs.Ytgpfknoddljopaa.busy (some t') = false := by simp [Go.Proofs.Ytgpfknoddljopaa.busy, ht2.res, hov']
    refine ⟨Ls d, s', tag', F', has', r, by omega, by omega, hov', hA, hend, ?_, ?_⟩
    · intro D w hL
      rw [← hd3]
      have := alone_ends D who most d Ls (some t') w (by rw [hL0]; exact hL) hd0 (by omega) hm (by rw [hL0]; omega) hone ht1 hw3 hb3
      rw [hL0, h.l] at this
      exact this
    · intro D w hL
      have hrs := loomResult_at D (Ls d) who (some t') w hL ht1
      rw [hsd.1, h.l, show (some t').bind Strand.res = s'.over from ht2.res, hov'] at hrs
      refine hrs.mono ?_
      rintro e w' ⟨lv, rfl, hown, hk⟩
      simp only [Option.getD_some, hrl, List.length_nil] at hown ⊢
      obtain ⟨q, c, rfl⟩ := (Sl.of_owns hown).len
      exact ⟨q, c, rfl, hk⟩
/-- A Take of one who is alone. -/
theorem ArLoom.soloTake (h : ArLoom l g m b n W L ss has tag F) {who most : Nat} (hw : who < W) (hs : ss who = some (arTake 0 n)) (hn : 1 ≤ n) (hn4 : n ≤ 4096) (ht : tag + 3 < 4294967296) (hst : L.steps ≤ 10000000000) (h3 : 3 ≤ most) (hm : most ≤ 1000000) :
    ∃ (M : LSt) (s' : ArS) (tag' : Nat) (has' : Nat → List Nat), tag' ≤ tag + 3 ∧ M.steps ≤ L.steps + 3 ∧ flies (some s') = false ∧ ArLoom l g m b n W M (updO ss who (some s')) has' tag' F.tail ∧ has' who = has who ++ F.head?.toList ∧
      AloneDoes l who most (if F = [] then 1 else 3) L M (if F = [] then 7 else 0) (F.headD 0 : Nat) := by
  have hr : (arTake 0 n).over = none := by simp only [arTake]; rw [if_pos ⟨by omega, by omega, by omega, by omega⟩]
  obtain ⟨M, s', tag', F', has', r, h1, h2, hov, hA, hend, hD⟩ := h.solo hw hs hr ht hst h3 hm rfl
  have hf : flies (some s') = false := by simp [flies, hov]
  have hp : (arTake 0 n).puts = false := rfl
  cases hend with
  | put e0 => rw [hp] at e0; cases e0
  | empty e0 e1 e2 e3 =>
    subst e1 e2 e3
    rw [if_pos ⟨hp, rfl⟩] at hD
    exact ⟨M, s', tag', has', h1, h2, hf, hA, by simp, by simpa using hD⟩
  | take y e0 e1 e2 =>
    subst e1 e2
    rw [if_neg (by simp)] at hD
    exact ⟨M, s', tag', _, h1, h2, hf, hA, by simp [updL_same], by simpa using hD⟩
/-- A Put of one who is alone. -/
theorem ArLoom.soloPut (h : ArLoom l g m b n W L ss has tag F) {who most y : Nat} (hw : who < W) (hs : ss who = some (arPut 0 n y)) (hy : 1 ≤ y ∧ y ≤ n) (hn4 : n ≤ 4096) (ht : tag + 3 < 4294967296) (hst : L.steps ≤ 10000000000) (h3 : 3 ≤ most) (hm : most ≤ 1000000) :
    ∃ (M : LSt) (s' : ArS) (tag' : Nat), tag' ≤ tag + 3 ∧ M.steps ≤ L.steps + 3 ∧ flies (some s') = false ∧ ArLoom l g m b n W M (updO ss who (some s')) has tag' (y :: F) ∧
      AloneDoes l who most 3 L M 0 0 := by
  have hr : (arPut 0 n y).over = none := by simp only [arPut]; rw [if_pos ⟨⟨by omega, by omega, by omega, by omega⟩, by omega, by omega⟩]
  obtain ⟨M, s', tag', F', has', r, h1, h2, hov, hA, hend, hD⟩ := h.solo hw hs hr ht hst h3 hm rfl
  have hf : flies (some s') = false := by simp [flies, hov]
  have hp : (arPut 0 n y).puts = true := rfl
  cases hend with
  | put e0 e1 e2 =>
    subst e1 e2
    rw [if_neg (by rw [hp]; simp)] at hD
    exact ⟨M, s', tag', h1, h2, hf, by simpa [arPut] using hA, hD⟩
  | empty e0 e1 e2 e3 => rw [hp] at e0; cases e0
  | take y e0 e1 e2 => rw [hp] at e0; cases e0
end

set_option maxHeartbeats 6400000 in
theorem awake6 (w : World) :
    Calls Try.prog 7 #[] w fun e w' => e = .returned (.bool true) ∧ Below w.heap.size w w' := by
  obtain ⟨B, hB⟩ : ∃ B, w.heap.size = B := ⟨_, rfl⟩
  have NA := new_any 3 w (by omega) (by omega)
  rw [hB]
  go_enter Try.func7, Try.ntmps7
  go_wp2_with fail
  refine NA.mono ?_
  clear NA
  rintro e w2 ⟨m, b, rfl, hM, k2, hm, hb⟩
  rw [hB] at hm hb
  have HB2 := Lib.hid (show Below B w w2 from k2.below (by omega) (by simp))
  have HM2 := Lib.hid hM
  have s2 := HB2.out.size
  have hmlt := hM.lt
  clear hM k2
  go_wp2_with fail
  generalize hW : World.alloc _ _ = W3
  have k3 : Keeps [] w2 W3 := by rw [← hW]; exact (Keeps.refl _ _).alloc _
  have bx : Box W3 w2.heap.size #[.int .i64 0, .int .i64 2] := by rw [← hW]; exact Box.new _ _ _
  obtain ⟨ab, hab⟩ : ∃ ab, w2.heap.size = ab := ⟨_, rfl⟩
  rw [hab] at bx ⊢
  have HBx3 := Lib.hid bx
  have HM3 := Lib.hid (HM2.out.keeps k3 (by simp) (by simp))
  have HB3 := Lib.hid (HB2.out.trans (k3.below (by omega) (by simp)))
  have hablt := HBx3.out.lt
  clear hW bx k3 HM2 HB2
  have s3 := HB3.out.size
  refine (init0_any m b 2 _ W3 HM3.out (by simp) (by omega) (by omega)).mono ?_
  rintro e w5 ⟨rfl, us, hM5, hus, hu0, hui, k5⟩
  have hbab : b ≠ ab := by omega
  have HBx5 := Lib.hid (HBx3.out.keeps k5 (by simp; exact Ne.symm hbab))
  have HB5 := Lib.hid (HB3.out.trans (k5.below (by omega) (by simp; omega)))
  have s5 := HB5.out.size
  have HInv := Lib.hid (ArInv.start 2 1 (by omega) (by omega) us hus hu0 hui)
  have HM5 := Lib.hid hM5
  have HUs := Lib.hid hus
  have hbl5 := hM5.lt
  have hab5 := HBx5.out.lt
  clear hM5 hus hu0 hui k5 HBx3 HM3 HB3
  -- the blocks that nobody writes
  obtain ⟨E, hE⟩ : ∃ E : Nat → Prop, (fun x => x < B ∨ x = ab) = E := ⟨_, rfl⟩
  have HE : Hid ((∀ k, k < B → E k) ∧ E ab ∧ ∀ k, E k → k < B ∨ k = ab) := Lib.hid (by rw [← hE]; exact ⟨fun k hk => .inl hk, .inr rfl, fun k hk => hk⟩)
  clear hE
  have LN := loomNew_any E 1 m b us w5 HM5.out (by omega) (by omega) (fun k hk => by rcases HE.out.2.2 k hk with h | h <;> omega) (fun hk => by rcases HE.out.2.2 b hk with h | h <;> omega)
  go_wp2_with fail
  refine LN.mono ?_
  clear LN
  rintro e w6 ⟨l, g, rfl, hL6, k6⟩
  have HL6 := Lib.hid hL6
  have HBx6 := Lib.hid (HBx5.out.keeps k6 (by simp))
  have HB6 := Lib.hid (HB5.out.trans (k6.below (by omega) (by simp)))
  have s6 := HB6.out.size
  have hab6 := HBx6.out.lt
  clear hL6 k6 HBx5 HB5 HM5 HUs
  -- the three numbers that are wanted
  obtain ⟨z, hz⟩ : ∃ z, w6.heap.size = z := ⟨_, rfl⟩
  obtain ⟨W7, hW7⟩ : ∃ W7, w6.alloc (.cells #[.int .u64 1, .int .u64 2, .int .u64 0] 64) = W7 := ⟨_, rfl⟩
  have k7 : Keeps [] w6 W7 := by rw [← hW7]; exact (Keeps.refl _ _).alloc _
  have r7 : Row W7 z 64 [.int .u64 1, .int .u64 2, .int .u64 0] := by rw [← hW7, ← hz]; exact Row.new _ _ _
  have hz7 : z < W7.heap.size := r7.lt
  have HL7 : Hid (Loom (fun x => E x ∨ x ∈ [z]) W7 ⟨l, g, m, b, us, List.replicate 1 none, 0⟩) := Lib.hid (HL6.out.widen k7 (fun k hk => by
    rcases hk with hk | hk
    · exact .inl hk
    · simp at hk; subst hk; exact .inr ⟨by omega, by omega⟩))
  have HA7 : Hid (ArLoom l g m b 2 1 ⟨l, g, m, b, us, List.replicate 1 none, 0⟩ (fun _ => none) (fun _ => []) 0 (List.range' 1 2)) := Lib.hid
    ⟨rfl, rfl, rfl, rfl, by simp, fun i hi => ⟨none, by simp [hi], rfl⟩, HInv.out⟩
  have HBx7 := Lib.hid (HBx6.out.keeps k7 (by simp))
  have HB7 := Lib.hid (HB6.out.trans (k7.below (by omega) (by simp)))
  have HR7 := Lib.hid r7
  clear k7 r7 HL6 HBx6 HB6 HInv
  have hD : ∀ k, k < B → E k ∨ k ∈ [z] := fun k hk => .inl (HE.out.1 k hk)
  have HDB := Lib.hid hD
  obtain ⟨D, hDD⟩ : ∃ D : Nat → Prop, (fun x => E x ∨ x ∈ [z]) = D := ⟨_, rfl⟩
  have HDs : Hid (D ab ∧ D z ∧ ∀ k, k < B → D k) := Lib.hid (by rw [← hDD]; exact ⟨.inl HE.out.2.1, .inr (by simp), hD⟩)
  rw [hDD] at HL7
  have HW2 : Hid (∀ k : Nat, k < 3 → ([Value.int .u64 1, .int .u64 2, .int .u64 0])[k]? = some (.int .u64 (((List.range' 1 2).drop k).headD 0 : Nat))) := Lib.hid (by
    intro k hk
    rcases (show k = 0 ∨ k = 1 ∨ k = 2 by omega) with rfl | rfl | rfl <;> rfl)
  clear hD hDD HE HDB
  go_wp2
  go_loopw [8] (fun i wr => ∃ k : Nat, k ≤ 3 ∧ i = .int .i64 (k : Int) ∧ Held D W7 wr ∧ ∃ (L : LSt) (ss : Nat → Option ArS) (has : Nat → List Nat) (tag : Nat),
    Loom D wr L ∧ ArLoom l g m b 2 1 L ss has tag ((List.range' 1 2).drop k) ∧ tag ≤ 3 * k ∧ L.steps ≤ 3 * k ∧ flies (ss 0) = false) (fun i _ => 3 - (intOf i).toNat)
  case atStart => exact ⟨0, by omega, rfl, Held.refl _ _, _, _, _, 0, HL7.out, HA7.out, by omega, Nat.le_refl _, rfl⟩
  case round =>
    obtain ⟨k, hk, rfl, hh, L, ss, has, tag, hL, hA, htag, hst, hfl⟩ := hrel
    have hbx := HBx7.out.block hh.size (hh.block ab HDs.out.1)
    have b0 := hbx.cells 0
    have b1 := hbx.cells 1
    have hbl := hbx.lt
    simp at b0 b1
    have HHr := Lib.hid hh
    have HL := Lib.hid hL
    have HA := Lib.hid hA
    clear hh hL hA hbx
    by_cases hlt : k < 3
    · obtain ⟨F, hF⟩ : ∃ F, (List.range' 1 2).drop k = F := ⟨_, rfl⟩
      have hF1 : (List.range' 1 2).drop (k + 1) = F.tail := by rw [← hF, List.tail_drop]
      have HFE : Hid (k = 2 ∧ F = [] ∨ k < 2 ∧ F ≠ []) := Lib.hid (by
        rcases (show k = 0 ∨ k = 1 ∨ k = 2 by omega) with rfl | rfl | rfl
        · right; rw [← hF]; exact ⟨by decide, by decide⟩
        · right; rw [← hF]; exact ⟨by decide, by decide⟩
        · left; rw [← hF]; exact ⟨rfl, by decide⟩)
      rw [hF] at HA
      have hwz := HW2.out k hlt
      rw [hF] at hwz
      obtain ⟨y, hy⟩ : ∃ y, F.headD 0 = y := ⟨_, rfl⟩
      rw [hy] at hwz
      have hinv := HA.out.inv.take (who := 0) (by omega) (flies_no hfl) (by omega)
      obtain ⟨o, ho, hbo⟩ := HA.out.busy (who := 0) (by omega)
      rw [hfl] at hbo
      go_wp2_with fail
      refine (take_any 0 2 wr).mono ?_
      rintro e w1 ⟨t, S, rfl, ht, hI, k1, hS⟩
      have hAb := HA.out.begun ht hinv
      obtain ⟨M, s', tag', has', t1, t2, t3, hA3, -, hAR⟩ := hAb.soloTake (who := 0) (most := 9) (by omega) (updO_same _ _ _) (by omega) (by omega) (by omega) (show L.steps ≤ _ by omega) (by omega) (by omega)
      have hSt := start_at D L 0 o t S wr w1 HL.out k1 ho hbo hI hS
      obtain ⟨L1, hL1⟩ : ∃ L1, ({ L with ts := L.ts.set 0 (some t) } : LSt) = L1 := ⟨_, rfl⟩
      have hlb : ¬ D L.g := HL.out.base.2.1
      have hAl := hAR.1
      have hRe := hAR.2
      rw [hL1] at hSt hAl
      rw [HA.out.l] at hSt
      rw [hy] at hRe
      obtain ⟨cd, hcd⟩ : ∃ cd : Int, (if F = [] then 7 else 0) = cd := ⟨_, rfl⟩
      obtain ⟨dd, hdd⟩ : ∃ dd : Nat, (if F = [] then 1 else 3) = dd := ⟨_, rfl⟩
      rw [hcd] at hRe
      rw [hdd] at hAl
      have HC : Hid (k = 2 ∧ cd = 7 ∨ k < 2) := Lib.hid (by
        rcases HFE.out with ⟨h1, h2⟩ | ⟨h1, h2⟩
        · left; rw [← hcd, if_pos h2]; exact ⟨h1, rfl⟩
        · exact .inr h1)
      have HSt := Lib.hid hSt
      have HAl := Lib.hid hAl
      have HRe := Lib.hid hRe
      have HNew : Hid (ArLoom l g m b 2 1 M (updO (updO ss 0 (some (arTake 0 2))) 0 (some s')) has' tag' ((List.range' 1 2).drop (k + 1)) ∧ tag' ≤ 3 * (k + 1) ∧ M.steps ≤ 3 * (k + 1) ∧ flies (updO (updO ss 0 (some (arTake 0 2))) 0 (some s') 0) = false) := Lib.hid
        ⟨by rw [hF1]; exact hA3, by omega, by have : M.steps ≤ L.steps + 3 := t2; omega, by rw [updO_same]; exact t3⟩
      have HH1 := Lib.hid (HHr.out.trans (k1.held (fun k hk => HL.out.dom k hk) (by simp)))
      have HGL := Lib.hid (show ∀ k ∈ [L.g], ¬ D k from fun k hk => by simp at hk; subst hk; exact HL.out.base.2.1)
      have HDm := Lib.hid (show ∀ k, D k → k < w1.heap.size from fun k hk => Nat.lt_of_lt_of_le (HL.out.dom k hk) k1.size)
      clear hinv ho hbo ht hI hS hAb t1 t2 t3 hA3 hAR hAl hRe hSt k1 hF hF1 htag hst hfl b0 b1 hcd hdd hL1 hlb HFE
      go_wp2_with fail
      refine HSt.out.mono ?_
      rintro e w2 ⟨rfl, hL2, k2⟩
      have HL2 := Lib.hid hL2
      have HH2 := Lib.hid (HH1.out.trans (k2.held HDm.out HGL.out))
      clear hL2 k2
      go_wp2_with fail
      refine (HAl.out D w2 HL2.out).mono ?_
      rintro e w3 ⟨rfl, hL3, hh3⟩
      have HL3 := Lib.hid hL3
      have HH3 := Lib.hid (HH2.out.trans hh3)
      clear hL3 hh3
      go_wp2_with fail
      refine (HRe.out D w3 HL3.out).mono ?_
      rintro e w4 ⟨q, c, rfl, k4⟩
      obtain ⟨W5, hW5⟩ : ∃ W5, w4.alloc (.cells #[.int .i64 cd, .int .u64 (y : Int), .slice q 0 c] 66) = W5 := ⟨_, rfl⟩
      have k5 : Keeps [] w4 W5 := by rw [← hW5]; exact (Keeps.refl _ _).alloc _
      have r5 : Row W5 w4.heap.size 66 [.int .i64 cd, .int .u64 (y : Int), .slice q 0 c] := by rw [← hW5]; exact Row.new _ _ _
      have hL5 := (HL3.out.keeps k4).keeps k5
      have hh5 := HH3.out.trans ((k4.trans k5).held (fun k hk => HL3.out.dom k hk) (by simp))
      have hrz := HR7.out.block (hh5.block z HDs.out.2.1)
      have cz := hrz.cell hwz
      have c0 := r5.cell (j := 0) rfl
      have c1 := r5.cell (j := 1) rfl
      have HL5 := Lib.hid hL5
      have HH5 := Lib.hid hh5
      clear k4 k5 hL5 hh5 hrz r5
      have HE2 : Hid (k = 2 ∧ cd = 7 ∨ k < 2) := Lib.hid HC.out
      rcases HE2.out with ⟨rfl, rfl⟩ | hk2
      · go_wp2
        go_quiet (fail)
        go_wp2
        go_roundw
        case rel => exact ⟨3, by omega, by go_num, by first | exact HH5.out | exact HH5.out.trans ((Keeps.refl [] _).drewN.held (fun k hk => HL5.out.dom k hk) (by simp)), M, _, _, tag', by first | exact HL5.out | exact HL5.out.keeps (Keeps.refl [] _).drewN, HNew.out⟩
        case measure => simp [intOf]
      · have hkn : ((k : Int) == 2) = false := beq_eq_false_iff_ne.2 (by omega)
        have hk3 : (k : Int) < 3 := by omega
        go_wp2
        go_quiet (fail)
        go_wp2
        go_roundw
        case rel => exact ⟨k + 1, by omega, by go_num, by first | exact HH5.out | exact HH5.out.trans ((Keeps.refl [] _).drewN.held (fun k hk => HL5.out.dom k hk) (by simp)), M, _, _, tag', by first | exact HL5.out | exact HL5.out.keeps (Keeps.refl [] _).drewN, HNew.out⟩
        case measure => simp [intOf]; omega
    · obtain rfl : k = 3 := by omega
      go_wp2
      go_ret
      exact ⟨rfl, HB7.out.trans (Held.below (HHr.out.narrow (E := (· < B)) (fun k hk => HDs.out.2.2 k hk)))⟩
end Go.Proofs.Ytgpfknoddljopaa
