import Derived.Test.YtjbgkaleickknaaGreatRgNe
import Derived.Test.YtjbgkaleickknaaGreatRgS
import Derived.Test.YtjbgkaleickknaaGreatCnt
import Derived.Test.YtjbgkaleickknaaGreatZeros
import Derived.Test.YtjbgkaleickknaaGreatFresh
/-
  A ring's plays: how they begin and end; which walk is begun, what came out.
-/
namespace Go.Proofs.YtjbgkaleickknaaGreat
set_option maxRecDepth 100000
set_option linter.unusedSimpArgs false
set_option linter.unusedVariables false
open Go.ChangeShapes Go.WideShapes Go.ChangeAt Go.RowKit

theorem rgFeeds_at {N i : Nat} (h0 : 0 < i) (hr : dqRight ((0 : Nat) : Int) N) (hi : dqRight (rgAt N i : Nat) N) : rgFeeds 0 N (rgAt N i : Nat) N := by
  have := rgAt_ge N h0
  refine ⟨hr, hi, rfl, .inl ?_⟩
  omega
theorem rBegun_any (N who rb rc n : Nat) (p : Bool) (v : Int) (w : World) (hr : dqRight ((0 : Nat) : Int) N) (hi : dqRight (rgAt N who : Nat) N) (hv : M.U v) (hn : who < n) (hb : rb < w.heap.size)
    (hc : w.cell? ⟨rb, 0, none⟩ = some (.int .i64 0) ∧ w.cell? ⟨rb, 1, none⟩ = some (.int .i64 (N : Int)) ∧ w.cell? ⟨rb, who * 2, none⟩ = some (.int .i64 (rgAt N who : Nat)) ∧ w.cell? ⟨rb, who * 2 + 1, none⟩ = some (.int .i64 (N : Int))) :
    Calls Tryz.prog 12 #[.slice (some ⟨rb, 0, none⟩) n rc, .int .i64 (who : Int), .bool p, .int .u64 v] w fun e w' => ∃ (m : Nat) (S : List Nat), e = .returned (.pointer (some ⟨m, 0, none⟩)) ∧ LoneIO ringM (rgE m) m w' S (rgNew N who p v) ∧ Keeps [] w w' ∧ ∀ x ∈ S, w.heap.size ≤ x := by
  obtain ⟨c0, c1, c2, c3⟩ := hc
  have i1 : (who : Int) < (n : Int) := by omega
  have i2 : (0 : Int) < (n : Int) := by omega
  have i3 : who < n := hn
  have i4 : 0 < n := by omega
  have hN : -9223372036854775808 ≤ (N : Int) := by omega
  have HCk := Lib.hid (fun w3 (k : Keeps [] w w3) => show w3.cell? ⟨rb, 0, none⟩ = some (.int .i64 0) ∧ w3.cell? ⟨rb, 1, none⟩ = some (.int .i64 (N : Int)) ∧ w3.cell? ⟨rb, who * 2, none⟩ = some (.int .i64 (rgAt N who : Nat)) ∧ w3.cell? ⟨rb, who * 2 + 1, none⟩ = some (.int .i64 (N : Int)) from ⟨(k.cell (p := ⟨rb, 0, none⟩) hb (by simp)).trans c0, (k.cell (p := ⟨rb, 1, none⟩) hb (by simp)).trans c1, (k.cell (p := ⟨rb, who * 2, none⟩) hb (by simp)).trans c2, (k.cell (p := ⟨rb, who * 2 + 1, none⟩) hb (by simp)).trans c3⟩)
  have HV := Lib.hid hv
  have HR := Lib.hid (⟨hr, hi⟩ : _ ∧ _)
  clear hr hi hv hn
  by_cases hw : 0 < who
  · have d1 : decide ((0 : Int) < (who : Int)) = true := decide_eq_true (by omega)
    have HFe := Lib.hid (rgFeeds_at hw HR.out.1 HR.out.2)
    cases p with
    | true =>
      go_enter Tryz.func12, Tryz.ntmps12
      go_wp2
      go_region_held3 (fun w' => w'.cell? ⟨rb, 0, none⟩ = some (.int .i64 0) ∧ w'.cell? ⟨rb, 1, none⟩ = some (.int .i64 (N : Int)) ∧ w'.cell? ⟨rb, who * 2, none⟩ = some (.int .i64 (rgAt N who : Nat)) ∧ w'.cell? ⟨rb, who * 2 + 1, none⟩ = some (.int .i64 (N : Int)))
        (first
          | exact ⟨by assumption, by assumption, by assumption, by assumption⟩
          | exact ⟨by simp only [World.cell?_drew]; assumption, by simp only [World.cell?_drew]; assumption, by simp only [World.cell?_drew]; assumption, by simp only [World.cell?_drew]; assumption⟩
          | exact HCk.out _ hk3
          | fail)
        (first
          | (go_at_call 19; refine (rgSteal_made 0 N (rgAt N who : Nat) N _ hN hN).mono ?_; rintro e w3 ⟨m, S, rfl, hI, k3, hS⟩; have hk3 : Keeps [] w w3 := k3.undrew)
          | fail)
      rw [decide_eq_true HFe.out] at hI
      have HI := Lib.hid hI
      have HS : Hid (∀ x ∈ S, w.heap.size ≤ x) := Lib.hid fun x hx => hS x hx
      have HK := Lib.hid hk3
      clear hI hS k3 hk3
      go_wp2
      go_ret
      refine ⟨m, S, rfl, ?_, HK.out, HS.out⟩
      rw [show rgNew N who true v = rgBegin 0 N 3 0 (rgAt N who : Nat) true by unfold rgNew; rw [if_pos rfl, if_pos hw]]
      exact HI.out
    | false =>
      go_enter Tryz.func12, Tryz.ntmps12
      go_wp2_with fail
      refine (rgPop_made (rgAt N who : Nat) N _ hN).mono ?_
      rintro e w3 ⟨m, S, rfl, hI, k3, hS⟩
      rw [decide_eq_true HR.out.2] at hI
      have HP : Hid (_ ∧ _ ∧ _) := Lib.hid ⟨hI, k3, hS⟩
      clear hI hS k3
      go_wp2
      go_ret
      exact ⟨m, S, rfl, HP.out⟩
  · obtain rfl : who = 0 := by omega
    have d1 : decide ((0 : Int) < ((0 : Nat) : Int)) = false := by decide
    have e0 : ((rgAt N 0 : Nat) : Int) = 0 := by simp [rgAt]
    cases p with
    | true =>
      go_enter Tryz.func12, Tryz.ntmps12
      go_wp2_with fail
      refine (rgPush_made 0 N v _ hN HV.out).mono ?_
      rintro e w3 ⟨m, S, rfl, hI, k3, hS⟩
      rw [decide_eq_true (show dqRight 0 N from HR.out.1)] at hI
      have HP : Hid (_ ∧ _ ∧ _) := Lib.hid ⟨hI, k3, hS⟩
      clear hI hS k3
      go_wp2
      go_ret
      exact ⟨m, S, rfl, HP.out⟩
    | false =>
      go_enter Tryz.func12, Tryz.ntmps12
      go_wp2_with fail
      refine (rgPop_made 0 N _ hN).mono ?_
      rintro e w3 ⟨m, S, rfl, hI, k3, hS⟩
      rw [decide_eq_true (show dqRight 0 N from HR.out.1)] at hI
      have HP : Hid (_ ∧ _ ∧ _) := Lib.hid ⟨hI, k3, hS⟩
      clear hI hS k3
      go_wp2
      go_ret
      refine ⟨m, S, rfl, ?_⟩
      rw [show rgNew N 0 false v = rgBegin 0 N 2 0 0 true by unfold rgNew; simp [rgAt]]
      exact HP.out

theorem rCame_any (who : Nat) (p : Bool) (c V : Int) (L : List Int) (lq : Option Addr) (lc : Nat) (v : Int) (gone : List Int) (w : World) (hL : Sl w 1 (.slice lq L.length lc) L.length (ints .u64 L)) (hLn : L.length ≤ 1000)
    (hcase : RgCame who p c V v L gone) :
    Calls Tryz.prog 15 #[.agg #[.int .i64 c, .int .u64 V, .slice lq L.length lc], .int .i64 (who : Int), .bool p, .int .u64 v] w fun e w' => ∃ gv, e = .returned (.tuple #[gv, .bool true]) ∧ w'.ownsRow w.heap.size 34 1 gv gone.length (ints .u64 gone) ∧ Keeps [] w w' := by
  obtain ⟨W1, hW1⟩ : ∃ W1, w.alloc (.cells #[.int .i64 c, .int .u64 V, .slice lq L.length lc] 48) = W1 := ⟨_, rfl⟩
  have hb : Box W1 w.heap.size #[.int .i64 c, .int .u64 V, .slice lq L.length lc] := by rw [← hW1]; exact Box.new _ _ _
  have hk1 : Keeps [] w W1 := by rw [← hW1]; exact (Keeps.refl _ _).alloc _
  have c0 := hb.cells 0
  have c1 := hb.cells 1
  have c2 := hb.cells 2
  have HK := Lib.hid hk1
  have HL1 := Lib.hid (hL.below (hk1.below (Nat.le_refl _) (by simp)) (Nat.le_refl _))
  have hs1 : w.heap.size ≤ W1.heap.size := hk1.size
  have HB := Lib.hid hb
  clear hb hk1 hL
  simp at c0 c1 c2
  have hnone : ∀ w' : World, w'.ownsRow w.heap.size 34 1 (.slice none 0 0) 0 [] := fun w' => World.ownsRow_nil _ _ _ _
  have hsingle : ∀ x : Int, Hid ((W1.alloc (.cells #[.int .u64 x] 34)).ownsRow w.heap.size 34 1 (.slice (some ⟨W1.heap.size, 0, none⟩) 1 1) 1 (ints .u64 [x])) := fun x => Lib.hid (by
    have := owns_lit W1 w.heap.size #[.int .u64 x] 34 1 hs1 rfl (by decide)
    simpa [ints] using this)
  have HN := Lib.hid hnone
  have HS := Lib.hid hsingle
  clear hnone hsingle
  rcases hcase with ⟨rfl, rfl, ⟨rfl, rfl⟩ | ⟨rfl, rfl⟩ | ⟨rfl, rfl⟩⟩ | ⟨hnp, ⟨rfl, rfl⟩ | ⟨rfl, rfl⟩ | ⟨h0, rfl, hcc, rfl⟩⟩
  · go_enter Tryz.func15, Tryz.ntmps15
    go_wp2
    go_ret2
    exact ⟨_, rfl, HN.out _, HK.out⟩
  · go_enter Tryz.func15, Tryz.ntmps15
    go_wp2
    go_ret2
    exact ⟨_, rfl, (HS.out v).out, HK.out.alloc _⟩
  · go_enter Tryz.func15, Tryz.ntmps15
    obtain ⟨W2, hW2⟩ : ∃ W2, W1.alloc (.cells #[.int .u64 v] 34) = W2 := ⟨_, rfl⟩
    have hb2 := HB.out.keeps (show Keeps [] W1 W2 from by rw [← hW2]; exact (Keeps.refl _ _).alloc _) (by simp)
    have q2 := hb2.cells 2
    simp at q2
    have HO := (HS.out v).out
    rw [hW2] at HO
    have HO2 := Lib.hid HO
    have HSl2 := Lib.hid (HL1.out.below (show Below W1.heap.size W1 W2 from by rw [← hW2]; exact (Below.refl _ _).alloc (Nat.le_refl _) _) (Nat.le_refl _))
    have hs2 : w.heap.size ≤ W2.heap.size := by rw [← hW2]; simp; omega
    have HK2 : Hid (Keeps [] w W2) := Lib.hid (HK.out.trans (by rw [← hW2]; exact (Keeps.refl _ _).alloc _))
    clear HO hb2
    go_wp2_with (at_builtin; refine wpList_append_sl rfl _ _ 31 rfl w.heap.size 34 _ 1 8 Tryz.underlying31 elemWdR _ 1 _ rfl HO2.out _ L.length (ints .u64 L) rfl HSl2.out (fun u hu => ints_oneCell .u64 _ u hu) (by omega) hs2 ?_; intro v3 w3 ho3 hg3 hne3; rw [show ints .u64 [v] ++ ints .u64 L = ints .u64 (v :: L) by simp [ints], Nat.add_comm 1] at ho3; have HO3 := Lib.hid ho3; have HB3 : Hid (Below w.heap.size W2 w3) := Lib.hid ((Below.refl _ _).grown hg3 hs2 (fun k hk => (HO2.out.lt k hk).1)); clear ho3 hg3 hne3)
    go_ret2
    have hB := (HK2.out.below (Nat.le_refl _) (by simp)).trans HB3.out
    exact ⟨_, rfl, HO3.out, ⟨hB.os, hB.tape, hB.output, hB.size, fun k hk _ => hB.block k hk⟩⟩
  · go_enter Tryz.func15, Tryz.ntmps15
    by_cases hz : who = 0
    · have hp : p = false := by cases p; rfl; exact absurd ⟨hz, rfl⟩ hnp
      subst hz hp
      go_wp2
      go_ret2
      exact ⟨_, rfl, (HS.out V).out, HK.out.alloc _⟩
    · have d0 : ((who : Int) == 0) = false := by simp [hz]
      go_wp2
      go_ret2
      exact ⟨_, rfl, (HS.out V).out, HK.out.alloc _⟩
  · go_enter Tryz.func15, Tryz.ntmps15
    by_cases hz : who = 0
    · have hp : p = false := by cases p; rfl; exact absurd ⟨hz, rfl⟩ hnp
      subst hz hp
      have c0' : W1.drew.cell? ⟨w.heap.size, 0, none⟩ = some (.int .i64 5) := by simp only [World.cell?_drew]; exact c0
      go_wp2
      go_region
      go_wp2
      go_ret2
      exact ⟨_, rfl, HN.out _, HK.out.drew⟩
    · have d0 : ((who : Int) == 0) = false := by simp [hz]
      have c0' : W1.drew.cell? ⟨w.heap.size, 0, none⟩ = some (.int .i64 5) := by simp only [World.cell?_drew]; exact c0
      go_wp2
      go_region
      go_wp2
      go_ret2
      exact ⟨_, rfl, HN.out _, HK.out.drew⟩
  · have d0 : ((who : Int) == 0) = false := by simp; omega
    have d1 : decide ((0 : Int) < (who : Int)) = true := decide_eq_true (by omega)
    go_enter Tryz.func15, Tryz.ntmps15
    rcases hcc with rfl | rfl
    · skip
      have c0' : W1.drew.cell? ⟨w.heap.size, 0, none⟩ = some (.int .i64 4) := by simp only [World.cell?_drew]; exact c0
      go_wp2
      go_region
      go_wp2
      go_ret2
      exact ⟨_, rfl, HN.out _, HK.out.drew⟩
    · skip
      have c0' : W1.drew.cell? ⟨w.heap.size, 0, none⟩ = some (.int .i64 8) := by simp only [World.cell?_drew]; exact c0
      go_wp2
      go_region
      go_wp2
      go_ret2
      exact ⟨_, rfl, HN.out _, HK.out.drew⟩
end Go.Proofs.YtjbgkaleickknaaGreat
