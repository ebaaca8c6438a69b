/-
  Contracts: a ring's walk that holds tasks, and lets go of them.
-/
import Derived.Test.YtekpfhlaohcgeaaGreatRgW
namespace Go.Proofs.YtekpfhlaohcgeaaGreat
set_option maxRecDepth 100000
set_option linter.unusedSimpArgs false
set_option linter.unusedVariables false
open Go.ChangeShapes Go.WideShapes Go.ChangeAt Go.RowKit

set_option maxHeartbeats 800000 in
theorem rgLet_any (m p b : Nat) (code v : Int) (q : Option Addr) (n c : Nat) (s : WSt) (w : World) (hw : Wk w m s) (hb : w.cell? ⟨b, 0, none⟩ = some (.pointer (some ⟨p, 0, none⟩))) (hp : w.cell? ⟨p, 0, none⟩ = some (.pointer (some ⟨m, 0, none⟩))) (lb : b < w.heap.size) (lp : p < w.heap.size) :
    Calls Tryz.prog 88 #[.agg #[.int .i64 code, .int .u64 v, .slice q n c], .pointer (some ⟨b, 0, none⟩)] w fun e w' => e = .returned (.tuple #[]) ∧ ∃ t, Wk w' m { s with tasks := t } ∧ w'.ownsRow w.heap.size 24 1 t 0 [] ∧ Keeps [m] w w' := by
  have HE := Lib.hid (fun W (h : Wk W m s) => wHold m s (.slice none 0 0) 0 [] W h ⟨rfl, .inl ⟨_, _, rfl, rfl⟩⟩ (by omega))
  have HW := Lib.hid hw
  clear hw
  go_enter Tryz.func88, Tryz.ntmps88
  go_wp2_with fail
  refine (HE.out _ (HW.out.alloc _)).mono ?_
  rintro e w1 ⟨rfl, t, hw1, ht, k1⟩
  have HP := Lib.hid (⟨hw1, owns_base ht (by simp), ((Keeps.refl [m] w).alloc _).trans k1⟩ : _ ∧ w1.ownsRow w.heap.size 24 1 t 0 [] ∧ Keeps [m] w w1)
  clear hw1 ht k1
  go_wp2
  first | go_end0 | refine bodyPost_ret (results_none rfl _ _ _) rfl ?_
  exact ⟨rfl, t, HP.out⟩
/-- What stands in the walk that lets go of the tasks of the one at m. -/
@[reducible] def rgWatcher (m b : Nat) : WSt := { WSt.zero with sub := some ⟨m, 0, none⟩, after := .func (.func 88) #[] #[.pointer (some ⟨b, 0, none⟩)] }
set_option maxHeartbeats 800000 in
theorem rgHold1_any (m p b o : Nat) (s : WSt) (w : World) (hw : Wk w m s) (hwo : Wk w o { WSt.zero with under := 1 }) (hne : m ≠ o) (hov : s.over = false) (hout : s.outer = .slice none 0 0) (hb : w.cell? ⟨b, 0, none⟩ = some (.pointer (some ⟨p, 0, none⟩))) (hp : w.cell? ⟨p, 0, none⟩ = some (.pointer (some ⟨m, 0, none⟩))) :
    Calls Tryz.prog 86 #[.pointer (some ⟨o, 0, none⟩), .pointer (some ⟨b, 0, none⟩)] w fun e w' => e = .returned (.tuple #[]) ∧ ∃ q, Wk w' o { rgWatcher m b with under := 1 } ∧ Wk w' m { s with outer := q } ∧ w'.ownsRow w.heap.size 29 1 q 1 [.pointer (some ⟨o, 0, none⟩)] ∧ Keeps [m, o] w w' := by
  have HE := Lib.hid (wInto m o s _ (.func 88) #[] #[.pointer (some ⟨b, 0, none⟩)] w hw hwo hne hov hout rfl rfl rfl)
  clear hw hwo hov hout
  go_enter Tryz.func86, Tryz.ntmps86
  go_wp2_with fail
  refine HE.out.mono ?_
  rintro e w1 ⟨rfl, q, h1, h2, h3, h4⟩
  have HP := Lib.hid (⟨h1, h2, h3, h4⟩ : _ ∧ _ ∧ _ ∧ _)
  clear h1 h2 h3 h4
  go_wp2
  first | go_end0 | refine bodyPost_ret (results_none rfl _ _ _) rfl ?_
  exact ⟨rfl, q, HP.out⟩

/-- A walk at o went into the one at m, by the list at g: it lets go of the tasks of that (b: where it finds the record p). -/
structure RgWatch (w : World) (m p g o b : Nat) (ov : Value) : Prop where
  ov_ : ∃ cap, ov = .slice (some ⟨g, 0, none⟩) 1 cap
  row : Row w g 29 [.pointer (some ⟨o, 0, none⟩)]
  wk : Wk w o (rgWatcher m b)
  box : Box w b #[.pointer (some ⟨p, 0, none⟩)]
theorem RgWatch.keeps {w w' : World} {m p g o b : Nat} {ov : Value} {A : List Nat} (h : RgWatch w m p g o b ov) (hk : Keeps A w w') (hg : g ∉ A) (ho : o ∉ A) (hb : b ∉ A) : RgWatch w' m p g o b ov :=
  ⟨h.ov_, h.row.keeps hk hg, h.wk.keeps hk ho, h.box.keeps hk hb⟩
theorem RgWatch.watch {w : World} {m p g o b : Nat} {ov : Value} (h : RgWatch w m p g o b ov) (hp : w.cell? ⟨p, 0, none⟩ = some (.pointer (some ⟨m, 0, none⟩))) (lp : p < w.heap.size) (hgm : g ≠ m) (hom : o ≠ m) (hbm : b ≠ m) (hpm : p ≠ m) (hbo : b ≠ o) (hpo : p ≠ o) : Watch w m g o ov := by
  obtain ⟨cap, hov⟩ := h.ov_
  refine ⟨cap, _, _, 88, #[], #[.pointer (some ⟨b, 0, none⟩)], hov, hgm, hom, h.row, h.wk, rfl, rfl, rfl, rfl, rfl, fun _ _ => by kernel_rfl, fun w1 code v q n c s hw k => ?_⟩
  have hb1 := h.box.keeps k (by simp [hbm, hbo])
  exact rgLet_any m p b code v q n c s w1 hw (hb1.cells 0) ((k.cell (p := ⟨p, 0, none⟩) lp (by simp [hpm, hpo])).trans hp) hb1.lt (Nat.lt_of_lt_of_le lp k.size)

set_option maxHeartbeats 1600000 in
theorem rgHold_any (m p : Nat) (at_ size hd sl fi tl : Int) (lk tr tk : Value) (rest : List Value) (us : List Int) (ts : Value) (e : TypeId) (st : WSt) (w : World) (hw : Wk w m st) (hp : Row w p e (rgCells m at_ size hd sl fi tl lk tr tk rest)) (hpm : p ≠ m) (ho : st.over = false) (hout : st.outer = .slice none 0 0) (hts : Sl w 1 ts us.length (ints .u64 us)) (hus : us.length ≤ 10) :
    Calls Tryz.prog 41 #[.pointer (some ⟨p, 0, none⟩), ts] w fun e' w' => e' = .returned (.tuple #[]) ∧ ∃ t ov g o b, Wk w' m { st with tasks := t, outer := ov } ∧ w'.ownsRow w.heap.size 24 1 t us.length (ints .u64 us) ∧ RgWatch w' m p g o b ov ∧
      (w.heap.size ≤ g ∧ w.heap.size ≤ o ∧ w.heap.size ≤ b) ∧ b ≠ o ∧ (∀ x, t.ownBlock = some x → x ≠ g ∧ x ≠ o ∧ x ≠ b) ∧ Keeps [m] w w' := by
  have HS := Lib.hid (rg_cells hp)
  obtain ⟨h0, -⟩ := HS.out _ [] (Keeps.refl _ _) (by simp)
  have hplt := hp.lt
  have hmlt := hw.lt
  have HW := Lib.hid hw
  have HTS := Lib.hid hts
  clear hw hp hts
  go_enter Tryz.func41, Tryz.ntmps41
  go_wp2_with fail
  generalize hW : World.alloc _ _ = W1
  have k1 : Keeps [] w W1 := by rw [← hW]; exact (Keeps.refl _ _).alloc _
  have hb : Box W1 w.heap.size #[.pointer (some ⟨p, 0, none⟩)] := by rw [← hW]; exact Box.new _ _ _
  have HW1 := Lib.hid (HW.out.keeps k1 (by simp))
  obtain ⟨c0, -⟩ := HS.out W1 [] k1 (by simp)
  have cb := hb.cells 0
  have lb := hb.lt
  have lp : p < W1.heap.size := Nat.lt_of_lt_of_le hplt k1.size
  clear hW
  have HE := Lib.hid (wHold m st ts us.length us W1 HW1.out (HTS.out.keeps k1 (by simp)) (by omega))
  refine HE.out.mono ?_
  rintro e2 w3 ⟨rfl, t, hw3, ht3, hk3⟩
  have hb3 := hb.keeps hk3 (by simp; omega)
  have hp3 := (hk3.cell (p := ⟨p, 0, none⟩) lp (by simpa using hpm)).trans c0
  have lp3 := Nat.lt_of_lt_of_le lp hk3.size
  have kz := hk3.size
  have z1 := k1.size
  have HN := Lib.hid (wNew 86 #[.pointer (some ⟨w.heap.size, 0, none⟩)] [m] w3 (fun w2 s2 => s2 = { rgWatcher m w.heap.size with under := 1 } ∧ ∃ q B, w3.heap.size + 1 < B ∧ Wk w2 m { st with tasks := t, outer := q } ∧ w2.ownsRow B 29 1 q 1 [.pointer (some ⟨w3.heap.size + 1, 0, none⟩)])
    (by intro k hk; simp at hk; subst hk; exact hw3.lt) (fun _ _ => by kernel_rfl) (fun w4 h4 k4 => (rgHold1_any m p w.heap.size (w3.heap.size + 1) _ w4 (hw3.keeps k4 (by simp)) h4 (by have := hw3.lt; omega) (show st.over = false from ho) (show st.outer = .slice none 0 0 from hout) ((hb3.keeps k4 (by simp)).cells 0) ((k4.cell (p := ⟨p, 0, none⟩) lp3 (by simp)).trans hp3)).mono
      fun e w5 ⟨he, q, a1, a2, a3, a4⟩ => ⟨he, _, a1, rfl, .inl rfl, a4.mono (by simp), rfl, q, w4.heap.size, h4.lt, a2, a3⟩))
  have HT3 := Lib.hid ht3
  have HB3 := Lib.hid hb3
  have HK3 := Lib.hid (k1.nil.trans hk3)
  have HLt := Lib.hid (show w.heap.size < W1.heap.size ∧ m < w3.heap.size from ⟨lb, hw3.lt⟩)
  clear hw3 ht3 hk3 hb3 hb
  go_wp2_with fail
  refine HN.out.mono ?_
  rintro e3 w5 ⟨rfl, w4, s2, ⟨rfl, q, B, hB, m4, q4⟩, k5, k4, o5⟩
  have HP : Hid (_ ∧ _ ∧ _ ∧ _ ∧ _ ∧ _) := Lib.hid ⟨hB, m4, q4, k5, k4, o5⟩
  clear hB m4 q4 k5 k4 o5
  go_wp2
  first | go_end0 | refine bodyPost_ret (results_none rfl _ _ _) rfl ?_
  obtain ⟨hB, m4, q4, k5, k4, o5⟩ := HP.out
  have hml := HLt.out.2
  have ht := HT3.out
  have htl := fun x hx => ht.lt x hx
  have hs := HLt.out.1
  obtain ⟨qp, qc, rfl⟩ := (Sl.of_owns q4).len
  obtain ⟨g, hg, hgb⟩ : ∃ g, qp = some ⟨g, 0, none⟩ ∧ B ≤ g := by
    rcases q4.2 with ⟨-, h⟩ | ⟨g, cap, cur, h, hb, -⟩
    · cases h
    · cases h; exact ⟨g, rfl, hb⟩
  subst hg
  have hrow := Row.of_owns q4
  have hgl := hrow.lt
  have hgo : g ≠ w3.heap.size + 1 := by omega
  have htb : ∀ x, t.ownBlock = some x → w.heap.size < x ∧ x < w3.heap.size := fun x hx => by have := htl x hx; omega
  have kk : Keeps [m] w w5 := (((HK3.out.trans k4).mono (T := [w3.heap.size + 1, m]) (by simp)).trans (k5.mono (by simp))).mono (by intro k hk hl; simp at hk; rcases hk with rfl | rfl; omega; simp)
  have ht5 : w5.ownsRow w.heap.size 24 1 t us.length (ints .u64 us) := owns_keeps (owns_keeps (owns_base ht (by omega)) k4 (fun x hx => by have := htb x hx; simp; omega)) k5 (fun x hx => by have := htb x hx; simp; omega)
  exact ⟨rfl, t, .slice (some ⟨g, 0, none⟩) 1 qc, g, w3.heap.size + 1, w.heap.size, m4.keeps k5 (by simp; omega), ht5, ⟨⟨_, rfl⟩, hrow.keeps k5 (by simpa using hgo), o5, (HB3.out.keeps k4 (by simp; omega)).keeps k5 (by simp; omega)⟩, ⟨by omega, by omega, by omega⟩, by omega, fun x hx => (by have := htb x hx; omega), kk⟩
end Go.Proofs.YtekpfhlaohcgeaaGreat
