import Derived.Test.YtjbgkaleickknaaGreatLoom
import Derived.Test.YtjbgkaleickknaaGreatDraw
import Derived.Test.YtjbgkaleickknaaGreatMem
/-
  Contracts: what a pick does.
-/
namespace Go.Proofs.YtjbgkaleickknaaGreat
set_option maxRecDepth 100000
set_option linter.unusedSimpArgs false
set_option linter.unusedVariables false
open Go.ChangeShapes Go.WideShapes Go.ChangeAt Go.RowKit

theorem Mem.drew {w : World} {m b : Nat} {us : List Int} (h : Mem w m b us) : Mem w.drew m b us := h.keeps (Keeps.refl [] w).drew (by simp) (by simp)
/-- Whether an access is a Wait that wouldn't win now. -/
def parks (us : List Int) (x : C.Acc) : Bool := decide (x.k = 7) && (decide (C.code us x = 0) && !C.won us x)
theorem next_wait {us : List Int} {x : C.Acc} (h : x.k = 7) : C.next us x = us := by
  unfold C.next
  split
  · rename_i hc
    have hi : x.c.toNat < us.length := by
      unfold C.code at hc
      split at hc
      · omega
      · split at hc
        · omega
        · omega
    rw [h]
    exact set_self hi rfl
  · rfl

theorem waits_not (l : Nat) (x : C.Acc) (w : World) (hk : x.k ≠ 7) :
    Calls Tryz.prog 24 #[.pointer (some ⟨l, 0, none⟩), .agg #[.int .i64 x.k, .int .i64 x.c, .int .u64 x.a, .int .u64 x.b]] w fun e w' => e = .returned (.bool false) ∧ Keeps [] w w' := by
  have hb : (x.k != 7) = true := by simpa using hk
  have HK := Lib.hid hk
  clear hk
  go_enter Tryz.func24, Tryz.ntmps24
  go_wp2
  go_ret
  exact ⟨rfl, (Keeps.refl _ _).alloc _⟩
set_option maxRecDepth 100000 in
set_option maxHeartbeats 800000 in
theorem waits_7 (D : Nat → Prop) (L : LSt) (x : C.Acc) (w : World) (h : Loom D w L) (hx : x.ok) (hk : x.k = 7) :
    Calls Tryz.prog 24 #[.pointer (some ⟨L.l, 0, none⟩), .agg #[.int .i64 x.k, .int .i64 x.c, .int .u64 x.a, .int .u64 x.b]] w fun e w' => e = .returned (.bool (parks L.us x)) ∧ Loom D w' L ∧ Keeps [L.b] w w' := by
  have HN : Hid (C.next L.us x = L.us) := Lib.hid (next_wait hk)
  have HP : Hid (parks L.us x = (decide (C.code L.us x = 0) && !C.won L.us x)) := Lib.hid (by simp [parks, hk])
  have HD := fun W h => do_any L.mm L.b L.us x W h hx
  obtain ⟨xk, xc, xa, xb⟩ := x
  simp only at hk
  subst hk
  obtain ⟨tv, htv⟩ : ∃ tv, C.told L.us ⟨7, xc, xa, xb⟩ = tv := ⟨_, rfl⟩
  obtain ⟨wn, hwn⟩ : ∃ wn, C.won L.us ⟨7, xc, xa, xb⟩ = wn := ⟨_, rfl⟩
  obtain ⟨cd, hcd⟩ : ∃ cd, C.code L.us ⟨7, xc, xa, xb⟩ = cd := ⟨_, rfl⟩
  rw [HN.out, htv, hwn, hcd] at HD
  rw [hwn, hcd] at HP
  have HDo := Lib.hid HD
  clear HD HN htv hwn hcd hx
  obtain ⟨cap, h0, -, -⟩ := h.cells
  obtain ⟨l1, -, l3⟩ := h.lts
  obtain ⟨W0, hW0⟩ : ∃ W0, w.alloc (.cells #[.int .i64 7, .int .i64 xc, .int .u64 xa, .int .u64 xb] 68) = W0 := ⟨_, rfl⟩
  have k0 : Keeps [] w W0 := by rw [← hW0]; exact (Keeps.refl _ _).alloc _
  have r0 : Row W0 w.heap.size 68 [.int .i64 7, .int .i64 xc, .int .u64 xa, .int .u64 xb] := by rw [← hW0]; exact Row.new _ _ _
  have b0 := r0.cell (j := 0) rfl
  have b1 := r0.cell (j := 1) rfl
  have b2 := r0.cell (j := 2) rfl
  have b3 := r0.cell (j := 3) rfl
  have h0' := (k0.cell (p := ⟨L.l, 0, none⟩) l1 (by simp)).trans h0
  have HL := Lib.hid (h.keeps k0)
  have HK := Lib.hid k0
  clear h k0 r0 h0
  by_cases hc : cd = 0
  case' pos => have hb : (cd == 0) = true := by simp [hc]
  case' neg => have hb : (cd == 0) = false := by simp [hc]
  all_goals
    have HC := Lib.hid hc
    clear hc
    go_enter Tryz.func24, Tryz.ntmps24
    go_wp2
    clear hW0
    refine wp_region_mid 5 (by kernel_rfl) (by kernel_rfl) ?_
    simp only [List.take_succ_cons, List.take_zero, List.drop_succ_cons, List.drop_zero]
    repeat still_step
    refine wpStill_nil ?_
    go_wp2_with fail
    refine (HDo.out _ HL.out.mem.drew).mono ?_
    rintro e w2 ⟨rfl, hm, hk⟩
    have HQ : Hid (Loom D w2 L ∧ Keeps [L.b] w w2) := Lib.hid ⟨(HL.out.keeps (Keeps.refl [] W0).drew).setMem hk hm, (HK.out.drew.nil).trans hk⟩
    clear hm hk
    go_wp2
    show wpStill _ _ _ _ _ _
    repeat still_step
    refine wpStill_nil ?_
    go_wp2
    go_ret
    refine ⟨?_, HQ.out⟩
    rw [HP.out]
    have := HC.out
    simp [this]


theorem told_U {w : World} {m b : Nat} {us : List Int} (h : Mem w m b us) (x : C.Acc) : M.U (C.told us x) := by
  unfold C.told
  split
  · rename_i hc
    have hi : x.c.toNat < us.length := by
      unfold C.code at hc
      split at hc
      · omega
      · split at hc
        · omega
        · omega
    exact (h.word hi).2.2
  · exact ⟨by decide, by decide⟩

/-- A loom behind a step of a worker's walk, which wants x; ts: what the walks are then. -/
def LSt.after (L : LSt) (who : Nat) (t : Strand) (x : C.Acc) : LSt :=
  { L with us := C.next L.us x, ts := L.ts.set who (some (t.go (C.told L.us x) (C.won L.us x))), steps := L.steps + 1 }

/-- Only a worker's walk is another one, in the same block: nothing of the loom is written. -/
theorem Loom.go {D : Nat → Prop} {w w' : World} {L : LSt} {who : Nat} {t t' : Strand} (h : Loom D w L) (ho : L.ts[who]? = some (some t)) (hm : t'.m = t.m) {S S' : List Nat}
    (hF : ∃ F : Nat → List Nat, F who = S ∧ (∀ (i : Nat) (u : Strand), L.ts[i]? = some (some u) → u.I w (F i) u.s) ∧ (∀ i j, i ≠ j → ∀ k ∈ F i, k ∉ F j) ∧ ∀ i, ∀ k ∈ F i, ¬ D k ∧ k < w.heap.size ∧ k ≠ L.l ∧ k ≠ L.g ∧ k ≠ L.mm ∧ k ≠ L.b)
    (hI : t'.I w' S' t'.s) (hk : Keeps S w w') (hn : ∀ k ∈ S', k ∈ S ∨ w.heap.size ≤ k) : Loom D w' { L with ts := L.ts.set who (some t') } := by
  obtain ⟨F, rfl, f1, f2, f3⟩ := hF
  obtain ⟨cap, hh⟩ := h.head
  obtain ⟨l1, l2, l3⟩ := h.lts
  have l4 := h.mem.lt.1
  have hlt := (List.getElem?_eq_some_iff.1 ho).1
  have no : ∀ k, k = L.l ∨ k = L.g ∨ k = L.mm ∨ k = L.b → k ∉ F who := fun k hk hm => by
    have := (f3 who k hm).2.2
    rcases hk with h | h | h | h <;> simp_all
  have hth : thread (some t') = thread (some t) := by simp [thread, hm]
  have hdom := h.dom
  refine { h with
    amb := h.amb.keeps hk (fun k hk' ha => (f3 who k hk').1 (h.ambD _ ha))
    dom := fun k hd => Nat.lt_of_lt_of_le (hdom k hd) hk.size
    head := ⟨cap, ?_⟩
    row := ?_
    mem := h.mem.keeps hk (no _ (by simp)) (no _ (by simp))
    few := by simpa using h.few
    at_ := ⟨fun i => if i = who then S' else F i, fun i u hu => ?_, fun i j hij k hk1 hk2 => ?_, fun i k hk1 => ?_⟩ }
  · have := hh.keeps hk (no _ (by simp))
    simpa [loomCells] using this
  · have := h.row.keeps hk (no _ (by simp))
    rw [show (L.ts.set who (some t')).map thread = L.ts.map thread from by
      rw [List.map_set, hth, ← List.map_set, show L.ts.set who (some t) = L.ts from by
        have hv := (List.getElem?_eq_some_iff.1 ho).2
        rw [← hv, List.set_getElem_self]]]
    exact this
  · simp only at hu
    by_cases e : i = who
    · subst e
      rw [List.getElem?_set_self hlt] at hu
      cases hu
      simpa using hI
    · rw [List.getElem?_set_ne (Ne.symm e)] at hu
      simp only [if_neg e]
      exact u.runs.frame (f1 i u hu) hk (f2 i who e)
  · simp only at hk1 hk2
    split at hk1 <;> split at hk2
    · omega
    · rename_i h1 h2
      rcases hn k hk1 with h | h
      · exact f2 who j (Ne.symm h2) k h hk2
      · have := (f3 j k hk2).2.1; omega
    · rename_i h1 h2
      rcases hn k hk2 with h | h
      · exact f2 who i (Ne.symm h1) k h hk1
      · have := (f3 i k hk1).2.1; omega
    · exact f2 i j hij k hk1 hk2
  · simp only at hk1
    split at hk1
    · have hkl := t'.runs.lt hI k hk1
      rcases hn k hk1 with h | h
      · have := f3 who k h
        exact ⟨this.1, hkl, this.2.2⟩
      · simp only
        exact ⟨fun hd => by have := hdom k hd; omega, hkl, by omega, by omega, by omega, by omega⟩
    · have := f3 i k hk1
      exact ⟨this.1, Nat.lt_of_lt_of_le this.2.1 hk.size, this.2.2⟩

set_option maxRecDepth 100000 in
set_option maxHeartbeats 800000 in
theorem step_any (D : Nat → Prop) (L : LSt) (who : Nat) (t : Strand) (x : C.Acc) (w : World) (h : Loom D w L) (ho : L.ts[who]? = some (some t)) (hx : x.ok) (hc : C.code L.us x = 0) :
    Calls Tryz.prog 25 #[.pointer (some ⟨L.l, 0, none⟩), .pointer (some ⟨t.m, 0, none⟩), .agg #[.int .i64 x.k, .int .i64 x.c, .int .u64 x.a, .int .u64 x.b]] w fun e w' => e = .returned (.int .i64 0) ∧
      Loom D w' { L with us := C.next L.us x, ts := L.ts.set who (some (t.go (C.told L.us x) (C.won L.us x))) } ∧ Held D w w' := by
  have HD := fun W h => do_any L.mm L.b L.us x W h hx
  have hU := told_U h.mem x
  obtain ⟨tv, htv⟩ : ∃ tv, C.told L.us x = tv := ⟨_, rfl⟩
  obtain ⟨wn, hwn⟩ : ∃ wn, C.won L.us x = wn := ⟨_, rfl⟩
  obtain ⟨vs, hvs⟩ : ∃ vs, C.next L.us x = vs := ⟨_, rfl⟩
  rw [htv, hwn, hc, hvs] at HD
  rw [htv] at hU
  rw [htv, hwn, hvs]
  have HU := Lib.hid hU
  have HDo := Lib.hid HD
  clear HD htv hwn hc hvs hx hU
  obtain ⟨cap, h0, -, -⟩ := h.cells
  obtain ⟨l1, -, l3⟩ := h.lts
  obtain ⟨xk, xc, xa, xb⟩ := x
  simp only at HDo
  obtain ⟨W0, hW0⟩ : ∃ W0, w.alloc (.cells #[.int .i64 xk, .int .i64 xc, .int .u64 xa, .int .u64 xb] 68) = W0 := ⟨_, rfl⟩
  have k0 : Keeps [] w W0 := by rw [← hW0]; exact (Keeps.refl _ _).alloc _
  have r0 : Row W0 w.heap.size 68 [.int .i64 xk, .int .i64 xc, .int .u64 xa, .int .u64 xb] := by rw [← hW0]; exact Row.new _ _ _
  have b0 := r0.cell (j := 0) rfl
  have b1 := r0.cell (j := 1) rfl
  have b2 := r0.cell (j := 2) rfl
  have b3 := r0.cell (j := 3) rfl
  have h0' := (k0.cell (p := ⟨L.l, 0, none⟩) l1 (by simp)).trans h0
  have hbase := Lib.hid (⟨h.base, h.dom⟩ : _ ∧ _)
  have HL := Lib.hid (h.keeps k0)
  have HK := Lib.hid k0
  have HO := Lib.hid ho
  clear h k0 r0 h0 ho
  go_enter Tryz.func25, Tryz.ntmps25
  go_wp2
  clear hW0
  refine wp_region_mid 5 (by kernel_rfl) (by kernel_rfl) ?_
  simp only [List.take_succ_cons, List.take_zero, List.drop_succ_cons, List.drop_zero]
  repeat still_step
  refine wpStill_nil ?_
  go_wp2_with fail
  refine (HDo.out _ HL.out.mem.drew).mono ?_
  rintro e w2 ⟨rfl, hm, hk⟩
  have hL2 : Loom D w2 { L with us := vs } := (HL.out.keeps (Keeps.refl [] W0).drew).setMem hk hm
  obtain ⟨F, f1, f2, f3⟩ := hL2.at_
  have HG := Lib.hid (t.runs.give w2 (F who) t.s tv wn (f1 who t HO.out) HU.out hL2.amb (fun k hk' ha => (f3 who k hk').1 (hL2.ambD k ha)))
  have HF := Lib.hid (⟨f1, f2, f3⟩ : _ ∧ _ ∧ _)
  have HQ : Hid (Loom D w2 { L with us := vs } ∧ Keeps [L.b] w w2) := Lib.hid ⟨hL2, (HK.out.drew.nil).trans hk⟩
  clear hm hk hL2 f1 f2 f3
  go_wp2
  show wpStill _ _ _ _ _ _
  repeat still_step
  refine wpStill_nil ?_
  go_wp2_with fail
  refine HG.out.mono ?_
  rintro e w3 ⟨rfl, S', hI, k3, hn⟩
  obtain ⟨f1, f2, f3⟩ := HF.out
  have hL3 := HQ.out.1.go (t' := t.go tv wn) HO.out rfl ⟨F, rfl, f1, f2, f3⟩ hI k3 hn
  have hb3 : Held D w w3 := by
    exact (HQ.out.2.held hbase.out.2 (fun k hk => by simp at hk; subst hk; exact hbase.out.1.2.2)).trans (k3.held HQ.out.1.dom (fun k hk => (f3 who k hk).1))
  have HR := Lib.hid (⟨hL3, hb3⟩ : _ ∧ _)
  clear hI k3 hn f1 f2 f3 hL3 hb3 HF HQ HG
  go_wp2
  go_ret
  exact ⟨rfl, HR.out⟩
end Go.Proofs.YtjbgkaleickknaaGreat

/-
  Contracts: Start, Parked, Pick.
-/
namespace Go.Proofs.YtjbgkaleickknaaGreat
set_option maxRecDepth 100000
set_option linter.unusedSimpArgs false
set_option linter.unusedVariables false
open Go.ChangeShapes Go.WideShapes Go.ChangeAt Go.RowKit

set_option maxHeartbeats 800000 in
/-- A worker that isn't busy gets a walk that was made since w0; others wrote blocks of D meanwhile. -/
theorem start_more (D : Nat → Prop) (L : LSt) (who : Nat) (o : Option Strand) (t : Strand) (S X : List Nat) (w0 w : World) (h : Loom D w0 L) (hk : Keeps X w0 w) (hX : ∀ k ∈ X, D k) (hXm : L.mm ∉ X) (ho : L.ts[who]? = some o) (hb : busy o = false) (hI : t.I w S t.s) (hS : ∀ k ∈ S, w0.heap.size ≤ k) (hSa : ∀ k ∈ X, ¬ AmbAt k := by exact fun _ _ h => h) :
    Calls Tryz.prog 11 #[.pointer (some ⟨L.l, 0, none⟩), .int .i64 (who : Int), .pointer (some ⟨t.m, 0, none⟩)] w fun e w' => e = .returned (.int .i64 0) ∧ Loom D w' { L with ts := L.ts.set who (some t) } ∧ Keeps [L.g] w w' := by
  have hlt := (List.getElem?_eq_some_iff.1 ho).1
  have hL := h.apart hk hX hXm hSa
  have HH := Lib.hid (has_yes D L who w hL hlt)
  have HB := busy_at D L who o w hL ho
  rw [hb] at HB
  have HBu := Lib.hid HB
  have hf := h.few
  have H0 := Lib.hid h
  have HK := Lib.hid hk
  have HX := Lib.hid hX
  have HI := Lib.hid hI
  have HS := Lib.hid hS
  have HO := Lib.hid ho
  have HL := Lib.hid hL
  have HLT := Lib.hid hlt
  clear h hk ho hb hI hS hL HB hX hXm
  go_enter Tryz.func11, Tryz.ntmps11
  go_wp2_with fail
  refine HH.out.mono ?_
  rintro e w1 ⟨rfl, rfl⟩
  go_wp2_with fail
  refine HBu.out.mono ?_
  rintro e w1 ⟨rfl, k1⟩
  have hL1 := HL.out.keeps k1
  obtain ⟨cap, -, c1, -⟩ := hL1.cells
  have ct := hL1.threadAt HO.out
  have cf := hL1.row.frozen who
  have HQ : Hid (Loom D w1 L ∧ Keeps [] w w1) := Lib.hid ⟨hL1, k1⟩
  rw [thread] at ct
  clear hL1 k1 HH HBu
  go_wp2
  go_ret
  obtain ⟨hL1, k1⟩ := HQ.out
  obtain ⟨F, f1, f2, f3⟩ := H0.out.at_
  have h0lt := H0.out.lts
  have h0m := H0.out.mem.lt.1
  have hdom := H0.out.dom
  have hkk := HK.out.trans (k1.nil (S := X))
  refine ⟨rfl, hL1.setThread HO.out t S (t.runs.frame HI.out k1 (by simp)) (fun k hk => ?_) ⟨F, fun i u _ hu => u.runs.frame (f1 i u hu) hkk (fun k hk hm => (f3 i k hk).1 (HX.out k hm)), f2, fun i k hk => ⟨(f3 i k hk).1, Nat.lt_of_lt_of_le (f3 i k hk).2.1 hkk.size, (f3 i k hk).2.2⟩, fun i _ k hk hkF => ?_⟩, ?_⟩
  · have := HS.out k hk
    exact ⟨fun hd => by have := hdom k hd; omega, by omega, by omega, by omega, by omega⟩
  · have := HS.out k hk
    have := (f3 i k hkF).2.1
    omega
  · exact k1.nil.setCell (fun _ => by simp) _
/-- A worker that isn't busy gets a walk that was made since w0. -/
theorem start_at (D : Nat → Prop) (L : LSt) (who : Nat) (o : Option Strand) (t : Strand) (S : List Nat) (w0 w : World) (h : Loom D w0 L) (hk : Keeps [] w0 w) (ho : L.ts[who]? = some o) (hb : busy o = false) (hI : t.I w S t.s) (hS : ∀ k ∈ S, w0.heap.size ≤ k) :
    Calls Tryz.prog 11 #[.pointer (some ⟨L.l, 0, none⟩), .int .i64 (who : Int), .pointer (some ⟨t.m, 0, none⟩)] w fun e w' => e = .returned (.int .i64 0) ∧ Loom D w' { L with ts := L.ts.set who (some t) } ∧ Keeps [L.g] w w' :=
  start_more D L who o t S [] w0 w h hk (by simp) (by simp) ho hb hI hS (by simp)

theorem pick_idle (D : Nat → Prop) (L : LSt) (who : Nat) (o : Option Strand) (w : World) (h : Loom D w L) (ho : L.ts[who]? = some o) (hn : o.bind Strand.want = none) :
    Calls Tryz.prog 13 #[.pointer (some ⟨L.l, 0, none⟩), .int .i64 (who : Int)] w fun e w' => e = .returned (.int .i64 10) ∧ Keeps [] w w' := by
  have HW := Lib.hid (wanted_idle D L who o w h ho hn)
  clear h ho hn
  go_enter Tryz.func13, Tryz.ntmps13
  go_wp2_with fail
  refine HW.out.mono ?_
  rintro e w1 ⟨rfl, k1⟩
  go_wp2
  go_ret
  exact ⟨rfl, k1.alloc _⟩
theorem waits_any (D : Nat → Prop) (L : LSt) (x : C.Acc) (W : World) (hW : Loom D W L) (hx : x.ok) :
    Calls Tryz.prog 24 #[.pointer (some ⟨L.l, 0, none⟩), .agg #[.int .i64 x.k, .int .i64 x.c, .int .u64 x.a, .int .u64 x.b]] W fun e w' => e = .returned (.bool (parks L.us x)) ∧ Loom D w' L ∧ Keeps [L.b] W w' := by
  by_cases hk : x.k = 7
  · exact waits_7 D L x W hW hx hk
  · exact (waits_not L.l x W hk).mono fun e w' ⟨he, k⟩ => ⟨by rw [he]; simp [parks, hk], hW.keeps k, k.nil⟩
set_option maxRecDepth 100000 in
set_option maxHeartbeats 1600000 in
theorem pick_fine (D : Nat → Prop) (L : LSt) (who : Nat) (t : Strand) (x : C.Acc) (w : World) (h : Loom D w L) (ho : L.ts[who]? = some (some t)) (hn : t.want = some x) (hx : x.ok) (hc : C.code L.us x = 0) (hp : parks L.us x = false) (hs : L.steps ≤ 1000000000000) :
    Calls Tryz.prog 13 #[.pointer (some ⟨L.l, 0, none⟩), .int .i64 (who : Int)] w fun e w' => e = .returned (.int .i64 0) ∧ Loom D w' (L.after who t x) ∧ Held D w w' := by
  have HW := Lib.hid (wanted_some D L who (some t) x w h ho hn)
  have HWa := fun W hW => waits_any D L x W hW hx
  rw [hp] at HWa
  have HWa := Lib.hid HWa
  have HSt := Lib.hid (fun W hW => step_any D L who t x W hW ho hx hc)
  have HL := Lib.hid h
  have hlt := (List.getElem?_eq_some_iff.1 ho).1
  have hf := h.few
  have hbase := Lib.hid h.base
  have hlts := Lib.hid h.dom
  have HO := Lib.hid ho
  obtain ⟨M, hM⟩ : ∃ M : LSt, { L with us := C.next L.us x, ts := L.ts.set who (some (t.go (C.told L.us x) (C.won L.us x))) } = M := ⟨_, rfl⟩
  have HA : Hid (L.after who t x = { M with steps := L.steps + 1 } ∧ M.l = L.l ∧ M.steps = L.steps) := Lib.hid (by rw [← hM]; exact ⟨rfl, rfl, rfl⟩)
  rw [hM] at HSt
  obtain ⟨xk, xc, xa, xb⟩ := x
  simp only at HW HWa HSt
  clear h ho hn hx hp hM hc
  go_enter Tryz.func13, Tryz.ntmps13
  go_wp2_with fail
  refine HW.out.mono ?_
  rintro e w1 ⟨rfl, k1⟩
  have HL1 := Lib.hid (HL.out.keeps k1)
  have HK1 := Lib.hid k1
  have hbz : w1.heap.size = w1.heap.size := rfl
  clear k1 HW HL
  go_wp2_with fail
  generalize hW : World.alloc _ _ = W2
  have k2 : Keeps [] w1 W2 := by rw [← hW]; exact (Keeps.refl _ _).alloc _
  have r2 : Row W2 w1.heap.size 68 [.int .i64 xk, .int .i64 xc, .int .u64 xa, .int .u64 xb] := by rw [← hW]; exact Row.new _ _ _
  have hbw : w1.heap.size ≠ L.b := by have := HL1.out.lts; omega
  refine (HWa.out W2 (HL1.out.keeps k2)).mono ?_
  rintro e w3 ⟨rfl, hL3, k3⟩
  have r3 := r2.keeps k3 (by simpa using hbw)
  have b0 := r3.cell (j := 0) rfl
  have b1 := r3.cell (j := 1) rfl
  have b2 := r3.cell (j := 2) rfl
  have b3 := r3.cell (j := 3) rfl
  obtain ⟨cap, -, c1, -⟩ := hL3.cells
  have ct := hL3.threadAt HO.out
  simp only [thread, Option.map_some] at ct
  have HR := Lib.hid (⟨hL3, (HK1.out.trans k2).nil.trans k3⟩ : Loom D w3 L ∧ Keeps [L.b] w w3)
  clear hW k2 r2 r3 hL3 k3 HL1 HK1 HWa hbz
  go_wp2
  go_still_tail 9, (by kernel_rfl)
  change wpList _ _ _ _ _ w3.drew
  go_wp2_with fail
  refine (HSt.out w3.drew (HR.out.1.keeps (Keeps.refl _ _).drew)).mono ?_
  rintro e w4 ⟨rfl, hM4, b4⟩
  have hm4 : M.l = L.l := HA.out.2.1
  have hm5 : M.steps = L.steps := HA.out.2.2
  obtain ⟨cap4, d0, d1, d2⟩ := hM4.cells
  rw [hm4] at d0 d1 d2
  rw [hm5] at d2
  obtain ⟨cap5, hh4⟩ := hM4.head
  have df := hh4.frozen 2
  rw [hm4] at df
  have HM := Lib.hid (⟨hM4, b4.os, b4.tape, b4.output, b4.size, b4.block⟩ : Loom D w4 M ∧ Held D w3 w4)
  clear b0 b1 b2 b3 c1 ct hh4 hM4 b4
  go_wp2
  go_ret
  obtain ⟨hM4, b4⟩ := HM.out
  have hst := hM4.step (L.steps + 1)
  rw [show ((L.steps + 1 : Nat) : Int) = (L.steps : Int) + 1 by omega] at hst
  rw [HA.out.1, ← hm4]
  have hz4 := hM4.base.1
  refine ⟨rfl, hst, ?_⟩
  exact ((HR.out.2.held hlts.out (fun k hk => by simp at hk; subst hk; exact hbase.out.2.2)).trans b4).trans (((Keeps.refl [M.l] w4).setCell (fun _ => by simp) _).held hM4.dom (fun k hk => by simp at hk; subst hk; exact hz4))
end Go.Proofs.YtjbgkaleickknaaGreat

/-
  Contracts: Alone.
-/
namespace Go.Proofs.YtjbgkaleickknaaGreat
set_option maxRecDepth 100000
set_option linter.unusedSimpArgs false
set_option linter.unusedVariables false
open Go.ChangeShapes Go.WideShapes Go.ChangeAt Go.RowKit

/-- A worker's pick does a step, and makes L to M. -/
structure OneStep (who : Nat) (L M : LSt) : Prop where
  ex : ∃ (t : Strand) (x : C.Acc), L.ts[who]? = some (some t) ∧ t.want = some x ∧ x.ok ∧ C.code L.us x = 0 ∧ parks L.us x = false ∧ M = L.after who t x
theorem OneStep.l {who : Nat} {L M : LSt} (h : OneStep who L M) : M.l = L.l := by
  obtain ⟨t, x, -, -, -, -, -, rfl⟩ := h.ex; rfl
theorem OneStep.g {who : Nat} {L M : LSt} (h : OneStep who L M) : M.g = L.g := by
  obtain ⟨t, x, -, -, -, -, -, rfl⟩ := h.ex; rfl
theorem OneStep.steps {who : Nat} {L M : LSt} (h : OneStep who L M) : M.steps = L.steps + 1 := by
  obtain ⟨t, x, -, -, -, -, -, rfl⟩ := h.ex; rfl
theorem steps_l {who n : Nat} {Ls : Nat → LSt} (h : ∀ i, i < n → OneStep who (Ls i) (Ls (i + 1))) : ∀ i, i ≤ n → (Ls i).l = (Ls 0).l ∧ (Ls i).steps = (Ls 0).steps + i := by
  intro i
  induction i with
  | zero => intro _; exact ⟨rfl, rfl⟩
  | succ i ih =>
    intro hi
    have h1 := ih (by omega)
    have h2 := h i (by omega)
    exact ⟨h2.l.trans h1.1, by rw [h2.steps, h1.2]; omega⟩
theorem pick_step (D : Nat → Prop) (who : Nat) (L M : LSt) (w : World) (h : Loom D w L) (hs : OneStep who L M) (hn : L.steps ≤ 1000000000000) :
    Calls Tryz.prog 13 #[.pointer (some ⟨L.l, 0, none⟩), .int .i64 (who : Int)] w fun e w' => e = .returned (.int .i64 0) ∧ Loom D w' M ∧ Held D w w' := by
  obtain ⟨t, x, h1, h2, h3, h4, h5, rfl⟩ := hs.ex
  exact pick_fine D L who t x w h h1 h2 h3 h4 h5 hn

set_option maxRecDepth 100000 in
set_option maxHeartbeats 1600000 in
/-- n steps, and then the walk has ended. -/
theorem alone_ends (D : Nat → Prop) (who most n : Nat) (Ls : Nat → LSt) (o : Option Strand) (w : World) (h : Loom D w (Ls 0)) (h0 : 0 < n) (hn : n ≤ most) (hm : most ≤ 1000000) (hs : (Ls 0).steps ≤ 100000000000)
    (hst : ∀ i, i < n → OneStep who (Ls i) (Ls (i + 1))) (ho : (Ls n).ts[who]? = some o) (hw : o.bind Strand.want = none) (hb : busy o = false) :
    Calls Tryz.prog 18 #[.pointer (some ⟨(Ls 0).l, 0, none⟩), .int .i64 (who : Int), .int .i64 (most : Int)] w fun e w' => e = .returned (.tuple #[.int .i64 (n : Int), .int .i64 0]) ∧ Loom D w' (Ls n) ∧ Held D w w' := by
  have hl := steps_l hst
  obtain ⟨t0, x0, e1, e2, -⟩ := (hst 0 h0).ex
  have HW := Lib.hid (wanted_some D (Ls 0) who (some t0) x0 w h e1 e2)
  obtain ⟨l, hll⟩ : ∃ l, (Ls 0).l = l := ⟨_, rfl⟩
  rw [hll] at hl HW ⊢
  have HP : Hid (∀ i W, i < n → Loom D W (Ls i) → Calls Tryz.prog 13 #[.pointer (some ⟨l, 0, none⟩), .int .i64 (who : Int)] W fun e w' => e = .returned (.int .i64 0) ∧ Loom D w' (Ls (i + 1)) ∧ Held D W w') := Lib.hid fun i W hi hW => by
    have := pick_step D who _ _ W hW (hst i hi) (by have := (hl i (by omega)).2; omega)
    rwa [(hl i (by omega)).1] at this
  have HI : Hid (∀ W, Loom D W (Ls n) → Calls Tryz.prog 13 #[.pointer (some ⟨l, 0, none⟩), .int .i64 (who : Int)] W fun e w' => e = .returned (.int .i64 10) ∧ Keeps [] W w') := Lib.hid fun W hW => by
    have := pick_idle D _ who o W hW ho hw
    rwa [(hl n (Nat.le_refl _)).1] at this
  have HBu : Hid (∀ W, Loom D W (Ls n) → Calls Tryz.prog 10 #[.pointer (some ⟨l, 0, none⟩), .int .i64 (who : Int)] W fun e w' => e = .returned (.bool false) ∧ Keeps [] W w') := Lib.hid fun W hW => by
    have := busy_at D _ who o W hW ho
    rwa [(hl n (Nat.le_refl _)).1, hb] at this
  have HL := Lib.hid h
  have below : ∀ {a b : World} {M : LSt}, Loom D a M → Keeps [] a b → Held D a b := fun ha hk => hk.held ha.dom (by simp)
  obtain ⟨xk, xc, xa, xb⟩ := x0
  clear h hst ho hw hb hs hl e1 e2 hll
  go_enter Tryz.func18, Tryz.ntmps18
  go_wp2_with fail
  refine HW.out.mono ?_
  rintro e w1 ⟨rfl, k1⟩
  have HK1 := Lib.hid k1
  clear k1 HW
  go_wp2
  go_loopw [10, 11] (fun d l wr => ∃ i : Nat, i ≤ n ∧ d = .int .i64 (i : Int) ∧ (l = .int .i64 0 ∨ (i = n ∧ l = .int .i64 10)) ∧ Loom D wr (Ls i) ∧ Held D w wr) (fun d l _ => (n - (intOf d).toNat) * 2 + (if intOf l = 0 then 1 else 0))
  case atStart =>
    have k := HK1.out.alloc (.cells #[.int .i64 xk, .int .i64 xc, .int .u64 xa, .int .u64 xb] 68)
    exact ⟨0, Nat.zero_le _, rfl, .inl rfl, HL.out.keeps k, below HL.out k⟩
  case round =>
    obtain ⟨i, hi, rfl, hlast, hL, hb⟩ := hrel
    have HLi := Lib.hid hL
    have HBi := Lib.hid hb
    clear hL hb
    have hsz : w.heap.size ≤ wr.heap.size := HBi.out.size
    rcases hlast with rfl | ⟨rfl, rfl⟩
    · by_cases hlt : i < most
      · by_cases hin : i < n
        · go_wp2_with fail
          refine (HP.out i wr hin HLi.out).mono ?_
          rintro e w2 ⟨rfl, hL2, hb2⟩
          have HR := Lib.hid (⟨hL2, HBi.out.trans hb2⟩ : _ ∧ _)
          clear hL2 hb2
          go_wp2
          go_roundw
          case rel => exact ⟨i + 1, by omega, by go_num, .inl rfl, HR.out⟩
          case measure => simp [intOf]; omega
        · obtain rfl : n = i := by omega
          go_wp2_with fail
          refine (HI.out wr HLi.out).mono ?_
          rintro e w2 ⟨rfl, k2⟩
          have HR := Lib.hid (⟨HLi.out.keeps k2, HBi.out.trans (below HLi.out k2)⟩ : Loom D w2 (Ls n) ∧ Held D w w2)
          clear k2
          go_wp2
          go_roundw
          case rel => exact ⟨n, by omega, rfl, .inr ⟨rfl, rfl⟩, HR.out⟩
          case measure => simp [intOf]
      · obtain rfl : n = i := by omega
        go_wp2_with fail
        refine (HBu.out wr HLi.out).mono ?_
        rintro e w2 ⟨rfl, k2⟩
        have HR := Lib.hid (⟨HLi.out.keeps k2, HBi.out.trans (below HLi.out k2)⟩ : Loom D w2 (Ls n) ∧ Held D w w2)
        clear k2
        go_wp2
        go_ret2
        exact ⟨rfl, HR.out⟩
    · go_wp2_with fail
      refine (HBu.out wr HLi.out).mono ?_
      rintro e w2 ⟨rfl, k2⟩
      have HR := Lib.hid (⟨HLi.out.keeps k2, HBi.out.trans (below HLi.out k2)⟩ : Loom D w2 (Ls i) ∧ Held D w w2)
      clear k2
      go_wp2
      go_ret2
      exact ⟨rfl, HR.out⟩
end Go.Proofs.YtjbgkaleickknaaGreat
