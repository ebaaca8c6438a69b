/-
  Contracts: what a pick does.
-/
import Derived.Test.YtihlfcggggloaaaLoom2
import Derived.Test.YtihlfcggggloaaaDraw
import Derived.Test.YtihlfcggggloaaaMem2
namespace Go.Proofs.Ytihlfcggggloaaa
set_option maxRecDepth 100000
open Go.ChangeShapes Go.WideShapes Go.ChangeAt Go.RowKit

theorem Mem.drew {w : World} {m b : Nat} {us : List Int} (h : Mem w m b us) : Mem w.drew m b us := h.keeps (Keeps.refl [] w).drew (by simp) (by simp)
/-- Whether an access is a Wait that wouldn't win now. -/
def parks (us : List Int) (x : C.Acc) : Bool := decide (x.k = 7) && (decide (C.code us x = 0) && !C.won us x)
theorem next_wait {us : List Int} {x : C.Acc} (h : x.k = 7) : C.next us x = us := by
  unfold C.next
  split
  · rename_i hc
    have hi : x.c.toNat < us.length := by
      unfold C.code at hc
      split at hc
      · omega
      · split at hc
        · omega
        · omega
    rw [h]
    exact set_self hi rfl
  · rfl

theorem waits_not (l : Nat) (x : C.Acc) (w : World) (hk : x.k ≠ 7) :
    Calls Try.prog 34 #[.pointer (some ⟨l, 0, none⟩), .agg #[.int .i64 x.k, .int .i64 x.c, .int .u64 x.a, .int .u64 x.b]] w fun e w' => e = .returned (.bool false) ∧ Keeps [] w w' := by
  have hb : (x.k != 7) = true := by simpa using hk
  have HK := Lib.hid hk
  clear hk
  go_enter Try.func34, Try.ntmps34
  go_wp2
  go_ret
  exact ⟨rfl, (Keeps.refl _ _).alloc _⟩
set_option maxRecDepth 100000 in
set_option maxHeartbeats 800000 in
theorem waits_7 (D : Nat → Prop) (L : LSt) (x : C.Acc) (w : World) (h : Loom D w L) (hx : x.ok) (hk : x.k = 7) :
    Calls Try.prog 34 #[.pointer (some ⟨L.l, 0, none⟩), .agg #[.int .i64 x.k, .int .i64 x.c, .int .u64 x.a, .int .u64 x.b]] w fun e w' => e = .returned (.bool (parks L.us x)) ∧ Loom D w' L ∧ Keeps [L.b] w w' := by
  have HN : Hid (C.next L.us x = L.us) := Lib.hid (next_wait hk)
  have HP : Hid (parks L.us x = (decide (C.code L.us x = 0) && !C.won L.us x)) := Lib.hid (by simp [parks, hk])
  have HD := fun W h => do_any L.mm L.b L.us x W h hx
  obtain ⟨xk, xc, xa, xb⟩ := x
  simp only at hk
  subst hk
  obtain ⟨tv, htv⟩ : ∃ tv, C.told L.us ⟨7, xc, xa, xb⟩ = tv := ⟨_, rfl⟩
  obtain ⟨wn, hwn⟩ : ∃ wn, C.won L.us ⟨7, xc, xa, xb⟩ = wn := ⟨_, rfl⟩
  obtain ⟨cd, hcd⟩ : ∃ cd, C.code L.us ⟨7, xc, xa, xb⟩ = cd := ⟨_, rfl⟩
  rw [HN.out, htv, hwn, hcd] at HD
  rw [hwn, hcd] at HP
  have HDo := Lib.hid HD
  clear HD HN htv hwn hcd hx
  obtain ⟨cap, h0, -, -⟩ := h.cells
  obtain ⟨l1, -, l3⟩ := h.lts
  obtain ⟨W0, hW0⟩ : ∃ W0, w.alloc (.cells #[.int .i64 7, .int .i64 xc, .int .u64 xa, .int .u64 xb] 73) = W0 := ⟨_, rfl⟩
  have k0 : Keeps [] w W0 := by rw [← hW0]; exact (Keeps.refl _ _).alloc _
  have r0 : Row W0 w.heap.size 73 [.int .i64 7, .int .i64 xc, .int .u64 xa, .int .u64 xb] := by rw [← hW0]; exact Row.new _ _ _
  have b0 := r0.cell (j := 0) rfl
  have b1 := r0.cell (j := 1) rfl
  have b2 := r0.cell (j := 2) rfl
  have b3 := r0.cell (j := 3) rfl
  have h0' := (k0.cell (p := ⟨L.l, 0, none⟩) l1 (by simp)).trans h0
  have HL := Lib.hid (h.keeps k0)
  have HK := Lib.hid k0
  clear h k0 r0 h0
  by_cases hc : cd = 0
  case' pos => have hb : (cd == 0) = true := by simp [hc]
  case' neg => have hb : (cd == 0) = false := by simp [hc]
  all_goals
    have HC := Lib.hid hc
    clear hc
    go_enter Try.func34, Try.ntmps34
    go_wp2
    clear hW0
    refine wp_region_mid 5 (by kernel_rfl) (by kernel_rfl) ?_
    simp only [List.take_succ_cons, List.take_zero, List.drop_succ_cons, List.drop_zero]
    repeat still_step
    refine wpStill_nil ?_
    go_wp2_with fail
    refine (HDo.out _ HL.out.mem.drew).mono ?_
    rintro e w2 ⟨rfl, hm, hk⟩
    have HQ : Hid (Loom D w2 L ∧ Keeps [L.b] w w2) := Lib.hid ⟨(HL.out.keeps (Keeps.refl [] W0).drew).setMem hk hm, (HK.out.drew.nil).trans hk⟩
    clear hm hk
    go_wp2
    show wpStill _ _ _ _ _ _
    repeat still_step
    refine wpStill_nil ?_
    go_wp2
    go_ret
    refine ⟨?_, HQ.out⟩
    rw [HP.out]
    have := HC.out
    simp [this]


theorem told_U {w : World} {m b : Nat} {us : List Int} (h : Mem w m b us) (x : C.Acc) : M.U (C.told us x) := by
  unfold C.told
  split
  · rename_i hc
    have hi : x.c.toNat < us.length := by
      unfold C.code at hc
      split at hc
      · omega
      · split at hc
        · omega
        · omega
    exact (h.word hi).2.2
  · exact ⟨by decide, by decide⟩

/-- A loom behind a step of a worker's walk, which wants x; ts: what the walks are then. -/
def LSt.after (L : LSt) (who : Nat) (t : Strand) (x : C.Acc) : LSt :=
  { L with us := C.next L.us x, ts := L.ts.set who (some (t.go (C.told L.us x) (C.won L.us x))), steps := L.steps + 1 }

/-- Only a worker's walk is another one, in the same block: nothing of the loom is written. -/
theorem Loom.go {D : Nat → Prop} {w w' : World} {L : LSt} {who : Nat} {t t' : Strand} (h : Loom D w L) (ho : L.ts[who]? = some (some t)) (hm : t'.m = t.m) {S S' : List Nat}
    (hF : ∃ F : Nat → List Nat, F who = S ∧ (∀ (i : Nat) (u : Strand), L.ts[i]? = some (some u) → u.I w (F i) u.s) ∧ (∀ i j, i ≠ j → ∀ k ∈ F i, k ∉ F j) ∧ ∀ i, ∀ k ∈ F i, ¬ D k ∧ k < w.heap.size ∧ k ≠ L.l ∧ k ≠ L.g ∧ k ≠ L.mm ∧ k ≠ L.b)
    (hI : t'.I w' S' t'.s) (hk : Keeps S w w') (hn : ∀ k ∈ S', k ∈ S ∨ w.heap.size ≤ k) : Loom D w' { L with ts := L.ts.set who (some t') } := by
  obtain ⟨F, rfl, f1, f2, f3⟩ := hF
  obtain ⟨cap, hh⟩ := h.head
  obtain ⟨l1, l2, l3⟩ := h.lts
  have l4 := h.mem.lt.1
  have hlt := (List.getElem?_eq_some_iff.1 ho).1
  have no : ∀ k, k = L.l ∨ k = L.g ∨ k = L.mm ∨ k = L.b → k ∉ F who := fun k hk hm => by
    have := (f3 who k hm).2.2
    rcases hk with h | h | h | h <;> simp_all
  have hth : thread (some t') = thread (some t) := by simp [thread, hm]
  have hdom := h.dom
  refine { h with
    dom := fun k hd => Nat.lt_of_lt_of_le (hdom k hd) hk.size
    head := ⟨cap, ?_⟩
    row := ?_
    mem := h.mem.keeps hk (no _ (by simp)) (no _ (by simp))
    few := by simpa using h.few
    at_ := ⟨fun i => if i = who then S' else F i, fun i u hu => ?_, fun i j hij k hk1 hk2 => ?_, fun i k hk1 => ?_⟩ }
  · have := hh.keeps hk (no _ (by simp))
    simpa [loomCells] using this
  · have := h.row.keeps hk (no _ (by simp))
    rw [show (L.ts.set who (some t')).map thread = L.ts.map thread from by
      rw [List.map_set, hth, ← List.map_set, show L.ts.set who (some t) = L.ts from by
        have hv := (List.getElem?_eq_some_iff.1 ho).2
        rw [← hv, List.set_getElem_self]]]
    exact this
  · simp only at hu
    by_cases e : i = who
    · subst e
      rw [List.getElem?_set_self hlt] at hu
      cases hu
      simpa using hI
    · rw [List.getElem?_set_ne (Ne.symm e)] at hu
      simp only [if_neg e]
      exact u.runs.frame (f1 i u hu) hk (f2 i who e)
  · simp only at hk1 hk2
    split at hk1 <;> split at hk2
    · omega
    · rename_i h1 h2
      rcases hn k hk1 with h | h
      · exact f2 who j (Ne.symm h2) k h hk2
      · have := (f3 j k hk2).2.1; omega
    · rename_i h1 h2
      rcases hn k hk2 with h | h
      · exact f2 who i (Ne.symm h1) k h hk1
      · have := (f3 i k hk1).2.1; omega
    · exact f2 i j hij k hk1 hk2
  · simp only at hk1
    split at hk1
    · have hkl := t'.runs.lt hI k hk1
      rcases hn k hk1 with h | h
      · have := f3 who k h
        exact ⟨this.1, hkl, this.2.2⟩
      · simp only
        exact ⟨fun hd => by have := hdom k hd; omega, hkl, by omega, by omega, by omega, by omega⟩
    · have := f3 i k hk1
      exact ⟨this.1, Nat.lt_of_lt_of_le this.2.1 hk.size, this.2.2⟩

set_option maxRecDepth 100000 in
set_option maxHeartbeats 800000 in
theorem step_any (D : Nat → Prop) (L : LSt) (who : Nat) (t : Strand) (x : C.Acc) (w : World) (h : Loom D w L) (ho : L.ts[who]? = some (some t)) (hx : x.ok) (hc : C.code L.us x = 0) :
    Calls Try.prog 35 #[.pointer (some ⟨L.l, 0, none⟩), .pointer (some ⟨t.m, 0, none⟩), .agg #[.int .i64 x.k, .int .i64 x.c, .int .u64 x.a, .int .u64 x.b]] w fun e w' => e = .returned (.int .i64 0) ∧
      Loom D w' { L with us := C.next L.us x, ts := L.ts.set who (some (t.go (C.told L.us x) (C.won L.us x))) } ∧ Held D w w' := by
  have HD := fun W h => do_any L.mm L.b L.us x W h hx
  have hU := told_U h.mem x
  obtain ⟨tv, htv⟩ : ∃ tv, C.told L.us x = tv := ⟨_, rfl⟩
  obtain ⟨wn, hwn⟩ : ∃ wn, C.won L.us x = wn := ⟨_, rfl⟩
  obtain ⟨vs, hvs⟩ : ∃ vs, C.next L.us x = vs := ⟨_, rfl⟩
  rw [htv, hwn, hc, hvs] at HD
  rw [htv] at hU
  rw [htv, hwn, hvs]
  have HU := Lib.hid hU
  have HDo := Lib.hid HD
  clear HD htv hwn hc hvs hx hU
  obtain ⟨cap, h0, -, -⟩ := h.cells
  obtain ⟨l1, -, l3⟩ := h.lts
  obtain ⟨xk, xc, xa, xb⟩ := x
  simp only at HDo
  obtain ⟨W0, hW0⟩ : ∃ W0, w.alloc (.cells #[.int .i64 xk, .int .i64 xc, .int .u64 xa, .int .u64 xb] 73) = W0 := ⟨_, rfl⟩
  have k0 : Keeps [] w W0 := by rw [← hW0]; exact (Keeps.refl _ _).alloc _
  have r0 : Row W0 w.heap.size 73 [.int .i64 xk, .int .i64 xc, .int .u64 xa, .int .u64 xb] := by rw [← hW0]; exact Row.new _ _ _
  have b0 := r0.cell (j := 0) rfl
  have b1 := r0.cell (j := 1) rfl
  have b2 := r0.cell (j := 2) rfl
  have b3 := r0.cell (j := 3) rfl
  have h0' := (k0.cell (p := ⟨L.l, 0, none⟩) l1 (by simp)).trans h0
  have hbase := Lib.hid (⟨h.base, h.dom⟩ : _ ∧ _)
  have HL := Lib.hid (h.keeps k0)
  have HK := Lib.hid k0
  have HO := Lib.hid ho
  clear h k0 r0 h0 ho
  go_enter Try.func35, Try.ntmps35
  go_wp2
  clear hW0
  refine wp_region_mid 5 (by kernel_rfl) (by kernel_rfl) ?_
  simp only [List.take_succ_cons, List.take_zero, List.drop_succ_cons, List.drop_zero]
  repeat still_step
  refine wpStill_nil ?_
  go_wp2_with fail
  refine (HDo.out _ HL.out.mem.drew).mono ?_
  rintro e w2 ⟨rfl, hm, hk⟩
  have hL2 : Loom D w2 { L with us := vs } := (HL.out.keeps (Keeps.refl [] W0).drew).setMem hk hm
  obtain ⟨F, f1, f2, f3⟩ := hL2.at_
  have HG := Lib.hid (t.runs.give w2 (F who) t.s tv wn (f1 who t HO.out) HU.out)
  have HF := Lib.hid (⟨f1, f2, f3⟩ : _ ∧ _ ∧ _)
  have HQ : Hid (Loom D w2 { L with us := vs } ∧ Keeps [L.b] w w2) := Lib.hid ⟨hL2, (HK.out.drew.nil).trans hk⟩
  clear hm hk hL2 f1 f2 f3
  go_wp2
  show wpStill _ _ _ _ _ _
  repeat still_step
  refine wpStill_nil ?_
  go_wp2_with fail
  refine HG.out.mono ?_
  rintro e w3 ⟨rfl, S', hI, k3, hn⟩
  obtain ⟨f1, f2, f3⟩ := HF.out
  have hL3 := HQ.out.1.go (t' := t.go tv wn) HO.out rfl ⟨F, rfl, f1, f2, f3⟩ hI k3 hn
  have hb3 : Held D w w3 := by
    exact (HQ.out.2.held hbase.out.2 (fun k hk => by simp at hk; subst hk; exact hbase.out.1.2.2)).trans (k3.held HQ.out.1.dom (fun k hk => (f3 who k hk).1))
  have HR := Lib.hid (⟨hL3, hb3⟩ : _ ∧ _)
  clear hI k3 hn f1 f2 f3 hL3 hb3 HF HQ HG
  go_wp2
  go_ret
  exact ⟨rfl, HR.out⟩
end Go.Proofs.Ytihlfcggggloaaa
