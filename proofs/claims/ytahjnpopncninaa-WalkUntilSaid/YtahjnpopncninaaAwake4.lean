/-
  The chapter's example of layer 4; answers that came in.
-/
import Derived.Test.YtahjnpopncninaaKinds3
import Derived.Test.YtahjnpopncninaaLook
import Derived.Test.YtahjnpopncninaaOpen
import Derived.Test.YtahjnpopncninaaAcc
import Derived.ChangeSame
import Derived.ChangeArms
namespace Go.Proofs.Ytahjnpopncninaa
open Go.ChangeShapes Go.WideShapes Go.ChangeAt Go.RowKit Go.Deep

set_option maxHeartbeats 1600000 in
theorem awake4 (w : World) :
    Calls Try.prog 8 #[] w fun e w' => e = .returned (.bool true) ∧ Keeps [] w w' := by
  obtain ⟨W0, hW0⟩ : ∃ W0, w.alloc (.cells #[.int .i64 1, .int .i64 3, .int .u64 0, .int .u64 0] 37) = W0 := ⟨_, rfl⟩
  have hsl : Sl W0 4 (.slice (some ⟨w.heap.size, 0, none⟩) 1 1) 1 (accs [⟨1, 3, 0, 0⟩]) := by rw [← hW0]; exact Sl.lit w #[.int .i64 1, .int .i64 3, .int .u64 0, .int .u64 0] 37 4 1 1 rfl
  have HP := Lib.hid (wPlain _ [⟨1, 3, 0, 0⟩] W0 hsl (by simp))
  have hk0 : Keeps [] w W0 := by rw [← hW0]; exact (Keeps.refl _ _).alloc _
  have HK0 := Lib.hid hk0
  clear hsl hk0
  go_enter Try.func8, Try.ntmps8
  go_wp2_with fail
  clear hW0
  refine HP.out.mono ?_
  rintro e w1 ⟨m, S, rfl, hI, k1, hS⟩
  have HR := Lib.hid (plainRuns m)
  have HI1 := Lib.hid hI
  have HK1 := Lib.hid (HK0.out.trans k1)
  have HSn := Lib.hid (fun k hk => Nat.le_trans HK0.out.size (hS k hk))
  clear hI k1 hS HP
  go_wp2_with fail
  have D := HR.out.want w1 S _ HI1.out
  simp only [plainM, List.getElem?_cons_zero, List.length_nil, Option.getD_some, Option.isSome_some] at D
  refine D.mono ?_
  clear D
  rintro e w2 ⟨rfl, k2⟩
  have HI2 := Lib.hid (HR.out.frame HI1.out k2 (by simp))
  have HK2 := Lib.hid (HK1.out.trans k2)
  clear k2 HI1 HK1
  go_wp2_with fail
  generalize hW2 : World.alloc _ _ = W2
  have hb : Box W2 w2.heap.size #[.int .i64 1, .int .i64 3, .int .u64 0, .int .u64 0] := by rw [← hW2]; exact Box.new _ _ _
  have hk : Keeps [] w2 W2 := by rw [← hW2]; exact (Keeps.refl _ _).alloc _
  have hS2 : ∀ k ∈ S, k ≠ w2.heap.size := fun k hk => by have := HR.out.lt HI2.out k hk; omega
  have HS2 := Lib.hid hS2
  have HB := Lib.hid hb
  have HI3 := Lib.hid (HR.out.frame HI2.out hk (by simp))
  have HK3 := Lib.hid (HK2.out.trans hk)
  clear hb hk HI2 HK2 hS2 hW2
  refine (HR.out.give W2 S _ 7 true HI3.out ⟨by decide, by decide⟩).mono ?_
  rintro e w3 ⟨rfl, S', hI, k3, hn⟩
  have HI4 := Lib.hid (show LoneI plainM (plainE m) m w3 S' ⟨[⟨1, 3, 0, 0⟩], [7], []⟩ from hI)
  have hb3 : Box w3 w2.heap.size #[.int .i64 1, .int .i64 3, .int .u64 0, .int .u64 0] := HB.out.keeps k3 (fun h => HS2.out _ h rfl)
  have HB3 := Lib.hid hb3
  have HK4 := Lib.hid (HK3.out.step k3 HSn.out)
  clear hI k3 hn HI3 HK3 HB hb3
  go_wp2_with fail
  have D := HR.out.result w3 S' _ HI4.out
  have hr : plainM.res ⟨[⟨1, 3, 0, 0⟩], [7], []⟩ = some ⟨0, 7, [7]⟩ := rfl
  rw [hr] at D
  refine D.mono ?_
  clear D hr
  rintro e w4 ⟨l, rfl, ho, k4⟩
  obtain ⟨q, c, rfl⟩ := (Sl.of_owns ho).len
  have hb4 := HB3.out.keeps k4 (by simp)
  have a1 := hb4.cells 1
  have hlt := hb4.lt
  have HK5 := Lib.hid (HK4.out.trans k4)
  simp at a1
  clear ho k4 hb4 HB3 HK4 HI4
  go_wp2
  go_ret
  exact ⟨rfl, HK5.out.alloc _⟩

/-- What is known of the blocks may be said otherwise, as long as they are there. -/
theorem SeenAt.imp {w : World} {D E : Nat → Prop} {v : Value} {fs : List Fc} (h : SeenAt w D v fs) (hd : ∀ g, D g → g < w.heap.size → E g) : SeenAt w E v fs := by
  obtain ⟨b, cs, hv, hb, hblt, hi⟩ := h.shape
  have blk : ∀ {u : Value} {us : List Int}, Sl w 1 u us.length (ints .u64 us) → us ≠ [] → ∀ g, u.ownBlock = some g → g < w.heap.size := fun {u us} hs he g hg => by
    obtain ⟨b, off, cap, he', hb, -⟩ := hs.some (List.length_pos_iff.2 he)
    rw [he'] at hg
    simp [Value.ownBlock] at hg
    omega
  refine ⟨b, cs, hv, hd b hb hblt, hblt, fun i f hf => ?_⟩
  obtain ⟨l, h, ho, hc⟩ := hi i f hf
  exact ⟨l, h, ⟨ho.shape, fun r hr => ⟨(ho.res r hr).1, (ho.res r hr).2.1, fun he g hg => hd g ((ho.res r hr).2.2 he g hg) (blk (ho.res r hr).1 he g hg)⟩, ho.held, ho.few, fun he g hg => hd g (ho.own he g hg) (blk ho.held he g hg)⟩, hc⟩

/-- Answers that came in. -/
theorem told_of_cells {H : Type} {enc : TypeId × Value → H} {W : World} {base : Nat} {spare : Nat → Bool} {held : Bool} {n : Nat} {cs : List Value} {y : DataW H × List MemPlace}
    (h : DataW.trod enc Try.prog W base spare held n 63 cs = some y) (hl : cs.length = 2) :
    ∃ x : Int × Bool, cs = [.int .u64 x.1, .bool x.2] ∧ M.U x.1 := by
  obtain ⟨y0, y1, n', -, -, h0, h1⟩ := trod_struct2 Try.underlying63 h
  rw [show Try.prog.cellsOf 35 = 1 by kernel_rfl] at h0
  rw [show Try.prog.cellsOf 4 = 1 by kernel_rfl] at h1
  match cs, hl with
  | [c0, c1], _ =>
    obtain ⟨z0, e0, -, w0⟩ := DataW.trod_int Try.underlying35 h0
    obtain ⟨z1, e1, -⟩ := DataW.trod_bool Try.underlying4 h1
    simp at e0 e1
    subst e0 e1
    exact ⟨⟨z0, z1⟩, rfl, M.U.wf w0⟩

theorem sl_tolds {H : Type} {enc : TypeId × Value → H} {W : World} {base : Nat} {spare : Nat → Bool} {held : Bool} {t : TypeId} {fuel : Nat} {a : Option Addr} {len cap : Nat} {x : DataW H × List MemPlace}
    (ht : Try.prog.underlying t = some (.slice 63)) (h : DataW.trod enc Try.prog W base spare held fuel t (Value.cells (.slice a len cap)).toList = some x) :
    ∃ ts : List (Int × Bool), Sl W 2 (.slice a len cap) len (tolds ts) ∧ ts.length = len ∧ len ≤ maxLen ∧ ∀ t ∈ ts, M.U t.1 := by
  rcases open_slice ht h with ⟨hcs, _⟩ | ⟨y, l, c, m, n, D, Pl, hcs, _, hlc, hm, hmm, _, hi⟩
  · simp [Value.cells] at hcs
    obtain ⟨rfl, rfl, rfl⟩ := hcs
    exact ⟨[], ⟨rfl, .inl ⟨_, _, rfl, rfl⟩⟩, rfl, Nat.zero_le _, by simp⟩
  · simp [Value.cells] at hcs
    obtain ⟨rfl, rfl, rfl⟩ := hcs
    rw [show Try.prog.cellsOf 63 = 2 by kernel_rfl] at hi
    have hlm : len ≤ m := by rw [hmm]; split <;> omega
    obtain ⟨xs, hxl, hxs⟩ := list_of len (fun i (x : Int × Bool) => (∀ j u, [Value.int .u64 x.1, .bool x.2][j]? = some u → W.cell? ((y.add (i * 2)).add j) = some u) ∧ M.U x.1) fun i hil => by
      obtain ⟨cs', hc, ht'⟩ := hi i (by omega)
      obtain ⟨_, hcl, hat⟩ := World.cells?_some hc
      obtain ⟨x, rfl, hx⟩ := told_of_cells ht' hcl
      exact ⟨x, fun j u hu => (hat j (by have := (List.getElem?_eq_some_iff.1 hu).1; simpa using this)).trans hu, hx⟩
    refine ⟨xs, Sl.of_cells (by decide) (by rw [tolds_len, hxl]) (fun i u hu => ?_), hxl, by omega, fun x hx => ?_⟩
    · have hil : i < xs.length * 2 := by have := (List.getElem?_eq_some_iff.1 hu).1; rwa [tolds_len] at this
      have hq : i / 2 < xs.length := by omega
      have hx := List.getElem?_eq_getElem hq
      have hat := (hxs _ _ hx).1
      have hacc := tolds_at xs (i / 2) _ hx
      have e : (y.add (i / 2 * 2)).add (i % 2) = y.add i := by
        rw [show y.add i = y.add (i / 2 * 2 + i % 2) by congr 1; omega]; exact Go.Deep.add_add _ _ _
      have hm2 : i % 2 < 2 := Nat.mod_lt _ (by omega)
      have hi2 : i = i / 2 * 2 + i % 2 := by omega
      rw [← e]
      refine hat (i % 2) u ?_
      rw [hi2] at hu
      rcases (show i % 2 = 0 ∨ i % 2 = 1 by omega) with h4 | h4 <;> rw [h4] at hu ⊢
      · rw [Nat.add_zero, hacc.1] at hu; exact hu
      · rw [hacc.2] at hu; exact hu
    · obtain ⟨i, hi', rfl⟩ := List.mem_iff_getElem.1 hx
      exact (hxs i _ (List.getElem?_eq_getElem hi')).2
end Go.Proofs.Ytahjnpopncninaa
