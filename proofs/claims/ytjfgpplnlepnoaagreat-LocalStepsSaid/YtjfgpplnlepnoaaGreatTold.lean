import Derived.Test.YtjfgpplnlepnoaaGreatLike
import Derived.Test.YtjfgpplnlepnoaaGreatOpen
import Derived.Test.YtjfgpplnlepnoaaGreatAcc
import Derived.Test.YtjfgpplnlepnoaaGreatOpenA
import Derived.ChangeSame
import Derived.ChangeArms
/-
  Answers that came in; what is known of the blocks of sights, said otherwise.
-/
namespace Go.Proofs.YtjfgpplnlepnoaaGreat
set_option maxRecDepth 100000
set_option linter.unusedSimpArgs false
set_option linter.unusedVariables false
open Go.ChangeShapes Go.WideShapes Go.ChangeAt Go.RowKit Go.Deep

/-- What is known of the blocks may be said otherwise, as long as they are there. -/
theorem SeenAt.imp {w : World} {D E : Nat → Prop} {v : Value} {fs : List Fc} (h : SeenAt w D v fs) (hd : ∀ g, D g → g < w.heap.size → E g) : SeenAt w E v fs := by
  obtain ⟨b, cs, hv, hb, hblt, hi⟩ := h.shape
  have blk : ∀ {u : Value} {us : List Int}, Sl w 1 u us.length (ints .u64 us) → us ≠ [] → ∀ g, u.ownBlock = some g → g < w.heap.size := fun {u us} hs he g hg => by
    obtain ⟨b, off, cap, he', hb, -⟩ := hs.some (List.length_pos_iff.2 he)
    rw [he'] at hg
    simp [Value.ownBlock] at hg
    omega
  refine ⟨b, cs, hv, hd b hb hblt, hblt, fun i f hf => ?_⟩
  obtain ⟨l, h, ho, hc⟩ := hi i f hf
  exact ⟨l, h, ⟨ho.shape, fun r hr => ⟨(ho.res r hr).1, (ho.res r hr).2.1, fun he g hg => hd g ((ho.res r hr).2.2 he g hg) (blk (ho.res r hr).1 he g hg)⟩, ho.held, ho.few, fun he g hg => hd g (ho.own he g hg) (blk ho.held he g hg)⟩, hc⟩

/-- Answers that came in. -/
theorem told_of_cells {H : Type} {enc : TypeId × Value → H} {W : World} {base : Nat} {spare : Nat → Bool} {held : Bool} {n : Nat} {cs : List Value} {y : DataW H × List MemPlace}
    (h : DataW.trod enc Tryz.prog W base spare held n 117 cs = some y) (hl : cs.length = 2) :
    ∃ x : Int × Bool, cs = [.int .u64 x.1, .bool x.2] ∧ M.U x.1 := by
  obtain ⟨y0, y1, n', -, -, h0, h1⟩ := trod_struct2 Tryz.underlying117 h
  rw [show Tryz.prog.cellsOf 26 = 1 by kernel_rfl] at h0
  rw [show Tryz.prog.cellsOf 4 = 1 by kernel_rfl] at h1
  match cs, hl with
  | [c0, c1], _ =>
    obtain ⟨z0, e0, -, w0⟩ := DataW.trod_int Tryz.underlying26 h0
    obtain ⟨z1, e1, -⟩ := DataW.trod_bool Tryz.underlying4 h1
    simp at e0 e1
    subst e0 e1
    exact ⟨⟨z0, z1⟩, rfl, M.U.wf w0⟩

theorem sl_tolds {H : Type} {enc : TypeId × Value → H} {W : World} {base : Nat} {spare : Nat → Bool} {held : Bool} {t : TypeId} {fuel : Nat} {a : Option Addr} {len cap : Nat} {x : DataW H × List MemPlace}
    (ht : Tryz.prog.underlying t = some (.slice 117)) (h : DataW.trod enc Tryz.prog W base spare held fuel t (Value.cells (.slice a len cap)).toList = some x) :
    ∃ ts : List (Int × Bool), Sl W 2 (.slice a len cap) len (tolds ts) ∧ ts.length = len ∧ len ≤ maxLen ∧ ∀ t ∈ ts, M.U t.1 := by
  rcases open_slice ht h with ⟨hcs, _⟩ | ⟨y, l, c, m, n, D, Pl, hcs, _, hlc, hm, hmm, _, hi⟩
  · simp [Value.cells] at hcs
    obtain ⟨rfl, rfl, rfl⟩ := hcs
    exact ⟨[], ⟨rfl, .inl ⟨_, _, rfl, rfl⟩⟩, rfl, Nat.zero_le _, by simp⟩
  · simp [Value.cells] at hcs
    obtain ⟨rfl, rfl, rfl⟩ := hcs
    rw [show Tryz.prog.cellsOf 117 = 2 by kernel_rfl] at hi
    have hlm : len ≤ m := by rw [hmm]; split <;> omega
    obtain ⟨xs, hxl, hxs⟩ := list_of len (fun i (x : Int × Bool) => (∀ j u, [Value.int .u64 x.1, .bool x.2][j]? = some u → W.cell? ((y.add (i * 2)).add j) = some u) ∧ M.U x.1) fun i hil => by
      obtain ⟨cs', hc, ht'⟩ := hi i (by omega)
      obtain ⟨_, hcl, hat⟩ := World.cells?_some hc
      obtain ⟨x, rfl, hx⟩ := told_of_cells ht' hcl
      exact ⟨x, fun j u hu => (hat j (by have := (List.getElem?_eq_some_iff.1 hu).1; simpa using this)).trans hu, hx⟩
    refine ⟨xs, Sl.of_cells (by decide) (by rw [tolds_len, hxl]) (fun i u hu => ?_), hxl, by omega, fun x hx => ?_⟩
    · have hil : i < xs.length * 2 := by have := (List.getElem?_eq_some_iff.1 hu).1; rwa [tolds_len] at this
      have hq : i / 2 < xs.length := by omega
      have hx := List.getElem?_eq_getElem hq
      have hat := (hxs _ _ hx).1
      have hacc := tolds_at xs (i / 2) _ hx
      have e : (y.add (i / 2 * 2)).add (i % 2) = y.add i := by
        rw [show y.add i = y.add (i / 2 * 2 + i % 2) by congr 1; omega]; exact Go.Deep.add_add _ _ _
      have hm2 : i % 2 < 2 := Nat.mod_lt _ (by omega)
      have hi2 : i = i / 2 * 2 + i % 2 := by omega
      rw [← e]
      refine hat (i % 2) u ?_
      rw [hi2] at hu
      rcases (show i % 2 = 0 ∨ i % 2 = 1 by omega) with h4 | h4 <;> rw [h4] at hu ⊢
      · rw [Nat.add_zero, hacc.1] at hu; exact hu
      · rw [hacc.2] at hu; exact hu
    · obtain ⟨i, hi', rfl⟩ := List.mem_iff_getElem.1 hx
      exact (hxs i _ (List.getElem?_eq_getElem hi')).2

end Go.Proofs.YtjfgpplnlepnoaaGreat
