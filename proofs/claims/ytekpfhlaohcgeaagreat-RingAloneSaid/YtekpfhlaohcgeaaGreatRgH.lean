/-
  Contracts: what the functions of a ring's stealing, behind the loads do (written by wip/tools/rggen.py).
-/
import Derived.Test.YtekpfhlaohcgeaaGreatRgG
import Derived.IntWalk
namespace Go.Proofs.YtekpfhlaohcgeaaGreat
set_option maxRecDepth 100000
set_option linter.unusedSimpArgs false
set_option linter.unusedVariables false
open Go.ChangeShapes Go.WideShapes Go.ChangeAt Go.RowKit

set_option maxHeartbeats 1600000 in
theorem rgReleasedMore (m p : Nat) (at_ size hd sl fi tl : Int) (tat u n : Int) (lk tr tk : Value) (v : Int) (e : TypeId) (s : WSt) (w : World) (hw : Wk w m s) (hp : Row w p e (rgCells m at_ size hd sl fi tl lk tr tk [.int .i64 tat, .int .i64 size, .int .u32 u, .int .i64 n])) (hpm : p ≠ m) (ho : s.over = false) (hs : s.sub = none) (u0 : 0 ≤ u ∧ u < 4294967296)(hn1 : 1 < n) (hn2 : n ≤ 256) (ta0 : 0 ≤ tat) (ta1 : tat < 65536) :
    Calls Tryz.prog 134 #[.pointer (some ⟨p, 0, none⟩), .int .u64 v, .bool true] w fun e' w' => e' = .returned (.tuple #[]) ∧ RgAsks m p e s w ⟨2, tat + 1, rgAdd u (n - 1), 0⟩ 143 (rgCells m at_ size hd sl fi tl lk tr tk [.int .i64 tat, .int .i64 size, .int .u32 u, .int .i64 n]) w' := by
  have HP := Lib.hid hp
  have HS := Lib.hid (rg_cells_steal hp)
  have HW := Lib.hid hw
  obtain ⟨h0, h1, h2, h3, h4, h5, h6, h7, h8, h9, h10, h11, h12, h13⟩ := HS.out _ [] (Keeps.refl _ _) (by simp)
  have HE := Lib.hid (fun W (h : Wk W m s) c0 => rgStore_any m p (tat + 1) (rgAdd u (n - 1)) (.func 143) #[.pointer (some ⟨p, 0, none⟩)] #[] s W h c0 ho hs)
  have HTl := Lib.hid (fun W => rgTail_any tat size W ta0 ta1)
  have dA : decide (1 < n) = true := decide_eq_true hn1
  have hw0 : IntKind.i64.wrap (n - 1) = n - 1 := IntWalk.i64_in _ (by omega)
  have hw1 : IntKind.u32.wrap (n - 1) = n - 1 := by show (n - 1) % 4294967296 = n - 1; omega
  have hw2 : IntKind.u64.wrap (IntKind.u32.wrap (u + (n - 1))) = rgAdd u (n - 1) := by show ((u + (n - 1)) % 4294967296) % 18446744073709551616 = (u + (n - 1)) % 4294967296; omega
  clear hw hp ho hs
  go_enter Tryz.func134, Tryz.ntmps134
  have hkV : Keeps [] w w := Keeps.refl _ _
  go_wp2_with fail
  go_region_held3 (fun w' => w'.cell? ⟨p, 0, none⟩ = some (.pointer (some ⟨m, 0, none⟩)) ∧ w'.cell? ⟨p, 1, none⟩ = some (.int .i64 at_) ∧ w'.cell? ⟨p, 2, none⟩ = some (.int .i64 size) ∧ w'.cell? ⟨p, 3, none⟩ = some (.int .u64 hd) ∧ w'.cell? ⟨p, 4, none⟩ = some (.int .u32 sl) ∧ w'.cell? ⟨p, 5, none⟩ = some (.int .u32 fi) ∧ w'.cell? ⟨p, 6, none⟩ = some (.int .u32 tl) ∧ w'.cell? ⟨p, 7, none⟩ = some lk ∧ w'.cell? ⟨p, 8, none⟩ = some tr ∧ w'.cell? ⟨p, 9, none⟩ = some tk ∧ w'.cell? ⟨p, 10, none⟩ = some (.int .i64 tat) ∧ w'.cell? ⟨p, 11, none⟩ = some (.int .i64 size) ∧ w'.cell? ⟨p, 12, none⟩ = some (.int .u32 u) ∧ w'.cell? ⟨p, 13, none⟩ = some (.int .i64 n))
    (first
      | exact HS.out _ _ hk4 (by simpa using hpm)
      | exact HS.out _ _ hk3 (by simp)
      | exact HS.out _ _ hk2 (by simp)
      | exact ⟨by assumption, by assumption, by assumption, by assumption, by assumption, by assumption, by assumption, by assumption, by assumption, by assumption, by assumption, by assumption, by assumption, by assumption⟩
      | fail)
    (first
      | (go_at_call 56; refine (HTl.out _).mono ?_; rintro e2 w2 ⟨rfl, k⟩; have hk2 : Keeps [] w w2 := hkV.trans k.undrew; clear k)
      | (go_at_call 79; refine (HE.out _ (HW.out.keeps hk2 (by simp)) (HS.out _ _ hk2 (by simp)).1).mono ?_; rintro e4 w4 ⟨rfl, hw4, k4⟩; have hk4 : Keeps [m] w w4 := (hk2.mono (by simp)).trans k4; clear k4)
      | fail)
  all_goals (try go_wp2)
  all_goals (first | go_end0 | refine bodyPost_ret (results_none rfl _ _ _) rfl ?_)
  all_goals exact ⟨rfl, hw4, HP.out.keeps hk4 (by simpa using hpm), hk4.mono (by simp)⟩

set_option maxHeartbeats 1600000 in
theorem rgFinish (m p : Nat) (at_ size hd sl fi tl : Int) (tat u n : Int) (lk tr : Value) (v : Int) (won : Bool) (q : Option Addr) (nt ct : Nat) (took : List Int) (B : Nat) (e : TypeId) (s : WSt) (w : World) (hw : Wk w m s) (hp : Row w p e (rgCells m at_ size hd sl fi tl lk tr (.slice q nt ct) [.int .i64 tat, .int .i64 size, .int .u32 u, .int .i64 n])) (hpm : p ≠ m) (ho : s.over = false) (hs : s.sub = none) (hto : w.ownsRow B 24 1 (.slice q nt ct) nt (ints .u64 took)) (hntl : took.length = nt) (hn : n = (nt : Int)) (h1 : 1 ≤ nt) (h2 : nt ≤ 256) (hu : 0 < s.under) :
    Calls Tryz.prog 143 #[.pointer (some ⟨p, 0, none⟩), .int .u64 v, .bool won] w fun e' w' => e' = .returned (.tuple #[]) ∧ RgEnds m p s w 0 (took.getD (nt - 1) 0) [] w' := by
  have HP := Lib.hid hp
  have HS := Lib.hid (rg_cells_steal hp)
  have HW := Lib.hid hw
  obtain ⟨h0, h1, h2, h3, h4, h5, h6, h7, h8, h9, h10, h11, h12, h13⟩ := HS.out _ [] (Keeps.refl _ _) (by simp)
  have HE := Lib.hid (fun W x (h : Wk W m s) => wEnd m s 0 x (.slice none 0 0) 0 [] W h ho (.inl hu) ⟨rfl, .inl ⟨_, _, rfl, rfl⟩⟩ (fun g hg => by cases hg) (by omega))
  obtain ⟨k, hk⟩ : ∃ k, nt = k + 1 := ⟨nt - 1, by omega⟩
  have HK := Lib.hid hk
  obtain ⟨g, hg⟩ : ∃ g, q = some ⟨g, 0, none⟩ := by
    rcases hto.2 with ⟨-, h⟩ | ⟨g, cap, cur, h, -⟩
    · omega
    · cases h; exact ⟨g, rfl⟩
  subst hg
  have hrow := Row.of_owns hto
  have ck : w.cell? ⟨g, k, none⟩ = some (.int .u64 (took.getD (nt - 1) 0)) := by rw [hk, Nat.add_sub_cancel]; exact hrow.cell (ints_at (by omega))
  have hkn : nt - 1 = k := by omega
  rw [hkn] at ck ⊢
  have hw0 : IntKind.i64.wrap (n - 1) = (k : Int) := by rw [show n - 1 = (k : Int) by omega]; exact IntWalk.i64_in _ (by omega)
  have i0 : (0 : Int) ≤ (k : Int) := by omega
  have i1 : (k : Int) < (nt : Int) := by omega
  have tn : ((k : Int)).toNat = k := by omega
  clear hk hkn hrow hn
  clear hw hp ho hs hto
  go_enter Tryz.func143, Tryz.ntmps143
  go_wp2_with fail
  go_still_tail 18, (by kernel_rfl)
  change wpList _ _ _ _ _ (w).drew
  go_wp2_with fail
  refine (HE.out w.drew _ (HW.out.keeps ((Keeps.refl [] w).drew) (by simp))).mono ?_
  rintro e2 w3 ⟨rfl, l', hw3, ho3, k3⟩
  have HQ := Lib.hid (show RgEnds m p s w 0 _ [] w3 from ⟨l', hw3, ho3, (k3.mono (by simp)).undrew, (HS.out _ [m] k3.undrew (by simpa using hpm)).1⟩)
  clear hw3 ho3 k3
  go_wp2
  first | go_end0 | refine bodyPost_ret (results_none rfl _ _ _) rfl ?_
  exact ⟨rfl, HQ.out⟩

set_option maxHeartbeats 1600000 in
theorem rgReleasedOne (m p : Nat) (at_ size hd sl fi tl : Int) (tat u n : Int) (lk tr : Value) (v : Int) (q : Option Addr) (nt ct : Nat) (took : List Int) (B : Nat) (e : TypeId) (s : WSt) (w : World) (hw : Wk w m s) (hp : Row w p e (rgCells m at_ size hd sl fi tl lk tr (.slice q nt ct) [.int .i64 tat, .int .i64 size, .int .u32 u, .int .i64 n])) (hpm : p ≠ m) (ho : s.over = false) (hs : s.sub = none) (hto : w.ownsRow B 24 1 (.slice q nt ct) nt (ints .u64 took)) (hntl : took.length = nt) (hn : n = (nt : Int)) (h1 : nt = 1) (hu : 0 < s.under) :
    Calls Tryz.prog 134 #[.pointer (some ⟨p, 0, none⟩), .int .u64 v, .bool true] w fun e' w' => e' = .returned (.tuple #[]) ∧ RgEnds m p s w 0 (took.getD (nt - 1) 0) [] w' := by
  have HP := Lib.hid hp
  have HS := Lib.hid (rg_cells_steal hp)
  have HW := Lib.hid hw
  obtain ⟨h0, h1, h2, h3, h4, h5, h6, h7, h8, h9, h10, h11, h12, h13⟩ := HS.out _ [] (Keeps.refl _ _) (by simp)
  have HE := Lib.hid (rgFinish m p at_ size hd sl fi tl tat u n lk tr 0 true q nt ct took B e s w hw hp hpm ho hs hto hntl hn (by omega) (by omega) hu)
  have dA : decide (1 < n) = false := decide_eq_false (by omega)
  clear hto hntl hn h1
  clear hw hp ho hs
  go_enter Tryz.func134, Tryz.ntmps134
  go_wp2_with fail
  refine HE.out.mono ?_
  rintro e5 w5 ⟨rfl, hQ⟩
  have HQ := Lib.hid hQ
  clear hQ
  go_wp2
  first | go_end0 | refine bodyPost_ret (results_none rfl _ _ _) rfl ?_
  exact ⟨rfl, HQ.out⟩
end Go.Proofs.YtekpfhlaohcgeaaGreat
