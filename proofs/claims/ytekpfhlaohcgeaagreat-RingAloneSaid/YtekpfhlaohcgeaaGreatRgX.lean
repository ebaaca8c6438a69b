/-
  Contracts: a ring's Push, Pop and Steal are made.
-/
import Derived.Test.YtekpfhlaohcgeaaGreatRgT
namespace Go.Proofs.YtekpfhlaohcgeaaGreat
set_option maxRecDepth 100000
set_option linter.unusedSimpArgs false
set_option linter.unusedVariables false
open Go.ChangeShapes Go.WideShapes Go.ChangeAt Go.RowKit

set_option maxHeartbeats 1600000 in
theorem rgAlong1_any (m bf bb bd : Nat) (at_ size kind v target : Int) (fits : Bool) (F : FuncId) (ca : Array Value) (w : World) (hw : Wk w m wk1) (hf : Box w bf #[.bool fits]) (hd : Box w bd #[.int .i64 at_, .int .i64 size]) (hb : Box w bb #[.func (.func F) #[] ca])
    (hcf : ∀ args w, (callFunc F args).run Tryz.prog w = .ok (.enter F args) w)
    (hF : fits = true → Calls Tryz.prog F (#[.agg #[.pointer (some ⟨m, 0, none⟩), .int .i64 at_, .int .i64 size, .int .u64 0, .int .u32 0, .int .u32 0, .int .u32 0, .nilFunc, .nilFunc, .slice none 0 0]] ++ ca) w fun e w2 => e = .returned (.tuple #[]) ∧ GoesO ringM (rgE m) m wk1 [] [] (rgBegin at_ size kind v target true) w w2) :
    Calls Tryz.prog 77 #[.pointer (some ⟨m, 0, none⟩), .pointer (some ⟨bf, 0, none⟩), .pointer (some ⟨bb, 0, none⟩), .pointer (some ⟨bd, 0, none⟩)] w fun e w' => e = .returned (.tuple #[]) ∧ ∃ st2, Wk w' m st2 ∧ st2.under = 1 ∧ MidO ringM (rgE m) m [m] [] (rgBegin at_ size kind v target fits) w w' st2 := by
  have HW := Lib.hid hw
  have hml := hw.lt
  have h0 := hd.cells 0
  have h1 := hd.cells 1
  have h2 := hb.cells 0
  have h3 := hf.cells 0
  cases fits with
  | true =>
    have HE := Lib.hid (hF rfl)
    clear hw hd hb hF hf
    go_enter Tryz.func77, Tryz.ntmps77
    go_wp2_with fail
    refine HE.out.mono ?_
    rintro e2 w3 ⟨rfl, hg⟩
    have HG := Lib.hid hg
    clear hg
    go_wp2
    first | go_end0 | refine bodyPost_ret (results_none rfl _ _ _) rfl ?_
    exact ⟨rfl, GoesO.new HG.out HW.out (rgEnded m) (by simp [ringM, rgBegin])⟩
  | false =>
    have HE := Lib.hid (wBreak m wk1 2 w hw rfl (.inl (by decide)))
    clear hw hd hb hF hf
    go_enter Tryz.func77, Tryz.ntmps77
    go_wp2_with fail
    refine HE.out.mono ?_
    rintro e2 w3 ⟨rfl, l', hw3, ho3, k3⟩
    have HG : Hid (_ ∧ _ ∧ _) := Lib.hid ⟨hw3, ho3, k3⟩
    clear hw3 ho3 k3
    go_wp2
    first | go_end0 | refine bodyPost_ret (results_none rfl _ _ _) rfl ?_
    obtain ⟨hw3, ho3, k3⟩ := HG.out
    have hov : (rgBegin at_ size kind v target false).over = some ⟨2, 0, []⟩ := by simp [rgBegin]
    exact ⟨rfl, _, hw3, rfl, ended_mid hml hw3 ho3 k3 (by simp [ringM, hov]) hov (by simp [ringM, rgHeld, hov]) (rgEnded m)⟩

set_option maxHeartbeats 1600000 in
theorem rgAlong_any (at_ size kind v target : Int) (fits : Bool) (F : FuncId) (ca : Array Value) (w : World) (hcf : ∀ args w, (callFunc F args).run Tryz.prog w = .ok (.enter F args) w)
    (hF : fits = true → ∀ m w1, Wk w1 m wk1 → Keeps [] w w1 → Calls Tryz.prog F (#[.agg #[.pointer (some ⟨m, 0, none⟩), .int .i64 at_, .int .i64 size, .int .u64 0, .int .u32 0, .int .u32 0, .int .u32 0, .nilFunc, .nilFunc, .slice none 0 0]] ++ ca) w1 fun e w2 => e = .returned (.tuple #[]) ∧ GoesO ringM (rgE m) m wk1 [] [] (rgBegin at_ size kind v target true) w1 w2) :
    Calls Tryz.prog 37 #[.agg #[.int .i64 at_, .int .i64 size], .bool fits, .func (.func F) #[] ca] w fun e w' => ∃ (m : Nat) (S : List Nat), e = .returned (.pointer (some ⟨m, 0, none⟩)) ∧ LoneIO ringM (rgE m) m w' S (rgBegin at_ size kind v target fits) ∧ Keeps [] w w' ∧ ∀ k ∈ S, w.heap.size ≤ k := by
  obtain ⟨W1, hW1⟩ : ∃ W1, ((w.alloc (.cells #[.int .i64 at_, .int .i64 size] 23)).alloc (.cells #[.bool fits] 4)).alloc (.cells #[.func (.func F) #[] ca] 95) = W1 := ⟨_, rfl⟩
  have hk1 : Keeps [] w W1 := by rw [← hW1]; exact (((Keeps.refl _ _).alloc _).alloc _).alloc _
  have hbd : Box W1 w.heap.size #[.int .i64 at_, .int .i64 size] := by rw [← hW1]; exact ((Box.new _ _ _).alloc _).alloc _
  have hbf : Box W1 (w.heap.size + 1) #[.bool fits] := by rw [← hW1]; have := (Box.new (w.alloc (.cells #[.int .i64 at_, .int .i64 size] 23)) #[.bool fits] 4).alloc (.cells #[.func (.func F) #[] ca] 95); simpa using this
  have hbb : Box W1 (w.heap.size + 1 + 1) #[.func (.func F) #[] ca] := by rw [← hW1]; have := Box.new ((w.alloc (.cells #[.int .i64 at_, .int .i64 size] 23)).alloc (.cells #[.bool fits] 4)) #[.func (.func F) #[] ca] 95; simpa using this
  have HN := Lib.hid (new_goesO ringM (rgE (W1.heap.size + 1)) (rgBegin at_ size kind v target fits) 77 #[.pointer (some ⟨w.heap.size + 1, 0, none⟩), .pointer (some ⟨w.heap.size + 1 + 1, 0, none⟩), .pointer (some ⟨w.heap.size, 0, none⟩)] W1 (rgE_keeps _) (rgEnded _) (fun _ _ => by kernel_rfl)
    (fun w3 h3 k3 => rgAlong1_any _ _ _ _ at_ size kind v target fits F ca w3 h3 (hbf.keeps k3 (by simp)) (hbd.keeps k3 (by simp)) (hbb.keeps k3 (by simp)) hcf (fun hr => hF hr _ w3 h3 (hk1.trans k3))))
  have HK := Lib.hid hk1
  clear hk1 hbd hbf hbb hF
  go_enter Tryz.func37, Tryz.ntmps37
  go_wp2_with fail
  refine HN.out.mono ?_
  rintro e w4 ⟨rfl, S, hI, k4, hS⟩
  have HP : Hid (_ ∧ _ ∧ _) := Lib.hid ⟨hI, HK.out.trans k4, fun k hk => Nat.le_trans HK.out.size (hS k hk)⟩
  clear hI k4 hS
  go_wp2
  go_ret
  exact ⟨_, S, rfl, HP.out⟩

set_option maxHeartbeats 1600000 in
theorem rgPush_made (at_ size v : Int) (w : World) (hsz : -9223372036854775808 ≤ size) (hv : M.U v) :
    Calls Tryz.prog 11 #[.agg #[.int .i64 at_, .int .i64 size], .int .u64 v] w fun e w' => ∃ (m : Nat) (S : List Nat), e = .returned (.pointer (some ⟨m, 0, none⟩)) ∧ LoneIO ringM (rgE m) m w' S (rgBegin at_ size 1 v 0 (decide (dqRight at_ size))) ∧ Keeps [] w w' ∧ ∀ k ∈ S, w.heap.size ≤ k := by
  obtain ⟨W1, hW1⟩ : ∃ W1, (w.alloc (.cells #[.int .i64 at_, .int .i64 size] 23)).alloc (.cells #[.int .u64 v] 24) = W1 := ⟨_, rfl⟩
  have hk1 : Keeps [] w W1 := by rw [← hW1]; exact ((Keeps.refl _ _).alloc _).alloc _
  have hbd : Box W1 w.heap.size #[.int .i64 at_, .int .i64 size] := by rw [← hW1]; exact (Box.new _ _ _).alloc _
  have hb : Box W1 (w.heap.size + 1) #[.int .u64 v] := by rw [← hW1]; have := Box.new (w.alloc (.cells #[.int .i64 at_, .int .i64 size] 23)) #[.int .u64 v] 24; simpa using this
  have c0 := hbd.cells 0
  have c1 := hbd.cells 1
  have HR := Lib.hid (fun W => rgRight_any at_ size W hsz)
  have HE := Lib.hid (fun W (k : Keeps [] W1 W) => rgAlong_any at_ size 1 v 0 (decide (dqRight at_ size)) 38 #[.pointer (some ⟨w.heap.size + 1, 0, none⟩)] W (fun _ _ => by kernel_rfl) (fun hr m w3 h3 k3 => rgPush1_any m (w.heap.size + 1) at_ size v w3 h3 (hb.keeps (k.trans k3) (by simp)) (of_decide_eq_true hr) hv))
  have HK := Lib.hid hk1
  have HB := Lib.hid hbd
  clear hk1 hb hv hbd
  go_enter Tryz.func11, Tryz.ntmps11
  go_wp2_with fail
  go_region_held3 (fun w' => w'.cell? ⟨w.heap.size, 0, none⟩ = some (.int .i64 at_) ∧ w'.cell? ⟨w.heap.size, 1, none⟩ = some (.int .i64 size))
    (first
      | exact ⟨(HB.out.keeps hk4 (by simp)).cells 0, (HB.out.keeps hk4 (by simp)).cells 1⟩
      | exact ⟨(HB.out.keeps hk2 (by simp)).cells 0, (HB.out.keeps hk2 (by simp)).cells 1⟩
      | exact ⟨by assumption, by assumption⟩
      | fail)
    (first
      | (go_at_call 8; refine (HR.out _).mono ?_; rintro e2 w2 ⟨rfl, k⟩; have hk2 : Keeps [] W1 w2 := k.undrew; clear k)
      | (go_at_call 37; refine (HE.out _ hk2).mono ?_; rintro e4 w4 ⟨m, S, rfl, hI, k4, hS⟩; have hk4 : Keeps [] W1 w4 := (hk2).trans k4; have hz4 : W1.heap.size ≤ (w2).heap.size := (hk2).size)
      | fail)
  all_goals go_wp2
  all_goals go_ret
  all_goals exact ⟨m, S, rfl, hI, HK.out.trans hk4, fun k hk => Nat.le_trans (Nat.le_trans HK.out.size hz4) (hS k hk)⟩

set_option maxHeartbeats 1600000 in
theorem rgPop_made (at_ size : Int) (w : World) (hsz : -9223372036854775808 ≤ size) :
    Calls Tryz.prog 14 #[.agg #[.int .i64 at_, .int .i64 size]] w fun e w' => ∃ (m : Nat) (S : List Nat), e = .returned (.pointer (some ⟨m, 0, none⟩)) ∧ LoneIO ringM (rgE m) m w' S (rgBegin at_ size 2 0 0 (decide (dqRight at_ size))) ∧ Keeps [] w w' ∧ ∀ k ∈ S, w.heap.size ≤ k := by
  obtain ⟨W1, hW1⟩ : ∃ W1, w.alloc (.cells #[.int .i64 at_, .int .i64 size] 23) = W1 := ⟨_, rfl⟩
  have hk1 : Keeps [] w W1 := by rw [← hW1]; exact (Keeps.refl _ _).alloc _
  have hbd : Box W1 w.heap.size #[.int .i64 at_, .int .i64 size] := by rw [← hW1]; exact Box.new _ _ _
  have c0 := hbd.cells 0
  have c1 := hbd.cells 1
  have HR := Lib.hid (fun W => rgRight_any at_ size W hsz)
  have HE := Lib.hid (fun W (k : Keeps [] W1 W) => rgAlong_any at_ size 2 0 0 (decide (dqRight at_ size)) 48 #[] W (fun _ _ => by kernel_rfl) (fun hr m w3 h3 k3 => rgPop1_any m at_ size w3 h3 (of_decide_eq_true hr)))
  have HK := Lib.hid hk1
  have HB := Lib.hid hbd
  clear hk1 hbd
  go_enter Tryz.func14, Tryz.ntmps14
  go_wp2_with fail
  go_region_held3 (fun w' => w'.cell? ⟨w.heap.size, 0, none⟩ = some (.int .i64 at_) ∧ w'.cell? ⟨w.heap.size, 1, none⟩ = some (.int .i64 size))
    (first
      | exact ⟨(HB.out.keeps hk4 (by simp)).cells 0, (HB.out.keeps hk4 (by simp)).cells 1⟩
      | exact ⟨(HB.out.keeps hk2 (by simp)).cells 0, (HB.out.keeps hk2 (by simp)).cells 1⟩
      | exact ⟨by assumption, by assumption⟩
      | fail)
    (first
      | (go_at_call 8; refine (HR.out _).mono ?_; rintro e2 w2 ⟨rfl, k⟩; have hk2 : Keeps [] W1 w2 := k.undrew; clear k)
      | (go_at_call 37; refine (HE.out _ hk2).mono ?_; rintro e4 w4 ⟨m, S, rfl, hI, k4, hS⟩; have hk4 : Keeps [] W1 w4 := (hk2).trans k4; have hz4 : W1.heap.size ≤ (w2).heap.size := (hk2).size)
      | fail)
  all_goals go_wp2
  all_goals go_ret
  all_goals exact ⟨m, S, rfl, hI, HK.out.trans hk4, fun k hk => Nat.le_trans (Nat.le_trans HK.out.size hz4) (hS k hk)⟩

set_option maxHeartbeats 1600000 in
theorem rgSteal_made (at_ size tat tsize : Int) (w : World) (hsz : -9223372036854775808 ≤ size) (htz : -9223372036854775808 ≤ tsize) :
    Calls Tryz.prog 15 #[.agg #[.int .i64 at_, .int .i64 size], .agg #[.int .i64 tat, .int .i64 tsize]] w fun e w' => ∃ (m : Nat) (S : List Nat), e = .returned (.pointer (some ⟨m, 0, none⟩)) ∧ LoneIO ringM (rgE m) m w' S (rgBegin at_ size 3 0 tat (decide (rgFeeds at_ size tat tsize))) ∧ Keeps [] w w' ∧ ∀ k ∈ S, w.heap.size ≤ k := by
  obtain ⟨W1, hW1⟩ : ∃ W1, (w.alloc (.cells #[.int .i64 at_, .int .i64 size] 23)).alloc (.cells #[.int .i64 tat, .int .i64 tsize] 23) = W1 := ⟨_, rfl⟩
  have hk1 : Keeps [] w W1 := by rw [← hW1]; exact ((Keeps.refl _ _).alloc _).alloc _
  have hbd : Box W1 w.heap.size #[.int .i64 at_, .int .i64 size] := by rw [← hW1]; exact (Box.new _ _ _).alloc _
  have hb : Box W1 (w.heap.size + 1) #[.int .i64 tat, .int .i64 tsize] := by rw [← hW1]; have := Box.new (w.alloc (.cells #[.int .i64 at_, .int .i64 size] 23)) #[.int .i64 tat, .int .i64 tsize] 23; simpa using this
  have c0 := hbd.cells 0
  have c1 := hbd.cells 1
  have c2 := hb.cells 0
  have c3 := hb.cells 1
  have HR := Lib.hid (fun W => rgFeeds_any at_ size tat tsize W hsz htz)
  have HE := Lib.hid (fun W (k : Keeps [] W1 W) => rgAlong_any at_ size 3 0 tat (decide (rgFeeds at_ size tat tsize)) 52 #[.pointer (some ⟨w.heap.size + 1, 0, none⟩)] W (fun _ _ => by kernel_rfl) (fun hr m w3 h3 k3 => by
    have hf := of_decide_eq_true hr
    have hb3 := hb.keeps (k.trans k3) (by simp)
    rw [← hf.2.2.1] at hb3
    exact rgSteal1_any m (w.heap.size + 1) at_ size tat w3 h3 hb3 hf.1 (hf.2.2.1 ▸ hf.2.1)))
  have HK := Lib.hid hk1
  have HB := Lib.hid hbd
  have HB2 := Lib.hid hb
  clear hk1 hbd hb
  go_enter Tryz.func15, Tryz.ntmps15
  go_wp2_with fail
  go_region_held3 (fun w' => w'.cell? ⟨w.heap.size, 0, none⟩ = some (.int .i64 at_) ∧ w'.cell? ⟨w.heap.size, 1, none⟩ = some (.int .i64 size) ∧ w'.cell? ⟨w.heap.size + 1, 0, none⟩ = some (.int .i64 tat) ∧ w'.cell? ⟨w.heap.size + 1, 1, none⟩ = some (.int .i64 tsize))
    (first
      | exact ⟨(HB.out.keeps hk4 (by simp)).cells 0, (HB.out.keeps hk4 (by simp)).cells 1, (HB2.out.keeps hk4 (by simp)).cells 0, (HB2.out.keeps hk4 (by simp)).cells 1⟩
      | exact ⟨(HB.out.keeps hk2 (by simp)).cells 0, (HB.out.keeps hk2 (by simp)).cells 1, (HB2.out.keeps hk2 (by simp)).cells 0, (HB2.out.keeps hk2 (by simp)).cells 1⟩
      | exact ⟨by assumption, by assumption, by assumption, by assumption⟩
      | fail)
    (first
      | (go_at_call 51; refine (HR.out _).mono ?_; rintro e2 w2 ⟨rfl, k⟩; have hk2 : Keeps [] W1 w2 := k.undrew; clear k)
      | (go_at_call 37; refine (HE.out _ hk2).mono ?_; rintro e4 w4 ⟨m, S, rfl, hI, k4, hS⟩; have hk4 : Keeps [] W1 w4 := (hk2).trans k4; have hz4 : W1.heap.size ≤ (w2).heap.size := (hk2).size)
      | fail)
  all_goals go_wp2
  all_goals go_ret
  all_goals exact ⟨m, S, rfl, hI, HK.out.trans hk4, fun k hk => Nat.le_trans (Nat.le_trans HK.out.size hz4) (hS k hk)⟩
end Go.Proofs.YtekpfhlaohcgeaaGreat
