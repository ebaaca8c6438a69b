import Derived.Test.YtnlkbmjelkbfkaaMach
import Derived.Test.YtnlkbmjelkbfkaaAcs
/-
  The machine of an arena's Take and Put; what many of them keep, whoever steps.
-/
namespace Go.Proofs.Ytnlkbmjelkbfkaa
set_option maxRecDepth 100000
set_option linter.unusedSimpArgs false
set_option linter.unusedVariables false
open Go

/-- A Take (puts false) or a Put of a node, at a step. -/
structure ArS where
  at_ : Int
  n : Int
  puts : Bool
  node : Int
  step : Int
  h : Int
  link : Int
  over : Option Rs
/-- The head behind one more change. -/
def arNext (h i : Int) : Int := ((h / 4294967296 + 1) % 4294967296) * 4294967296 + i
/-- The head is known. -/
def arHead (s : ArS) (v : Int) : ArS :=
  if s.puts then { s with h := v, step := 2 }
  else if v % 4294967296 = 0 then { s with h := v, step := 2, over := some ⟨7, 0, []⟩ }
  else if s.n < v % 4294967296 then { s with h := v, step := 2, over := some ⟨9, 0, []⟩ }
  else { s with h := v, step := 2 }
def arWant (s : ArS) : C.Acc :=
  if s.step = 1 then ⟨1, s.at_, 0, 0⟩
  else if s.puts then (if s.step = 2 then ⟨2, s.at_ + s.node, s.h % 4294967296, 0⟩ else ⟨3, s.at_, s.h, arNext s.h s.node⟩)
  else (if s.step = 2 then ⟨1, s.at_ + s.h % 4294967296, 0, 0⟩ else ⟨3, s.at_, s.h, arNext s.h (s.link % 4294967296)⟩)
def arGive (s : ArS) (v : Int) (won : Bool) : ArS :=
  if s.step = 1 then arHead s v
  else if s.step = 2 then { s with link := v, step := 3 }
  else if won then { s with over := some (if s.puts then ⟨0, 0, []⟩ else ⟨0, s.h % 4294967296, []⟩) }
  else arHead s v
/-- A worker under way: what it knows is not above what is there. -/
structure ArW (n : Nat) (us : List Int) (tag : Nat) (F : List Nat) (s : ArS) : Prop where
  at0 : s.at_ = 0
  sn : s.n = n
  st : s.step = 1 ∨ s.step = 2 ∨ s.step = 3
  node : s.puts = true → 1 ≤ s.node ∧ s.node ≤ n
  head : s.step ≠ 1 → 0 ≤ s.h ∧ s.h / 4294967296 ≤ tag ∧ s.h % 4294967296 ≤ n ∧ (s.puts = false → 1 ≤ s.h % 4294967296) ∧ (s.h / 4294967296 = tag → s.h % 4294967296 = (F.headD 0 : Nat))
  link : s.step = 3 → s.puts = false → s.h / 4294967296 = tag → s.link % 4294967296 = us.getD (s.h % 4294967296).toNat 0 % 4294967296
  own : s.step = 3 → s.puts = true → us.getD s.node.toNat 0 % 4294967296 = s.h % 4294967296

/-- How often x is the node of a Put under way. -/
def putOf (o : Option ArS) (x : Nat) : Nat := match o with
  | none => 0
  | some s => if s.over = none ∧ s.puts = true ∧ s.node = (x : Int) then 1 else 0

/-- An arena of n nodes at cell 0, and W workers: F are the free nodes, has i what worker i has. -/
structure ArInv (n W : Nat) (us : List Int) (ss : Nat → Option ArS) (has : Nat → List Nat) (tag : Nat) (F : List Nat) : Prop where
  n4 : n ≤ 4096
  len : us.length = n + 1
  head : us.getD 0 0 = (tag : Int) * 4294967296 + (F.headD 0 : Nat)
  chain : ∀ k x, F[k]? = some x → us.getD x 0 % 4294967296 = ((F[k + 1]?).getD 0 : Nat)
  wk : ∀ i s, i < W → ss i = some s → s.over = none → ArW n us tag F s
  part : ∀ x, F.count x + sumN (fun i => (has i).count x) W + sumN (fun i => putOf (ss i) x) W = if 1 ≤ x ∧ x ≤ n then 1 else 0

theorem ArInv.free {n W : Nat} {us : List Int} {ss : Nat → Option ArS} {has : Nat → List Nat} {tag : Nat} {F : List Nat} (h : ArInv n W us ss has tag F) {x : Nat} (hx : x ∈ F) : 1 ≤ x ∧ x ≤ n := by
  have h1 := h.part x
  have h2 : 0 < F.count x := List.count_pos_iff.2 hx
  by_cases hh : 1 ≤ x ∧ x ≤ n
  · exact hh
  · rw [if_neg hh] at h1; omega
theorem ArInv.headLe {n W : Nat} {us : List Int} {ss : Nat → Option ArS} {has : Nat → List Nat} {tag : Nat} {F : List Nat} (h : ArInv n W us ss has tag F) : F.headD 0 ≤ n ∧ (F.headD 0 = 0 ↔ F = []) := by
  cases F with
  | nil => simp
  | cons x F =>
    have := h.free (x := x) (by simp)
    simp
    omega
theorem sumN_one (f : Nat → Nat) {i n : Nat} (h : i < n) : f i ≤ sumN f n := by
  induction n with
  | zero => omega
  | succ n ih =>
    simp only [sumN]
    by_cases e : i = n
    · subst e; omega
    · have := ih (by omega); omega
theorem sumN_two (f : Nat → Nat) {i j n : Nat} (h : i < n) (hj : j < n) (hne : i ≠ j) : f i + f j ≤ sumN f n := by
  induction n with
  | zero => omega
  | succ n ih =>
    simp only [sumN]
    by_cases e : i = n
    · subst e; have := sumN_one f (i := j) (n := i) (by omega); omega
    · by_cases e2 : j = n
      · subst e2; have := sumN_one f (i := i) (n := j) (by omega); omega
      · have := ih (by omega) (by omega); omega
/-- A sum of which one summand changes. -/
theorem sumN_at {f g : Nat → Nat} {i n : Nat} (h : i < n) (hne : ∀ j, j < n → j ≠ i → g j = f j) : sumN g n + f i = sumN f n + g i := by
  induction n with
  | zero => omega
  | succ n ih =>
    simp only [sumN]
    by_cases e : i = n
    · subst e
      rw [sumN_congr (f := g) (g := f) fun j hj => hne j (by omega) (by omega)]
      omega
    · have := ih (by omega) fun j hj => hne j (by omega)
      have := hne n (by omega) (Ne.symm e)
      omega
def updO (ss : Nat → Option ArS) (who : Nat) (o : Option ArS) : Nat → Option ArS := fun i => if i = who then o else ss i
def updL (has : Nat → List Nat) (who : Nat) (l : List Nat) : Nat → List Nat := fun i => if i = who then l else has i
theorem updO_same (ss : Nat → Option ArS) (who : Nat) (o : Option ArS) : updO ss who o who = o := by simp [updO]
theorem updO_ne (ss : Nat → Option ArS) {who i : Nat} (o : Option ArS) (h : i ≠ who) : updO ss who o i = ss i := by simp [updO, h]
theorem updL_same (has : Nat → List Nat) (who : Nat) (l : List Nat) : updL has who l who = l := by simp [updL]
theorem updL_ne (has : Nat → List Nat) {who i : Nat} (l : List Nat) (h : i ≠ who) : updL has who l i = has i := by simp [updL, h]
theorem sumPut (ss : Nat → Option ArS) {who W : Nat} (h : who < W) (o : Option ArS) (x : Nat) : sumN (fun i => putOf (updO ss who o i) x) W + putOf (ss who) x = sumN (fun i => putOf (ss i) x) W + putOf o x := by
  have := sumN_at (f := fun i => putOf (ss i) x) (g := fun i => putOf (updO ss who o i) x) h (fun j _ hj => by simp only [updO_ne ss o hj])
  simp only [updO_same] at this
  exact this
theorem sumHas (has : Nat → List Nat) {who W : Nat} (h : who < W) (l : List Nat) (x : Nat) : sumN (fun i => (updL has who l i).count x) W + (has who).count x = sumN (fun i => (has i).count x) W + l.count x := by
  have := sumN_at (f := fun i => (has i).count x) (g := fun i => (updL has who l i).count x) h (fun j _ hj => by simp only [updL_ne has l hj])
  simp only [updL_same] at this
  exact this

/-- How many steps are left, if nobody else steps. -/
def arLeft (us : List Int) (F : List Nat) (s : ArS) : Nat :=
  let rest := if s.puts = false ∧ F = [] then 0 else 2
  if s.over.isSome then 0
  else if s.step = 1 then 1 + rest
  else if s.step = 2 then (if s.h = us.getD 0 0 then 2 else 2 + rest)
  else (if s.h = us.getD 0 0 then 1 else 1 + rest)
theorem arLeft_3 (us : List Int) (F : List Nat) {s : ArS} (ho : s.over = none) (h : s.step = 3) : arLeft us F s = if s.h = us.getD 0 0 then 1 else 1 + (if s.puts = false ∧ F = [] then 0 else 2) := by
  unfold arLeft
  simp only [ho, h]
  rfl
theorem arLeft_over (us : List Int) (F : List Nat) {s : ArS} (ho : s.over.isSome = true) : arLeft us F s = 0 := by
  unfold arLeft
  simp only [ho, if_true]

theorem getD_set_ne' (us : List Int) {i j : Nat} (v d : Int) (h : i ≠ j) : (us.set i v).getD j d = us.getD j d := by
  simp [List.getD, List.getElem?_set_ne h]
theorem getD_set_same' (us : List Int) {i : Nat} (v d : Int) (h : i < us.length) : (us.set i v).getD i d = v := by
  simp [List.getD, h]

/-- How a step ends, or goes on. -/
inductive ArEnd (s : ArS) (who : Nat) (F F' : List Nat) (has has' : Nat → List Nat) : Option Rs → Prop
  | go : F' = F → has' = has → ArEnd s who F F' has has' none
  | put : s.puts = true → F' = s.node.toNat :: F → has' = has → ArEnd s who F F' has has' (some ⟨0, 0, []⟩)
  | empty : s.puts = false → F = [] → F' = [] → has' = has → ArEnd s who F F' has has' (some ⟨7, 0, []⟩)
  | take (y : Nat) : s.puts = false → F = y :: F' → has' = updL has who (has who ++ [y]) → ArEnd s who F F' has has' (some ⟨0, y, []⟩)

section
variable {n W : Nat} {us : List Int} {ss : Nat → Option ArS} {has : Nat → List Nat} {tag : Nat} {F : List Nat}

/-- A worker knows the head. -/
theorem ArInv.look (h : ArInv n W us ss has tag F) (ht : tag + 1 < 4294967296) {who : Nat} (hw : who < W) {s : ArS} (hs : ss who = some s) (ho : s.over = none) :
    ArInv n W us (updO ss who (some (arHead s (us.getD 0 0)))) has tag F ∧ ArEnd s who F F has has (arHead s (us.getD 0 0)).over ∧
      arLeft us F (arHead s (us.getD 0 0)) = if s.puts = false ∧ F = [] then 0 else 2 := by
  have hk := h.wk who s hw hs ho
  have hl := h.headLe
  have hd := h.head
  have h4 := h.n4
  obtain ⟨v, hv⟩ : ∃ v, us.getD 0 0 = v := ⟨_, rfl⟩
  obtain ⟨f, hf⟩ : ∃ f, F.headD 0 = f := ⟨_, rfl⟩
  rw [hv] at hd ⊢
  rw [hf] at hd hl
  have hm : v % 4294967296 = (f : Int) := by omega
  have hq : v / 4294967296 = (tag : Int) := by omega
  have hsn := hk.sn
  have part : ∀ s' : ArS, s'.puts = s.puts → s'.node = s.node → (s'.over = none ∨ s.puts = false) → ∀ x, F.count x + sumN (fun i => (has i).count x) W + sumN (fun i => putOf (updO ss who (some s') i) x) W = if 1 ≤ x ∧ x ≤ n then 1 else 0 := by
    intro s' h1 h2 h3 x
    have e1 := h.part x
    have e2 := sumPut ss hw (some s') x
    rw [hs] at e2
    have e3 : putOf (some s') x = putOf (some s) x := by
      unfold putOf
      simp only [h1, h2, ho]
      rcases h3 with h3 | h3
      · simp [h3]
      · simp [h3]
    omega
  have others : ∀ s' : ArS, (s'.over = none → ArW n us tag F s') → ∀ i u, i < W → updO ss who (some s') i = some u → u.over = none → ArW n us tag F u := by
    intro s' h1 i u hi hu hou
    by_cases e : i = who
    · subst e
      rw [updO_same] at hu
      cases hu
      exact h1 hou
    · rw [updO_ne ss _ e] at hu
      exact h.wk i u hi hu hou
  have fresh : ∀ s' : ArS, s'.at_ = s.at_ → s'.n = s.n → s'.puts = s.puts → s'.node = s.node → s'.step = 2 → s'.h = v → (s.puts = false → 1 ≤ f) → ArW n us tag F s' := by
    intro s' a1 a2 a3 a4 a5 a6 a7
    refine ⟨a1.trans hk.at0, a2.trans hk.sn, by omega, fun hp => ?_, fun _ => ?_, fun h3 => by omega, fun h3 => by omega⟩
    · rw [a4]; exact hk.node (a3 ▸ hp)
    · rw [a6, a3, hf]
      refine ⟨by omega, by omega, by omega, fun hp => ?_, fun _ => hm⟩
      have := a7 hp; omega
  have mk : ∀ s' : ArS, s'.puts = s.puts → s'.node = s.node → (s'.over = none ∨ s.puts = false) → (s'.over = none → ArW n us tag F s') → ArInv n W us (updO ss who (some s')) has tag F := fun s' h1 h2 h3 h5 =>
    ⟨h.n4, h.len, h.head, h.chain, others s' h5, part s' h1 h2 h3⟩
  unfold arHead
  by_cases hp : s.puts = true
  · rw [if_pos hp]
    refine ⟨mk _ rfl rfl (.inl ho) fun _ => fresh _ rfl rfl rfl rfl rfl rfl (fun h => by rw [hp] at h; cases h), ?_, ?_⟩
    · simp only [ho]; exact .go rfl rfl
    · simp [arLeft, ho, hp]
      simpa using hv.symm
  · rw [if_neg hp]
    have hp' : s.puts = false := by simpa using hp
    by_cases h0 : v % 4294967296 = 0
    · rw [if_pos h0]
      have hF : F = [] := hl.2.1 (by omega)
      refine ⟨mk _ rfl rfl (.inr hp') (fun h => by simp at h), .empty hp' hF hF rfl, ?_⟩
      simp [arLeft, hp', hF]
    · rw [if_neg h0, if_neg (by omega)]
      have hF : F ≠ [] := fun e => h0 (by have := hl.2.2 e; omega)
      refine ⟨mk _ rfl rfl (.inl ho) fun _ => fresh _ rfl rfl rfl rfl rfl rfl fun _ => by omega, ?_, ?_⟩
      · simp only [ho]; exact .go rfl rfl
      · simp [arLeft, ho, hF]
        simpa using hv.symm

theorem ArInv.step (h : ArInv n W us ss has tag F) (ht : tag + 1 < 4294967296) {who : Nat} (hw : who < W) {s : ArS} (hs : ss who = some s) (ho : s.over = none) :
    (arWant s).ok ∧ C.code us (arWant s) = 0 ∧ (arWant s).k ≠ 7 ∧ ∃ s' tag' F' has', arGive s (C.told us (arWant s)) (C.won us (arWant s)) = s' ∧ tag' ≤ tag + 1 ∧
      ArInv n W (C.next us (arWant s)) (updO ss who (some s')) has' tag' F' ∧ ArEnd s who F F' has has' s'.over ∧ arLeft (C.next us (arWant s)) F' s' + 1 = arLeft us F s := by
  have hk := h.wk who s hw hs ho
  have hl := h.headLe
  have hd := h.head
  have h4 := h.n4
  have hlen := h.len
  have hat := hk.at0
  have U0 : M.U 0 := ⟨by decide, by decide⟩
  have l0 := C.load_at us 0 (by omega) 0 0
  rcases hk.st with h1 | h1 | h1
  · -- the head is loaded
    have hwant : arWant s = ⟨1, ((0 : Nat) : Int), 0, 0⟩ := by simp [arWant, h1, hat]
    rw [hwant, l0.1, l0.2.1, l0.2.2]
    obtain ⟨i1, i2, i3⟩ := h.look ht hw hs ho
    refine ⟨⟨U0, U0⟩, rfl, by simp, _, tag, F, has, by unfold arGive; rw [if_pos h1], by omega, i1, i2, ?_⟩
    rw [i3]
    simp only [arLeft, ho, h1]
    simp
    omega
  · -- the link is loaded or stored
    have hh := hk.head (by omega)
    have hg : ∀ v won, arGive s v won = { s with link := v, step := 3 } := fun v won => by unfold arGive; rw [if_neg (by omega), if_pos h1]
    have hleft : ∀ us' v, us'.getD 0 0 = us.getD 0 0 → arLeft us' F { s with link := v, step := 3 } + 1 = arLeft us F s := by
      intro us' v e
      simp only [arLeft, ho, h1, e]
      simp
      split <;> omega
    by_cases hp : s.puts = true
    · obtain ⟨nd1, nd2⟩ := hk.node hp
      obtain ⟨nd, hnd⟩ : ∃ nd : Nat, s.node = (nd : Int) := ⟨s.node.toNat, by omega⟩
      have hwant : arWant s = ⟨2, (nd : Int), s.h % 4294967296, 0⟩ := by
        unfold arWant
        rw [if_neg (by omega), if_pos hp, if_pos h1, hat, hnd]; simp
      obtain ⟨s1, s2, s3⟩ := C.store_at us nd (by omega) (s.h % 4294967296) 0
      rw [hwant, s1, s2, hg]
      have hput : ∀ x, putOf (some s) x = if nd = x then 1 else 0 := fun x => by
        simp only [putOf, ho, hp, hnd, true_and]
        by_cases e : nd = x
        · rw [if_pos (by omega), if_pos e]
        · rw [if_neg (by omega), if_neg e]
      have hpart := h.part nd
      have hone : (1 : Nat) ≤ nd ∧ nd ≤ n := by omega
      rw [if_pos hone] at hpart
      have hsum := sumN_one (fun i => putOf (ss i) nd) hw
      simp only [hs] at hsum
      rw [hput, if_pos rfl] at hsum
      have hnF : nd ∉ F := fun hm => by have := List.count_pos_iff.2 hm; omega
      have hUh : M.U (s.h % 4294967296) := ⟨by omega, by omega⟩
      refine ⟨⟨hUh, U0⟩, rfl, by simp, _, tag, F, has, rfl, by omega, ⟨h4, by simpa using hlen, ?_, ?_, ?_, ?_⟩, ?_, ?_⟩
      · rw [getD_set_ne' _ _ _ (by omega)]; exact hd
      · intro k x hx
        have hxF : x ∈ F := List.mem_of_getElem? hx
        rw [getD_set_ne' _ _ _ (show nd ≠ x from fun e => hnF (by rw [e]; exact hxF))]
        exact h.chain k x hx
      · intro i u hi hu hou
        by_cases e : i = who
        · subst e
          rw [updO_same] at hu
          cases hu
          refine ⟨hk.at0, hk.sn, by simp, hk.node, fun _ => hh, fun _ hp' => ?_, fun _ _ => ?_⟩
          · simp only at hp'; rw [hp] at hp'; cases hp'
          · simp only [hnd, Int.toNat_natCast]
            rw [getD_set_same' _ _ _ (by omega)]; omega
        · rw [updO_ne ss _ e] at hu
          have hu' := h.wk i u hi hu hou
          refine ⟨hu'.at0, hu'.sn, hu'.st, hu'.node, hu'.head, fun h3 hp' ht' => ?_, fun h3 hp' => ?_⟩
          · have hu2 := hu'.head (by omega)
            have hne : nd ≠ (u.h % 4294967296).toNat := fun e => by
              have h5 := hu2.2.2.2.2 ht'
              have h6 := hu2.2.2.2.1 hp'
              have hF : F.headD 0 = nd := by omega
              cases hFF : F with
              | nil => rw [hFF] at hF; simp at hF; omega
              | cons a F' => rw [hFF] at hF; simp at hF; exact hnF (by rw [hFF, ← hF]; simp)
            rw [getD_set_ne' _ _ _ hne]
            exact hu'.link h3 hp' ht'
          · obtain ⟨un1, un2⟩ := hu'.node hp'
            have hne : nd ≠ u.node.toNat := fun e2 => by
              have h7 := sumN_two (fun i => putOf (ss i) nd) hw hi (Ne.symm e)
              simp only [hs, hu] at h7
              rw [hput, if_pos rfl] at h7
              have h8 : putOf (some u) nd = 1 := by
                show (if u.over = none ∧ u.puts = true ∧ u.node = (nd : Int) then 1 else 0) = 1
                rw [if_pos ⟨hou, hp', by omega⟩]
              omega
            rw [getD_set_ne' _ _ _ hne]
            exact hu'.own h3 hp'
      · intro x
        have e1 := h.part x
        have e2 := sumPut ss hw (some { s with link := C.told us ⟨2, (nd : Int), s.h % 4294967296, 0⟩, step := 3 }) x
        rw [hs] at e2
        have e3 : putOf (some { s with link := C.told us ⟨2, (nd : Int), s.h % 4294967296, 0⟩, step := 3 }) x = putOf (some s) x := rfl
        omega
      · simp only [ho]; exact .go rfl rfl
      · exact hleft _ _ (getD_set_ne' _ _ _ (by omega))
    · have hp' : s.puts = false := by simpa using hp
      obtain ⟨y, hy⟩ : ∃ y : Nat, s.h % 4294967296 = (y : Int) := ⟨(s.h % 4294967296).toNat, by omega⟩
      have hwant : arWant s = ⟨1, (y : Int), 0, 0⟩ := by
        unfold arWant
        rw [if_neg (by omega), if_neg hp, if_pos h1, hat, hy]; simp
      obtain ⟨s1, s2, s3⟩ := C.load_at us y (by omega) 0 0
      rw [hwant, s1, s2, s3, hg]
      refine ⟨⟨U0, U0⟩, rfl, by simp, _, tag, F, has, rfl, by omega, ⟨h4, hlen, hd, h.chain, ?_, ?_⟩, ?_, hleft us _ rfl⟩
      · intro i u hi hu hou
        by_cases e : i = who
        · subst e
          rw [updO_same] at hu
          cases hu
          refine ⟨hk.at0, hk.sn, by simp, hk.node, fun _ => hh, fun _ _ _ => ?_, fun _ hp2 => ?_⟩
          · simp only [hy, Int.toNat_natCast]
          · simp only at hp2; exact absurd hp2 hp
        · rw [updO_ne ss _ e] at hu
          exact h.wk i u hi hu hou
      · intro x
        have e1 := h.part x
        have e2 := sumPut ss hw (some { s with link := us.getD y 0, step := 3 }) x
        rw [hs] at e2
        have e3 : putOf (some { s with link := us.getD y 0, step := 3 }) x = putOf (some s) x := rfl
        omega
      · simp only [ho]; exact .go rfl rfl
  · -- the head is swapped
    have hh := hk.head (by omega)
    have hUh : M.U s.h := ⟨hh.1, by omega⟩
    by_cases hp : s.puts = true
    · obtain ⟨nd1, nd2⟩ := hk.node hp
      obtain ⟨nd, hnd⟩ : ∃ nd : Nat, s.node = (nd : Int) := ⟨s.node.toNat, by omega⟩
      have hwant : arWant s = ⟨3, ((0 : Nat) : Int), s.h, arNext s.h nd⟩ := by
        unfold arWant
        rw [if_neg (by omega), if_pos hp, if_neg (by omega), hat, hnd]; simp
      obtain ⟨s1, s2, s3, s4⟩ := C.cas_at us 0 (by omega) s.h (arNext s.h nd)
      rw [hwant, s1, s2]
      have hUn : M.U (arNext s.h nd) := by unfold arNext; exact ⟨by omega, by omega⟩
      by_cases hwin : us.getD 0 0 = s.h
      · obtain ⟨w1, w2⟩ := s3 hwin
        rw [w1, w2]
        have hg : arGive s (us.getD 0 0) true = { s with over := some ⟨0, 0, []⟩ } := by unfold arGive; rw [if_neg (by omega), if_neg (by omega), if_pos rfl, if_pos hp]
        rw [hg]
        have hnew : arNext s.h nd = ((tag + 1 : Nat) : Int) * 4294967296 + nd := by unfold arNext; omega
        have hown := hk.own h1 hp
        rw [hnd, Int.toNat_natCast] at hown
        refine ⟨⟨hUh, hUn⟩, rfl, by simp, _, tag + 1, nd :: F, has, rfl, by omega, ⟨h4, by simpa using hlen, ?_, ?_, ?_, ?_⟩, .put hp (by simp [hnd]) rfl, ?_⟩
        · rw [getD_set_same' _ _ _ (by omega), hnew]; simp
        · intro k x hx
          have hx1 : 1 ≤ x := by
            cases k with
            | zero => simp at hx; omega
            | succ k => simp at hx; exact (h.free (List.mem_of_getElem? hx)).1
          rw [getD_set_ne' _ _ _ (by omega)]
          cases k with
          | zero =>
            simp at hx
            subst hx
            rw [hown]
            rw [hwin] at hd
            cases hF : F with
            | nil => rw [hF] at hd; simp at hd ⊢; omega
            | cons a F' => rw [hF] at hd; simp at hd ⊢; omega
          | succ k =>
            simp at hx
            simpa using h.chain k x hx
        · intro i u hi hu hou
          by_cases e : i = who
          · subst e
            rw [updO_same] at hu
            cases hu
            simp at hou
          · rw [updO_ne ss _ e] at hu
            have hu' := h.wk i u hi hu hou
            refine ⟨hu'.at0, hu'.sn, hu'.st, hu'.node, fun h3 => ?_, fun h3 hp' ht' => ?_, fun h3 hp' => ?_⟩
            · have := hu'.head h3
              exact ⟨this.1, by omega, this.2.2.1, this.2.2.2.1, fun h => by omega⟩
            · have := hu'.head (by omega); omega
            · have := hu'.node hp'
              rw [getD_set_ne' _ _ _ (by omega)]; exact hu'.own h3 hp'
        · intro x
          have e1 := h.part x
          have e2 := sumPut ss hw (some { s with over := some ⟨0, 0, []⟩ }) x
          rw [hs] at e2
          have e3 : putOf (some { s with over := some ⟨0, 0, []⟩ }) x = 0 := by simp [putOf]
          have e4 : putOf (some s) x = if nd = x then 1 else 0 := by
            simp only [putOf, ho, hp, hnd, true_and]
            by_cases e : nd = x
            · rw [if_pos (by omega), if_pos e]
            · rw [if_neg (by omega), if_neg e]
          rw [List.count_cons]
          by_cases e : nd = x
          · rw [if_pos e] at e4; simp [e]; omega
          · rw [if_neg e] at e4; simp [e]; omega
        · rw [arLeft_3 us _ ho h1, if_pos hwin.symm, arLeft_over _ _ rfl]
      · obtain ⟨w1, w2⟩ := s4 hwin
        rw [w1, w2]
        have hg : arGive s (us.getD 0 0) false = arHead s (us.getD 0 0) := by unfold arGive; rw [if_neg (by omega), if_neg (by omega), if_neg (by simp)]
        rw [hg]
        obtain ⟨i1, i2, i3⟩ := h.look ht hw hs ho
        refine ⟨⟨hUh, hUn⟩, rfl, by simp, _, tag, F, has, rfl, by omega, i1, i2, ?_⟩
        rw [i3]
        rw [arLeft_3 us F ho h1, if_neg (show ¬ s.h = us.getD 0 0 from fun e => hwin e.symm)]
        omega
    · have hp' : s.puts = false := by simpa using hp
      have hwant : arWant s = ⟨3, ((0 : Nat) : Int), s.h, arNext s.h (s.link % 4294967296)⟩ := by
        unfold arWant
        rw [if_neg (by omega), if_neg hp, if_neg (by omega), hat]; simp
      obtain ⟨s1, s2, s3, s4⟩ := C.cas_at us 0 (by omega) s.h (arNext s.h (s.link % 4294967296))
      rw [hwant, s1, s2]
      have hUn : M.U (arNext s.h (s.link % 4294967296)) := by unfold arNext; exact ⟨by omega, by omega⟩
      by_cases hwin : us.getD 0 0 = s.h
      · obtain ⟨w1, w2⟩ := s3 hwin
        rw [w1, w2]
        have hg : arGive s (us.getD 0 0) true = { s with over := some ⟨0, s.h % 4294967296, []⟩ } := by unfold arGive; rw [if_neg (by omega), if_neg (by omega), if_pos rfl, if_neg hp]
        rw [hg]
        have hy1 := hh.2.2.2.1 hp'
        have htag : s.h / 4294967296 = tag := by omega
        have hy2 := hh.2.2.2.2 htag
        cases hF : F with
        | nil => rw [hF] at hy2; simp at hy2; omega
        | cons y F' =>
          have hyh : s.h % 4294967296 = (y : Int) := by rw [hF] at hy2; simpa using hy2
          have hlink := hk.link h1 hp' htag
          have hch := h.chain 0 y (by rw [hF]; rfl)
          rw [hyh, Int.toNat_natCast, hch] at hlink
          have hl2 : s.link % 4294967296 = (F'.headD 0 : Nat) := by
            rw [hlink, hF]
            cases F' <;> simp
          have hyF : y ∈ F := by rw [hF]; simp
          have hyn := h.free hyF
          have hnew : arNext s.h (s.link % 4294967296) = ((tag + 1 : Nat) : Int) * 4294967296 + (F'.headD 0 : Nat) := by rw [hl2]; unfold arNext; omega
          have hin : ∀ x, x ∈ F' → x ∈ F := fun x hx => by rw [hF]; exact List.mem_cons_of_mem _ hx
          rw [hyh]
          refine ⟨⟨hUh, hUn⟩, rfl, by simp, _, tag + 1, F', updL has who (has who ++ [y]), rfl, by omega, ⟨h4, by simpa using hlen, ?_, ?_, ?_, ?_⟩, .take y hp' rfl rfl, ?_⟩
          · rw [getD_set_same' _ _ _ (by omega), hnew]
          · intro k x hx
            have hx1 := (h.free (hin x (List.mem_of_getElem? hx))).1
            rw [getD_set_ne' _ _ _ (by omega)]
            have := h.chain (k + 1) x (by rw [hF]; simpa using hx)
            rw [hF] at this
            simpa using this
          · intro i u hi hu hou
            by_cases e : i = who
            · subst e
              rw [updO_same] at hu
              cases hu
              simp at hou
            · rw [updO_ne ss _ e] at hu
              have hu' := h.wk i u hi hu hou
              refine ⟨hu'.at0, hu'.sn, hu'.st, hu'.node, fun h3 => ?_, fun h3 hp' ht' => ?_, fun h3 hp' => ?_⟩
              · have := hu'.head h3
                exact ⟨this.1, by omega, this.2.2.1, this.2.2.2.1, fun h => by omega⟩
              · have := hu'.head (by omega); omega
              · have := hu'.node hp'
                rw [getD_set_ne' _ _ _ (by omega)]; exact hu'.own h3 hp'
          · intro x
            have e1 := h.part x
            have e2 := sumPut ss hw (some { s with over := some ⟨0, (y : Int), []⟩ }) x
            rw [hs] at e2
            have e3 : putOf (some { s with over := some ⟨0, (y : Int), []⟩ }) x = 0 := by simp [putOf]
            have e4 : putOf (some s) x = 0 := by simp [putOf, hp']
            have e5 := sumHas has hw (has who ++ [y]) x
            rw [List.count_append] at e5
            rw [hF, List.count_cons] at e1
            simp only [List.count_cons, List.count_nil] at e5
            omega
          · rw [arLeft_3 us _ ho h1, if_pos hwin.symm, arLeft_over _ _ rfl]
      · obtain ⟨w1, w2⟩ := s4 hwin
        rw [w1, w2]
        have hg : arGive s (us.getD 0 0) false = arHead s (us.getD 0 0) := by unfold arGive; rw [if_neg (by omega), if_neg (by omega), if_neg (by simp)]
        rw [hg]
        obtain ⟨i1, i2, i3⟩ := h.look ht hw hs ho
        refine ⟨⟨hUh, hUn⟩, rfl, by simp, _, tag, F, has, rfl, by omega, i1, i2, ?_⟩
        rw [i3]
        rw [arLeft_3 us F ho h1, if_neg (show ¬ s.h = us.getD 0 0 from fun e => hwin e.symm)]
        omega

/-- A Take, a Put, at the beginning. -/
def arRight (at_ n : Int) : Prop := 1 ≤ n ∧ n ≤ 4096 ∧ 0 ≤ at_ ∧ at_ < 65536 - n
instance (at_ n : Int) : Decidable (arRight at_ n) := by unfold arRight; infer_instance
def arTake (at_ n : Int) : ArS := ⟨at_, n, false, 0, 1, 0, 0, if arRight at_ n then none else some ⟨2, 0, []⟩⟩
def arPut (at_ n i : Int) : ArS := ⟨at_, n, true, i, 1, 0, 0, if arRight at_ n ∧ 1 ≤ i ∧ i ≤ n then none else some ⟨2, 0, []⟩⟩

/-- A worker who isn't under way begins a Take. -/
theorem ArInv.take (h : ArInv n W us ss has tag F) {who : Nat} (hw : who < W) (hs : ∀ s, ss who = some s → s.over.isSome = true) (hn : 1 ≤ n) : ArInv n W us (updO ss who (some (arTake 0 n))) has tag F := by
  have h4 := h.n4
  have hr : (arTake 0 n).over = none := by simp only [arTake]; rw [if_pos ⟨by omega, by omega, by omega, by omega⟩]
  refine ⟨h.n4, h.len, h.head, h.chain, fun i u hi hu hou => ?_, fun x => ?_⟩
  · by_cases e : i = who
    · subst e
      rw [updO_same] at hu
      cases hu
      refine ⟨rfl, rfl, .inl rfl, fun h => by simp [arTake] at h, fun h => absurd rfl h, fun h => by simp [arTake] at h, fun h => by simp [arTake] at h⟩
    · rw [updO_ne ss _ e] at hu
      exact h.wk i u hi hu hou
  · have e1 := h.part x
    have e2 := sumPut ss hw (some (arTake 0 n)) x
    have e3 : putOf (some (arTake 0 n)) x = 0 := by simp [putOf, arTake]
    have e4 : putOf (ss who) x = 0 := by
      cases hss : ss who with
      | none => rfl
      | some s => have := hs s hss; simp only [putOf]; rw [if_neg]; rintro ⟨h, -⟩; rw [h] at this; cases this
    omega
/-- A worker who isn't under way begins to put back one of those that it has. -/
theorem ArInv.put (h : ArInv n W us ss has tag F) {who : Nat} (hw : who < W) (hs : ∀ s, ss who = some s → s.over.isSome = true) (a b : List Nat) (y : Nat) (hh : has who = a ++ y :: b) :
    1 ≤ y ∧ y ≤ n ∧ ArInv n W us (updO ss who (some (arPut 0 n y))) (updL has who (a ++ b)) tag F := by
  have h4 := h.n4
  have hy : 1 ≤ y ∧ y ≤ n := by
    have e1 := h.part y
    have e2 : (has who).count y ≤ sumN (fun i => (has i).count y) W := sumN_one (fun i => (has i).count y) hw
    have e3 : 0 < (has who).count y := List.count_pos_iff.2 (by rw [hh]; simp)
    by_cases e : 1 ≤ y ∧ y ≤ n
    · exact e
    · rw [if_neg e] at e1; omega
  have hr : (arPut 0 n y).over = none := by simp only [arPut]; rw [if_pos ⟨⟨by omega, by omega, by omega, by omega⟩, by omega, by omega⟩]
  refine ⟨hy.1, hy.2, h.n4, h.len, h.head, h.chain, fun i u hi hu hou => ?_, fun x => ?_⟩
  · by_cases e : i = who
    · subst e
      rw [updO_same] at hu
      cases hu
      refine ⟨rfl, rfl, .inl rfl, fun h => ⟨by simp [arPut]; omega, by simp [arPut]; omega⟩, fun h => absurd rfl h, fun h => by simp [arPut] at h, fun h => by simp [arPut] at h⟩
    · rw [updO_ne ss _ e] at hu
      exact h.wk i u hi hu hou
  · have e1 := h.part x
    have e2 := sumPut ss hw (some (arPut 0 n y)) x
    have e3 : putOf (some (arPut 0 n y)) x = if y = x then 1 else 0 := by
      simp only [putOf, hr, true_and]
      by_cases e : y = x
      · rw [if_pos ⟨rfl, by simp [arPut, e]⟩, if_pos e]
      · rw [if_neg (fun h => e (by have := h.2; simp [arPut] at this; omega)), if_neg e]
    have e4 : putOf (ss who) x = 0 := by
      cases hss : ss who with
      | none => rfl
      | some s => have := hs s hss; simp only [putOf]; rw [if_neg]; rintro ⟨h, -⟩; rw [h] at this; cases this
    have e5 := sumHas has hw (a ++ b) x
    rw [hh] at e5
    rw [List.count_append, List.count_append, List.count_cons] at e5
    by_cases e : y = x
    · rw [if_pos e] at e3; simp [e] at e5; omega
    · rw [if_neg e] at e3; simp [e] at e5; omega

theorem sumN_add (f g : Nat → Nat) (n : Nat) : sumN (fun i => f i + g i) n = sumN f n + sumN g n := by
  induction n with
  | zero => rfl
  | succ n ih => simp only [sumN]; rw [ih]; omega
theorem sumN_swap (f : Nat → Nat → Nat) (m n : Nat) : sumN (fun x => sumN (fun i => f i x) m) n = sumN (fun i => sumN (fun x => f i x) n) m := by
  induction m with
  | zero => simp only [sumN]; rw [sumN_const]; omega
  | succ m ih => simp only [sumN]; rw [sumN_add, ih]
theorem sumN_single (y n : Nat) : sumN (fun x => if y = x then 1 else 0) n = if y < n then 1 else 0 := by
  induction n with
  | zero => simp [sumN]
  | succ n ih =>
    simp only [sumN]
    rw [ih]
    by_cases e : y = n
    · subst e; simp
    · rw [if_neg e]
      by_cases e2 : y < n
      · rw [if_pos e2, if_pos (by omega)]
      · rw [if_neg e2, if_neg (by omega)]
theorem sumN_count (l : List Nat) (n : Nat) (h : ∀ x ∈ l, x < n) : sumN (fun x => l.count x) n = l.length := by
  induction l with
  | nil => rw [sumN_congr (g := fun _ => 0) (fun _ _ => by simp), sumN_const]; simp
  | cons y l ih =>
    have e : ∀ x, (y :: l).count x = l.count x + (if y = x then 1 else 0) := fun x => by
      rw [List.count_cons]
      by_cases e : y = x <;> simp [e]
    rw [sumN_congr (g := fun x => l.count x + (if y = x then 1 else 0)) (fun x _ => e x), sumN_add, ih fun x hx => h x (List.mem_cons_of_mem _ hx), sumN_single, if_pos (h y (by simp))]
    simp
/-- How many are free, or had, or under way back. -/
theorem ArInv.all (h : ArInv n W us ss has tag F) : F.length + sumN (fun i => (has i).length) W + sumN (fun i => sumN (fun x => putOf (ss i) x) (n + 1)) W = n := by
  have hF : ∀ x ∈ F, x < n + 1 := fun x hx => by have := h.free hx; omega
  have hH : ∀ i, i < W → ∀ x ∈ has i, x < n + 1 := fun i hi x hx => by
    have e1 := h.part x
    have e2 : (has i).count x ≤ sumN (fun i => (has i).count x) W := sumN_one (fun i => (has i).count x) hi
    have e3 : 0 < (has i).count x := List.count_pos_iff.2 hx
    by_cases e : 1 ≤ x ∧ x ≤ n
    · omega
    · rw [if_neg e] at e1; omega
  have e0 : sumN (fun x => F.count x + sumN (fun i => (has i).count x) W + sumN (fun i => putOf (ss i) x) W) (n + 1) = sumN (fun x => if 1 ≤ x ∧ x ≤ n then 1 else 0) (n + 1) := sumN_congr fun x _ => h.part x
  have e1 : ∀ m, sumN (fun x => if 1 ≤ x ∧ x ≤ n then 1 else 0) (m + 1) = if m ≤ n then m else n := by
    intro m
    induction m with
    | zero => simp [sumN]
    | succ m ih =>
      rw [sumN, ih]
      (repeat' split) <;> omega
  rw [e1, if_pos (Nat.le_refl _), sumN_add, sumN_add, sumN_count F _ hF, sumN_swap (fun i x => (has i).count x), sumN_swap (fun i x => putOf (ss i) x),
    sumN_congr (f := fun i => sumN (fun x => (has i).count x) (n + 1)) (g := fun i => (has i).length) (fun i hi => sumN_count _ _ (hH i hi))] at e0
  exact e0
theorem ArInv.nodup (h : ArInv n W us ss has tag F) : F.Nodup := by
  rw [List.nodup_iff_count]
  intro x
  have := h.part x
  split at this <;> omega
end
end Go.Proofs.Ytnlkbmjelkbfkaa
