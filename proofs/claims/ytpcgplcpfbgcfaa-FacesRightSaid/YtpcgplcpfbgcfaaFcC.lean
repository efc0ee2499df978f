/-
  The contract of faces.Common.
-/
import Derived.Test.YtpcgplcpfbgcfaaFcI
import Derived.Test.YtpcgplcpfbgcfaaScope
namespace Go.Proofs.Ytpcgplcpfbgcfaa
open Go Go.ChangeShapes Go.WideShapes Go.ChangeAt Go.RowKit Go.Shelf
attribute [local go_sem] Oper.semAt_some

/-- What is known when these places of i's line have been passed over, and jv's line is the rest of j's that matters. -/
def NoneYet (l : List Face) (j : Int) (pre : List Nat) (jv : Int) : Prop :=
  (∀ p ∈ pre, p ∉ lineL l j) ∧ (∀ c : Nat, (∀ p ∈ pre, c < p) → (c ∈ lineL l j ↔ c ∈ lineL l jv))
theorem NoneYet.start (l : List Face) (j : Int) : NoneYet l j [] j := ⟨(fun p hp => by simp at hp), fun c _ => Iff.rfl⟩
theorem fall_last {L pre : List Nat} {a : Nat} (hL : L.Pairwise (· > ·)) (hp : pre ++ [a] <+: L) : ∀ p ∈ pre, a < p := fun p hp2 => by
  obtain ⟨t, rfl⟩ := hp
  have h1 := (List.pairwise_append.1 hL).1
  exact (List.pairwise_append.1 h1).2.2 p hp2 a (by simp)
theorem prefix_left {α : Type} {L pre : List α} {a : α} (hp : pre ++ [a] <+: L) : pre <+: L := by
  obtain ⟨t, rfl⟩ := hp
  exact ⟨[a] ++ t, by simp⟩
theorem find_prefix {α : Type} {L pre : List α} {a : α} {P : α → Bool} (hp : pre ++ [a] <+: L) (h1 : ∀ p ∈ pre, P p = false) (h2 : P a = true) : L.find? P = some a := by
  obtain ⟨t, rfl⟩ := hp
  have hn : pre.find? P = none := List.find?_eq_none.2 fun x hx => by simp [h1 x hx]
  rw [List.append_assoc, List.find?_append, hn]
  simp [h2]
/-- One is found. -/
theorem common_found {l : List Face} {i j jv : Int} {pre : List Nat} {a : Nat} (hp : pre ++ [a] <+: lineL l i) (h : NoneYet l j pre jv) (ha : a ∈ lineL l jv) : commonL l i j = some a := by
  unfold commonL
  refine find_prefix hp (fun p hp2 => by simpa using h.1 p hp2) ?_
  simpa using (h.2 a (fall_last (lineL_fall l i) hp)).2 ha
/-- The rest of jv's line is all above a. -/
theorem common_none {l : List Face} {i j jv : Int} {pre : List Nat} {a : Nat} (hp : pre ++ [a] <+: lineL l i) (h : NoneYet l j pre jv) (ha : ∀ y ∈ lineL l jv, a < y) : commonL l i j = none := by
  unfold commonL
  rw [List.find?_eq_none]
  intro c hc hcj
  have hcj' : c ∈ lineL l j := by simpa using hcj
  have hL := lineL_fall l i
  have hlast := fall_last hL hp
  obtain ⟨t, ht⟩ := hp
  rw [← ht] at hc hL
  rcases List.mem_append.1 hc with hc | hc
  · rcases List.mem_append.1 hc with hc | hc
    · exact h.1 c hc hcj'
    · simp at hc; subst hc
      have := ha c ((h.2 c hlast).1 hcj')
      omega
  · have hca : c < a := (List.pairwise_append.1 hL).2.2 a (by simp) c hc
    have hall : ∀ p ∈ pre, c < p := fun p hp2 => by have := hlast p hp2; omega
    have := ha c ((h.2 c hall).1 hcj')
    omega
/-- None of i's line. -/
theorem common_over {l : List Face} {i j jv : Int} (h : NoneYet l j (lineL l i) jv) : commonL l i j = none := by
  unfold commonL
  rw [List.find?_eq_none]
  intro c hc hcj
  exact h.1 c hc (by simpa using hcj)
/-- b, lesser than a, is met in jv's line, and all ahead of it is above a. -/
theorem common_next {l : List Face} {i j jv : Int} {pre : List Nat} {a : Nat} {pb : List Nat} {b : Nat} (hp : pre ++ [a] <+: lineL l i) (h : NoneYet l j pre jv) (hb : pb ++ [b] <+: lineL l jv) (hpb : ∀ y ∈ pb, a < y) (hba : b < a) : NoneYet l j (pre ++ [a]) (b : Int) := by
  have hlast := fall_last (lineL_fall l i) hp
  obtain ⟨t, ht⟩ := hb
  have ht' : lineL l jv = pb ++ b :: t := by rw [← ht]; simp
  have hbl := lineL_split ht'
  have hfall := lineL_fall l (b : Int)
  have key : ∀ c : Nat, c ≤ a → (c ∈ lineL l jv ↔ c ∈ lineL l (b : Int)) := fun c hc => by
    rw [ht', hbl]
    constructor
    · intro hm
      rcases List.mem_append.1 hm with hm | hm
      · have := hpb c hm; omega
      · exact hm
    · intro hm; exact List.mem_append.2 (.inr hm)
  refine ⟨fun p hp2 => ?_, fun c hc => ?_⟩
  · rcases List.mem_append.1 hp2 with hp2 | hp2
    · exact h.1 p hp2
    · simp at hp2; subst hp2
      intro hm
      have h1 := (key p (Nat.le_refl _)).1 ((h.2 p hlast).1 hm)
      have := (lineL_mem h1).2
      omega
  · have hca : c < a := hc a (by simp)
    have hall : ∀ p ∈ pre, c < p := fun p hp2 => by have := hlast p hp2; omega
    exact (h.2 c hall).trans (key c (by omega))
def cmV : Option Nat → Int
  | some a => (a : Int)
  | none => 0
def cmE : Option Nat → Int
  | some _ => 0
  | none => 7
def CommonPost (w0 : World) (r : Option Nat) (e : Ending) (W' : World) : Prop := e = .returned (.tuple #[.int .i64 (cmV r), .int .i64 (cmE r)]) ∧ Below w0.heap.size w0 W'
/-- Common's boxes. -/
structure CB (w0 : World) (sv : Value) (jv cv ev : Int) (W : World) : Prop where
  b0 : Boxed W w0.heap.size 22 sv
  b1 : Boxed W (w0.heap.size + 1) 3 (.int .i64 jv)
  b2 : Boxed W (w0.heap.size + 1 + 1) 3 (.int .i64 cv)
  b3 : Boxed W (w0.heap.size + 1 + 1 + 1) 25 (.int .i64 ev)
  below : Below w0.heap.size w0 W
theorem CB.kept {w0 : World} {sv : Value} {jv cv ev : Int} {W W' : World} {row : Option Nat} (h : CB w0 sv jv cv ev W) (hg : W.grownBy W' row) (hr : ∀ r, row = some r → w0.heap.size ≤ r ∧ ∃ o : Obj, W.heap[r]? = some o ∧ o.isCells = false) : CB w0 sv jv cv ev W' :=
  have hr' := fun r e => (hr r e).2
  ⟨h.b0.kept hg (not_cells h.b0 hr'), h.b1.kept hg (not_cells h.b1 hr'), h.b2.kept hg (not_cells h.b2 hr'), h.b3.kept hg (not_cells h.b3 hr'), h.below.grown hg h.below.size (fun k e => (hr k e).1)⟩
theorem CB.alloc {w0 : World} {sv : Value} {jv cv ev : Int} {W : World} (h : CB w0 sv jv cv ev W) (o : Obj) : CB w0 sv jv cv ev (W.alloc o) := h.kept (World.grownBy_alloc W o none) (fun r e => by cases e)
/-- What the iterator needs. -/
def SC (w0 : World) (k : Nat) : Prop := k < w0.heap.size ∨ k = w0.heap.size + 1 + 1 + 1 + 1
/-- Within a round of the outer loop. -/
structure CN (w : World) (sv : Value) (jv cv ev : Int) (Bx a B0 : Nat) (W W' : World) : Prop where
  cb : CB w sv jv cv ev W'
  bx : Boxed W' Bx 3 (.int .i64 (a : Int))
  kf : KeepsFrom B0 W W'
  ks : KS (SC w) W W'
theorem CN.kept {w : World} {sv : Value} {jv cv ev : Int} {Bx a B0 : Nat} {W W' W'' : World} {row : Option Nat} (h : CN w sv jv cv ev Bx a B0 W W') (hw : w.heap.size + 4 < W.heap.size) (hg : W'.grownBy W'' row) (hr : ∀ r, row = some r → W.heap.size ≤ r ∧ ∃ o : Obj, W'.heap[r]? = some o ∧ o.isCells = false) : CN w sv jv cv ev Bx a B0 W W'' :=
  ⟨h.cb.kept hg (fun r e => ⟨by have := (hr r e).1; omega, (hr r e).2⟩), h.bx.kept hg (not_cells h.bx (fun r e => (hr r e).2)), ownFrom_keepsFrom (β := Unit) (Nat.le_refl _) () W' W'' row h.kf hg hr, h.ks.grown hg (fun k e hs => by have := (hr k e).1; rcases hs with hs | hs <;> omega)⟩
theorem vals_mem {l : List Face} {i : Int} {pre : List (Pl l i)} {x : Pl l i} {k : Nat} : k ∈ vals (pre ++ [x]) ↔ k ∈ vals pre ∨ k = x.1 := by rw [vals_app]; simp
/-- Between two rounds of the outer loop. -/
def CO (w : World) (sv : Value) (l : List Face) (i j : Int) (pre : List Nat) (W : World) : Prop := ∃ jv, CB w sv jv 0 7 W ∧ (pre <+: lineL l i → NoneYet l j pre jv)
def CX (w : World) (sv : Value) (l : List Face) (i j : Int) (c : Code) (pre : List Nat) (W : World) : Prop := c = .exit 0 ∧ ∃ jv r, CB w sv jv (cmV r) (cmE r) W ∧ (pre <+: lineL l i → commonL l i j = r)
def C2 (w : World) (sv : Value) (jv : Int) (Bx a B0 : Nat) (W : World) (pre : List Nat) (W' : World) : Prop := CN w sv jv 0 7 Bx a B0 W W' ∧ ∀ y ∈ pre, a < y
def C2X (w : World) (sv : Value) (jv : Int) (Bx a B0 : Nat) (W : World) (c : Code) (pre : List Nat) (W' : World) : Prop :=
  (c = .exit 0 ∧ a ∈ pre ∧ CN w sv jv (a : Int) 0 Bx a B0 W W') ∨ (c = .exit 1 ∧ ∃ pb b, pre = pb ++ [b] ∧ (∀ y ∈ pb, a < y) ∧ b < a ∧ CN w sv (b : Int) 0 7 Bx a B0 W W')
set_option maxRecDepth 100000 in
set_option maxHeartbeats 4000000 in
theorem Common_in (n : Nat) (hn : 7 ≤ n) (w : World) (ad : Option Addr) (N cap : Nat) (l : List Face) (i j : Int) (hF : FRow w w.heap.size ad l) (hN : N = l.length) :
    CallsIn Fence.wide n Try.prog 21 #[.slice ad N cap, .int .i64 i, .int .i64 j] w (CommonPost w (commonL l i j)) := by
  have h1 : 1 ≤ n := by omega
  have HF := hid hF
  have HN := hid hN
  clear hF hN
  refine callsIn_of_wp_marks Try.func21 rfl trivial ?_ rfl
  simp only [Try.ntmps21, List.size_toArray, List.length_cons, List.length_nil, Nat.reduceAdd, Nat.reduceSub, Array.replicate_succ, Array.replicate_zero, List.push_toArray, List.append_toArray, List.nil_append, List.cons_append]
  gi_wp2
  refine wpIn_scope ?_
  gi_wp2
  refine wpIn_label ?_
  gi_wp2
  first
    | refine (callsIn_wide.2 (line_any _ _ _ _ _)).mono ?_
    | refine ⟨trivial, (callsIn_wide.2 (line_any _ _ _ _ _)).mono ?_⟩
    | refine ⟨trivial, (fun h => by cases h), (callsIn_wide.2 (line_any _ _ _ _ _)).mono ?_⟩
  rintro e w' ⟨rfl, rfl⟩
  gi_wp2
  have hB0 : Below w.heap.size w ((((((w.alloc (.cells #[.slice ad N cap] 22)).alloc (.cells #[.int .i64 j] 3)).alloc (.cells #[.int .i64 0] 3)).alloc (.cells #[.int .i64 7] 25)).alloc (.cells #[.slice ad N cap] 22)).alloc (.cells #[.int .i64 i] 3)) :=
    ((((((Below.refl _ w).alloc (Nat.le_refl _) _).alloc (by simp) _).alloc (by simp; omega) _).alloc (by simp; omega) _).alloc (by simp; omega) _).alloc (by simp; omega) _
  have b0 := (((((Boxed.new w 22 (.slice ad N cap)).alloc (.cells #[.int .i64 j] 3)).alloc (.cells #[.int .i64 0] 3)).alloc (.cells #[.int .i64 7] 25)).alloc (.cells #[.slice ad N cap] 22)).alloc (.cells #[.int .i64 i] 3)
  have b1 := ((((Boxed.new (w.alloc (.cells #[.slice ad N cap] 22)) 3 (.int .i64 j)).alloc (.cells #[.int .i64 0] 3)).alloc (.cells #[.int .i64 7] 25)).alloc (.cells #[.slice ad N cap] 22)).alloc (.cells #[.int .i64 i] 3)
  have b2 := (((Boxed.new ((w.alloc (.cells #[.slice ad N cap] 22)).alloc (.cells #[.int .i64 j] 3)) 3 (.int .i64 0)).alloc (.cells #[.int .i64 7] 25)).alloc (.cells #[.slice ad N cap] 22)).alloc (.cells #[.int .i64 i] 3)
  have b3 := ((Boxed.new (((w.alloc (.cells #[.slice ad N cap] 22)).alloc (.cells #[.int .i64 j] 3)).alloc (.cells #[.int .i64 0] 3)) 25 (.int .i64 7)).alloc (.cells #[.slice ad N cap] 22)).alloc (.cells #[.int .i64 i] 3)
  have b4 := (Boxed.new ((((w.alloc (.cells #[.slice ad N cap] 22)).alloc (.cells #[.int .i64 j] 3)).alloc (.cells #[.int .i64 0] 3)).alloc (.cells #[.int .i64 7] 25)) 22 (.slice ad N cap)).alloc (.cells #[.int .i64 i] 3)
  have b5 := Boxed.new (((((w.alloc (.cells #[.slice ad N cap] 22)).alloc (.cells #[.int .i64 j] 3)).alloc (.cells #[.int .i64 0] 3)).alloc (.cells #[.int .i64 7] 25)).alloc (.cells #[.slice ad N cap] 22)) 3 (.int .i64 i)
  simp only [World.size_alloc] at b1 b2 b3 b4 b5
  have hst := line_stops (n - 1) _ _ cap w.heap.size N (SC w) ad l i _ b5 b4 (HF.out.below hB0) HN.out (by simp; omega) (fun _ h => .inl h) (.inr rfl)
  have hI0 : CO w (.slice ad N cap) l i j [] _ := ⟨j, ⟨b0, b1, b2, b3, hB0⟩, fun _ => NoneYet.start l j⟩
  have hsz : w.heap.size + 5 < ((((((w.alloc (.cells #[.slice ad N cap] 22)).alloc (.cells #[.int .i64 j] 3)).alloc (.cells #[.int .i64 0] 3)).alloc (.cells #[.int .i64 7] 25)).alloc (.cells #[.slice ad N cap] 22)).alloc (.cells #[.int .i64 i] 3)).heap.size := by simp
  obtain ⟨W0, hw0⟩ : ∃ W0, W0 = ((((((w.alloc (.cells #[.slice ad N cap] 22)).alloc (.cells #[.int .i64 j] 3)).alloc (.cells #[.int .i64 0] 3)).alloc (.cells #[.int .i64 7] 25)).alloc (.cells #[.slice ad N cap] 22)).alloc (.cells #[.int .i64 i] 3)) := ⟨_, rfl⟩
  rw [← hw0] at hst hI0 hsz ⊢
  have HST := hid hst
  have HI := hid hI0
  clear hst hI0 hw0 b0 b1 b2 b3 b4 b5 hB0
  refine wpIn_rangeFunc_ownH rfl h1 (gf := 32) (lb := #[.pointer (some ⟨w.heap.size + 1 + 1 + 1 + 1 + 1, 0, none⟩), .pointer (some ⟨w.heap.size + 1 + 1 + 1 + 1, 0, none⟩)]) rfl trivial (enters_of Try.func32 (by kernel_rfl) rfl)
    HST.out (fun h k => h.t k) (fun W l o o' _ h2 h3 _ => KS.b _ W l o o' h2 h3) (Below.refl _ _) (fun _ => rfl)
    (fun pre W => CO w (.slice ad N cap) l i j (vals pre) W) (fun c pre W => CX w (.slice ad N cap) l i j c (vals pre) W)
    (fun _ _ _ _ ⟨jv, h, h2⟩ hg hr => ⟨jv, h.kept hg (fun r e => ⟨by have := (hr r e).1; omega, (hr r e).2⟩), h2⟩) (fun _ _ _ _ _ ⟨hc, jv, r, h, h2⟩ hg hr => ⟨hc, jv, r, h.kept hg (fun r e => ⟨by have := (hr r e).1; omega, (hr r e).2⟩), h2⟩) HI.out
    (fun x a' W => ∃ Bx, w.heap.size + 1 + 1 + 1 < Bx ∧ Boxed W Bx 3 (.int .i64 (x.1 : Int)) ∧ a' = { tmps := #[.slice ad N cap, .int .i64 i, .int .i64 j, .pointer (some ⟨w.heap.size, 0, none⟩), undef, .pointer (some ⟨w.heap.size + 1, 0, none⟩), .int .i64 0, .int .i64 0, .pointer (some ⟨w.heap.size + 1 + 1, 0, none⟩), .pointer (some ⟨w.heap.size + 1 + 1 + 1, 0, none⟩), .pointer (some ⟨Bx, 0, none⟩), undef, .slice ad N cap, .int .i64 i, .func (.func 32) #[] #[.pointer (some ⟨w.heap.size + 1 + 1 + 1 + 1 + 1, 0, none⟩), .pointer (some ⟨w.heap.size + 1 + 1 + 1 + 1, 0, none⟩)], .int .i64 (x.1 : Int), undef, undef, undef, undef, undef, undef, undef, undef, undef, undef, undef, undef, undef, undef], defers := [] })
    (fun x a' _ X Y row hs hg hr => by obtain ⟨Bx, e1, e2, e3⟩ := hs; exact ⟨Bx, e1, boxed_own Bx 3 (fun (_ : Unit) => Value.int .i64 (x.1 : Int)) () X Y row e2 hg (fun r e => (hr r e).2), e3⟩)
    ?assign ?body ?done ?stop
  case assign =>
    rintro lp pre x W K ⟨jv, hcb, hfact⟩ hK
    gi_wp2
    exact hK _ _ ((KeepsOthers.alloc _ _).from _) ((KS.refl _ W).alloc _) ⟨jv, hcb.alloc _, hfact⟩ ⟨W.heap.size, hcb.b3.lt, Boxed.new W 3 _, rfl⟩
  case body =>
    rintro lp pre x a' W hl ⟨r, hr⟩ ⟨jv, hcb, hfact⟩ ⟨Bx, hBx, bX, rfl⟩ hlt
    have hlW : lp < W.heap.size := (Array.getElem?_eq_some_iff.1 hr).1
    have hwW : w.heap.size + 4 < W.heap.size := by omega
    have c0 := hcb.b0.cell
    have c1 := hcb.b1.cell
    have HCB := hid hcb
    have HFT := hid hfact
    have HBX := hid bX
    have h1' : 1 ≤ n - 1 - 1 := by omega
    clear hcb hfact bX
    gi_wp2
    first
      | refine (CallsIn.inRound lp (callsIn_wide.2 (line_any _ _ _ _ _))).mono ?_
      | refine ⟨trivial, (CallsIn.inRound lp (callsIn_wide.2 (line_any _ _ _ _ _))).mono ?_⟩
      | refine ⟨trivial, (fun h => by cases h), (CallsIn.inRound lp (callsIn_wide.2 (line_any _ _ _ _ _))).mono ?_⟩
    rintro e w' ⟨rfl, rfl⟩
    gi_wp2
    clear c0 c1
    have bN := (Boxed.new W 22 (.slice ad N cap)).alloc (.cells #[.int .i64 jv] 3)
    have bM := Boxed.new (W.alloc (.cells #[.slice ad N cap] 22)) 3 (.int .i64 jv)
    rw [World.size_alloc] at bM
    have hr' : ((W.alloc (.cells #[.slice ad N cap] 22)).alloc (.cells #[.int .i64 jv] 3)).heap[lp]? = some (.loop r) := (Below.heap_alloc _ _ lp (by simp; omega)).trans ((Below.heap_alloc W _ lp hlW).trans hr)
    have hst := line_stops (n - 1 - 1 - 1) _ _ cap w.heap.size N (fun _ => True) ad l jv _ bM bN (HF.out.below (((HCB.out.alloc _).alloc _).below)) HN.out (by simp; omega) (fun _ _ => trivial) trivial
    have hC2 : C2 w (.slice ad N cap) jv Bx x.1 W0.heap.size W (vals ([] : List (Pl l jv))) ((W.alloc (.cells #[.slice ad N cap] 22)).alloc (.cells #[.int .i64 jv] 3)) :=
      ⟨⟨(HCB.out.alloc _).alloc _, (HBX.out.alloc _).alloc _, ((KeepsOthers.alloc _ _).trans (KeepsOthers.alloc _ _)).from _, ((KS.refl _ W).alloc _).alloc _⟩, fun y hy => by simp [vals] at hy⟩
    have hszW : W.heap.size + 1 < ((W.alloc (.cells #[.slice ad N cap] 22)).alloc (.cells #[.int .i64 jv] 3)).heap.size := by simp
    obtain ⟨W2, hW2⟩ : ∃ W2, W2 = ((W.alloc (.cells #[.slice ad N cap] 22)).alloc (.cells #[.int .i64 jv] 3)) := ⟨_, rfl⟩
    rw [← hW2] at hst hC2 hr' hszW ⊢
    have HST2 := hid hst
    have HC2 := hid hC2
    clear hst hC2 bM bN hW2 HST HI
    refine wpIn_rangeFunc_ownN (l₀ := lp) (r₀ := r) rfl hr' h1' (gf := 32) (lb := #[.pointer (some ⟨W.heap.size + 1, 0, none⟩), .pointer (some ⟨W.heap.size, 0, none⟩)]) rfl trivial (enters_of Try.func32 (by kernel_rfl) rfl)
      (HST2.out.inRound lp) (fun h k => h.t k) (fun W l o o' _ h2 h3 _ => KS.b _ W l o o' h2 h3) (Below.refl _ _) (fun _ => rfl)
      (fun pre' W' => C2 w (.slice ad N cap) jv Bx x.1 W0.heap.size W (vals pre') W') (fun c pre' W' => C2X w (.slice ad N cap) jv Bx x.1 W0.heap.size W c (vals pre') W')
      (fun _ _ _ _ ⟨h, h2⟩ hg hr => ⟨h.kept hwW hg (fun r e => ⟨by have := (hr r e).1; omega, (hr r e).2⟩), h2⟩)
      (fun _ _ _ _ _ h hg hr => by
        rcases h with ⟨q1, q2, q3⟩ | ⟨q1, pb, b, q2, q3, q4, q5⟩
        · exact .inl ⟨q1, q2, q3.kept hwW hg (fun r e => ⟨by have := (hr r e).1; omega, (hr r e).2⟩)⟩
        · exact .inr ⟨q1, pb, b, q2, q3, q4, q5.kept hwW hg (fun r e => ⟨by have := (hr r e).1; omega, (hr r e).2⟩)⟩)
      HC2.out
      (fun y a'' _ => a'' = { tmps := #[.slice ad N cap, .int .i64 i, .int .i64 j, .pointer (some ⟨w.heap.size, 0, none⟩), undef, .pointer (some ⟨w.heap.size + 1, 0, none⟩), .int .i64 0, .int .i64 0, .pointer (some ⟨w.heap.size + 1 + 1, 0, none⟩), .pointer (some ⟨w.heap.size + 1 + 1 + 1, 0, none⟩), .pointer (some ⟨Bx, 0, none⟩), .int .i64 (y.1 : Int), .slice ad N cap, .int .i64 i, .func (.func 32) #[] #[.pointer (some ⟨w.heap.size + 1 + 1 + 1 + 1 + 1, 0, none⟩), .pointer (some ⟨w.heap.size + 1 + 1 + 1 + 1, 0, none⟩)], .int .i64 (x.1 : Int), .slice ad N cap, .int .i64 jv, .func (.func 32) #[] #[.pointer (some ⟨W.heap.size + 1, 0, none⟩), .pointer (some ⟨W.heap.size, 0, none⟩)], .int .i64 (y.1 : Int), undef, undef, undef, undef, undef, undef, undef, undef, undef, undef], defers := [] })
      (fun _ _ _ _ _ _ hs _ _ => hs)
      ?assign2 ?body2 ?done2 ?stop2
    case assign2 =>
      rintro l2 pre' y W' K hi hK
      gi_wp2
      exact hK _ _ (KeepsFrom.refl _ _) (KS.refl _ _) hi rfl
    case body2 =>
      rintro l2 pre' y a'' W' _ _ ⟨hcn, hab⟩ rfl _
      have cX := hcn.bx.cell
      have c1 := hcn.cb.b1.cell
      have f1 := hcn.cb.b1.frozen
      have c2 := hcn.cb.b2.cell
      have f2 := hcn.cb.b2.frozen
      have c3 := hcn.cb.b3.cell
      have f3 := hcn.cb.b3.frozen
      have HCN := hid hcn
      have HAB := hid hab
      clear hcn hab
      by_cases hxy : x.1 = y.1
      · have hd : (((x.1 : Nat) : Int) == ((y.1 : Nat) : Int)) = true := by simp [hxy]
        have HXY := hid hxy
        clear hxy
        gi_wp2
        refine ⟨((KeepsOthers.setCell _ _ _).trans (KeepsOthers.setCell _ _ _)).from _, .inl ⟨rfl, vals_mem.2 (.inr HXY.out), ?_⟩⟩
        have H := HCN.out
        exact ⟨⟨(H.cb.b0.other (by omega) _).other (by omega) _, (H.cb.b1.other (by omega) _).other (by omega) _, (H.cb.b2.set _).other (by omega) _, (H.cb.b3.other (by omega) _).set _,
          (H.cb.below.setCell (p := ⟨w.heap.size + 1 + 1, 0, none⟩) (by simp; omega) _).setCell (p := ⟨w.heap.size + 1 + 1 + 1, 0, none⟩) (by simp; omega) _⟩,
          (H.bx.other (by omega) _).other (by omega) _, H.kf.trans (((KeepsOthers.setCell _ _ _).trans (KeepsOthers.setCell _ _ _)).from _), (H.ks.set _ _ (fun h => by rcases h with h | h <;> simp at h <;> omega)).set _ _ (fun h => by rcases h with h | h <;> simp at h <;> omega)⟩
      · have hd : (((x.1 : Nat) : Int) == ((y.1 : Nat) : Int)) = false := by simp; omega
        by_cases hlt2 : y.1 < x.1
        · have hd2 : decide (y.1 < x.1) = true := by simpa using hlt2
          have HXY := hid hlt2
          clear hxy hlt2
          gi_wp2
          refine ⟨(KeepsOthers.setCell _ _ _).from _, .inr ⟨rfl, vals pre', y.1, vals_app _ _, HAB.out, HXY.out, ?_⟩⟩
          have H := HCN.out
          exact ⟨⟨H.cb.b0.other (by omega) _, H.cb.b1.set _, H.cb.b2.other (by omega) _, H.cb.b3.other (by omega) _, H.cb.below.setCell (p := ⟨w.heap.size + 1, 0, none⟩) (by simp) _⟩,
            H.bx.other (by omega) _, H.kf.trans ((KeepsOthers.setCell _ _ _).from _), H.ks.set _ _ (fun h => by rcases h with h | h <;> simp at h <;> omega)⟩
        · have hd2 : decide (y.1 < x.1) = false := by simpa using hlt2
          have hgt : x.1 < y.1 := by omega
          have HXY := hid hgt
          clear hxy hlt2 hgt
          gi_wp2
          refine ⟨KeepsFrom.refl _ _, KS.refl _ _, HCN.out, fun z hz => ?_⟩
          rcases vals_mem.1 hz with hz | hz
          · exact HAB.out z hz
          · rw [hz]; exact HXY.out
    case done2 =>
      rintro ys W' rfl ⟨hcn, hab⟩
      rw [vals_all] at hab
      have HCN := hid hcn
      have HAB := hid hab
      clear hcn hab
      gi_wp2
      refine ⟨HCN.out.kf, rfl, jv, none, HCN.out.cb, fun hp => ?_⟩
      rw [vals_app] at hp
      exact common_none hp (HFT.out (prefix_left hp)) HAB.out
    case stop2 =>
      rintro c pre' W' hpre hx
      rcases hx with ⟨rfl, hmem, hcn⟩ | ⟨rfl, pb, b, hpb, hab, hba, hcn⟩
      · have HCN := hid hcn
        clear hcn
        gi_wp2
        refine ⟨HCN.out.kf, rfl, jv, some x.1, HCN.out.cb, fun hp => ?_⟩
        rw [vals_app] at hp
        exact common_found hp (HFT.out (prefix_left hp)) ((vals_prefix hpre).subset hmem)
      · have HCN := hid hcn
        clear hcn
        gi_wp2
        refine ⟨HCN.out.kf, HCN.out.ks, (b : Int), HCN.out.cb, fun hp => ?_⟩
        have hpv := vals_prefix hpre
        rw [hpb] at hpv
        rw [vals_app] at hp ⊢
        exact common_next hp (HFT.out (prefix_left hp)) hpv hab hba
  case done =>
    rintro D ys W hD rfl ⟨jv, hcb, hfact⟩ hK
    have hno := common_over (i := i) (by have := hfact (by rw [vals_all]; exact List.prefix_refl _); rw [vals_all] at this; exact this)
    have e2 := hcb.b2.cell
    have e3 := hcb.b3.cell
    have HCB := hid hcb
    have HNO := hid hno
    clear hcb hfact hno
    gi_wp2
    gi_region
    all_goals
      gi_wp2
      have hK' : W.drew.heap[D]? = some (.deferred (some [])) := hK
      rw [Exit.noGoto_ret]
      refine ⟨by simp, .inl ⟨_, _, rfl, run_takeDeferred hK', ?_⟩⟩
      exact ⟨_, results_tmp2 rfl _ _ _, by rw [HNO.out]; rfl, (HCB.out.below.trans (Below.refl _ _).drew).trans (belowK_b (w := w) (Nat.le_refl _) W.drew D _ _ (by omega) hK' rfl rfl)⟩
  case stop =>
    rintro D c pre W hD hp ⟨rfl, jv, r, hcb, hfact⟩ hK
    have hr := hfact (vals_prefix hp)
    have e2 := hcb.b2.cell
    have e3 := hcb.b3.cell
    have HCB := hid hcb
    have HR := hid hr
    clear hcb hfact hr
    gi_wp2
    gi_region
    all_goals
      gi_wp2
      have hK' : W.drew.heap[D]? = some (.deferred (some [])) := hK
      rw [Exit.noGoto_ret]
      refine ⟨by simp, .inl ⟨_, _, rfl, run_takeDeferred hK', ?_⟩⟩
      exact ⟨_, results_tmp2 rfl _ _ _, by rw [HR.out]; rfl, (HCB.out.below.trans (Below.refl _ _).drew).trans (belowK_b (w := w) (Nat.le_refl _) W.drew D _ _ (by omega) hK' rfl rfl)⟩
theorem Common_any (w : World) (ad : Option Addr) (N cap : Nat) (l : List Face) (i j : Int) (hF : FRow w w.heap.size ad l) (hN : N = l.length) :
    Calls Try.prog 21 #[.slice ad N cap, .int .i64 i, .int .i64 j] w (CommonPost w (commonL l i j)) :=
  (callsIn_wide (n := 7)).1 (Common_in 7 (by omega) w ad N cap l i j hF hN)
end Go.Proofs.Ytpcgplcpfbgcfaa
