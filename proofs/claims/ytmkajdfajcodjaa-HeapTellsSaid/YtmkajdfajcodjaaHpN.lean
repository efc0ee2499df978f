/- Scope HpN in one -/
import Derived.ControlIn
import Derived.Scope
import Derived.WalkMore
import Derived.Test.YtmkajdfajcodjaaHpA
import Derived.Test.YtmkajdfajcodjaaMem
import Derived.Test.YtmkajdfajcodjaaKT
import Derived.Test.YtmkajdfajcodjaaMixG
import Derived.Sort.CutIn
import Derived.Sort.QuietIn
namespace Go.Proofs.Ytmkajdfajcodjaa
open Go
section
variable {F : Fence} {n : Nat} {P : Program} {Q : Exit → Act → World → Prop} {a : Act} {w : World} {b : Frame} {k : List Item} {cs : List Frame}
theorem stepR_scope {c : Code} : step P (lone (b.atR a (.code (.scope c) :: k)) cs w) = .next (lone (b.atR a (.code c :: .inScope c :: k)) cs w) :=
  step_lone_go (by simp [stepG, stepG.exec, Frame.atR])
theorem stepR_inScope {c : Code} : step P (lone (b.atR a (.inScope c :: k)) cs w) = .next (lone (b.atR a k) cs w) :=
  step_lone_go (by simp [stepG, stepG.exec, Frame.atR])
theorem wpIn_scope {c : Code} (h : c.wpIn F n P (Exit.noGoto Q) a w) : (Code.scope c).wpIn F n P Q a w := by
  intro b k cs hro hb hr
  have h0 : (lone (b.atR a (.code (.scope c) :: k)) cs w).fenced P F := fenced_calm hb hr rfl
  obtain ⟨e, a₁, w₁, hq, harr⟩ := h b (.inScope c :: k) cs hro hb hr
  cases e with
  | normal => exact ⟨.normal, a₁, w₁, hq, .head h0 stepR_scope (StepsIn.trans harr (.one (fenced_calm hb hr rfl) stepR_inScope))⟩
  | exit id =>
    have hx : exitTo id (.inScope c :: k) = exitTo id k := by simp [exitTo]
    exact ⟨_, a₁, w₁, hq, fun k' hk => .head h0 stepR_scope (harr.1 k' (by rw [hx]; exact hk)),
      fun hr' hk => let ⟨k₁, h1, h2⟩ := harr.2 hr' (by rw [hx]; exact hk); ⟨k₁, h1, .head h0 stepR_scope h2⟩⟩
  | goto l => exact hq.elim
  | ret => exact ⟨_, a₁, w₁, hq, .of_steps (.one h0 stepR_scope) harr⟩
  | panic ch => exact ⟨_, a₁, w₁, hq, .of_steps (.one h0 stepR_scope) harr⟩
  | outgrown => exact ⟨_, a₁, w₁, hq, .of_steps (.one h0 stepR_scope) harr⟩
end
end Go.Proofs.Ytmkajdfajcodjaa

namespace Go.Proofs.Ytmkajdfajcodjaa
open Go Go.ChangeShapes Go.WideShapes Go.ChangeAt Go.RowKit Go.Shelf
attribute [local go_sem] Oper.semAt_some

theorem seq_not_nil (f : Nat) (fv : Array Value) (W : World) : (binOp .neq 104 (.func (.func f) #[] fv) .nilFunc).run Try.prog W = .ok (.bool true) W := by kernel_rfl
/-- The types of what the iterator keeps: the places' copy, and what it calls. -/
def KTy (t : TypeId) : Prop := t = 140 ∨ t = 131
/-- The contract of a heap's All. -/
def SqC (w0 : World) (Rp : (Nat → Prop) → World → Value → Hs → Prop) : Prop :=
  ∀ (S : Nat → Prop) (w : World) (p : Value) (s : Hs), Below w0.heap.size w0 w → Rp S w p s → Calls Try.prog 45 #[p] w fun e w' => Below w.heap.size w w' ∧
    ∃ gf lb, e = .returned (.func (.func gf) #[] lb) ∧ Fence.wide.fn gf ∧ (∀ args W, (callFunc gf args).run Try.prog W = .ok (.enter gf args) W) ∧
      ∀ n, 3 ≤ n → Tells Fence.wide n Try.prog gf lb encU (fun _ _ => True) (KT (exS S w w') KTy) (fun ys => ys = allA s.A) (fun pre => pre <+: allA s.A) w'
/-- Between two rounds: the row in its box. -/
structure LA (w : World) (n0 : Nat) (m : Int) (pre : List Int) (u : Value) (W : World) : Prop where
  b0 : Boxed W w.heap.size 3 (.int .i64 m)
  b1 : Boxed W (w.heap.size + 1) 43 u
  r1 : W.ownsRow n0 34 1 u pre.length (pre.map u64v)
  ml : (pre.length : Int) ≤ m
  below : Below w.heap.size w W
  sz : n0 ≤ W.heap.size
theorem LA.kept {w : World} {n0 : Nat} {m : Int} {pre : List Int} {u : Value} {W W' : World} {row : Option Nat} (h : LA w n0 m pre u W) (hg : W.grownBy W' row) (hr : ∀ r, row = some r → w.heap.size ≤ r ∧ ∃ o : Obj, W.heap[r]? = some o ∧ o.isCells = false) : LA w n0 m pre u W' :=
  have hr' := fun r e => (hr r e).2
  ⟨h.b0.kept hg (not_cells h.b0 hr'), h.b1.kept hg (not_cells h.b1 hr'), owns_not_cells h.r1 hg hr', h.ml, h.below.grown hg h.below.size (fun k e => (hr k e).1), Nat.le_trans h.sz hg.size⟩
def LAs (w : World) (n0 : Nat) (m : Int) (pre : List Int) (W : World) : Prop := ∃ u, LA w n0 m pre u W
theorem LAs.ownFrom (w : World) (n0 : Nat) (m : Int) (B : Nat) (hB : w.heap.size ≤ B) : OwnFrom B (LAs w n0 m) := fun _ _ _ _ ⟨u, h⟩ hg hr =>
  ⟨u, h.kept hg (fun r e => ⟨Nat.le_trans hB (hr r e).1, (hr r e).2⟩)⟩
def LAx (w : World) (n0 : Nat) (m : Int) (c : Code) (ps : List Int) (W : World) : Prop := c = .exit 0 ∧ ∃ pre x, ps = pre ++ [x] ∧ (pre.length : Int) = m ∧ LAs w n0 m pre W
theorem LAx.ownFrom (w : World) (n0 : Nat) (m : Int) (B : Nat) (hB : w.heap.size ≤ B) (c : Code) : OwnFrom B (LAx w n0 m c) := fun _ W W' row ⟨hc, pre, x, h1, h2, h3⟩ hg hr =>
  ⟨hc, pre, x, h1, h2, LAs.ownFrom w n0 m B hB pre W W' row h3 hg hr⟩
set_option maxRecDepth 100000 in
set_option maxHeartbeats 4000000 in
theorem all_in (n : Nat) (hn : 4 ≤ n) (w0 : World) (Rp : (Nat → Prop) → World → Value → Hs → Prop) (HB : HeapB w0 Rp) (HS : SqC w0 Rp) (S : Nat → Prop) (w : World) (p : Value) (s : Hs) (m : Nat) (hB : Below w0.heap.size w0 w) (hR : Rp S w p s) (hm : m ≤ 100000) :
    CallsIn Fence.wide n Try.prog 22 #[p, .int .i64 m] w fun e w' => Below w.heap.size w w' ∧ ∃ v, e = .returned v ∧ Told TU u64v w' v ((allA s.A).take m) := by
  have h1 : 1 ≤ n := by omega
  obtain ⟨i0, hi, hz0, hz1, hz2⟩ := info_parts infoU
  obtain ⟨pb, rfl⟩ := HB.ptr hR
  obtain ⟨mi, hmi⟩ : ∃ mi : Int, mi = (m : Int) := ⟨_, rfl⟩
  rw [← hmi]
  have hmi2 : 0 ≤ mi ∧ mi ≤ 100000 := by omega
  obtain ⟨w1, hw1⟩ : ∃ w1, w1 = (w.alloc (.cells #[.int .i64 mi] 3)).alloc (.cells #[.slice none 0 0] 43) := ⟨_, rfl⟩
  have hb1 : Below w.heap.size w w1 := by rw [hw1]; exact ((Below.refl _ _).alloc (Nat.le_refl _) _).alloc (by simp) _
  have hsz1 : w1.heap.size = w.heap.size + 2 := by rw [hw1]; simp
  have b0 := (Boxed.new w 3 (.int .i64 mi)).alloc (.cells #[.slice none 0 0] 43)
  have b1 := Boxed.new (w.alloc (.cells #[.int .i64 mi] 3)) 43 (.slice none 0 0)
  simp only [World.size_alloc] at b1
  rw [← hw1] at b0 b1
  have HM := hid hmi
  clear hmi hm
  have hlt := HB.lt hR
  have HC := hid (HS S w1 _ s (hB.trans (hb1.mono hB.size)) (HB.keep hR (fun b hb => hb1.block b (hlt b hb)) hb1.size))
  obtain ⟨L, hL⟩ : ∃ L, L = allA s.A := ⟨_, rfl⟩
  rw [← hL] at HC ⊢
  have HB0 := hid b0
  have HB1 := hid b1
  have HBW := hid hb1
  have HW1 := hid hw1
  have HZ1 := hid hsz1
  have HLT := hid hlt
  clear hR hB hL b0 b1 hb1 hw1 hsz1 hlt HS
  refine callsIn_of_wp_marks Try.func22 rfl trivial ?_ rfl
  simp only [Try.ntmps22, List.size_toArray, List.length_cons, List.length_nil, Nat.reduceAdd, Nat.reduceSub, Array.replicate_succ, Array.replicate_zero, List.push_toArray, List.append_toArray, List.nil_append, List.cons_append]
  have hq := seq_not_nil
  gi_wp2
  rw [← HW1.out]
  first
    | refine ⟨trivial, (fun h => by cases h), (callsIn_wide.2 HC.out).mono ?_⟩
    | refine ⟨trivial, (callsIn_wide.2 HC.out).mono ?_⟩
    | refine (callsIn_wide.2 HC.out).mono ?_
  rintro e w2 ⟨hb2, gf, lb, rfl, hfn, heg, hst⟩
  have hbw := HBW.out.trans (hb2.mono HBW.out.size)
  have hsz : w.heap.size + 2 ≤ w2.heap.size := by have := hb2.size; rw [HZ1.out] at this; exact this
  have hb2s : Boxed w2 (w.heap.size + 1) 43 (.slice none 0 0) := (hb2.block _ HB1.out.lt).trans HB1.out
  have hLA : LA w w2.heap.size mi [] (.slice none 0 0) w2 := ⟨(hb2.block _ HB0.out.lt).trans HB0.out, hb2s, World.ownsRow_nil _ _ _ _, by simpa using hmi2.1, hbw, Nat.le_refl _⟩
  have HST := hid (hst (n - 1) (by omega))
  have HFN := hid hfn
  have HEG := hid heg
  have HLA := hid hLA
  have HZ := hid hsz
  have HEX := hid (show ∀ b, exS S w1 w2 b → b ≠ w.heap.size + 1 ∧ b < w2.heap.size from fun b hb => by
    rcases hb with hb | hb
    · have h1 := HLT.out b hb
      exact ⟨by omega, by omega⟩
    · have := HZ1.out
      exact ⟨by omega, hb.2⟩)
  clear hst hfn heg hLA hbw hb2s hb2 HC HW1 HB0 HB1 hsz HLT
  gi_wp2
  clear hq
  refine rangeFunc_mem rfl h1 (gf := gf) (lb := lb) rfl HFN.out HEG.out
    HST.out (fun h k => h.t k) (fun W l o o' _ h2 h3 _ => KT.b _ _ W l o o' h2 h3) (fun _ => rfl)
    (LAs w w2.heap.size mi) (LAx w w2.heap.size mi) (LAs.ownFrom w w2.heap.size mi _ (by have := HZ.out; omega)) (LAx.ownFrom w w2.heap.size mi _ (by have := HZ.out; omega)) ⟨_, HLA.out⟩
    (fun pre x a' W => LAs w w2.heap.size mi pre W ∧ a' = { tmps := #[.pointer (some ⟨pb, 0, none⟩), .int .i64 mi, undef, .pointer (some ⟨w.heap.size, 0, none⟩), .slice none 0 0, .pointer (some ⟨w.heap.size + 1, 0, none⟩), .func (.func gf) #[] lb, .int .u64 x, .pointer (some ⟨pb, 0, none⟩), .func (.func gf) #[] lb, .func (.func gf) #[] lb, .bool true, .func (.func gf) #[] lb, .int .u64 x, undef, undef, undef, undef, undef, undef, undef, undef, undef], defers := [] })
    (fun pre x a' _ X Y row hs hg hr => ⟨LAs.ownFrom w w2.heap.size mi _ (by have := HZ.out; omega) pre X Y row hs.1 hg hr, hs.2⟩) ?assign ?body ?done ?stop
  case assign =>
    rintro lp pre x W K hI _ hK
    have HK := hid hK
    have HII := hid hI
    clear hK hI
    simp only [encU]
    gi_wp2
    exact HK.out _ _ (KeepsFrom.refl _ _) (KT.refl _ _ _) ⟨HII.out, rfl⟩
  case body =>
    rintro lp pre x a' W hl ⟨r, hr⟩ ⟨⟨u, H⟩, rfl⟩
    have HH := hid H
    have e0 := H.b0.cell
    have e1 := H.b1.cell
    have f1 := H.b1.frozen
    have hml := H.ml
    obtain ⟨la, lk, rfl⟩ := own_form H.r1
    clear H hl hr
    by_cases hfull : (pre.length : Int) = mi
    · have hge : decide (mi ≤ (pre.length : Int)) = true := by simp; omega
      have HF := hid hfull
      clear hfull
      gi_wp2
      exact ⟨KeepsFrom.refl _ _, rfl, pre, x, rfl, HF.out, _, HH.out⟩
    · have hge : decide (mi ≤ (pre.length : Int)) = false := by simp; omega
      have hlt : (pre.length : Int) < mi := by omega
      clear hfull
      have H := HH.out
      have hsz := H.sz
      have hzz := HZ.out
      gi_wp2_with (first
        | (gi_at_builtin; refine wpListIn_append_at _ rfl _ _ 43 rfl w2.heap.size 34 i0 (.int .u64 0) 1 8 Try.underlying43 hi hz0 hz1 hz2 rfl (by decide) _ _ _ rfl (H.r1.alloc _) ⟨W.heap.size, 0, none⟩ 1 1 [.int .u64 x] rfl rfl (cell_one_new _ _ _) (by simp [Value.oneCell']) (by simp only [maxLen]; omega) (by omega) (by simp; omega) ?_; intro v' w3 hown' hgrow hat; obtain ⟨g', cap', rfl⟩ := ownsRow_succ hown'; obtain ⟨p1, p2, p3, p4, p5, p6, p7⟩ := box_push H.b1 (by decide) H.r1 hown' hgrow; have hc1 := p1.cell; have hf1 := p1.frozen))
      refine ⟨p4.from _, box_pushT H.b1 (by unfold KTy; decide) (by unfold KTy; decide) H.r1 hgrow (p5 _ (fun h => (HEX.out _ h).1 rfl) (fun k h1 h2 => by have := (HEX.out k h2).2; omega)), _, p7 _ _ _ H.b0 (by omega) (by omega), p2, ?_, ?_, H.below.trans (p6 _ (by omega) (by omega) H.below.size), Nat.le_trans hsz p4.size⟩
      · rw [List.length_append, List.map_append]; exact p3
      · simp; omega
  case done =>
    rintro D ys W hD hyL ⟨u, H⟩ hK
    subst hyL
    have hml := H.ml
    have e1 := H.b1.cell
    have HH := hid H
    have HK := hid hK
    have HD := hid hD
    have r1 := H.r1
    obtain ⟨a1, c1, rfl⟩ := own_form r1
    have R1 := hid r1
    clear H hK hD r1
    gi_wp2
    have hK' : W.heap[D]? = some (.deferred (some [])) := HK.out
    refine ⟨by simp, .inl ⟨_, _, rfl, run_takeDeferred hK', ?_⟩⟩
    have q1 := ownsRow_putObj R1.out (.deferred none) hK' rfl
    have q2 := (⟨q1, fun _ _ h => h⟩ : RowS TU u64v (fun _ => False) w2.heap.size _ _ _).told
    refine ⟨.slice a1 ys.length c1, ?val, ?bel, _, rfl, ?tol⟩
    case bel => exact HH.out.below.trans (belowK_b (w := w) (Nat.le_refl _) _ D _ _ (by have := HD.out; have := HZ.out; omega) hK' rfl rfl)
    case val => simp [results, Try.f22, go_sem]
    case tol => rw [List.take_of_length_le (by have := HM.out; omega)]; exact q2
  case stop =>
    rintro D c pre0 W hD hp ⟨rfl, pre, x, rfl, hl, u, H⟩ hK
    have hpr := List.prefix_iff_eq_take.1 ((List.prefix_append pre [x]).trans hp)
    have HP := hid hpr
    clear hp hpr
    have e1 := H.b1.cell
    have HH := hid H
    have HK := hid hK
    have HD := hid hD
    have r1 := H.r1
    obtain ⟨a1, c1, rfl⟩ := own_form r1
    have R1 := hid r1
    clear H hK hD r1
    gi_wp2
    have hK' : W.heap[D]? = some (.deferred (some [])) := HK.out
    refine ⟨by simp, .inl ⟨_, _, rfl, run_takeDeferred hK', ?_⟩⟩
    have q1 := ownsRow_putObj R1.out (.deferred none) hK' rfl
    have q2 := (⟨q1, fun _ _ h => h⟩ : RowS TU u64v (fun _ => False) w2.heap.size _ _ _).told
    refine ⟨.slice a1 pre.length c1, ?val, ?bel, _, rfl, ?tol⟩
    case bel => exact HH.out.below.trans (belowK_b (w := w) (Nat.le_refl _) _ D _ _ (by have := HD.out; have := HZ.out; omega) hK' rfl rfl)
    case val => simp [results, Try.f22, go_sem]
    case tol => rw [show m = pre.length by have := HM.out; omega, ← HP.out]; exact q2
theorem all_by (w0 : World) (Rp : (Nat → Prop) → World → Value → Hs → Prop) (HB : HeapB w0 Rp) (HS : SqC w0 Rp) (S : Nat → Prop) (w : World) (p : Value) (s : Hs) (m : Nat) (hB : Below w0.heap.size w0 w) (hR : Rp S w p s) (hm : m ≤ 100000) :
    Calls Try.prog 22 #[p, .int .i64 m] w fun e w' => Below w.heap.size w w' ∧ ∃ v, e = .returned v ∧ Told TU u64v w' v ((allA s.A).take m) :=
  (callsIn_wide (n := 4)).1 (all_in 4 (by omega) w0 Rp HB HS S w p s m hB hR hm)
end Go.Proofs.Ytmkajdfajcodjaa
