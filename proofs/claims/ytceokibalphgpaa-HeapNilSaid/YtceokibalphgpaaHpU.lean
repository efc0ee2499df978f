/-
  The law's helper that collects an object's links: its contract, by the iterator's.
-/
import Derived.Test.YtceokibalphgpaaHpN
import Derived.Test.YtceokibalphgpaaHpE
import Derived.Test.YtceokibalphgpaaMemX
namespace Go.Proofs.Ytceokibalphgpaa
open Go Go.ChangeShapes Go.WideShapes Go.ChangeAt Go.RowKit Go.Shelf
attribute [local go_sem] Oper.semAt_some

theorem seq2_not_nil (f : Nat) (fv : Array Value) (W : World) : (binOp .neq 124 (.func (.func f) #[] fv) .nilFunc).run Try.prog W = .ok (.bool true) W := by kernel_rfl
set_option maxRecDepth 100000 in
theorem infoLk : (Try.prog.info? 67).map (fun i => (i.zero, i.size, i.bytes)) = some (some (.agg #[.int .i64 0, .int .u64 0]), 2, 16) := by kernel_rfl
def encL (x : Lk × Nat) : Array Value := #[.int .i64 (x.2 : Int), .agg #[.int .i64 x.1.kind, .int .u64 x.1.h]]
def lkc (l : List (Lk × Nat)) : List Value := l.flatMap fun x => [.int .i64 x.1.kind, .int .u64 x.1.h]
theorem lkc_app (l : List (Lk × Nat)) (x : Lk × Nat) : lkc (l ++ [x]) = lkc l ++ [.int .i64 x.1.kind, .int .u64 x.1.h] := by simp [lkc]
theorem lkc_len (l : List (Lk × Nat)) : (lkc l).length = l.length * 2 := by
  induction l with
  | nil => rfl
  | cons a l ih =>
    have : lkc (a :: l) = [.int .i64 a.1.kind, .int .u64 a.1.h] ++ lkc l := by simp [lkc]
    rw [this, List.length_append, ih, List.length_cons, List.length_cons, List.length_cons, List.length_nil]
    omega
theorem lkc_at : ∀ (l : List (Lk × Nat)) (j : Nat) (x : Lk × Nat), l[j]? = some x → (lkc l)[j * 2]? = some (.int .i64 x.1.kind) ∧ (lkc l)[j * 2 + 1]? = some (.int .u64 x.1.h)
  | a :: l, 0, x, h => by
    simp at h
    subst h
    simp [lkc]
  | a :: l, j + 1, x, h => by
    have h1 := lkc_at l j x (by simpa using h)
    have : lkc (a :: l) = [.int .i64 a.1.kind, .int .u64 a.1.h] ++ lkc l := by simp [lkc]
    rw [this, List.getElem?_append_right (by simp; omega), List.getElem?_append_right (by simp; omega)]
    rw [show (j + 1) * 2 - ([.int .i64 a.1.kind, .int .u64 a.1.h] : List Value).length = j * 2 by simp; omega, show (j + 1) * 2 + 1 - ([.int .i64 a.1.kind, .int .u64 a.1.h] : List Value).length = j * 2 + 1 by simp; omega]
    exact h1
theorem ToldL.of_own {W : World} {B : Nat} {T : TypeId} {v : Value} {pre : List (Lk × Nat)} (h : W.ownsRow B T 2 v pre.length (lkc pre)) : ToldL W v (pre.map (·.1)) := by
  obtain ⟨a, c, rfl⟩ := own_form h
  refine ⟨a, c, by rw [List.length_map], by rw [List.length_map]; exact own_cap h, own_capmax h, fun hl => ?_⟩
  rw [List.length_map] at hl
  rcases h.2 with ⟨h1, h2⟩ | ⟨g, cap, cur, h1, h2, h3, _⟩
  · have : pre.length = 0 := by
      have h4 := congrArg (fun v => match v with | Value.slice _ n _ => n | _ => 0) h1
      simpa using h4
    omega
  · cases h1
    refine ⟨g, 0, rfl, (Array.getElem?_eq_some_iff.1 h3).1, fun j x hx => ?_⟩
    rw [List.getElem?_map, Option.map_eq_some_iff] at hx
    obtain ⟨y, hy, rfl⟩ := hx
    have hj := (List.getElem?_eq_some_iff.1 hy).1
    obtain ⟨e1, e2⟩ := lkc_at pre j y hy
    have hlen := lkc_len pre
    have c1 := h.cellAt (j * 2) (by omega)
    have c2 := h.cellAt (j * 2 + 1) (by omega)
    rw [e1] at c1
    rw [e2] at c2
    rw [Nat.zero_add]
    exact ⟨c1, c2⟩
/-- A block of the iterator's own, or none. -/
def OkT (t : Option Nat) (W W' : World) : Prop := Below W.heap.size W W' ∧ ∀ k, t = some k → W.heap.size ≤ k ∧ k < W'.heap.size
def KpT (t : Option Nat) (W W' : World) : Prop := KS (fun k => t = some k) W W'
/-- The contract of a heap's Links. -/
def SlC (w0 : World) (Rp : (Nat → Prop) → World → Value → Hs → Prop) : Prop :=
  ∀ (S : Nat → Prop) (w : World) (p : Value) (s : Hs) (h : Int), Below w0.heap.size w0 w → Rp S w p s → Hn h → Calls Try.prog 57 #[p, .int .u64 h] w fun e w' => Below w.heap.size w w' ∧
    ∃ gf lb, e = .returned (.func (.func gf) #[] lb) ∧ Fence.wide.fn gf ∧ (∀ args W, (callFunc gf args).run Try.prog W = .ok (.enter gf args) W) ∧
      ∀ n, 3 ≤ n → TellsX Fence.wide n Try.prog gf lb encL OkT KpT (fun _ _ => True) (linksOf s.L h).zipIdx w'
/-- Between two rounds: the row in its box. -/
structure LK (w : World) (n0 : Nat) (m : Int) (t : Option Nat) (pre : List (Lk × Nat)) (u : Value) (W : World) : Prop where
  b0 : Boxed W w.heap.size 3 (.int .i64 m)
  b1 : Boxed W (w.heap.size + 1) 77 u
  r1 : W.ownsRow n0 67 2 u pre.length (lkc pre)
  ml : (pre.length : Int) ≤ m
  below : Below w.heap.size w W
  sz : n0 ≤ W.heap.size
  tt : ∀ k, t = some k → n0 ≤ k ∧ k < W.heap.size ∧ u.ownBlock ≠ some k
theorem LK.kept {w : World} {n0 : Nat} {m : Int} {t : Option Nat} {pre : List (Lk × Nat)} {u : Value} {W W' : World} {row : Option Nat} (h : LK w n0 m t pre u W) (hg : W.grownBy W' row) (hr : ∀ r, row = some r → w.heap.size ≤ r ∧ ∃ o : Obj, W.heap[r]? = some o ∧ o.isCells = false) : LK w n0 m t pre u W' :=
  have hr' := fun r e => (hr r e).2
  ⟨h.b0.kept hg (not_cells h.b0 hr'), h.b1.kept hg (not_cells h.b1 hr'), owns_not_cells h.r1 hg hr', h.ml, h.below.grown hg h.below.size (fun k e => (hr k e).1), Nat.le_trans h.sz hg.size, fun k hk => ⟨(h.tt k hk).1, Nat.lt_of_lt_of_le (h.tt k hk).2.1 hg.size, (h.tt k hk).2.2⟩⟩
set_option maxRecDepth 100000 in
set_option maxHeartbeats 4000000 in
theorem links_in (n : Nat) (hn : 4 ≤ n) (w0 : World) (Rp : (Nat → Prop) → World → Value → Hs → Prop) (HB : HeapB w0 Rp) (HS : SlC w0 Rp) (S : Nat → Prop) (w : World) (p : Value) (s : Hs) (h : Int) (m : Nat) (hB : Below w0.heap.size w0 w) (hR : Rp S w p s) (hh : Hn h) (hm : m ≤ 1000) :
    CallsIn Fence.wide n Try.prog 33 #[p, .int .u64 h, .int .i64 m] w fun e w' => Below w.heap.size w w' ∧ ∃ v, e = .returned v ∧ ToldL w' v ((linksOf s.L h).take m) := by
  have h1 : 1 ≤ n := by omega
  obtain ⟨i0, hi, hz0, hz1, hz2⟩ := info_parts infoLk
  obtain ⟨pb, rfl⟩ := HB.ptr hR
  obtain ⟨mi, hmi⟩ : ∃ mi : Int, mi = (m : Int) := ⟨_, rfl⟩
  rw [← hmi]
  have hmi2 : 0 ≤ mi ∧ mi ≤ 1000 := by omega
  obtain ⟨w1, hw1⟩ : ∃ w1, w1 = (w.alloc (.cells #[.int .i64 mi] 3)).alloc (.cells #[.slice none 0 0] 77) := ⟨_, rfl⟩
  have hb1 : Below w.heap.size w w1 := by rw [hw1]; exact ((Below.refl _ _).alloc (Nat.le_refl _) _).alloc (by simp) _
  have hsz1 : w1.heap.size = w.heap.size + 2 := by rw [hw1]; simp
  have b0 := (Boxed.new w 3 (.int .i64 mi)).alloc (.cells #[.slice none 0 0] 77)
  have b1 := Boxed.new (w.alloc (.cells #[.int .i64 mi] 3)) 77 (.slice none 0 0)
  simp only [World.size_alloc] at b1
  rw [← hw1] at b0 b1
  have HM := hid hmi
  clear hmi hm
  have hlt := HB.lt hR
  have HC := hid (HS S w1 _ s h (hB.trans (hb1.mono hB.size)) (HB.keep hR (fun b hb => hb1.block b (hlt b hb)) hb1.size) hh)
  obtain ⟨L, hL⟩ : ∃ L, L = linksOf s.L h := ⟨_, rfl⟩
  rw [← hL] at HC ⊢
  have HB0 := hid b0
  have HB1 := hid b1
  have HBW := hid hb1
  have HW1 := hid hw1
  have HZ1 := hid hsz1
  have HLT := hid hlt
  clear hR hB hL b0 b1 hb1 hw1 hsz1 hlt HS hh
  refine callsIn_of_wp_marks Try.func33 rfl trivial ?_ rfl
  simp only [Try.ntmps33, List.size_toArray, List.length_cons, List.length_nil, Nat.reduceAdd, Nat.reduceSub, Array.replicate_succ, Array.replicate_zero, List.push_toArray, List.append_toArray, List.nil_append, List.cons_append]
  have hq := seq2_not_nil
  gi_wp2
  rw [← HW1.out]
  first
    | refine ⟨trivial, (fun h => by cases h), (callsIn_wide.2 HC.out).mono ?_⟩
    | refine ⟨trivial, (callsIn_wide.2 HC.out).mono ?_⟩
    | refine (callsIn_wide.2 HC.out).mono ?_
  rintro e w2 ⟨hb2, gf, lb, rfl, hfn, heg, hst⟩
  have hbw := HBW.out.trans (hb2.mono HBW.out.size)
  have hsz : w.heap.size + 2 ≤ w2.heap.size := by have := hb2.size; rw [HZ1.out] at this; exact this
  have hb2s : Boxed w2 (w.heap.size + 1) 77 (.slice none 0 0) := (hb2.block _ HB1.out.lt).trans HB1.out
  have hLK : ∀ t W, (∀ k, t = some k → w2.heap.size ≤ k ∧ k < W.heap.size) → Below w2.heap.size w2 W → LK w w2.heap.size mi t [] (.slice none 0 0) W := fun t W h1 h3 =>
    ⟨(h3.block _ (by have := HB0.out.lt; have := hb2.size; omega)).trans ((hb2.block _ HB0.out.lt).trans HB0.out), (h3.block _ hb2s.lt).trans hb2s, World.ownsRow_nil _ _ _ _, by simpa using hmi2.1, hbw.trans (h3.mono hbw.size), h3.size, fun k hk => ⟨(h1 k hk).1, (h1 k hk).2, by simp [Value.ownBlock]⟩⟩
  have HST := hid (hst (n - 1) (by omega))
  have HFN := hid hfn
  have HEG := hid heg
  have HLK := hid hLK
  have HZ := hid hsz
  have HEX := hid (show ∀ b, exS S w1 w2 b → b ≠ w.heap.size + 1 ∧ b < w2.heap.size from fun b hb => by
    rcases hb with hb | hb
    · have h1 := HLT.out b hb
      exact ⟨by omega, by omega⟩
    · have := HZ1.out
      exact ⟨by omega, hb.2⟩)
  clear hst hfn heg hLK hbw hb2s hb2 HC HW1 HB0 HB1 hsz HLT
  gi_wp2
  clear hq
  refine rangeFunc_x rfl h1 (gf := gf) (lb := lb) rfl HFN.out HEG.out
    HST.out (fun _ _ _ h => h.1) (fun _ {A B C} h k => KS.t h k) (fun _ W l o o' _ h2 h3 _ => KS.b _ W l o o' h2 h3) (fun _ => rfl)
    (fun t pre Wc => ∃ lv, LK w w2.heap.size mi t pre lv Wc) (fun c pre Wc => c = .exit 0 ∧ ∃ t pre1 x lv, pre = pre1 ++ [x] ∧ ((pre1.length : Int) = mi ∨ x.2 ≠ pre1.length) ∧ LK w w2.heap.size mi t pre1 lv Wc)
    (fun _ _ _ _ _ ⟨lv, h⟩ hg hr => ⟨lv, h.kept hg (fun r e => ⟨by have := (hr r e).1; have := HZ.out; omega, (hr r e).2⟩)⟩)
    (fun _ _ _ _ _ ⟨hc, t, p1, x, lv, h1, h2, h3⟩ hg hr => ⟨hc, t, p1, x, lv, h1, h2, h3.kept hg (fun r e => ⟨by have := (hr r e).1; have := HZ.out; omega, (hr r e).2⟩)⟩)
    (fun _ _ _ _ => trivial) (fun _ _ => trivial) (fun t W1 W hb _ ⟨h3, h1⟩ => ⟨_, HLK.out t W (fun k hk => ⟨Nat.le_trans hb.size (h1 k hk).1, (h1 k hk).2⟩) (hb.trans (h3.mono hb.size))⟩)
    (fun t pre x a' Wc => ∃ lv Bx, LK w w2.heap.size mi t pre lv Wc ∧ Wc.heap[Bx]? = some (.cells #[.int .i64 x.1.kind, .int .u64 x.1.h] 67 (0, 0)) ∧ a' = { tmps := #[.pointer (some ⟨pb, 0, none⟩), .int .u64 h, .int .i64 mi, undef, undef, .pointer (some ⟨w.heap.size, 0, none⟩), .slice none 0 0, .pointer (some ⟨w.heap.size + 1, 0, none⟩), .func (.func gf) #[] lb, .int .i64 (x.2 : Int), .pointer (some ⟨Bx, 0, none⟩), .pointer (some ⟨pb, 0, none⟩), .int .u64 h, .func (.func gf) #[] lb, .func (.func gf) #[] lb, .bool true, .func (.func gf) #[] lb, .int .i64 (x.2 : Int), .agg #[.int .i64 x.1.kind, .int .u64 x.1.h], undef, undef, undef, undef, undef, undef, undef, undef, undef, undef, undef, undef, undef, undef, undef], defers := [] })
    (fun _ pre x a' _ X Y row hs hg hr => by
      obtain ⟨lv, Bx, e0, e2, e3⟩ := hs
      exact ⟨lv, Bx, e0.kept hg (fun r e => ⟨by have := (hr r e).1; have := HZ.out; omega, (hr r e).2⟩), heap_kept e2 hg (not_cells e2 (fun r e => (hr r e).2)), e3⟩)
    ?assign ?body ?done ?stop
  case assign =>
    rintro lo t pre x Wc K ⟨lv, hci⟩ _ hK
    simp only [encL]
    have HCI := hid hci
    have HKK := hid hK
    clear hci hK
    gi_wp2
    exact HKK.out _ _ ((KeepsOthers.alloc _ _).from _) ((KS.refl _ Wc).alloc _)
      ⟨lv, Wc.heap.size, HCI.out.kept (World.grownBy_alloc Wc _ none) (fun r e => by cases e), heap_alloc_new _ _, rfl⟩
  case body =>
    rintro lo t pre x a' Wc hl ⟨r, hr⟩ _ ⟨lv, Bx, H, bX, rfl⟩
    have e0 := H.b0.cell
    have e1 := H.b1.cell
    have f1 := H.b1.frozen
    have c0 : Wc.cell? ⟨Bx, 0, none⟩ = some (.int .i64 x.1.kind) := by simp [World.cell?, bX]
    have c1 : Wc.cell? ⟨Bx, 1, none⟩ = some (.int .u64 x.1.h) := by simp [World.cell?, bX]
    have hml := H.ml
    obtain ⟨la, lk, rfl⟩ := own_form H.r1
    have HH := hid H
    obtain ⟨⟨xk, xh⟩, xi⟩ := x
    simp only at c0 c1
    obtain ⟨N, hN⟩ : ∃ N, N = pre.length := ⟨_, rfl⟩
    have HN := hid hN
    rw [← hN] at e1 hml
    clear H bX hl hr hN
    by_cases hfull : (N : Int) = mi
    · have hge : decide (mi ≤ (N : Int)) = true := by simp; omega
      have HF := hid hfull
      clear hfull
      gi_wp2
      exact ⟨KeepsFrom.refl _ _, rfl, t, pre, _, _, rfl, .inl (by rw [← HN.out]; exact HF.out), HH.out⟩
    · have hge : decide (mi ≤ (N : Int)) = false := by simp; omega
      have hlt : (N : Int) < mi := by omega
      clear hfull
      by_cases hix : xi = N
      · have hne : ((xi : Int) != (N : Int)) = false := by simp [hix]
        have H := HH.out
        have hsz := H.sz
        have hzz := HZ.out
        have hrow := H.r1
        rw [← HN.out] at hrow
        have hbx := H.b1
        rw [← HN.out] at hbx
        have HROW := hid hrow
        have HBX := hid hbx
        have HIX := hid hix
        clear hix hrow hbx
        gi_wp2_with (first
          | (gi_at_builtin; refine wpListIn_append_at _ rfl _ _ 77 rfl w2.heap.size 67 i0 (.agg #[.int .i64 0, .int .u64 0]) 2 16 Try.underlying77 hi hz0 hz1 hz2 rfl (by decide) _ _ _ rfl (HROW.out.alloc _) ⟨Wc.heap.size, 0, none⟩ 1 1 [.int .i64 xk, .int .u64 xh] rfl rfl (World.news_of_block (heap_alloc_new Wc _)) (by simp [Value.oneCell']) (by simp only [maxLen]; omega) (by omega) (by simp; omega) ?_; intro v' w3 hown' hgrow hat; obtain ⟨g', cap', rfl⟩ := ownsRow_succ hown'; obtain ⟨p1, p2, p3, p4, p5, p6, p7⟩ := box_push HBX.out (by decide) HROW.out hown' hgrow; have hc1 := p1.cell; have hf1 := p1.frozen))
        have htt := H.tt
        rw [← HN.out] at htt
        refine ⟨p4.from _, ?_, _, p7 _ _ _ H.b0 (by omega) (by omega), p2, ?_, ?_, H.below.trans (p6 _ (by omega) (by omega) H.below.size), Nat.le_trans hsz p4.size, fun k hk => ⟨(htt k hk).1, Nat.lt_of_lt_of_le (htt k hk).2.1 p4.size, ?_⟩⟩
        · exact (((KS.refl _ Wc).alloc _).grown hgrow (fun k ek e2 => (htt k e2).2.2 ek)).set _ _ (fun e => by have h5 : w2.heap.size ≤ w.heap.size + 1 := (htt _ e).1; omega)
        · rw [List.length_append, List.length_singleton, ← HN.out, lkc_app]; exact p3
        · rw [List.length_append, List.length_singleton, ← HN.out]; omega
        · intro e
          rcases hat with e2 | e2
          · rw [e] at e2; exact (htt k hk).2.2 e2.symm
          · rw [e] at e2; have := (htt k hk).2.1; simp at e2; omega
      · have hne : ((xi : Int) != (N : Int)) = true := by simp; omega
        have HF := hid hix
        clear hix
        gi_wp2
        exact ⟨KeepsFrom.refl _ _, rfl, t, pre, _, _, rfl, .inr (by rw [← HN.out]; exact HF.out), HH.out⟩
  case done =>
    rintro D t Wc hD ⟨lv, H⟩ hK
    have e1 := H.b1.cell
    have HH := hid H
    clear H
    gi_wp2
    refine ⟨by simp, .inl ⟨_, _, rfl, run_takeDeferred hK, ?_⟩⟩
    have H2 := HH.out.kept (grownBy_putObj' Wc D (.deferred none)) (fun r e => by cases e; exact ⟨by have := HZ.out; omega, _, hK, rfl⟩)
    refine ⟨_, results_tmp rfl _ _ _, H2.below, lv, rfl, ?_⟩
    have ht := ToldL.of_own H2.r1
    have hml := H2.ml
    rw [List.length_zipIdx] at hml
    rw [List.zipIdx_map_fst] at ht
    rw [List.take_of_length_le (by have := HM.out; omega)]
    exact ht
  case stop =>
    rintro D c pre Wc hD hp ⟨rfl, t, p1, x, lv, rfl, hm, H⟩ hK
    have e1 := H.b1.cell
    have HH := hid H
    have HS := hid hp
    have HMM := hid hm
    clear H hp hm
    gi_wp2
    refine ⟨by simp, .inl ⟨_, _, rfl, run_takeDeferred hK, ?_⟩⟩
    have H2 := HH.out.kept (grownBy_putObj' Wc D (.deferred none)) (fun r e => by cases e; exact ⟨by have := HZ.out; omega, _, hK, rfl⟩)
    refine ⟨_, results_tmp rfl _ _ _, H2.below, lv, rfl, ?_⟩
    have ht := ToldL.of_own H2.r1
    have hpl := (HS.out).length_le
    rw [List.length_append, List.length_singleton, List.length_zipIdx] at hpl
    have hxi : L.zipIdx[p1.length]? = some x := by
      obtain ⟨r, hr⟩ := HS.out
      rw [← hr, List.append_assoc, List.getElem?_append_right (Nat.le_refl _)]
      simp
    have hx2 : x.2 = p1.length := by
      rw [List.getElem?_zipIdx, Option.map_eq_some_iff] at hxi
      obtain ⟨z, _, rfl⟩ := hxi
      simp
    have hlen : p1.length = m := by
      rcases HMM.out with h1 | h1
      · have := HM.out; omega
      · exact absurd hx2 h1
    have hpr := List.prefix_iff_eq_take.1 ((List.prefix_append p1 [x]).trans HS.out)
    rw [hpr, List.map_take, List.zipIdx_map_fst, hlen] at ht
    exact ht
theorem LnC.by_calls {w0 : World} {Rp : (Nat → Prop) → World → Value → Hs → Prop} (HB : HeapB w0 Rp) (HS : SlC w0 Rp) : LnC w0 Rp := fun S w p s h m hB hR hh hm =>
  (callsIn_wide (n := 4)).1 (links_in 4 (by omega) w0 Rp HB HS S w p s h m hB hR hh hm)
end Go.Proofs.Ytceokibalphgpaa
