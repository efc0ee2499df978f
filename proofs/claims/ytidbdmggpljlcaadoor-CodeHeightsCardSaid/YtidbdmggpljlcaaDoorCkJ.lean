/-
  The law's helper that collects what is told of the heights: its contract.
-/
import Derived.Test.YtidbdmggpljlcaaDoorCkI
import Derived.Sort.CutIn
import Derived.Sort.QuietIn
namespace Go.Proofs.YtidbdmggpljlcaaDoor
open Go Go.ChangeShapes Go.WideShapes Go.ChangeAt Go.RowKit Go.Shelf
attribute [local go_sem] Oper.semAt_some

theorem func_not_nil (f : Nat) (fv : Array Value) (W : World) : (binOp .neq 53 (.func (.func f) #[] fv) .nilFunc).run Tryd.prog W = .ok (.bool true) W := by kernel_rfl
def upC (pre : List Nat) : List Value := i64l (pre.map Int.ofNat)
def vaC (L : List Int) (pre : List Nat) : List Value := i64l (pre.map fun k => L.getD k 0)
theorem upC_app (pre : List Nat) (x : Nat) : upC (pre ++ [x]) = upC pre ++ [.int .i64 (x : Int)] := by simp [upC, i64l]
theorem vaC_app (L : List Int) (pre : List Nat) (x : Nat) : vaC L (pre ++ [x]) = vaC L pre ++ [.int .i64 (L.getD x 0)] := by simp [vaC, i64l]
/-- Between two rounds: both rows in their boxes. -/
structure LG (w : World) (n0 : Nat) (m : Int) (L : List Int) (pre : List Nat) (u v : Value) (W : World) : Prop where
  b0 : Boxed W w.heap.size 3 (.int .i64 m)
  b1 : Boxed W (w.heap.size + 1) 28 u
  b2 : Boxed W (w.heap.size + 2) 28 v
  r1 : W.ownsRow n0 3 1 u pre.length (upC pre)
  r2 : W.ownsRow n0 3 1 v pre.length (vaC L pre)
  ne : ∀ g, u.ownBlock = some g → v.ownBlock ≠ some g
  ml : (pre.length : Int) ≤ m
  below : Below w.heap.size w W
  sz : n0 ≤ W.heap.size
theorem LG.kept {w : World} {n0 : Nat} {m : Int} {L : List Int} {pre : List Nat} {u v : Value} {W W' : World} {row : Option Nat} (h : LG w n0 m L pre u v W) (hg : W.grownBy W' row) (hr : ∀ r, row = some r → w.heap.size ≤ r ∧ ∃ o : Obj, W.heap[r]? = some o ∧ o.isCells = false) : LG w n0 m L pre u v W' :=
  have hr' := fun r e => (hr r e).2
  ⟨h.b0.kept hg (not_cells h.b0 hr'), h.b1.kept hg (not_cells h.b1 hr'), h.b2.kept hg (not_cells h.b2 hr'), owns_not_cells h.r1 hg hr', owns_not_cells h.r2 hg hr', h.ne, h.ml, h.below.grown hg h.below.size (fun k e => (hr k e).1), Nat.le_trans h.sz hg.size⟩
def LGs (w : World) (n0 : Nat) (m : Int) (L : List Int) (pre : List Nat) (W : World) : Prop := ∃ u v, LG w n0 m L pre u v W
theorem LGs.ownFrom (w : World) (n0 : Nat) (m : Int) (L : List Int) (B : Nat) (hB : w.heap.size ≤ B) : OwnFrom B (LGs w n0 m L) := fun _ _ _ _ ⟨u, v, h⟩ hg hr =>
  ⟨u, v, h.kept hg (fun r e => ⟨Nat.le_trans hB (hr r e).1, (hr r e).2⟩)⟩
def LGx (w : World) (n0 : Nat) (m : Int) (L : List Int) (c : Code) (ps : List Nat) (W : World) : Prop := c = .exit 0 ∧ ∃ pre x, ps = pre ++ [x] ∧ (pre.length : Int) = m ∧ LGs w n0 m L pre W
theorem LGx.ownFrom (w : World) (n0 : Nat) (m : Int) (L : List Int) (B : Nat) (hB : w.heap.size ≤ B) (c : Code) : OwnFrom B (LGx w n0 m L c) := fun _ W W' row ⟨hc, pre, x, h1, h2, h3⟩ hg hr =>
  ⟨hc, pre, x, h1, h2, LGs.ownFrom w n0 m L B hB pre W W' row h3 hg hr⟩
theorem range_pre {n : Nat} {pre : List Nat} (h : pre <+: List.range n) : pre = List.range pre.length := by
  have h1 := h.length_le
  rw [List.length_range] at h1
  have h2 := List.prefix_iff_eq_take.1 h
  rw [List.take_range, Nat.min_eq_left h1] at h2
  exact h2
theorem va_take (L : List Int) (k : Nat) (hk : k ≤ L.length) : (List.range k).map (fun j => L.getD j 0) = L.take k := by
  apply List.ext_getElem?
  intro j
  by_cases hj : j < k
  · rw [List.getElem?_map, List.getElem?_range hj, List.getElem?_take_of_lt hj, List.getElem?_eq_getElem (by omega)]
    simp [List.getD_eq_getElem?_getD, List.getElem?_eq_getElem (show j < L.length by omega)]
  · rw [List.getElem?_eq_none (by simp; omega), List.getElem?_eq_none (by simp; omega)]
/-- What is collected, told at the end. -/
theorem LG.hg {w : World} {n0 k : Nat} {m : Int} {L : List Int} {u v : Value} {W W' : World} (h : LG w n0 m L (List.range k) u v W) (hk : k ≤ L.length) (h1 : W'.ownsRow n0 3 1 u k (upC (List.range k))) (h2 : W'.ownsRow n0 3 1 v k (vaC L (List.range k))) :
    ∃ a1 c1 a2 c2, u = .slice a1 k c1 ∧ v = .slice a2 k c2 ∧ LiI W' a1 (upI k) ∧ LiI W' a2 (L.take k) ∧ k ≤ c1 ∧ k ≤ c2 := by
  obtain ⟨a1, c1, rfl⟩ := own_form h1
  obtain ⟨a2, c2, rfl⟩ := own_form h2
  have q2 := h2
  unfold vaC at q2
  rw [va_take L k hk] at q2
  exact ⟨a1, c1, a2, c2, rfl, rfl, lies_owns h1, lies_owns q2, own_cap h1, own_cap h2⟩
set_option maxRecDepth 100000 in
set_option maxHeartbeats 4000000 in
theorem heights_in (n : Nat) (hn : 3 ≤ n) (ls : List Ins) (ad : Option Addr) (N c : Nat) (m : Int) (w : World) (hT : TabB w) (hok : ∀ x ∈ ls, InsOk x) (hR : RwI w w.heap.size ad ls) (hN : N = ls.length) (hNc : N ≤ c) (hc : c ≤ 9223372036854775807) (hm0 : 0 ≤ m) (hm9 : m ≤ 99) :
    CallsIn Fence.wide n Tryd.prog 14 #[.slice ad N c, .int .i64 m] w (HgP w ls m) := by
  have h1 : 1 ≤ n := by omega
  obtain ⟨i0, hi, hz0, hz1, hz2⟩ := info_parts infoInt28
  obtain ⟨w1, hw1⟩ : ∃ w1, w1 = ((w.alloc (.cells #[.int .i64 m] 3)).alloc (.cells #[.slice none 0 0] 28)).alloc (.cells #[.slice none 0 0] 28) := ⟨_, rfl⟩
  have hb1 : Below w.heap.size w w1 := by rw [hw1]; exact (((Below.refl _ _).alloc (Nat.le_refl _) _).alloc (by simp) _).alloc (by simp; omega) _
  have hsz1 : w1.heap.size = w.heap.size + 3 := by rw [hw1]; simp
  have b0 := ((Boxed.new w 3 (.int .i64 m)).alloc (.cells #[.slice none 0 0] 28)).alloc (.cells #[.slice none 0 0] 28)
  have b1 := (Boxed.new (w.alloc (.cells #[.int .i64 m] 3)) 28 (.slice none 0 0)).alloc (.cells #[.slice none 0 0] 28)
  have b2 := Boxed.new ((w.alloc (.cells #[.int .i64 m] 3)).alloc (.cells #[.slice none 0 0] 28)) 28 (.slice none 0 0)
  simp only [World.size_alloc] at b1 b2
  rw [← hw1] at b0 b1 b2
  have HT := hid hT
  have HC := hid (Heights_any ls ad N c w1 (hT.on hb1) hok (hR.on hb1) hN hNc hc)
  have hL32 := height_len ls 8
  unfold HgP
  obtain ⟨L, hL⟩ : ∃ L, L = (heightP ls 8).1 := ⟨_, rfl⟩
  rw [← hL] at HC hL32 ⊢
  have HB0 := hid b0
  have HB1 := hid b1
  have HB2 := hid b2
  have HBW := hid hb1
  have HW1 := hid hw1
  have HZ1 := hid hsz1
  clear hT hok hR hN hNc hc hL b0 b1 b2 hb1 hw1 hsz1 HT
  refine callsIn_of_wp_marks Tryd.func14 rfl trivial ?_ rfl
  simp only [Tryd.ntmps14, List.size_toArray, List.length_cons, List.length_nil, Nat.reduceAdd, Nat.reduceSub, Array.replicate_succ, Array.replicate_zero, List.push_toArray, List.append_toArray, List.nil_append, List.cons_append]
  have hq := func_not_nil
  gi_wp2
  rw [← HW1.out]
  first
    | refine ⟨trivial, (fun h => by cases h), (callsIn_wide.2 HC.out).mono ?_⟩
    | refine ⟨trivial, (callsIn_wide.2 HC.out).mono ?_⟩
    | refine (callsIn_wide.2 HC.out).mono ?_
  rintro e w2 ⟨A, lv, rfl, hA1, hA2, hrow, hb2⟩
  rw [HZ1.out] at hA1
  have hbw := HBW.out.trans (hb2.mono HBW.out.size)
  have hsz : w.heap.size + 3 ≤ w2.heap.size := by have := hb2.size; rw [HZ1.out] at this; exact this
  have hb2s : Boxed w2 (w.heap.size + 1) 28 (.slice none 0 0) := (hb2.block _ HB1.out.lt).trans HB1.out
  have hb3s : Boxed w2 (w.heap.size + 1 + 1) 28 (.slice none 0 0) := (hb2.block _ HB2.out.lt).trans HB2.out
  have hLG : LG w w2.heap.size m L [] (.slice none 0 0) (.slice none 0 0) w2 := ⟨(hb2.block _ HB0.out.lt).trans HB0.out, hb2s, hb3s, World.ownsRow_nil _ _ _ _, World.ownsRow_nil _ _ _ _, (fun g h => by cases h), by simpa using hm0, hbw, Nat.le_refl _⟩
  have hst := all_stops (n - 1) A _ (fun k => k < w2.heap.size ∧ k ≠ w.heap.size + 1 ∧ k ≠ w.heap.size + 2) lv L w2 hA2 hrow (by omega) (fun g hg => ⟨(hrow.lt g hg).2, fun e => (hb2s.not_row (by decide) hrow) (by rw [← e]; exact hg.symm), fun e => (hb3s.not_row (by decide) hrow) (by rw [show w.heap.size + 1 + 1 = w.heap.size + 2 from rfl, ← e]; exact hg.symm)⟩)
  have HST := hid hst
  have HLG := hid hLG
  have HZ := hid hsz
  clear hst hLG hbw hb2s hb3s hA1 hA2 hrow hb2 HC HW1 HB0 HB1 HB2 hsz
  gi_wp2
  clear hq
  refine wpIn_rangeFunc_ownF rfl h1 (gf := 32) (lb := #[.pointer (some ⟨A, 0, none⟩)]) rfl trivial (enters_of Tryd.func32 (by kernel_rfl) rfl)
    HST.out (fun h k => h.t k) (fun W l o o' _ h2 h3 _ => KS.b _ W l o o' h2 h3) (Below.refl _ _) (fun _ => rfl)
    (LGs w w2.heap.size m L) (LGx w w2.heap.size m L) (LGs.ownFrom w w2.heap.size m L _ (by have := HZ.out; omega)) (LGx.ownFrom w w2.heap.size m L _ (by have := HZ.out; omega)) ⟨_, _, HLG.out⟩
    (fun x => { tmps := #[.slice ad N c, .int .i64 m, undef, .pointer (some ⟨w.heap.size, 0, none⟩), .slice none 0 0, .slice none 0 0, .pointer (some ⟨w.heap.size + 1, 0, none⟩), .pointer (some ⟨w.heap.size + 2, 0, none⟩), .func (.func 32) #[] #[.pointer (some ⟨A, 0, none⟩)], .int .i64 (x : Int), .int .i64 (L.getD x 0), .slice ad N c, .func (.func 32) #[] #[.pointer (some ⟨A, 0, none⟩)], .func (.func 32) #[] #[.pointer (some ⟨A, 0, none⟩)], .bool true, .func (.func 32) #[] #[.pointer (some ⟨A, 0, none⟩)], .int .i64 (x : Int), .int .i64 (L.getD x 0), undef, undef, undef, undef, undef, undef, undef, undef, undef, undef, undef, undef, undef, undef], defers := [] }) ?assign ?body ?done ?stop
  case assign =>
    intro lp x W K hK
    have HK := hid hK
    clear hK
    simp only [alv]
    gi_wp2
    exact HK.out
  case body =>
    rintro lp pre x W ⟨u, v, H⟩ hlen2
    have HH := hid H
    have e0 := H.b0.cell
    have e1 := H.b1.cell
    have f1 := H.b1.frozen
    have hml := H.ml
    obtain ⟨la, lk, rfl⟩ := own_form H.r1
    obtain ⟨ua, uk, rfl⟩ := own_form H.r2
    obtain ⟨y, hy⟩ : ∃ y, y = L.getD x 0 := ⟨_, rfl⟩
    rw [← hy]
    have HY := hid hy
    clear H hy
    by_cases hfull : (pre.length : Int) = m
    · have hge : decide (m ≤ (pre.length : Int)) = true := by simp; omega
      have HF := hid hfull
      clear hfull
      gi_wp2
      exact ⟨KeepsOthers.refl _, rfl, pre, x, rfl, HF.out, _, _, HH.out⟩
    · have hge : decide (m ≤ (pre.length : Int)) = false := by simp; omega
      have hlt : (pre.length : Int) < m := by omega
      clear hfull
      have H := HH.out
      have hsz := H.sz
      have hzz := HZ.out
      gi_upto_region 9 with (first
        | (gi_at_builtin; refine wpListIn_append_at _ rfl _ _ 28 rfl w2.heap.size 3 i0 (.int .i64 0) 1 8 Tryd.underlying28 hi hz0 hz1 hz2 rfl (by decide) _ _ _ rfl (H.r1.alloc _) ⟨W.heap.size, 0, none⟩ 1 1 [.int .i64 (x : Int)] rfl rfl (cell_one_new _ _ _) (by simp [Value.oneCell']) (by simp only [maxLen]; omega) (by omega) (by simp; omega) ?_; intro v' w3 hown' hgrow hat; obtain ⟨g', cap', rfl⟩ := ownsRow_succ hown'; obtain ⟨p1, p2, p3, p4, p5, p6, p7⟩ := box_push H.b1 (by decide) H.r1 hown' hgrow; obtain ⟨o2, on⟩ := other_row H.b1 (by decide) hgrow hat H.r2 H.ne; have hc1 := p1.cell; have hf1 := p1.frozen))
      have b0' := p7 _ _ _ H.b0 (by omega) (by omega)
      have b2' := p7 _ _ _ H.b2 (by omega) (by omega)
      have hs1 := p5 (fun k => k < w2.heap.size ∧ k ≠ w.heap.size + 1 ∧ k ≠ w.heap.size + 2) (fun h => h.2.1 rfl) (fun k h1 h2 => by have := h2.1; omega)
      have hb1 := p6 w.heap.size (by omega) (by omega) H.below.size
      obtain ⟨w4, hw4⟩ : ∃ w4, w4 = w3.setCell ⟨w.heap.size + 1, 0, none⟩ (.slice (some ⟨g', 0, none⟩) (pre.length + 1) cap') := ⟨_, rfl⟩
      rw [← hw4] at p2 p3 p4 o2 b0' b2' hs1 hb1 ⊢
      have P2 := hid p2
      have P3 := hid p3
      have P4 := hid p4
      have O2 := hid o2
      have B0 := hid b0'
      have B2 := hid b2'
      have HS1 := hid hs1
      have HBL := hid (H.below.trans hb1)
      have ON := hid (show ∀ g, (Value.slice ua pre.length uk).ownBlock = some g → (Value.slice (some ⟨g', 0, none⟩) (pre.length + 1) cap').ownBlock ≠ some g from fun g h1 h2 => on g h2 h1)
      have hsz4 : w2.heap.size ≤ w4.heap.size := Nat.le_trans hsz p4.size
      have e2 := b2'.cell
      have f2 := b2'.frozen
      clear p1 p2 p3 p4 p5 p6 p7 o2 on hc1 hf1 b0' b2' hs1 hb1 hw4 hgrow hat hown' e0 e1 f1
      gi_wp2_with (first
        | (gi_at_builtin; refine wpListIn_append_at _ rfl _ _ 28 rfl w2.heap.size 3 i0 (.int .i64 0) 1 8 Tryd.underlying28 hi hz0 hz1 hz2 rfl (by decide) _ _ _ rfl (O2.out.alloc _) ⟨w4.heap.size, 0, none⟩ 1 1 [.int .i64 y] rfl rfl (cell_one_new _ _ _) (by simp [Value.oneCell']) (by simp only [maxLen]; omega) (by omega) (by simp; omega) ?_; intro v' w5 hown' hgrow hat; obtain ⟨g2, cap2, rfl⟩ := ownsRow_succ hown'; obtain ⟨p1, p2, p3, p4, p5, p6, p7⟩ := box_push B2.out (by decide) O2.out hown' hgrow; obtain ⟨o2, on⟩ := other_row B2.out (by decide) hgrow hat P3.out ON.out; have hc1 := p1.cell; have hf1 := p1.frozen))
      refine ⟨P4.out.trans p4, HS1.out.t (p5 _ (fun h => h.2.2 rfl) (fun k h1 h2 => by have := h2.1; omega)), _, _, p7 _ _ _ B0.out (by omega) (by omega), p7 _ _ _ P2.out (by omega) (by omega), p2, ?_, ?_, fun g h1 h2 => on g h2 h1, ?_, HBL.out.trans (p6 _ (by omega) (by omega) HBL.out.size), Nat.le_trans hsz4 p4.size⟩
      · rw [List.length_append, upC_app]; exact o2
      · rw [List.length_append, vaC_app, ← HY.out]; exact p3
      · simp; omega
  case done =>
    rintro D ys W hD hyL ⟨u, v, H⟩ hK
    obtain ⟨k, hk⟩ : ∃ k, k = L.length := ⟨_, rfl⟩
    rw [← hk] at hyL
    subst hyL
    have hkL : k ≤ L.length := by omega
    have hkm : k = min m.toNat L.length := by have := H.ml; rw [List.length_range] at this; omega
    have e1 := H.b1.cell
    have e2 := H.b2.cell
    have HH := hid H
    have HK := hid hK
    have HD := hid hD
    have r1 := H.r1
    have r2 := H.r2
    rw [List.length_range] at r1 r2
    obtain ⟨a1, c1, rfl⟩ := own_form r1
    obtain ⟨a2, c2, rfl⟩ := own_form r2
    have R1 := hid r1
    have R2 := hid r2
    clear H hK hD r1 r2
    gi_upto_region 10 with (fail)
    refine G.wp_region_mix [1, 1, 0, 0] (fun W' => W'.cell? ⟨w.heap.size + 1, 0, none⟩ = some (.slice a1 k c1) ∧ W'.cell? ⟨w.heap.size + 2, 0, none⟩ = some (.slice a2 k c2)) (by kernel_rfl) (by kernel_rfl) ⟨e1, e2⟩ ?_
    repeat (first
      | (refine' E.wpMix_value _ rfl rfl _ _; rotate_left; (solve | (intro W; go_simp) | (intro W; go_simp; with_reducible rfl)); simp only [Act.put, List.setIfInBounds_toArray, List.set_cons_zero, List.set_cons_succ])
      | (refine' E.wpMix_read _ rfl rfl _ _; rotate_left; (solve | (rintro W ⟨h1, h2⟩; go_simp) | (rintro W ⟨h1, h2⟩; go_simp; with_reducible rfl)); simp only [Act.put, List.setIfInBounds_toArray, List.set_cons_zero, List.set_cons_succ]))
    refine E.wpMix_end ?_
    gi_wp2
    have hK' : W.drew.heap[D]? = some (.deferred (some [])) := HK.out
    refine ⟨by simp, .inl ⟨_, _, rfl, run_takeDeferred hK', ?_⟩⟩
    have hd := (Below.refl W.heap.size W).drew
    have q1 := ownsRow_putObj ((Fr.of_below (fp := fun _ => False) hd).owns R1.out (fun _ _ h => h)) (.deferred none) hK' rfl
    have q2 := ownsRow_putObj ((Fr.of_below (fp := fun _ => False) hd).owns R2.out (fun _ _ h => h)) (.deferred none) hK' rfl
    obtain ⟨a1', c1', a2', c2', x1, x2, x3, x4, x5, x6⟩ := HH.out.hg hkL q1 q2
    cases x1
    cases x2
    refine ⟨.tuple #[.slice a1 k c1, .slice a2 k c2], ?_, k, a1, c1, a2, c2, hkm, rfl, x3, x4, x5, x6, ?_⟩
    · simp [results, Tryd.f14, go_sem]; omega
    · exact (HH.out.below.trans (hd.mono HH.out.below.size)).trans (belowK_b (w := w) (Nat.le_refl _) _ D _ _ (by have := HD.out; have := HZ.out; omega) hK' rfl rfl)
  case stop =>
    rintro D c pre0 W hD hp ⟨rfl, pre, x, rfl, hl, u, v, H⟩ hK
    have hpl := hp.length_le
    rw [List.length_append, List.length_singleton, List.length_range] at hpl
    obtain ⟨k, hk⟩ : ∃ k, k = pre.length := ⟨_, rfl⟩
    have hpr := range_pre ((List.prefix_append pre [x]).trans hp)
    rw [← hk] at hpr hl hpl
    subst hpr
    have hkL : k ≤ L.length := by omega
    have hkm : k = min m.toNat L.length := by omega
    clear hp hk
    have e1 := H.b1.cell
    have e2 := H.b2.cell
    have HH := hid H
    have HK := hid hK
    have HD := hid hD
    have r1 := H.r1
    have r2 := H.r2
    rw [List.length_range] at r1 r2
    obtain ⟨a1, c1, rfl⟩ := own_form r1
    obtain ⟨a2, c2, rfl⟩ := own_form r2
    have R1 := hid r1
    have R2 := hid r2
    clear H hK hD r1 r2
    gi_upto_region 10 with (fail)
    refine G.wp_region_mix [1, 1, 0, 0] (fun W' => W'.cell? ⟨w.heap.size + 1, 0, none⟩ = some (.slice a1 k c1) ∧ W'.cell? ⟨w.heap.size + 2, 0, none⟩ = some (.slice a2 k c2)) (by kernel_rfl) (by kernel_rfl) ⟨e1, e2⟩ ?_
    repeat (first
      | (refine' E.wpMix_value _ rfl rfl _ _; rotate_left; (solve | (intro W; go_simp) | (intro W; go_simp; with_reducible rfl)); simp only [Act.put, List.setIfInBounds_toArray, List.set_cons_zero, List.set_cons_succ])
      | (refine' E.wpMix_read _ rfl rfl _ _; rotate_left; (solve | (rintro W ⟨h1, h2⟩; go_simp) | (rintro W ⟨h1, h2⟩; go_simp; with_reducible rfl)); simp only [Act.put, List.setIfInBounds_toArray, List.set_cons_zero, List.set_cons_succ]))
    refine E.wpMix_end ?_
    gi_wp2
    have hK' : W.drew.heap[D]? = some (.deferred (some [])) := HK.out
    refine ⟨by simp, .inl ⟨_, _, rfl, run_takeDeferred hK', ?_⟩⟩
    have hd := (Below.refl W.heap.size W).drew
    have q1 := ownsRow_putObj ((Fr.of_below (fp := fun _ => False) hd).owns R1.out (fun _ _ h => h)) (.deferred none) hK' rfl
    have q2 := ownsRow_putObj ((Fr.of_below (fp := fun _ => False) hd).owns R2.out (fun _ _ h => h)) (.deferred none) hK' rfl
    obtain ⟨a1', c1', a2', c2', x1, x2, x3, x4, x5, x6⟩ := HH.out.hg hkL q1 q2
    cases x1
    cases x2
    refine ⟨.tuple #[.slice a1 k c1, .slice a2 k c2], ?_, k, a1, c1, a2, c2, hkm, rfl, x3, x4, x5, x6, ?_⟩
    · simp [results, Tryd.f14, go_sem]; omega
    · exact (HH.out.below.trans (hd.mono HH.out.below.size)).trans (belowK_b (w := w) (Nat.le_refl _) _ D _ _ (by have := HD.out; have := HZ.out; omega) hK' rfl rfl)
theorem heights_holds {w : World} (hT : TabB w) : HgC w := fun ls ad n c m W hb hok hR hN hc hc2 _ hm0 hm9 =>
  (callsIn_wide (n := 3)).1 (heights_in 3 (by omega) ls ad n c m W (hT.on hb) hok hR hN hc hc2 hm0 hm9)
end Go.Proofs.YtidbdmggpljlcaaDoor
