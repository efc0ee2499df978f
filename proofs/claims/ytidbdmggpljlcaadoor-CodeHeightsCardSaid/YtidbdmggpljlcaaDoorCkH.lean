/-
  The program's Heights.
-/
import Derived.Test.YtidbdmggpljlcaaDoorCkE
namespace Go.Proofs.YtidbdmggpljlcaaDoor
open Go Go.ChangeShapes Go.WideShapes Go.ChangeAt Go.RowKit Go.Shelf
attribute [local go_sem] Oper.semAt_some

theorem infoInt28 : (Tryd.prog.info? 3).map (fun i => (i.zero, i.size, i.bytes)) = some (some (.int .i64 0), 1, 8) := by kernel_rfl
/-- 'out = append(out, x)' in its box: what a loop over the steps bears. -/
theorem kt_push {S : Nat → Prop} {T : TypeId → Prop} {W w1 : World} {n0 B : Nat} {t e : TypeId} {size : Nat} {v v' : Value} {k : Nat} {xs : List Value} {tmp : Obj}
    (hv : Boxed W B t v) (hrow : W.ownsRow n0 e size v k xs) (hgrow : (W.alloc tmp).grownBy w1 v.ownBlock) (hS : ∀ k, n0 ≤ k → ¬ S k) (hSB : ¬ S B) (hTt : ¬ T t) (hTe : ¬ T e) : KT S T W (w1.setCell ⟨B, 0, none⟩ v') := fun j cs t' fr hST hj => by
  have hjl := (Array.getElem?_eq_some_iff.1 hj).1
  have h1 : (W.alloc tmp).heap[j]? = some (.cells cs t' fr) := (Below.heap_alloc _ _ _ hjl).trans hj
  have h2 : w1.heap[j]? = some (.cells cs t' fr) := by
    refine (hgrow.block j (by simp; omega) (fun e2 => ?_)).trans h1
    rcases hrow.2 with ⟨rfl, _⟩ | ⟨g, cap, cur, rfl, hg0, hgb, _⟩
    · simp [Value.ownBlock] at e2
    · have e3 : j = g := by simpa [Value.ownBlock] using e2
      subst e3
      rw [hj] at hgb
      cases hgb
      rcases hST with h | h
      · exact hS _ hg0 h
      · exact hTe h
  refine (Below.heap_setCell w1 ⟨B, 0, none⟩ v' j (fun (e2 : j = B) => ?_)).trans h2
  subst e2
  have hv2 : W.heap[j]? = some _ := hv
  rw [hj] at hv2
  cases hv2
  rcases hST with h | h
  · exact hSB h
  · exact hTt h
theorem owns_T {T : TypeId} {W W' : World} {row : Option Nat} {B : Nat} {e : TypeId} {s n : Nat} {v : Value} {xs : List Value} (h : W.ownsRow B e s v n xs) (hg : W.grownBy W' row) (hr : ∀ r, row = some r → ∃ o : Obj, W.heap[r]? = some o ∧ (o.isCells = false ∨ ofT T o = true)) (he : e ≠ T) : W'.ownsRow B e s v n xs := by
  refine h.kept hg ?_
  rcases h.2 with ⟨rfl, _⟩ | ⟨g, cap, cur, rfl, _, hgb, _⟩
  · exact .inl rfl
  · refine .inr (fun e2 => ?_)
    obtain ⟨o, ho, hc⟩ := hr g e2.symm
    rw [hgb] at ho
    cases ho
    rcases hc with hc | hc
    · cases hc
    · exact he (by simpa [ofT] using hc)
/-- Between two rounds of Heights. -/
structure HI (w : World) (n0 : Nat) (pre : List Stp) (lv : Value) (W : World) : Prop where
  bx : Boxed W w.heap.size 28 lv
  row : W.ownsRow n0 3 1 lv pre.length (i64l (pre.map Stp.h))
  e0 : ∀ x ∈ pre, x.e = 0
  below : Below w.heap.size w W
  sz : n0 ≤ W.heap.size
theorem HI.kept {w : World} {n0 : Nat} {pre : List Stp} {lv : Value} {W W' : World} {row : Option Nat} {B : Nat} (h : HI w n0 pre lv W) (hg : W.grownBy W' row) (hr : ∀ r, row = some r → B ≤ r ∧ ∃ o : Obj, W.heap[r]? = some o ∧ (o.isCells = false ∨ ofT 59 o = true)) (hB : w.heap.size < B) : HI w n0 pre lv W' :=
  ⟨heap_kept h.bx hg (fun e => by have := (hr _ e.symm).1; omega), owns_T h.row hg (fun r e => (hr r e).2) (by decide), h.e0, h.below.grown hg h.below.size (fun k e => by have := (hr k e).1; omega), Nat.le_trans h.sz hg.size⟩
theorem HI.on {w : World} {n0 : Nat} {pre : List Stp} {lv : Value} {W W' : World} (h : HI w n0 pre lv W) (hb : Below W.heap.size W W') : HI w n0 pre lv W' :=
  ⟨(hb.block _ h.bx.lt).trans h.bx, (Fr.of_below (fp := fun _ => False) hb).owns h.row (fun _ _ h => h), h.e0, h.below.trans (hb.mono h.below.size), Nat.le_trans h.sz hb.size⟩
def HX (w : World) (n0 : Nat) (c : Code) (pre : List Stp) (W : World) : Prop := c = .exit 0 ∧ ∃ p x lv, pre = p ++ [x] ∧ x.e ≠ 0 ∧ HI w n0 p lv W
/-- slices.All, over a box. -/
theorem All_any (a : Option Addr) (n c : Nat) (w : World) : Calls Tryd.prog 28 #[.slice a n c] w fun e w' => e = .returned (.func (.func 32) #[] #[.pointer (some ⟨w.heap.size, 0, none⟩)]) ∧ w' = w.alloc (.cells #[.slice a n c] 28) := by
  go_enter Tryd.func28, Tryd.ntmps28
  go_wp2
  go_ret
  exact ⟨rfl, rfl⟩
def HqP (w : World) (L : List Int) (e : Ending) (W : World) : Prop :=
  ∃ A lv, e = .returned (.func (.func 32) #[] #[.pointer (some ⟨A, 0, none⟩)]) ∧ w.heap.size ≤ A ∧ Boxed W A 28 lv ∧ W.ownsRow w.heap.size 3 1 lv L.length (i64l L) ∧ Below w.heap.size w W
set_option maxRecDepth 100000 in
set_option maxHeartbeats 4000000 in
theorem Heights_in (n : Nat) (hn : 3 ≤ n) (ls : List Ins) (ad : Option Addr) (N c : Nat) (w : World) (hT : TabB w) (hok : ∀ x ∈ ls, InsOk x) (hR : RwI w w.heap.size ad ls) (hN : N = ls.length) (hNc : N ≤ c) (hc : c ≤ 9223372036854775807) :
    CallsIn Fence.wide n Tryd.prog 22 #[.slice ad N c] w (HqP w (heightP ls 8).1) := by
  have h1 : 1 ≤ n := by omega
  obtain ⟨i0, hi, hz0, hz1, hz2⟩ := info_parts infoInt28
  obtain ⟨w1, hw1⟩ : ∃ w1, w1 = w.alloc (.cells #[.slice none 0 0] 28) := ⟨_, rfl⟩
  have hb1 : Below w.heap.size w w1 := by rw [hw1]; exact (Below.refl _ _).alloc (Nat.le_refl _) _
  have hz1' : w1.heap.size = w.heap.size + 1 := by rw [hw1]; simp
  have b0 := Boxed.new w 28 (.slice none 0 0)
  rw [← hw1] at b0
  have HB0 := hid b0
  have HT := hid hT
  have HOK := hid hok
  have HR := hid hR
  have HN := hid hN
  have HW1 := hid hw1
  have HB1 := hid hb1
  have HZ1 := hid hz1'
  have HNC := hid hNc
  have HC := hid hc
  have HST := hid (steps_any ad N c 8 w1)
  clear hT hok hR hN hw1 hb1 hz1' b0 hNc hc
  refine callsIn_of_wp_marks Tryd.func22 rfl trivial ?_ rfl
  simp only [Tryd.ntmps22, List.size_toArray, List.length_cons, List.length_nil, Nat.reduceAdd, Nat.reduceSub, Array.replicate_succ, Array.replicate_zero, List.push_toArray, List.append_toArray, List.nil_append, List.cons_append]
  gi_wp2
  rw [← HW1.out]
  first
    | refine ⟨trivial, (fun h => by cases h), (callsIn_wide.2 HST.out).mono ?_⟩
    | refine ⟨trivial, (callsIn_wide.2 HST.out).mono ?_⟩
    | refine (callsIn_wide.2 HST.out).mono ?_
  rintro e w2 ⟨rfl, hl2, hs2, hz2', hb2⟩
  rw [HZ1.out] at hz2' hl2 hs2
  have hbw2 := HB1.out.trans (hb2.mono HB1.out.size)
  have hst := steps_tells (n - 1) _ _ c w.heap.size N (fun k => k < w.heap.size ∨ k = w.heap.size + 1 ∨ k = w.heap.size + 2) ad ls 8 w2 hl2 hs2 (HR.out.kept hbw2) hbw2.size HN.out HNC.out HC.out HOK.out (by unfold J64; decide) (HT.out.on hbw2) (fun k hk => .inl hk) (.inr (.inl rfl)) (.inr (.inr rfl))
    (.inl HT.out.lt)
  have HI := hid (show HI w w2.heap.size [] (.slice none 0 0) w2 from ⟨(hb2.block _ HB0.out.lt).trans HB0.out, World.ownsRow_nil _ _ _ _, (fun x hx => by cases hx), hbw2, Nat.le_refl _⟩)
  have HTL := hid hst
  have hsz : w.heap.size + 2 < w2.heap.size := by omega
  rw [show itF w1.heap.size = .func (.func 23) #[] #[.pointer (some ⟨w.heap.size + 1, 0, none⟩), .pointer (some ⟨w.heap.size + 1 + 1, 0, none⟩)] by rw [HZ1.out]; rfl]
  clear hst hl2 hs2 hb2 hbw2 HST HW1 HB0
  gi_wp2
  refine rangeFunc_T rfl h1 (gf := 23) (lb := #[.pointer (some ⟨w.heap.size + 1, 0, none⟩), .pointer (some ⟨w.heap.size + 1 + 1, 0, none⟩)]) rfl trivial (enters_of Tryd.func23 (by kernel_rfl) rfl)
    HTL.out (fun h k => h.t k) (fun W l o o' _ h2 h3 _ => KT.b W l o o' h2 h3) (fun _ => rfl)
    (fun pre W => ∃ lv, Go.Proofs.YtidbdmggpljlcaaDoor.HI w w2.heap.size pre lv W) (HX w w2.heap.size)
    (fun _ _ _ _ ⟨lv, h⟩ hg hr => ⟨lv, h.kept hg hr (by omega)⟩) (fun _ _ _ _ _ ⟨hc, p, x, lv, h1, h2, h⟩ hg hr => ⟨hc, p, x, lv, h1, h2, h.kept hg hr (by omega)⟩) ⟨_, HI.out⟩
    (fun pre x a' W => ∃ g lv, Go.Proofs.YtidbdmggpljlcaaDoor.HI w w2.heap.size pre lv W ∧ W.heap[g]? = some (.cells (stA x.h x.b x.e) 49 (0, 0)) ∧ pre.length < 33 ∧ a' = { tmps := #[.slice ad N c, undef, .nilFunc, .pointer (some ⟨w.heap.size, 0, none⟩), undef, .pointer (some ⟨g, 0, none⟩), .slice ad N c, .func (.func 23) #[] #[.pointer (some ⟨w.heap.size + 1, 0, none⟩), .pointer (some ⟨w.heap.size + 1 + 1, 0, none⟩)], .int .i64 x.i, .agg (stA x.h x.b x.e), undef, undef, undef, undef, undef, undef, undef, undef, undef, undef], defers := [] })
    (fun pre x a' _ W W' row ⟨g, lv, hg1, hg3, hg4, hg2⟩ hg hr => ⟨g, lv, hg1.kept hg (fun r e => by obtain ⟨q1, o, q2, q3⟩ := hr r e; exact ⟨q1, o, q2, .inl q3⟩) (by omega), heap_kept hg3 hg (not_cells hg3 (fun r e => (hr r e).2)), hg4, hg2⟩) ?assign ?body ?done ?stop
  case assign =>
    rintro lp pre x W K ⟨lv, hI⟩ hlen hK
    have HK := hid hK
    have HII := hid hI
    clear hI hK
    simp only [yst, stA]
    gi_wp2
    have hbn : Below W.heap.size W (W.alloc (.cells (stA x.h x.b x.e) 49)) := (Below.refl _ _).alloc (Nat.le_refl _) _
    exact HK.out _ _ (kf_below hbn) (KT.below hbn) ⟨W.heap.size, lv, HII.out.on hbn, heap_alloc_new _ _, hlen, rfl⟩
  case body =>
    rintro lp pre x a' W hlp hloop ⟨g, lv, hA, hg, hlen, rfl⟩
    have HA := hid hA
    have e1 := hA.bx.cell
    have f1 := hA.bx.frozen
    have c0 : W.cell? ⟨g, 0, none⟩ = some (.int .i64 x.h) := by simp [World.cell?, hg, stA]
    have c2 : W.cell? ⟨g, 2, none⟩ = some (.int .i64 x.e) := by simp [World.cell?, hg, stA]
    have hsz2 := hA.sz
    obtain ⟨la, lk, rfl⟩ := own_form hA.row
    clear hA hg
    by_cases he : x.e = 0
    · have d0 : (x.e != 0) = false := by simpa using he
      have HE := hid he
      clear he
      have H := HA.out
      gi_wp2_with (first
        | (gi_at_builtin; refine wpListIn_append_own _ rfl _ _ 28 rfl w2.heap.size 3 i0 (.int .i64 0) 1 8 Tryd.underlying28 hi hz0 hz1 hz2 rfl (by decide) _ _ _ rfl (H.row.alloc _) ⟨W.heap.size, 0, none⟩ 1 1 [.int .i64 x.h] rfl rfl (cell_one_new _ _ _) (by simp [Value.oneCell']) (by simp only [maxLen]; omega) (by omega) (by simp; omega) ?_; intro v' w3 hown' hgrow _; obtain ⟨g', cap', rfl⟩ := ownsRow_succ hown'; obtain ⟨p1, p2, p3, p4, p5, p6, p7⟩ := box_push H.bx (by decide) H.row hown' hgrow; have pk := fun vv => kt_push (v' := vv) (S := fun k => k < w.heap.size ∨ k = w.heap.size + 1 ∨ k = w.heap.size + 2) (T := TY) H.bx H.row hgrow (fun k hk => by omega) (by omega) (by unfold TY; decide) (by unfold TY; decide); have hc1 := p1.cell; have hf1 := p1.frozen))
      refine ⟨p4.from _, pk _, _, p2, ?_, ?_, H.below.trans (p6 _ (by omega) (by omega) H.below.size), Nat.le_trans H.sz p4.size⟩
      · rw [List.length_append, List.map_append]
        unfold i64l
        rw [List.map_append]
        exact p3
      · intro y hy
        rcases List.mem_append.1 hy with hy | hy
        · exact H.e0 y hy
        · simp only [List.mem_singleton] at hy; subst hy; exact HE.out
    · have d0 : (x.e != 0) = true := by simpa using he
      have HE := hid he
      clear he
      gi_wp2
      exact ⟨KeepsFrom.refl _ _, rfl, pre, x, _, rfl, HE.out, HA.out⟩
  case done =>
    rintro D ys W hD hS ⟨lv, H⟩ hK
    have e1 := H.bx.cell
    have hL : (heightP ls 8).1 = ys.map Stp.h := by
      obtain ⟨_, rfl⟩ := told_done hS H.e0
      rw [good_h]
    have HL := hid hL
    have HH := hid H
    obtain ⟨la, lk, rfl⟩ := own_form H.row
    have HD := hid hD
    have HK := hid hK
    clear H hS hK hL hD
    gi_wp2
    first
      | refine ⟨trivial, (callsIn_wide.2 (All_any _ _ _ _)).mono ?_⟩
      | refine ⟨trivial, (fun h => by cases h), (callsIn_wide.2 (All_any _ _ _ _)).mono ?_⟩
      | refine (callsIn_wide.2 (All_any _ _ _ _)).mono ?_
    rintro e w3 ⟨rfl, hw3⟩
    have HW3 := hid hw3
    clear hw3
    gi_wp2
    have hbn : Below W.heap.size W w3 := by rw [HW3.out]; exact (Below.refl _ _).alloc (Nat.le_refl _) _
    have hK3 := (hbn.block _ (Array.getElem?_eq_some_iff.1 HK.out).1).trans HK.out
    have hx3 : Boxed w3 W.heap.size 28 (.slice la ys.length lk) := by rw [HW3.out]; exact Boxed.new W _ _
    have HH3 := HH.out.on hbn
    refine ⟨by simp, .inl ⟨_, _, rfl, run_takeDeferred hK3, ?_⟩⟩
    refine ⟨_, results_tmp rfl _ _ _, W.heap.size, .slice la ys.length lk, rfl, HH.out.below.size, heap_kept hx3 (grownBy_putObj' _ D (.deferred none)) (not_cells hx3 (fun r e => by cases e; exact ⟨_, hK3, rfl⟩)), ?_, HH3.below.trans (belowK_b (w := w) (Nat.le_refl _) _ D _ _ (by have := HH3.below.size; have := HD.out; omega) hK3 rfl rfl)⟩
    rw [HL.out, List.length_map]
    exact owns_low (ownsRow_putObj HH3.row _ hK3 rfl) (by omega)
  case stop =>
    rintro D c pre W hD hp ⟨rfl, p, x, lv, rfl, hx, H⟩ hK
    have e1 := H.bx.cell
    have hL : (heightP ls 8).1 = p.map Stp.h := by
      obtain ⟨_, _, _, rfl⟩ := told_stop hp hx
      rw [good_h]
    have HL := hid hL
    have HH := hid H
    obtain ⟨la, lk, rfl⟩ := own_form H.row
    have HD := hid hD
    have HK := hid hK
    clear H hp hL hx hD hK
    gi_wp2
    first
      | refine ⟨trivial, (callsIn_wide.2 (All_any _ _ _ _)).mono ?_⟩
      | refine ⟨trivial, (fun h => by cases h), (callsIn_wide.2 (All_any _ _ _ _)).mono ?_⟩
      | refine (callsIn_wide.2 (All_any _ _ _ _)).mono ?_
    rintro e w3 ⟨rfl, hw3⟩
    have HW3 := hid hw3
    clear hw3
    gi_wp2
    have hbn : Below W.heap.size W w3 := by rw [HW3.out]; exact (Below.refl _ _).alloc (Nat.le_refl _) _
    have hK3 := (hbn.block _ (Array.getElem?_eq_some_iff.1 HK.out).1).trans HK.out
    have hx3 : Boxed w3 W.heap.size 28 (.slice la p.length lk) := by rw [HW3.out]; exact Boxed.new W _ _
    have HH3 := HH.out.on hbn
    refine ⟨by simp, .inl ⟨_, _, rfl, run_takeDeferred hK3, ?_⟩⟩
    refine ⟨_, results_tmp rfl _ _ _, W.heap.size, .slice la p.length lk, rfl, HH.out.below.size, heap_kept hx3 (grownBy_putObj' _ D (.deferred none)) (not_cells hx3 (fun r e => by cases e; exact ⟨_, hK3, rfl⟩)), ?_, HH3.below.trans (belowK_b (w := w) (Nat.le_refl _) _ D _ _ (by have := HH3.below.size; have := HD.out; omega) hK3 rfl rfl)⟩
    rw [HL.out, List.length_map]
    exact owns_low (ownsRow_putObj HH3.row _ hK3 rfl) (by omega)
theorem Heights_any (ls : List Ins) (ad : Option Addr) (N c : Nat) (w : World) (hT : TabB w) (hok : ∀ x ∈ ls, InsOk x) (hR : RwI w w.heap.size ad ls) (hN : N = ls.length) (hNc : N ≤ c) (hc : c ≤ 9223372036854775807) :
    Calls Tryd.prog 22 #[.slice ad N c] w (HqP w (heightP ls 8).1) :=
  (callsIn_wide (n := 3)).1 (Heights_in 3 (by omega) ls ad N c w hT hok hR hN hNc hc)
end Go.Proofs.YtidbdmggpljlcaaDoor
