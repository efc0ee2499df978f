/-
  A ring's Back: what it tells.
-/
import Derived.Test.YtmkajdfajcodjabRgI
namespace Go.Proofs.Ytmkajdfajcodjab
open Go Go.ChangeShapes Go.WideShapes Go.ChangeAt Go.RowKit Go.Shelf
attribute [local go_sem] Oper.semAt_some

theorem Backward_any (w : World) (a : Option Addr) (n c : Nat) : Calls Try.prog 28 #[.slice a n c] w fun e w' => e = .returned (.func (.func 29) #[] #[.pointer (some ⟨w.heap.size, 0, none⟩)]) ∧ w' = w.alloc (.cells #[.slice a n c] 22) := by
  go_enter Try.func28, Try.ntmps28
  go_wp2
  go_ret
  exact ⟨rfl, rfl⟩
theorem kp_row {t : Nat → Prop} {W W' : World} {B n k : Nat} {T : TypeId} {v : Value} {xs : List Value} (hk : KpT t W W') (ht : ∀ k, v.ownBlock = some k → t k) (h : W.ownsRow B T k v n xs) : W'.ownsRow B T k v n xs := by
  refine ⟨h.1, ?_⟩
  rcases h.2 with e | ⟨g, cap, cur, rfl, hb, hg, rest⟩
  · exact .inl e
  · exact .inr ⟨g, cap, cur, rfl, hb, hk _ _ _ _ (ht g rfl) hg, rest⟩
/-- Between two rounds. -/
structure BkI (lp Y b2 N : Nat) (l : List Int) (a : Option Addr) (c : Nat) (J : List (Int × Nat) → World → Prop) (pre : List (Int × Nat)) (W : World) : Prop where
  j : J pre W
  y : W.heap[Y]? = some (.cells #[.func (.yield lp) #[] #[]] 46 (0, 0))
  b : Boxed W b2 22 (.slice a N c)
  row : W.ownsRow 0 TI 1 (.slice a N c) N (l.map iv)
set_option maxRecDepth 100000 in
set_option maxHeartbeats 4000000 in
theorem back_tells (n b : Nat) (hn : 3 ≤ n) {w : World} {v : Value} {l : List Int} (hb : Boxed w b 23 v) (h : RdQ w v l) :
    TellsX Fence.wide n Try.prog 27 #[.pointer (some ⟨b, 0, none⟩)] encI OkT KpT (fun _ _ => True) (bk l) w := by
  intro lp J Jx W hW hJ hJx _ _ hY hOk
  show CallsIn Fence.wide n Try.prog 27 #[.func (.yield lp) #[] #[], .pointer (some ⟨b, 0, none⟩)] W (PartPost J Jx (bk l))
  have h1 : 1 ≤ n := by omega
  obtain ⟨w0, hw0⟩ : ∃ w0, w0 = W.alloc (.cells #[.func (.yield lp) #[] #[]] 46) := ⟨_, rfl⟩
  have hb0 : Below W.heap.size W w0 := by rw [hw0]; exact (Below.refl _ _).alloc (Nat.le_refl _) _
  have hbw : Below w.heap.size w w0 := hW.trans (hb0.mono hW.size)
  have d0 : w0.cell? ⟨b, 0, none⟩ = some v := Boxed.cell ((hbw.block b hb.lt).trans hb)
  have hy0 : w0.heap[W.heap.size]? = some (.cells #[.func (.yield lp) #[] #[]] 46 (0, 0)) := by rw [hw0]; exact heap_alloc_new _ _
  have HROWC := hid (row_any (h.no (Fr.of_below hbw)))
  have h8 := h.ln
  obtain ⟨N, hN⟩ : ∃ N, N = l.length := ⟨_, rfl⟩
  rw [← hN] at h8
  have hsz0 : w0.heap.size = W.heap.size + 1 := by rw [hw0]; simp
  obtain ⟨Y, hYe⟩ : ∃ Y, Y = W.heap.size := ⟨_, rfl⟩
  have HN := hid hN
  have HY := hid hY
  have HJ := hid hJ
  have HJX := hid hJx
  have HOK := hid hOk
  have HW0 := hid hw0
  have HB0 := hid hb0
  have HY0 := hid hy0
  have HZ0 := hid hsz0
  have HYE := hid hYe
  clear hY hJ hJx hOk h hb hW hN hw0 hb0 hbw hy0 hsz0 hYe
  refine callsIn_of_wp_marks Try.func27 rfl trivial ?_ rfl
  simp only [Try.ntmps27, List.size_toArray, List.length_cons, List.length_nil, Nat.reduceAdd, Nat.reduceSub, Array.replicate_succ, Array.replicate_zero, List.push_toArray, List.append_toArray, List.nil_append, List.cons_append]
  gi_upto_region 1 with (fail)
  rw [← HW0.out, ← HYE.out]
  gi_wp2_with fail
  refine ⟨trivial, (callsIn_wide.2 HROWC.out).mono ?_⟩
  rintro e w1 ⟨v1, rfl, hrow, hbl⟩
  rw [← HN.out] at hrow
  obtain ⟨ra, rc, rfl⟩ := own_form hrow
  have HR1 := hid hrow
  have HB1 := hid hbl
  clear hrow hbl HROWC
  gi_wp2_with fail
  refine ⟨trivial, (callsIn_wide.2 (Backward_any _ _ _ _)).mono ?_⟩
  rintro e w2 ⟨rfl, hw2⟩
  obtain ⟨b2, hb2⟩ : ∃ b2, b2 = w1.heap.size := ⟨_, rfl⟩
  rw [← hb2]
  have hbel2 : Below w0.heap.size w0 w2 := HB1.out.trans (by rw [hw2]; exact (Below.refl _ _).alloc HB1.out.size _)
  have hbox : Boxed w2 b2 22 (.slice ra N rc) := by rw [hw2, hb2]; exact Boxed.new _ _ _
  have hrow2 : w2.ownsRow w0.heap.size TI 1 (.slice ra N rc) N (l.map iv) := by rw [hw2]; exact HR1.out.alloc _
  obtain ⟨t, ht⟩ : ∃ t : Nat → Prop, t = fun k => (Value.slice ra N rc).ownBlock = some k ∨ k = b2 ∨ k = Y := ⟨_, rfl⟩
  have hWl : Below W.heap.size W w2 := HB0.out.trans (hbel2.mono HB0.out.size)
  have hsz2 : w2.heap.size = b2 + 1 := by rw [hw2, hb2]; simp
  have hOk1 : OkT t W w2 := ⟨hWl, fun k hk => by
    rw [ht] at hk
    have := HZ0.out
    rcases hk with e | e | e
    · have := hrow2.lt k e; omega
    · have := HB1.out.size; omega
    · have := HB1.out.size; have := HYE.out; omega⟩
  have J0 := HOK.out t w2 hOk1
  have hI0 : BkI lp Y b2 N l ra rc (J t) [] w2 := ⟨J0, by
    have := HY0.out
    rw [← HYE.out] at this
    exact (hbel2.block Y (by have := HZ0.out; have := HYE.out; omega)).trans this, hbox, own_base (Nat.zero_le _) hrow2⟩
  have HI0 := hid hI0
  have HT := hid ht
  have HZ2 := hid hsz2
  have HOK1 := hid hOk1
  have HBEL2 := hid hbel2
  clear hw2 hb2 hbox hrow2 ht hWl hsz2 hOk1 J0 hI0 HB1 HR1 HOK hbel2
  gi_wp2
  refine rangeFunc_x rfl h1 (gf := 29) (lb := #[.pointer (some ⟨b2, 0, none⟩)]) rfl trivial (enters_of Try.func29 (by kernel_rfl) rfl)
    (backward_tells (n - 1) b2 N (w := w2) (a := ra) (c := rc) HN.out h8) (fun _ W W' e => by subst e; exact Below.refl _ _) (fun _ {A B C} _ _ => trivial) (fun _ _ _ _ _ _ _ _ _ => trivial) (fun _ => rfl)
    (fun (_ : Unit) pre Wc => BkI lp Y b2 N l ra rc (J t) pre Wc) (fun c (pre : List (Int × Nat)) Wc => c = .ret ∧ Jx pre Wc)
    ?hI ?hIx ?gd ?g0 ?h0
    (fun (_ : Unit) pre x a' Wc => BkI lp Y b2 N l ra rc (J t) pre Wc ∧ a' = { tmps := #[.func (.yield lp) #[] #[], .pointer (some ⟨b, 0, none⟩), .pointer (some ⟨Y, 0, none⟩), nI x.2, iv x.1, v, .slice ra N rc, .func (.func 29) #[] #[.pointer (some ⟨b2, 0, none⟩)], nI x.2, iv x.1, undef, undef, undef, undef, undef], defers := [] })
    ?hAx ?assign ?body ?done ?stop
  case hI =>
    intro _ pre X Z row h hg hr
    have hr' := fun r e => (hr r e).2
    exact ⟨HJ.out t _ _ _ _ h.j hg (fun r e => ⟨by have := (hr r e).1; have := HOK1.out.1.size; omega, (hr r e).2⟩), heap_kept h.y hg (not_cells h.y hr'), h.b.kept hg (not_cells h.b hr'), owns_not_cells h.row hg hr'⟩
  case hIx =>
    intro c pre X Z row h hg hr
    exact ⟨h.1, HJX.out _ _ _ _ h.2 hg (fun r e => ⟨by have := (hr r e).1; have := HOK1.out.1.size; omega, (hr r e).2⟩)⟩
  case gd => exact fun _ pre Wc h => ⟨h.b.cell, h.row⟩
  case g0 =>
    intro Wc hbc
    exact ⟨Boxed.cell (B := b2) (t := 22) ((hbc.block _ HI0.out.b.lt).trans HI0.out.b), (Fr.of_below (fp := fun _ => False) hbc).owns HI0.out.row (fun _ _ e => e)⟩
  case h0 =>
    rintro _ W1 Wc hbc _ rfl
    have h := HI0.out
    exact ⟨HJ.out t _ _ _ _ h.j (grown_of_below hbc) (fun r e => by cases e), (hbc.block _ (Array.getElem?_eq_some_iff.1 h.y).1).trans h.y, (hbc.block _ h.b.lt).trans h.b, (Fr.of_below (fp := fun _ => False) hbc).owns h.row (fun _ _ e => e)⟩
  case hAx =>
    intro _ pre x a' _ X Z row h hg hr
    have hr' := fun r e => (hr r e).2
    obtain ⟨h, e⟩ := h
    exact ⟨⟨HJ.out t _ _ _ _ h.j hg (fun r e => ⟨by have := (hr r e).1; have := HOK1.out.1.size; omega, (hr r e).2⟩), heap_kept h.y hg (not_cells h.y hr'), h.b.kept hg (not_cells h.b hr'), owns_not_cells h.row hg hr'⟩, e⟩
  case assign =>
    rintro lo _ pre x Wc K hI _ hK
    simp only [encI]
    have HKK := hid hK
    have HII := hid hI
    clear hK hI
    gi_wp2
    exact HKK.out _ _ (KeepsFrom.refl _ _) trivial ⟨HII.out, rfl⟩
  case body =>
    rintro lo _ pre x a' Wc hlo ⟨r, hr⟩ hpx ⟨H, rfl⟩
    have y0 : Wc.cell? ⟨Y, 0, none⟩ = some (.func (.yield lp) #[] #[]) := by rw [cell_of_row Wc Y 0 _ _ _ H.y]; rfl
    obtain ⟨fn, tmps, assign, body, hy, hRd⟩ := HY.out t pre x Wc H.j hpx
    simp only [encI] at hy
    have HRD := hid (roundIn_wide2 (m := n - 1 - 1 - 1) hRd)
    have HH := hid H
    clear H hlo hr hRd hpx
    gi_wp2
    refine ⟨(fun h => by cases h), (round_inR lo HRD.out).mono ?_⟩
    rintro e W6 (⟨rfl, hJ6, hk6, hf6⟩ | ⟨rfl, hJx6, hf6⟩)
    · have HJ6 := hid hJ6
      have HK6 := hid hk6
      have HF6 := hid hf6
      clear hJ6 hk6 hf6
      gi_wp2
      refine ⟨kf_up HF6.out HOK1.out.1.size, trivial, HJ6.out, ?_, ?_, ?_⟩
      · exact HK6.out _ _ _ _ (by rw [HT.out]; exact .inr (.inr rfl)) HH.out.y
      · exact HK6.out _ _ _ _ (by rw [HT.out]; exact .inr (.inl rfl)) HH.out.b
      · exact kp_row HK6.out (fun k hk => by rw [HT.out]; exact .inl hk) HH.out.row
    · have HJ6 := hid hJx6
      have HF6 := hid hf6
      clear hJx6 hf6
      gi_wp2
      exact ⟨kf_up HF6.out HOK1.out.1.size, rfl, HJ6.out⟩
  case done =>
    rintro D _ Wc hD H hK
    have HH := hid H.j
    clear H
    gi_wp2
    refine ⟨by simp, .inl ⟨_, _, rfl, run_takeDeferred hK, ?_⟩⟩
    exact ⟨_, results_none rfl _ _ _, ⟨_, rfl⟩, .inl ⟨t, (HJ.out t).putObj _ HH.out (by have := HOK1.out.1.size; omega) hK rfl⟩⟩
  case stop =>
    rintro D c pre Wc hD hp ⟨rfl, h2⟩ hK
    have HH := hid h2
    have HP := hid hp
    clear h2 hp
    gi_wp2
    refine ⟨by simp, .inl ⟨_, _, rfl, run_takeDeferred hK, ?_⟩⟩
    exact ⟨_, results_none rfl _ _ _, ⟨_, rfl⟩, .inr ⟨_, HP.out, HJX.out.putObj _ HH.out (by have := HOK1.out.1.size; omega) hK rfl⟩⟩
end Go.Proofs.Ytmkajdfajcodjab
