/-
  Take.
-/
import Derived.Test.YtmkajdfajcodjabRgB
namespace Go.Proofs.Ytmkajdfajcodjab
open Go Go.ChangeShapes Go.WideShapes Go.ChangeAt Go.RowKit

theorem mod_turn {first i m : Nat} (h1 : i + 1 < m) (h2 : first < m) : (first + (i + 1)) % m ≠ first := by
  intro h
  by_cases h3 : first + (i + 1) < m
  · rw [Nat.mod_eq_of_lt h3] at h; omega
  · rw [Nat.mod_eq_sub_mod (by omega), Nat.mod_eq_of_lt (by omega)] at h; omega
section
variable {w w' : World} {S fp : Nat → Prop} {p most m first : Nat} {cs q : List Int} {cv : Value}
theorem RgW.take {x : Int} (h : RgW w S p most m first cs (x :: q) cv) {g c : Nat} (hcv : cv = .slice (some ⟨g, 0, none⟩) m c) {f2 : Nat} (he : f2 = (first + 1) % m) {w2 : World} (hf : Fr (fun _ => False) (w.setCell ⟨g, first, none⟩ (iv 0)) w2) :
    w2.heap[p]? = some (.cells #[nI most, cv, nI first, nI (q.length + 1)] TRg (0, 0)) ∧ RgW ((w2.setCell ⟨p, 2, none⟩ (nI f2)).setCell ⟨p, 3, none⟩ (nI q.length)) S p most m f2 (cs.set first 0) q cv ∧ Fr S w ((w2.setCell ⟨p, 2, none⟩ (nI f2)).setCell ⟨p, 3, none⟩ (nI q.length)) := by
  subst hcv
  have hgp := h.ne (g := g) rfl
  have hql := h.ql
  rw [List.length_cons] at hql
  have hf1 : Fr (fun b => b = g) w (w.setCell ⟨g, first, none⟩ (iv 0)) := (Fr.refl _ _).setCell _ _ (fun _ => rfl)
  have hf2 : Fr (fun b => b = g) w w2 := hf1.trans hf (fun _ e _ => e.elim)
  have hp2 : w2.heap[p]? = some (.cells #[nI most, .slice (some ⟨g, 0, none⟩) m c, nI first, nI (q.length + 1)] TRg (0, 0)) := (hf2.block p h.lt (fun e => hgp e.symm)).trans h.hp
  have hr2 : w2.ownsRow 0 TI 1 (.slice (some ⟨g, 0, none⟩) m c) m ((cs.set first 0).map iv) := hf.owns (own_set h.row 0) (fun _ _ e => e)
  have hp3 := heap_setCell_same w2 p 2 _ _ (nI f2) hp2
  have hp4 := heap_setCell_same _ p 3 _ _ (nI q.length) hp3
  have hf3 : Fr (fun b => b = p) w2 ((w2.setCell ⟨p, 2, none⟩ (nI f2)).setCell ⟨p, 3, none⟩ (nI q.length)) := Fr.setCell (Fr.setCell (Fr.refl (fun b => b = p) w2) _ _ (fun _ => rfl)) _ _ (fun _ => rfl)
  have hfm : first < m := by rcases h.fl with ⟨e, _⟩ | e <;> omega
  refine ⟨hp2, ⟨by rw [hp4]; rfl, hf3.owns hr2 (fun k hk e => by cases hk; exact hgp e), by omega, h.ml, h.mx, .inr (by rw [he]; exact Nat.mod_lt _ (by omega)), fun i y hy => ?_, h.sp, h.sr, fun k hk => Nat.lt_of_lt_of_le (h.sl k hk) (Nat.le_trans hf2.size hf3.size)⟩, ?_⟩
  · have hil := (List.getElem?_eq_some_iff.1 hy).1
    have h1 := h.at_ (i + 1) y (by simpa using hy)
    have h2 := mod_turn (first := first) (i := i) (m := m) (by omega) hfm
    rw [he, Nat.mod_add_mod, Nat.add_assoc, Nat.add_comm 1 i, List.getElem?_set_ne (fun e => h2 e.symm)]
    exact h1
  · exact (hf2.mono (fp2 := S) (fun k hk _ => by rw [hk]; exact h.sr g rfl)).trans hf3 (fun k hk _ => by rw [hk]; exact h.sp)
theorem Take_nil (w : World) : Calls Try.prog 12 #[.pointer none] w fun e w' => e = .returned (.tuple #[.int .i64 0, .int .i64 12]) ∧ w = w' := by
  go_enter Try.func12, Try.ntmps12
  go_wp2_with (first | (go_at_call 20; refine (At_nil _ _).mono ?_; rintro e w1 ⟨rfl, rfl⟩) | fail)
  go_ret2
  exact ⟨rfl, rfl⟩
theorem Take_none (h : RgW w S p most m first cs [] cv) : Calls Try.prog 12 #[.pointer (some ⟨p, 0, none⟩)] w fun e w' => e = .returned (.tuple #[.int .i64 0, .int .i64 12]) ∧ w = w' := by
  have HA := hid (At_high h 0 (by simp))
  clear h
  go_enter Try.func12, Try.ntmps12
  go_wp2_with (first | (go_at_call 20; refine HA.out.mono ?_; rintro e w1 ⟨rfl, rfl⟩) | fail)
  go_ret2
  exact ⟨rfl, rfl⟩
set_option maxHeartbeats 4000000 in
theorem Take_some {x : Int} (h : RgW w S p most m first cs (x :: q) cv) : Calls Try.prog 12 #[.pointer (some ⟨p, 0, none⟩)] w fun e w' => e = .returned (.tuple #[iv x, .int .i64 0]) ∧ (∃ f2 cs2, RgW w' S p most m f2 cs2 q cv) ∧ Fr S w w' := by
  have HA := hid (At_some h (i := 0) (x := x) rfl)
  obtain ⟨g, c, hcv, hj, _⟩ := h.at0 (i := 0) (x := x) rfl
  have hfm : first < m := by have := h.ql; rw [List.length_cons] at this; rcases h.fl with ⟨e, _⟩ | e <;> omega
  have hml := h.ml
  obtain ⟨f2, he⟩ : ∃ f2, f2 = (first + 1) % m := ⟨_, rfl⟩
  have HE := hid he
  have hmx := h.mx
  have hql := h.ql
  rw [List.length_cons] at hql
  have HH := hid h
  have HCV := hid hcv
  have hlw := IntWalk.i64_in (q.length : Int) (by omega)
  have hls : (((q.length + 1 : Nat) : Int) - 1) = (q.length : Int) := by omega
  have HLS := hid hls
  clear h hj hcv hls he
  go_enter Try.func12, Try.ntmps12
  go_upto_region 5 with (first | (go_at_call 20; refine HA.out.mono ?_; rintro e w1 ⟨rfl, hf1⟩) | fail)
  have h1 := HH.out.no (hf1.drew)
  obtain ⟨v3, hv3⟩ : ∃ v3, v3 = w1.drew := ⟨_, rfl⟩
  have hwv : Fr (fun _ => False) w v3 := by rw [hv3]; exact hf1.drew
  rw [← hv3] at h1
  have hp1 := (HH.out.no hf1).c1
  have hp2 := (HH.out.no hf1).c2
  rw [HCV.out] at hp1
  have hp1v : v3.cell? ⟨p, 1, none⟩ = some (.slice (some ⟨g, 0, none⟩) m c) := by rw [hv3]; exact hp1
  have hp2v : v3.cell? ⟨p, 2, none⟩ = some (nI first) := by rw [hv3]; exact hp2
  have hrow := h1.row
  rw [HCV.out] at hrow
  have z1 : v3.frozen? ⟨g, first, none⟩ = false ∧ ∃ u, v3.cell? ⟨g, first, none⟩ = some u := by
    rcases hrow.2 with ⟨h2, _⟩ | ⟨g', cap, cur, h2, _, h3, _⟩
    · cases h2
    · cases h2
      refine ⟨frozen_of_row _ _ _ _ _ h3, ?_⟩
      rw [hrow.cellAt first (by omega)]
      exact ⟨_, List.getElem?_eq_getElem (by have := hrow.1; omega)⟩
  obtain ⟨z1, u0, z2⟩ := z1
  have HH1 := hid h1
  have HWV := hid hwv
  have HV3 := hid hv3
  have HF1 := hid hf1
  clear h1 hwv hv3 hf1 HH hrow
  refine D.wp_region_mix [0, 0, 0, 1, 0, 0, 0, 1, 0, 0, 3] (fun W => W.cell? ⟨p, 1, none⟩ = some (.slice (some ⟨g, 0, none⟩) m c) ∧ W.cell? ⟨p, 2, none⟩ = some (nI first)) (by kernel_rfl) (by kernel_rfl) (by exact ⟨hp1, hp2⟩) ?_
  rw [← HV3.out]
  repeat (first
    | (refine' C.wpMix_value _ rfl rfl _ _; rotate_left; (solve | (intro W; go_simp) | (intro W; go_simp; with_reducible rfl)); simp only [Act.put, List.setIfInBounds_toArray, List.set_cons_zero, List.set_cons_succ])
    | (refine' C.wpMix_read _ rfl rfl _ _; rotate_left; (solve | (rintro W ⟨h1, h2⟩; go_simp) | (rintro W ⟨h1, h2⟩; go_simp; with_reducible rfl)); simp only [Act.put, List.setIfInBounds_toArray, List.set_cons_zero, List.set_cons_succ]))
  refine C.wpMix_skip (v3.setCell ⟨g, first, none⟩ (iv 0)) (by decide) rfl (by go_simp) (fun h => by cases h) ?_
  simp only [Act.put]
  refine C.wpMix_end ?_
  clear hp1 hp2
  obtain ⟨v4, hv4⟩ : ∃ v4, v4 = v3.setCell ⟨g, first, none⟩ (iv 0) := ⟨_, rfl⟩
  have hgp := HH1.out.ne (g := g) (by rw [HCV.out]; rfl)
  have hf4 : Fr (fun b => b = g) v3 v4 := by rw [hv4]; exact (Fr.refl _ _).setCell _ _ (fun _ => rfl)
  have hp1 : v4.cell? ⟨p, 1, none⟩ = some (.slice (some ⟨g, 0, none⟩) m c) := (World.cell?_of_block (w := v3) (w' := v4) (a := ⟨p, 1, none⟩) (hf4.block p HH1.out.lt (fun e => hgp e.symm))).trans hp1v
  have hp2 : v4.cell? ⟨p, 2, none⟩ = some (nI first) := (World.cell?_of_block (w := v3) (w' := v4) (a := ⟨p, 2, none⟩) (hf4.block p HH1.out.lt (fun e => hgp e.symm))).trans hp2v
  have hc := cell_raw 1 (by omega) hfm (by omega) hp1 hp2
  rw [← HE.out] at hc
  have HC := hid hc
  have HV4 := hid hv4
  rw [← HV4.out]
  clear hp1 hp2 hp1v hp2v hgp hf4 hv4 z1 z2 hc
  go_upto_region 6 with fail
  go_upto_region 7 with (first | (go_at_call 22; refine HC.out.mono ?_; rintro e w5 ⟨rfl, hf5⟩; have htk := HH1.out.take HCV.out HE.out (w2 := w5) (by rw [← HV4.out]; exact hf5); have d2 := cell_of_row w5 p 2 _ _ _ htk.1; have z2 := frozen_of_row w5 p 2 _ _ htk.1; simp only [List.getElem?_toArray, List.getElem?_cons_succ, List.getElem?_cons_zero] at d2; have HTK := hid htk; clear htk hf5) | fail)
  have hp6 := heap_setCell_same w5 p 2 _ _ (nI f2) HTK.out.1
  have d3 := cell_of_row _ p 3 _ _ _ hp6
  have z3 := frozen_of_row _ p 3 _ _ hp6
  simp only [Array.getElem?_setIfInBounds_ne, List.getElem?_toArray, List.getElem?_cons_succ, List.getElem?_cons_zero, ne_eq, Nat.reduceEqDiff, not_false_eq_true] at d3
  obtain ⟨w6, hw6⟩ : ∃ w6, w6 = w5.setCell ⟨p, 2, none⟩ (nI f2) := ⟨_, rfl⟩
  have HW6 := hid hw6
  rw [← hw6] at d3 z3 ⊢
  clear d2 z2 hp6 hw6
  go_wp2_with fail
  go_ret2
  have htk := HTK.out
  rw [← HW6.out] at htk
  exact ⟨rfl, ⟨f2, _, htk.2.1⟩, (HWV.out.mono (fun k e _ => e.elim)).trans htk.2.2 (fun k hk _ => hk)⟩
end
end Go.Proofs.Ytmkajdfajcodjab
