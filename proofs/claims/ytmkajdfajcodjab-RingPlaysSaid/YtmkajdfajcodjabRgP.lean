/-
  Put.
-/
import Derived.Test.YtmkajdfajcodjabRgG
namespace Go.Proofs.Ytmkajdfajcodjab
open Go Go.ChangeShapes Go.WideShapes Go.ChangeAt Go.RowKit

theorem mod_apart {first i k m : Nat} (h1 : i < m) (h2 : k < m) (h3 : first < m) (h : (first + i) % m = (first + k) % m) : i = k := by
  have e : ∀ j, j < m → (first + j) % m = if first + j < m then first + j else first + j - m := fun j hj => by
    by_cases h4 : first + j < m
    · rw [if_pos h4, Nat.mod_eq_of_lt h4]
    · rw [if_neg h4, Nat.mod_eq_sub_mod (by omega), Nat.mod_eq_of_lt (by omega)]
  rw [e i h1, e k h2] at h
  split at h <;> split at h <;> omega
section
variable {w w' : World} {S fp : Nat → Prop} {p most m first : Nat} {cs q : List Int} {cv : Value}
theorem RgW.put (h : RgW w S p most m first cs q cv) {g c : Nat} (hcv : cv = .slice (some ⟨g, 0, none⟩) m c) (hq : q.length < m) {j : Nat} (he : j = (first + q.length) % m) (x : Int) :
    (w.setCell ⟨g, j, none⟩ (iv x)).heap[p]? = some (.cells #[nI most, cv, nI first, nI q.length] TRg (0, 0)) ∧ RgW ((w.setCell ⟨g, j, none⟩ (iv x)).setCell ⟨p, 3, none⟩ (nI (q.length + 1))) S p most m first (cs.set j x) (q ++ [x]) cv ∧ Fr S w ((w.setCell ⟨g, j, none⟩ (iv x)).setCell ⟨p, 3, none⟩ (nI (q.length + 1))) := by
  subst hcv
  have hgp := h.ne (g := g) rfl
  have hfm : first < m := by rcases h.fl with ⟨e, _⟩ | e <;> omega
  have hj : j < m := by rw [he]; exact Nat.mod_lt _ (by omega)
  have hf1 : Fr (fun b => b = g) w (w.setCell ⟨g, j, none⟩ (iv x)) := (Fr.refl _ _).setCell _ _ (fun _ => rfl)
  have hp1 : (w.setCell ⟨g, j, none⟩ (iv x)).heap[p]? = some (.cells #[nI most, .slice (some ⟨g, 0, none⟩) m c, nI first, nI q.length] TRg (0, 0)) := (hf1.block p h.lt (fun e => hgp e.symm)).trans h.hp
  have hr1 := own_set (i := j) h.row x
  have hp2 := heap_setCell_same _ p 3 _ _ (nI (q.length + 1)) hp1
  have hf2 : Fr (fun b => b = p) (w.setCell ⟨g, j, none⟩ (iv x)) ((w.setCell ⟨g, j, none⟩ (iv x)).setCell ⟨p, 3, none⟩ (nI (q.length + 1))) := (Fr.refl _ _).setCell _ _ (fun _ => rfl)
  refine ⟨hp1, ⟨by rw [hp2, List.length_append]; rfl, hf2.owns hr1 (fun k hk e => by cases hk; exact hgp e), by rw [List.length_append, List.length_singleton]; omega, h.ml, h.mx, .inr hfm, fun i y hy => ?_, h.sp, h.sr, fun k hk => Nat.lt_of_lt_of_le (h.sl k hk) (Nat.le_trans hf1.size hf2.size)⟩, ?_⟩
  · by_cases hi : i < q.length
    · rw [List.getElem?_append_left hi] at hy
      rw [List.getElem?_set_ne (fun e => by have := mod_apart (i := i) (k := q.length) (m := m) (first := first) (by omega) hq hfm (by rw [← he]; exact e.symm); omega)]
      exact h.at_ i y hy
    · have hil := (List.getElem?_eq_some_iff.1 hy).1
      rw [List.length_append, List.length_singleton] at hil
      obtain rfl : i = q.length := by omega
      rw [List.getElem?_append_right (Nat.le_refl _), Nat.sub_self] at hy
      simp at hy
      subst hy
      rw [← he, List.getElem?_set_self (by rw [h.cl]; exact hj)]
  · exact (hf1.mono (fp2 := S) (fun k hk _ => by rw [hk]; exact h.sr g rfl)).trans hf2 (fun k hk _ => by rw [hk]; exact h.sp)
theorem Put_nil (w : World) (x : Int) : Calls Try.prog 10 #[.pointer none, iv x] w fun e w' => e = .returned (.int .i64 3) ∧ Fr (fun _ => False) w w' := by
  go_enter Try.func10, Try.ntmps10
  go_upto_region 1 with fail
  go_quiet (fail)
  go_wp2
  go_ret
  exact ⟨rfl, (Fr.refl _ _).drewN _⟩
theorem Put_full (h : RgW w S p most m first cs q cv) (hq : q.length = most) (x : Int) : Calls Try.prog 10 #[.pointer (some ⟨p, 0, none⟩), iv x] w fun e w' => e = .returned (.int .i64 3) ∧ Fr (fun _ => False) w w' := by
  have c0 := h.c0
  have c3 := h.c3
  rw [hq] at c3
  clear h hq
  go_enter Try.func10, Try.ntmps10
  go_upto_region 1 with fail
  go_quiet (fail)
  go_wp2
  go_ret
  exact ⟨rfl, (Fr.refl _ _).drewN _⟩
def PutPost (w : World) (S : Nat → Prop) (p most : Nat) (q : List Int) (e : Ending) (w' : World) : Prop :=
  e = .returned (.int .i64 0) ∧ (∃ m f2 cs2 cv2, RgW w' (exS S w w') p most m f2 cs2 q cv2) ∧ Fr S w w'
theorem RgW.mono {S' : Nat → Prop} (h : RgW w S p most m first cs q cv) (hS : ∀ k, S k → S' k) (hl : ∀ k, S' k → k < w.heap.size) : RgW w S' p most m first cs q cv :=
  ⟨h.hp, h.row, h.ql, h.ml, h.mx, h.fl, h.at_, hS p h.sp, fun k hk => hS k (h.sr k hk), hl⟩
set_option maxHeartbeats 4000000 in
theorem Put_in (h : RgW w S p most m first cs q cv) (hq : q.length < m) (x : Int) : Calls Try.prog 10 #[.pointer (some ⟨p, 0, none⟩), iv x] w (PutPost w S p most (q ++ [x])) := by
  have c0 := h.c0
  have c3 := h.c3
  have c1 := h.c1
  obtain ⟨g, c, hcv, -⟩ := h.row.form (by omega)
  rw [hcv] at c1
  have hml := h.ml
  have hne1 : ¬ q.length = most := by omega
  have hne2 : ¬ q.length = m := by omega
  have HH := hid h
  have HQ := hid hq
  have HC := hid hcv
  clear h hq hcv hml
  go_enter Try.func10, Try.ntmps10
  go_upto_region 1 with fail
  go_quiet (fail)
  go_upto_region 3 with fail
  go_quiet (fail)
  go_upto_region 5 with fail
  rename_i n1 _ _ _ _
  obtain ⟨v5, hv5⟩ : ∃ v5, v5 = (w.drewN n1).drewN nq := ⟨_, rfl⟩
  have hfw : Fr (fun _ => False) w v5 := by rw [hv5]; exact ((Fr.refl _ _).drewN _).drewN _
  rw [← hv5]
  obtain ⟨m5, rfl⟩ : ∃ m5, m5 = m := ⟨_, rfl⟩
  obtain ⟨f5, rfl⟩ : ∃ f5, f5 = first := ⟨_, rfl⟩
  obtain ⟨g5, rfl⟩ : ∃ g5, g5 = g := ⟨_, rfl⟩
  obtain ⟨k5, rfl⟩ : ∃ k5, k5 = c := ⟨_, rfl⟩
  obtain ⟨S5, hS5⟩ : ∃ S5, S5 = S := ⟨_, rfl⟩
  have HH5 : RowKit.Hid (RgW v5 S5 p most m5 f5 cs q cv) := by rw [hS5]; exact HH.out.no hfw
  have HCV : RowKit.Hid (cv = .slice (some ⟨g5, 0, none⟩) m5 k5) := HC
  have HFW : RowKit.Hid (Fr S w v5) := hfw.mono (fun _ e _ => e.elim)
  have HS5 : RowKit.Hid (∀ k, S5 k → k < w.heap.size → S k) := fun k hk _ => by rw [hS5] at hk; exact hk
  have HSL : RowKit.Hid (∀ k, S k → k < w.heap.size) := HH.out.sl
  have hq5 : q.length < m5 := HQ.out
  have HQ5 := hid hq5
  clear hv5 hfw hS5 HH HQ HC c0 c1 c3 hne1 hne2
  have c1 := HH5.out.c1
  have c3 := HH5.out.c3
  rw [HCV.out] at c1
  have hml := HH5.out.ml
  have hmx := HH5.out.mx
  have hfm : f5 < m5 := by rcases HH5.out.fl with ⟨e, _⟩ | e <;> omega
  obtain ⟨N, hN⟩ : ∃ N, N = q.length := ⟨_, rfl⟩
  rw [← hN] at c3 hq5
  obtain ⟨j, hj⟩ : ∃ j, j = (f5 + N) % m5 := ⟨_, rfl⟩
  have hC := cell_raw (w := v5.drew) N (by omega) hfm (by omega) c1 HH5.out.c2
  rw [← hj] at hC
  have hjl : j < m5 := by rw [hj]; exact Nat.mod_lt _ (by omega)
  have HC := hid hC
  have HJ := hid hj
  have HN := hid hN
  have hwN := IntWalk.i64_in ((N : Int) + 1) (by omega)
  clear hC hj hN hml hmx hfm hq5
  refine D.wp_region_mix [0, 0, 0, 1, 0, 0, 0, 0, 1, 2, 0, 0, 3] (fun W => W.cell? ⟨p, 1, none⟩ = some (.slice (some ⟨g5, 0, none⟩) m5 k5) ∧ W.cell? ⟨p, 3, none⟩ = some (nI N)) (by kernel_rfl) (by kernel_rfl) (by exact ⟨c1, c3⟩) ?_
  repeat (first
    | (refine' C.wpMix_value _ rfl rfl _ _; rotate_left; (solve | (intro W; go_simp) | (intro W; go_simp; with_reducible rfl)); simp only [Act.put, List.setIfInBounds_toArray, List.set_cons_zero, List.set_cons_succ])
    | (refine' C.wpMix_read _ rfl rfl _ _; rotate_left; (solve | (rintro W ⟨h1, h2⟩; go_simp) | (rintro W ⟨h1, h2⟩; go_simp; with_reducible rfl)); simp only [Act.put, List.setIfInBounds_toArray, List.set_cons_zero, List.set_cons_succ]))
  refine C.wpMix_call 22 #[.pointer (some ⟨p, 0, none⟩), nI N] (by decide) rfl (by go_simp) ?_
  refine HC.out.mono ?_
  rintro e w6 ⟨rfl, hf6⟩
  have hf56 : Fr (fun _ => False) v5 w6 := ((Fr.refl _ _).drew).trans hf6 (fun _ e _ => e)
  have h6 := HH5.out.no hf56
  have c16 := h6.c1
  rw [HCV.out] at c16
  have hrow := h6.row
  rw [HCV.out] at hrow
  refine ⟨_, rfl, fun _ => ⟨c16, by rw [HN.out]; exact h6.c3⟩, ?_⟩
  simp only [Act.put, List.setIfInBounds_toArray, List.set_cons_zero, List.set_cons_succ]
  have z1 : w6.frozen? ⟨g5, j, none⟩ = false ∧ ∃ u, w6.cell? ⟨g5, j, none⟩ = some u := by
    rcases hrow.2 with ⟨h2, _⟩ | ⟨g', cap, cur, h2, _, h3, _⟩
    · cases h2
    · cases h2
      refine ⟨frozen_of_row _ _ _ _ _ h3, ?_⟩
      rw [hrow.cellAt j (by omega)]
      exact ⟨_, List.getElem?_eq_getElem (by have := hrow.1; omega)⟩
  obtain ⟨z1, u0, z2⟩ := z1
  have hput := h6.put HCV.out HQ5.out (j := j) (by rw [← HN.out]; exact HJ.out) x
  have HPUT := hid hput
  have HF56 := hid hf56
  clear hrow h6 c16 hput hf56 hf6
  repeat (first
    | (refine' C.wpMix_value _ rfl rfl _ _; rotate_left; (solve | (intro W; go_simp) | (intro W; go_simp; with_reducible rfl)); simp only [Act.put, List.setIfInBounds_toArray, List.set_cons_zero, List.set_cons_succ])
    | (refine' C.wpMix_read _ rfl rfl _ _; rotate_left; (solve | (rintro W ⟨h1, h2⟩; go_simp) | (rintro W ⟨h1, h2⟩; go_simp; with_reducible rfl)); simp only [Act.put, List.setIfInBounds_toArray, List.set_cons_zero, List.set_cons_succ]))
  refine C.wpMix_skip (w6.setCell ⟨g5, j, none⟩ (iv x)) (by decide) rfl (by go_simp) (fun h => by cases h) ?_
  simp only [Act.put]
  refine C.wpMix_end ?_
  obtain ⟨v7, hv7⟩ : ∃ v7, v7 = w6.setCell ⟨g5, j, none⟩ (iv x) := ⟨_, rfl⟩
  have hp7 := HPUT.out.1
  rw [← hv7] at hp7 ⊢
  have d7 := cell_of_row v7 p 3 _ _ _ hp7
  have z7 := frozen_of_row v7 p 3 _ _ hp7
  simp only [List.getElem?_toArray, List.getElem?_cons_succ, List.getElem?_cons_zero] at d7
  rw [← HN.out] at d7
  have HV7 := hid hv7
  clear hp7 hv7 z1 z2 c1 c3
  go_wp2
  go_ret
  have hpo := HPUT.out.2
  rw [← HV7.out] at hpo
  have hcast : (Value.int .i64 ((N : Int) + 1)) = nI (q.length + 1) := by rw [HN.out]; rfl
  rw [hcast]
  have hfin : Fr S w (v7.setCell ⟨p, 3, none⟩ (nI (q.length + 1))) := HFW.out.trans ((HF56.out.mono (fp2 := S5) (fun k e _ => e.elim)).trans hpo.2 (fun k hk _ => hk)) (fun k hk hl => HS5.out k hk hl)
  refine ⟨rfl, ⟨m5, f5, _, _, hpo.1.mono (fun k hk => ?_) (fun k hk => ?_)⟩, hfin⟩
  · by_cases hl : k < w.heap.size
    · exact .inl (HS5.out k hk hl)
    · exact .inr ⟨by omega, hpo.1.sl k hk⟩
  · rcases hk with e | e
    · exact Nat.lt_of_lt_of_le (HSL.out k e) hfin.size
    · exact e.2
set_option maxHeartbeats 4000000 in
theorem Put_grow (h : RgW w S p most m first cs q cv) (hq : q.length = m) (hm : m < most) (x : Int) : Calls Try.prog 10 #[.pointer (some ⟨p, 0, none⟩), iv x] w (PutPost w S p most (q ++ [x])) := by
  have c0 := h.c0
  have c3 := h.c3
  have c1 := h.c1
  obtain ⟨a, c, hcv⟩ := own_form h.row
  rw [hcv] at c1
  rw [hq] at c3
  have hne1 : ¬ m = most := by omega
  have HH := hid h
  have HQ := hid hq
  have HM := hid hm
  clear h hq hcv hm
  go_enter Try.func10, Try.ntmps10
  go_upto_region 1 with fail
  go_quiet (fail)
  go_upto_region 3 with fail
  go_quiet (fail)
  go_upto_region 4 with fail
  rename_i n1 _ _ _
  obtain ⟨v4, hv4⟩ : ∃ v4, v4 = (w.drewN n1).drewN nq := ⟨_, rfl⟩
  have hfw : Fr (fun _ => False) w v4 := by rw [hv4]; exact ((Fr.refl _ _).drewN _).drewN _
  have hs4 : v4.heap.size = w.heap.size := by rw [hv4]; rfl
  rw [← hv4]
  have HG := hid (grow_any (HH.out.no hfw) HQ.out HM.out)
  have HFW4 := hid hfw
  have HS4 := hid hs4
  clear hv4 hfw hs4 c0 c1 c3 hne1
  go_upto_region 5 with (first | (go_at_call 21; refine HG.out.mono ?_; rintro e v5 ⟨⟨u, rfl⟩, cs5, cv5, m5, hm5, h5, hf5⟩) | fail)
  obtain ⟨f5, hf50⟩ : ∃ f5, f5 = 0 := ⟨_, rfl⟩
  rw [← hf50] at h5
  obtain ⟨g5, k5, hcv5, _⟩ := h5.row.form (by omega)
  obtain ⟨S5, hS5⟩ : ∃ S5, S5 = exS S v4 v5 := ⟨_, rfl⟩
  rw [← hS5] at h5
  have HH5 := hid h5
  have HCV := hid hcv5
  have HFW : RowKit.Hid (Fr S w v5) := (HFW4.out.mono (fp2 := S) (fun _ e _ => e.elim)).trans hf5 (fun k hk _ => hk)
  have HS5 : RowKit.Hid (∀ k, S5 k → k < w.heap.size → S k) := fun k hk hl => by
    rw [hS5] at hk
    rcases hk with e | e
    · exact e
    · have := HS4.out; omega
  have HSL : RowKit.Hid (∀ k, S k → k < w.heap.size) := HH.out.sl
  have hq5 : q.length < m5 := by rw [HQ.out]; exact hm5
  have HQ5 := hid hq5
  clear h5 hf5 hcv5 hS5 HH HQ hm5 hf50 HG HFW4 HS4
  have c1 := HH5.out.c1
  have c3 := HH5.out.c3
  rw [HCV.out] at c1
  have hml := HH5.out.ml
  have hmx := HH5.out.mx
  have hfm : f5 < m5 := by rcases HH5.out.fl with ⟨e, _⟩ | e <;> omega
  obtain ⟨N, hN⟩ : ∃ N, N = q.length := ⟨_, rfl⟩
  rw [← hN] at c3 hq5
  obtain ⟨j, hj⟩ : ∃ j, j = (f5 + N) % m5 := ⟨_, rfl⟩
  have hC := cell_raw (w := v5.drew) N (by omega) hfm (by omega) c1 HH5.out.c2
  rw [← hj] at hC
  have hjl : j < m5 := by rw [hj]; exact Nat.mod_lt _ (by omega)
  have HC := hid hC
  have HJ := hid hj
  have HN := hid hN
  have hwN := IntWalk.i64_in ((N : Int) + 1) (by omega)
  clear hC hj hN hml hmx hfm hq5
  refine D.wp_region_mix [0, 0, 0, 1, 0, 0, 0, 0, 1, 2, 0, 0, 3] (fun W => W.cell? ⟨p, 1, none⟩ = some (.slice (some ⟨g5, 0, none⟩) m5 k5) ∧ W.cell? ⟨p, 3, none⟩ = some (nI N)) (by kernel_rfl) (by kernel_rfl) (by exact ⟨c1, c3⟩) ?_
  repeat (first
    | (refine' C.wpMix_value _ rfl rfl _ _; rotate_left; (solve | (intro W; go_simp) | (intro W; go_simp; with_reducible rfl)); simp only [Act.put, List.setIfInBounds_toArray, List.set_cons_zero, List.set_cons_succ])
    | (refine' C.wpMix_read _ rfl rfl _ _; rotate_left; (solve | (rintro W ⟨h1, h2⟩; go_simp) | (rintro W ⟨h1, h2⟩; go_simp; with_reducible rfl)); simp only [Act.put, List.setIfInBounds_toArray, List.set_cons_zero, List.set_cons_succ]))
  refine C.wpMix_call 22 #[.pointer (some ⟨p, 0, none⟩), nI N] (by decide) rfl (by go_simp) ?_
  refine HC.out.mono ?_
  rintro e w6 ⟨rfl, hf6⟩
  have hf56 : Fr (fun _ => False) v5 w6 := ((Fr.refl _ _).drew).trans hf6 (fun _ e _ => e)
  have h6 := HH5.out.no hf56
  have c16 := h6.c1
  rw [HCV.out] at c16
  have hrow := h6.row
  rw [HCV.out] at hrow
  refine ⟨_, rfl, fun _ => ⟨c16, by rw [HN.out]; exact h6.c3⟩, ?_⟩
  simp only [Act.put, List.setIfInBounds_toArray, List.set_cons_zero, List.set_cons_succ]
  have z1 : w6.frozen? ⟨g5, j, none⟩ = false ∧ ∃ u, w6.cell? ⟨g5, j, none⟩ = some u := by
    rcases hrow.2 with ⟨h2, _⟩ | ⟨g', cap, cur, h2, _, h3, _⟩
    · cases h2
    · cases h2
      refine ⟨frozen_of_row _ _ _ _ _ h3, ?_⟩
      rw [hrow.cellAt j (by omega)]
      exact ⟨_, List.getElem?_eq_getElem (by have := hrow.1; omega)⟩
  obtain ⟨z1, u0, z2⟩ := z1
  have hput := h6.put HCV.out HQ5.out (j := j) (by rw [← HN.out]; exact HJ.out) x
  have HPUT := hid hput
  have HF56 := hid hf56
  clear hrow h6 c16 hput hf56 hf6
  repeat (first
    | (refine' C.wpMix_value _ rfl rfl _ _; rotate_left; (solve | (intro W; go_simp) | (intro W; go_simp; with_reducible rfl)); simp only [Act.put, List.setIfInBounds_toArray, List.set_cons_zero, List.set_cons_succ])
    | (refine' C.wpMix_read _ rfl rfl _ _; rotate_left; (solve | (rintro W ⟨h1, h2⟩; go_simp) | (rintro W ⟨h1, h2⟩; go_simp; with_reducible rfl)); simp only [Act.put, List.setIfInBounds_toArray, List.set_cons_zero, List.set_cons_succ]))
  refine C.wpMix_skip (w6.setCell ⟨g5, j, none⟩ (iv x)) (by decide) rfl (by go_simp) (fun h => by cases h) ?_
  simp only [Act.put]
  refine C.wpMix_end ?_
  obtain ⟨v7, hv7⟩ : ∃ v7, v7 = w6.setCell ⟨g5, j, none⟩ (iv x) := ⟨_, rfl⟩
  have hp7 := HPUT.out.1
  rw [← hv7] at hp7 ⊢
  have d7 := cell_of_row v7 p 3 _ _ _ hp7
  have z7 := frozen_of_row v7 p 3 _ _ hp7
  simp only [List.getElem?_toArray, List.getElem?_cons_succ, List.getElem?_cons_zero] at d7
  rw [← HN.out] at d7
  have HV7 := hid hv7
  clear hp7 hv7 z1 z2 c1 c3
  go_wp2
  go_ret
  have hpo := HPUT.out.2
  rw [← HV7.out] at hpo
  have hcast : (Value.int .i64 ((N : Int) + 1)) = nI (q.length + 1) := by rw [HN.out]; rfl
  rw [hcast]
  have hfin : Fr S w (v7.setCell ⟨p, 3, none⟩ (nI (q.length + 1))) := HFW.out.trans ((HF56.out.mono (fp2 := S5) (fun k e _ => e.elim)).trans hpo.2 (fun k hk _ => hk)) (fun k hk hl => HS5.out k hk hl)
  refine ⟨rfl, ⟨m5, f5, _, _, hpo.1.mono (fun k hk => ?_) (fun k hk => ?_)⟩, hfin⟩
  · by_cases hl : k < w.heap.size
    · exact .inl (HS5.out k hk hl)
    · exact .inr ⟨by omega, hpo.1.sl k hk⟩
  · rcases hk with e | e
    · exact Nat.lt_of_lt_of_le (HSL.out k e) hfin.size
    · exact e.2
end
/-- Put, whatever there is. -/
theorem RgIn.put {S : Nat → Prop} {w : World} {v : Value} {most : Nat} {q : List Int} (h : RgIn S w v most q) (x : Int) : Calls Try.prog 10 #[v, iv x] w fun e w' =>
    e = .returned (.int .i64 (if q.length < most then 0 else 3)) ∧ RgIn (exS S w w') w' v most (if q.length < most then q ++ [x] else q) ∧ Fr S w w' := by
  obtain ⟨p, m, first, cs, cv, rfl, h1⟩ := h
  have hql := h1.ql
  have hml := h1.ml
  by_cases hlt : q.length < most
  · simp only [if_pos hlt]
    by_cases hm : q.length = m
    · refine (Put_grow h1 hm (by omega) x).mono ?_
      rintro e w' ⟨he, ⟨m, f2, cs2, cv2, h2⟩, h3⟩
      exact ⟨he, ⟨p, m, f2, cs2, cv2, rfl, h2⟩, h3⟩
    · refine (Put_in h1 (by omega) x).mono ?_
      rintro e w' ⟨he, ⟨m, f2, cs2, cv2, h2⟩, h3⟩
      exact ⟨he, ⟨p, m, f2, cs2, cv2, rfl, h2⟩, h3⟩
  · simp only [if_neg hlt]
    refine (Put_full h1 (by omega) x).mono ?_
    rintro e w' ⟨he, h3⟩
    exact ⟨he, ⟨p, m, first, cs, cv, rfl, (h1.no h3).mono (fun k hk => .inl hk) (fun k hk => by
      rcases hk with e | e
      · exact Nat.lt_of_lt_of_le (h1.sl k e) h3.size
      · exact e.2)⟩, h3.mono (fun _ e _ => e.elim)⟩
/-- Take, whatever there is. -/
theorem RgIn.take {S : Nat → Prop} {w : World} {v : Value} {most : Nat} {q : List Int} (h : RgIn S w v most q) : Calls Try.prog 12 #[v] w fun e w' =>
    e = .returned (.tuple #[iv (q.headD 0), .int .i64 (if q = [] then 12 else 0)]) ∧ RgIn (exS S w w') w' v most q.tail ∧ Fr S w w' := by
  obtain ⟨p, m, first, cs, cv, rfl, h1⟩ := h
  have hex : ∀ {w' : World} {m2 f2 : Nat} {cs2 : List Int} {cv2 : Value} {q2 : List Int}, RgW w' S p most m2 f2 cs2 q2 cv2 → Fr S w w' → RgIn (exS S w w') w' (.pointer (some ⟨p, 0, none⟩)) most q2 := fun h2 h3 =>
    ⟨p, _, _, _, _, rfl, h2.mono (fun k hk => .inl hk) (fun k hk => by
      rcases hk with e | e
      · exact Nat.lt_of_lt_of_le (h1.sl k e) h3.size
      · exact e.2)⟩
  cases q with
  | nil =>
    refine (Take_none h1).mono ?_
    rintro e w' ⟨he, rfl⟩
    exact ⟨he, hex h1 (Fr.refl _ _), Fr.refl _ _⟩
  | cons x q =>
    refine (Take_some h1).mono ?_
    rintro e w' ⟨he, ⟨f2, cs2, h2⟩, h3⟩
    exact ⟨he, hex h2 h3, h3⟩
end Go.Proofs.Ytmkajdfajcodjab
