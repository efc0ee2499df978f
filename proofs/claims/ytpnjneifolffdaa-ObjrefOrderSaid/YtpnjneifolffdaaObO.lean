/-
  The law of layer 7's order: what ObjrefOrder comes to.
-/
import Derived.Test.YtpnjneifolffdaaObL
import Derived.Test.YtpnjneifolffdaaObW
namespace Go.Proofs.Ytpnjneifolffdaa
open Go Go.ChangeShapes Go.WideShapes Go.ChangeAt Go.RowKit

def Tri (d e g : Int) : Prop := (d = 0 → e = 0 → g = 0) ∧ (d < 0 → e ≤ 0 → g < 0) ∧ (d ≤ 0 → e < 0 → g < 0)
theorem fst0_tri {d e g : Int} {ds es gs : List Int} (h : Tri d e g) (ih : fst0 ds = true → fst0 es = true → fst0 gs = true) : fst0 (d :: ds) = true → fst0 (e :: es) = true → fst0 (g :: gs) = true := by
  intro h1 h2
  obtain ⟨t1, t2, t3⟩ := h
  by_cases hd : d = 0
  · rw [hd, fst0_yes] at h1
    by_cases he : e = 0
    · rw [he, fst0_yes] at h2
      rw [t1 hd he, fst0_yes]; exact ih h1 h2
    · rw [fst0_no he] at h2
      have hg := t3 (by omega) (by simpa using h2)
      rw [fst0_no (by omega)]; simpa using hg
  · rw [fst0_no hd] at h1
    have hd2 : d < 0 := by simpa using h1
    have he : e ≤ 0 := by
      by_cases he : e = 0
      · omega
      · rw [fst0_no he] at h2
        have : e < 0 := by simpa using h2
        omega
    have hg := t2 hd2 he
    rw [fst0_no (by omega)]; simpa using hg
theorem cmpI_tri (a b c : Int) : Tri (cmpI a b) (cmpI b c) (cmpI a c) := by
  unfold Tri cmpI
  refine ⟨?_, ?_, ?_⟩ <;> intro h1 h2 <;> split at h1 <;> split at h2 <;> (try split at h1) <;> (try split at h2) <;> (try omega) <;> split <;> (try split) <;> omega
theorem cmpL_tri {a b c : List Int} (ha : a.length = 16) (hb : b.length = 16) (hc : c.length = 16) : Tri (cmpL a b) (cmpL b c) (cmpL a c) := by
  have hab := cmpL_eq a b (by omega)
  have hbc := cmpL_eq b c (by omega)
  have hac := cmpL_eq a c (by omega)
  have ht := cmpL_trans a b c (by omega) (by omega)
  have n1 := cmpL_neg a b
  have n2 := cmpL_neg b c
  refine ⟨fun h1 h2 => hac.2 ((hab.1 h1).trans (hbc.1 h2)), fun h1 h2 => ?_, fun h1 h2 => ?_⟩
  · have h3 := ht (by omega) h2
    by_cases h4 : cmpL a c = 0
    · have := hac.1 h4
      subst this
      omega
    · omega
  · have h3 := ht h1 (by omega)
    by_cases h4 : cmpL a c = 0
    · have := hac.1 h4
      subst this
      omega
    · omega
theorem lessO_trans {a b c : Orf} (ha : OrfOk a) (hb : OrfOk b) (hc : OrfOk c) : lessO a b = true → lessO b c = true → lessO a c = true :=
  fst0_tri (cmpI_tri _ _ _) (fst0_tri (cmpI_tri _ _ _) (fst0_tri (cmpL_tri ha.ip.len hb.ip.len hc.ip.len) (fst0_tri (cmpL_tri ha.ii.len hb.ii.len hc.ii.len) (fst0_tri (cmpI_tri _ _ _) (fst0_tri (cmpI_tri _ _ _) (fun h _ => absurd h (by simp [fst0])))))))
theorem cmpI_sym (a b : Int) : cmpI b a = - cmpI a b := by
  unfold cmpI
  split <;> split <;> (try split) <;> omega
/-- The first that isn't 0, the other way round. -/
theorem fst0_sym {d : Int} {ds es : List Int} (h : (fst0 ds = true → fst0 es = false)) : fst0 (d :: ds) = true → fst0 (-d :: es) = false := by
  intro h1
  by_cases hd : d = 0
  · rw [hd, fst0_yes] at h1
    rw [hd, Int.neg_zero, fst0_yes]; exact h h1
  · rw [fst0_no hd] at h1
    have : d < 0 := by simpa using h1
    rw [fst0_no (by omega)]
    simp; omega
theorem lessO_asym (a b : Orf) : lessO a b = true → lessO b a = false := by
  unfold lessO diffs
  rw [cmpI_sym a.ox b.ox, cmpI_sym a.oi b.oi, cmpL_neg a.ip b.ip, cmpL_neg a.ii b.ii, cmpI_sym a.fl b.fl, cmpI_sym a.rf b.rf]
  exact fst0_sym (fst0_sym (fst0_sym (fst0_sym (fst0_sym (fst0_sym (fun _ => rfl))))))
theorem lessO_irr (a : Orf) : lessO a a = false := by
  cases h : lessO a a
  · rfl
  · have := lessO_asym a a h
    rw [h] at this; cases this
theorem fst0_tot {d : Int} {ds es : List Int} (h1 : fst0 (d :: ds) = false) (h2 : fst0 (-d :: es) = false) : d = 0 ∧ fst0 ds = false ∧ fst0 es = false := by
  by_cases hd : d = 0
  · rw [hd, fst0_yes] at h1
    rw [hd, Int.neg_zero, fst0_yes] at h2
    exact ⟨hd, h1, h2⟩
  · rw [fst0_no hd] at h1
    rw [fst0_no (by omega)] at h2
    simp at h1 h2
    omega
theorem lessO_tot {a b : Orf} (ha : OrfOk a) (hb : OrfOk b) (h1 : lessO a b = false) (h2 : lessO b a = false) : a = b := by
  unfold lessO diffs at h1 h2
  rw [cmpI_sym a.ox b.ox, cmpI_sym a.oi b.oi, cmpL_neg a.ip b.ip, cmpL_neg a.ii b.ii, cmpI_sym a.fl b.fl, cmpI_sym a.rf b.rf] at h2
  obtain ⟨e1, h1, h2⟩ := fst0_tot h1 h2
  obtain ⟨e2, h1, h2⟩ := fst0_tot h1 h2
  obtain ⟨e3, h1, h2⟩ := fst0_tot h1 h2
  obtain ⟨e4, h1, h2⟩ := fst0_tot h1 h2
  obtain ⟨e5, h1, h2⟩ := fst0_tot h1 h2
  obtain ⟨e6, _, _⟩ := fst0_tot h1 h2
  have f1 := cmpI_zero.1 e1
  have f2 := cmpI_zero.1 e2
  have f3 := (cmpL_eq a.ip b.ip (by rw [ha.ip.len, hb.ip.len])).1 e3
  have f4 := (cmpL_eq a.ii b.ii (by rw [ha.ii.len, hb.ii.len])).1 e4
  have f5 := cmpI_zero.1 e5
  have f6 := cmpI_zero.1 e6
  obtain ⟨a1, a2, a3, a4, a5, a6⟩ := a
  obtain ⟨b1, b2, b3, b4, b5, b6⟩ := b
  simp only at f1 f2 f3 f4 f5 f6
  subst f1; subst f2; subst f3; subst f4; subst f5; subst f6
  rfl
theorem keeps_three (w : World) (x y z : Array Value) (t : TypeId) : Keeps w [(w.heap.size, x, t), (w.heap.size + 1, y, t), (w.heap.size + 1 + 1, z, t)] (((w.alloc (.cells x t)).alloc (.cells y t)).alloc (.cells z t)) :=
  ⟨(((Below.refl _ _).alloc (Nat.le_refl _) _).alloc (by simp) _).alloc (by simp; omega) _, fun v hv => by
    simp at hv
    rcases hv with rfl | rfl | rfl
    · exact heap_alloc3_old _ _ _ _
    · exact heap_alloc3_mid _ _ _ _
    · have := heap_alloc_new ((w.alloc (.cells x t)).alloc (.cells y t)) (.cells z t)
      simpa using this⟩
/-- What Less tells of three, all ways. -/
theorem less_ways {a b c : Orf} (ha : OrfOk a) (hb : OrfOk b) (hc : OrfOk c) :
    (lessO a b = true ∧ lessO b a = false ∧ eqO a b = false ∧ lessO b c = true ∧ lessO a c = true) ∨ (lessO a b = true ∧ lessO b a = false ∧ eqO a b = false ∧ lessO b c = false) ∨
    (lessO a b = false ∧ eqO a b = true) ∨ (lessO a b = false ∧ eqO a b = false ∧ lessO b a = true) := by
  cases h1 : lessO a b
  · by_cases he : a = b
    · exact .inr (.inr (.inl ⟨rfl, eqO_iff.2 he⟩))
    · refine .inr (.inr (.inr ⟨rfl, ?_, ?_⟩))
      · cases h : eqO a b
        · rfl
        · exact absurd (eqO_iff.1 h) he
      · cases h : lessO b a
        · exact absurd (lessO_tot ha hb h1 h) he
        · rfl
  · have h2 := lessO_asym a b h1
    have h3 : eqO a b = false := by
      cases h : eqO a b
      · rfl
      · have := eqO_iff.1 h
        subst this
        rw [lessO_irr] at h1; cases h1
    cases h4 : lessO b c
    · exact .inr (.inl ⟨rfl, h2, h3, rfl⟩)
    · exact .inl ⟨rfl, h2, h3, rfl, lessO_trans ha hb hc h1 h4⟩
set_option maxRecDepth 100000 in
set_option maxHeartbeats 8000000 in
theorem ObjrefOrder_any (a b c : Orf) (w : World) (ha : OrfOk a) (hb : OrfOk b) (hc : OrfOk c) : Calls Try.prog 6 #[.agg (orA a), .agg (orA b), .agg (orA c)] w fun e w' => e = .returned (.bool true) ∧ Below w.heap.size w w' := by
  have Ha := hid (infoO ha)
  have Hb := hid (infoO hb)
  have Hc := hid (infoO hc)
  have hq := eqObj a b ha hb
  have hg := guardO
  have HCab := hid (fun W => Less_any a b ha hb W)
  have HCba := hid (fun W => Less_any b a hb ha W)
  have HCaa := hid (fun W => Less_any a a ha ha W)
  have HCbc := hid (fun W => Less_any b c hb hc W)
  have HCac := hid (fun W => Less_any a c ha hc W)
  have HRab := hid (fun W => refLess_any a b ha hb W)
  have HAW := hid (fun W => awake_any W)
  have hw := less_ways ha hb hc
  rw [lessO_irr] at HCaa
  generalize lessO a b = lab at *
  generalize lessO b a = lba at *
  generalize lessO b c = lbc at *
  generalize lessO a c = lac at *
  generalize eqO a b = eab at *
  have Hq := hid hq
  clear ha hb hc hq
  rcases hw with ⟨rfl, rfl, rfl, rfl, rfl⟩ | ⟨rfl, rfl, rfl, rfl⟩ | ⟨rfl, rfl⟩ | ⟨rfl, rfl, rfl⟩
  all_goals
    have hq := Hq.out
    go_enter Try.func6, Try.ntmps6
    go_upto_region 1 with (fail)
    have hK : Keeps w [(w.heap.size, orA a, 27), (w.heap.size + 1, orA b, 27), (w.heap.size + 1 + 1, orA c, 27)] (((w.alloc (.cells (orA a) 27)).alloc (.cells (orA b) 27)).alloc (.cells (orA c) 27)) := keeps_three w (orA a) (orA b) (orA c) 27
    refine wp_region_sure (Keeps w [(w.heap.size, orA a, 27), (w.heap.size + 1, orA b, 27), (w.heap.size + 1 + 1, orA c, 27)]) (by kernel_rfl) (by kernel_rfl) hK.drew ?_
    clear hK
    repeat (first | (refine wpSure_not rfl ?_; simp only [Act.put, List.setIfInBounds_toArray, List.set_cons_zero, List.set_cons_succ]) | ((with_reducible refine atS ⟨_, .load 27 (.tmp 3), _, _, _, _⟩ ?_); refine wpSure_row 27 _ rfl (w.heap.size) rfl (orA a) rfl 27 (0, 0) _ (fun W hS => hS.2 (w.heap.size, orA a, 27) (by simp)) Try.underlying27 rfl Ha.out ?_; simp only [Act.put, List.setIfInBounds_toArray, List.set_cons_zero, List.set_cons_succ]) | ((with_reducible refine atS ⟨_, .load 27 (.tmp 4), _, _, _, _⟩ ?_); refine wpSure_row 27 _ rfl (w.heap.size + 1) rfl (orA b) rfl 27 (0, 0) _ (fun W hS => hS.2 (w.heap.size + 1, orA b, 27) (by simp)) Try.underlying27 rfl Hb.out ?_; simp only [Act.put, List.setIfInBounds_toArray, List.set_cons_zero, List.set_cons_succ]) | ((with_reducible refine atS ⟨_, .load 27 (.tmp 5), _, _, _, _⟩ ?_); refine wpSure_row 27 _ rfl (w.heap.size + 1 + 1) rfl (orA c) rfl 27 (0, 0) _ (fun W hS => hS.2 (w.heap.size + 1 + 1, orA c, 27) (by simp)) Try.underlying27 rfl Hc.out ?_; simp only [Act.put, List.setIfInBounds_toArray, List.set_cons_zero, List.set_cons_succ]) | ((with_reducible refine atS ⟨_, .call ⟨.value (.func 19), _, _⟩, _, _, _, _⟩ ?_); first | (refine wpSure_call _ _ _ rfl ?_ (fun W hS => hS.calls (HCaa.out W)) ?_; (solve | (intro W; go_simp)); simp only [Act.put, List.setIfInBounds_toArray, List.set_cons_zero, List.set_cons_succ]) | (refine wpSure_call _ _ _ rfl ?_ (fun W hS => hS.calls (HCab.out W)) ?_; (solve | (intro W; go_simp)); simp only [Act.put, List.setIfInBounds_toArray, List.set_cons_zero, List.set_cons_succ]) | (refine wpSure_call _ _ _ rfl ?_ (fun W hS => hS.calls (HCba.out W)) ?_; (solve | (intro W; go_simp)); simp only [Act.put, List.setIfInBounds_toArray, List.set_cons_zero, List.set_cons_succ])) | ((with_reducible refine atS ⟨_, .call ⟨.value (.func 20), _, _⟩, _, _, _, _⟩ ?_); first | (refine wpSure_call _ _ _ rfl ?_ (fun W hS => hS.calls (HRab.out W)) ?_; (solve | (intro W; go_simp)); simp only [Act.put, List.setIfInBounds_toArray, List.set_cons_zero, List.set_cons_succ])) | ((with_reducible refine atS ⟨_, .call ⟨.value (.func 11), _, _⟩, _, _, _, _⟩ ?_); first | (refine wpSure_call _ _ _ rfl ?_ (fun W hS => hS.calls (HAW.out W)) ?_; (solve | (intro W; go_simp)); simp only [Act.put, List.setIfInBounds_toArray, List.set_cons_zero, List.set_cons_succ])) | (refine' wpSure_value _ rfl _ _; rotate_left; (solve | (intro W; go_simp) | (intro W; go_simp; with_reducible rfl)); simp only [Act.put, List.setIfInBounds_toArray, List.set_cons_zero, List.set_cons_succ]))
    refine wpSure_end (fun w1 hS1 => ?_)
    go_upto_region 3 with (fail)
    refine wp_region_sure_text (Keeps w [(w.heap.size, orA a, 27), (w.heap.size + 1, orA b, 27), (w.heap.size + 1 + 1, orA c, 27)]) hS1 ?_
    repeat (first | (refine wpSure_not rfl ?_; simp only [Act.put, List.setIfInBounds_toArray, List.set_cons_zero, List.set_cons_succ]) | ((with_reducible refine atS ⟨_, .load 27 (.tmp 3), _, _, _, _⟩ ?_); refine wpSure_row 27 _ rfl (w.heap.size) rfl (orA a) rfl 27 (0, 0) _ (fun W hS => hS.2 (w.heap.size, orA a, 27) (by simp)) Try.underlying27 rfl Ha.out ?_; simp only [Act.put, List.setIfInBounds_toArray, List.set_cons_zero, List.set_cons_succ]) | ((with_reducible refine atS ⟨_, .load 27 (.tmp 4), _, _, _, _⟩ ?_); refine wpSure_row 27 _ rfl (w.heap.size + 1) rfl (orA b) rfl 27 (0, 0) _ (fun W hS => hS.2 (w.heap.size + 1, orA b, 27) (by simp)) Try.underlying27 rfl Hb.out ?_; simp only [Act.put, List.setIfInBounds_toArray, List.set_cons_zero, List.set_cons_succ]) | ((with_reducible refine atS ⟨_, .load 27 (.tmp 5), _, _, _, _⟩ ?_); refine wpSure_row 27 _ rfl (w.heap.size + 1 + 1) rfl (orA c) rfl 27 (0, 0) _ (fun W hS => hS.2 (w.heap.size + 1 + 1, orA c, 27) (by simp)) Try.underlying27 rfl Hc.out ?_; simp only [Act.put, List.setIfInBounds_toArray, List.set_cons_zero, List.set_cons_succ]) | ((with_reducible refine atS ⟨_, .call ⟨.value (.func 19), _, _⟩, _, _, _, _⟩ ?_); first | (refine wpSure_call _ _ _ rfl ?_ (fun W hS => hS.calls (HCab.out W)) ?_; (solve | (intro W; go_simp)); simp only [Act.put, List.setIfInBounds_toArray, List.set_cons_zero, List.set_cons_succ]) | (refine wpSure_call _ _ _ rfl ?_ (fun W hS => hS.calls (HCba.out W)) ?_; (solve | (intro W; go_simp)); simp only [Act.put, List.setIfInBounds_toArray, List.set_cons_zero, List.set_cons_succ])) | ((with_reducible refine atS ⟨_, .call ⟨.value (.func 20), _, _⟩, _, _, _, _⟩ ?_); first | (refine wpSure_call _ _ _ rfl ?_ (fun W hS => hS.calls (HRab.out W)) ?_; (solve | (intro W; go_simp)); simp only [Act.put, List.setIfInBounds_toArray, List.set_cons_zero, List.set_cons_succ])) | ((with_reducible refine atS ⟨_, .call ⟨.value (.func 11), _, _⟩, _, _, _, _⟩ ?_); first | (refine wpSure_call _ _ _ rfl ?_ (fun W hS => hS.calls (HAW.out W)) ?_; (solve | (intro W; go_simp)); simp only [Act.put, List.setIfInBounds_toArray, List.set_cons_zero, List.set_cons_succ])) | (refine' wpSure_value _ rfl _ _; rotate_left; (solve | (intro W; go_simp) | (intro W; go_simp; with_reducible rfl)); simp only [Act.put, List.setIfInBounds_toArray, List.set_cons_zero, List.set_cons_succ]))
    refine wpSure_end (fun w2 hS2 => ?_)
    go_upto_region 5 with (fail)
    refine wp_region_sure_text (Keeps w [(w.heap.size, orA a, 27), (w.heap.size + 1, orA b, 27), (w.heap.size + 1 + 1, orA c, 27)]) hS2 ?_
    repeat (first | (refine wpSure_not rfl ?_; simp only [Act.put, List.setIfInBounds_toArray, List.set_cons_zero, List.set_cons_succ]) | ((with_reducible refine atS ⟨_, .load 27 (.tmp 3), _, _, _, _⟩ ?_); refine wpSure_row 27 _ rfl (w.heap.size) rfl (orA a) rfl 27 (0, 0) _ (fun W hS => hS.2 (w.heap.size, orA a, 27) (by simp)) Try.underlying27 rfl Ha.out ?_; simp only [Act.put, List.setIfInBounds_toArray, List.set_cons_zero, List.set_cons_succ]) | ((with_reducible refine atS ⟨_, .load 27 (.tmp 4), _, _, _, _⟩ ?_); refine wpSure_row 27 _ rfl (w.heap.size + 1) rfl (orA b) rfl 27 (0, 0) _ (fun W hS => hS.2 (w.heap.size + 1, orA b, 27) (by simp)) Try.underlying27 rfl Hb.out ?_; simp only [Act.put, List.setIfInBounds_toArray, List.set_cons_zero, List.set_cons_succ]) | ((with_reducible refine atS ⟨_, .load 27 (.tmp 5), _, _, _, _⟩ ?_); refine wpSure_row 27 _ rfl (w.heap.size + 1 + 1) rfl (orA c) rfl 27 (0, 0) _ (fun W hS => hS.2 (w.heap.size + 1 + 1, orA c, 27) (by simp)) Try.underlying27 rfl Hc.out ?_; simp only [Act.put, List.setIfInBounds_toArray, List.set_cons_zero, List.set_cons_succ]) | ((with_reducible refine atS ⟨_, .call ⟨.value (.func 19), _, _⟩, _, _, _, _⟩ ?_); first | (refine wpSure_call _ _ _ rfl ?_ (fun W hS => hS.calls (HCab.out W)) ?_; (solve | (intro W; go_simp)); simp only [Act.put, List.setIfInBounds_toArray, List.set_cons_zero, List.set_cons_succ]) | (refine wpSure_call _ _ _ rfl ?_ (fun W hS => hS.calls (HCbc.out W)) ?_; (solve | (intro W; go_simp)); simp only [Act.put, List.setIfInBounds_toArray, List.set_cons_zero, List.set_cons_succ]) | (refine wpSure_call _ _ _ rfl ?_ (fun W hS => hS.calls (HCac.out W)) ?_; (solve | (intro W; go_simp)); simp only [Act.put, List.setIfInBounds_toArray, List.set_cons_zero, List.set_cons_succ])) | ((with_reducible refine atS ⟨_, .call ⟨.value (.func 20), _, _⟩, _, _, _, _⟩ ?_); first | (refine wpSure_call _ _ _ rfl ?_ (fun W hS => hS.calls (HRab.out W)) ?_; (solve | (intro W; go_simp)); simp only [Act.put, List.setIfInBounds_toArray, List.set_cons_zero, List.set_cons_succ])) | ((with_reducible refine atS ⟨_, .call ⟨.value (.func 11), _, _⟩, _, _, _, _⟩ ?_); first | (refine wpSure_call _ _ _ rfl ?_ (fun W hS => hS.calls (HAW.out W)) ?_; (solve | (intro W; go_simp)); simp only [Act.put, List.setIfInBounds_toArray, List.set_cons_zero, List.set_cons_succ])) | (refine' wpSure_value _ rfl _ _; rotate_left; (solve | (intro W; go_simp) | (intro W; go_simp; with_reducible rfl)); simp only [Act.put, List.setIfInBounds_toArray, List.set_cons_zero, List.set_cons_succ]))
    refine wpSure_end (fun w3 hS3 => ?_)
    go_wp2
    go_ret
    exact ⟨rfl, hS3.1⟩
end Go.Proofs.Ytpnjneifolffdaa
