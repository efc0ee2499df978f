/-
  The laws of layer 1: what GuidBack and GuidOrder come to.
-/
import Derived.Test.YtjmbpjbeljeglaaLaw2
namespace Go.Proofs.Ytjmbpjbeljeglaa
open Go Go.ChangeShapes Go.WideShapes Go.ChangeAt Go.RowKit

theorem strI_data (s : ByteArray) : strI (sI s) = s := by
  obtain ⟨⟨l⟩⟩ := s
  unfold strI sI
  congr 2
  simp only [List.map_map]
  refine (List.map_congr_left fun x hx => ?_).trans (List.map_id _)
  simp
theorem prL_beq {a b : List Int} (ha : IsG a) (hb : IsG b) : ((strI (prL a)).toList == (strI (prL b)).toList) = (a == b) := by
  rw [strI_beq (prL_bd ha) (prL_bd hb)]
  by_cases h : a = b
  · subst h; simp
  · have h2 : ¬ prL a = prL b := fun e => h (prL_inj ha hb e)
    rw [beq_eq_false_iff_ne.2 h2, beq_eq_false_iff_ne.2 h]
theorem Parse_print {a : List Int} (w : World) (ha : IsG a) : Calls Try.prog 12 #[.string (strI (prL a))] w fun e w' => e = .returned (.tuple #[.agg (u8s a), .int .i64 0]) ∧ Below w.heap.size w w' := by
  have h := Parse_any (strI (prL a)) w
  rw [sI_strI _ (prL_bd ha), parsV_some (pars_prL ha)] at h
  exact h

set_option maxHeartbeats 1000000 in
theorem Back_any (a b : List Int) (w : World) (ha : IsG a) (hb : IsG b) : Calls Try.prog 5 #[.agg (u8s a), .agg (u8s b)] w fun e w' => e = .returned (.bool true) ∧ Below w.heap.size w w' := by
  have Ha : RowKit.Hid ((Try.prog.info? 23).map (·.size) = some (u8s a).size) := hid (by rw [u8s_size, ha.len]; exact infoG)
  have Hb : RowKit.Hid ((Try.prog.info? 23).map (·.size) = some (u8s b).size) := hid (by rw [u8s_size, hb.len]; exact infoG)
  have Hl : RowKit.Hid ((u8s g0).size = (u8s a).size) := hid (by rw [u8s_size, u8s_size, ha.len]; rfl)
  have hq1 : ∀ W, (Op.equalIn 10000 23 (.agg (u8s a)) (.agg (u8s a))).run Try.prog W = .ok true W := fun W => by rw [eq_g a a ha.len ha.len W]; simp
  have hq2 : ∀ W, (Op.equalIn 10000 23 (.agg (u8s a)) (.agg (u8s b))).run Try.prog W = .ok (a == b) W := fun W => eq_g a b ha.len hb.len W
  have hs2 := prL_beq ha hb
  generalize (a == b) = c at *
  go_enter Try.func5, Try.ntmps5
  go_wp2_with ((with_reducible refine at_op ⟨some 8, _, _, _, _, _⟩ ?_); refine wpList_load_row rfl 23 _ rfl w.heap.size rfl 23 (u8s a) (0, 0) _ (heap_alloc2_old _ _ _) Try.underlying23 rfl Ha.out ?_)
  refine (Print_any a _ ha).mono ?_
  rintro e w1 ⟨rfl, hb1⟩
  have hK1 : Keeps w [(w.heap.size, u8s a, 23), (w.heap.size + 1, u8s b, 23)] w1 := Keeps.call ⟨((Below.refl _ _).alloc (Nat.le_refl _) _).alloc (by simp) _, fun x hx => by simp at hx; rcases hx with rfl | rfl; exact heap_alloc2_old _ _ _; exact heap_alloc2_new _ _ _⟩ hb1
  clear hb1
  go_wp2_with fail
  refine (Parse_print _ ha).mono ?_
  rintro e w2 ⟨rfl, hb2⟩
  have hK2 := hK1.call hb2
  clear hK1 hb2
  go_wp2_with ((with_reducible refine at_op ⟨none, .store 23 (.tmp 5) (.tmp 11), _, _, _, _⟩ ?_); refine wpList_store_row rfl 23 _ _ rfl w2.heap.size (u8s a) rfl rfl 23 (u8s g0) (heap_alloc_new _ _) Ha.out Hl.out (u8s_one _) ?_)
  have hK3 := hK2.box (u8s g0) (u8s a) 23
  refine wp_region_sure (Keeps w [(w2.heap.size, u8s a, 23), (w.heap.size, u8s a, 23), (w.heap.size + 1, u8s b, 23)]) (by kernel_rfl) (by kernel_rfl) hK3.drew ?_
  clear hK2 hK3
  repeat (first
    | (refine wpSure_not rfl ?_; simp only [Act.put, List.setIfInBounds_toArray, List.set_cons_zero, List.set_cons_succ])
    | (refine wpSure_row 23 _ rfl w2.heap.size rfl (u8s a) rfl 23 (0, 0) _ (fun W hS => hS.2 (w2.heap.size, u8s a, 23) (by simp)) Try.underlying23 rfl Ha.out ?_; simp only [Act.put, List.setIfInBounds_toArray, List.set_cons_zero, List.set_cons_succ]) | (refine wpSure_row 23 _ rfl w.heap.size rfl (u8s a) rfl 23 (0, 0) _ (fun W hS => hS.2 (w.heap.size, u8s a, 23) (by simp)) Try.underlying23 rfl Ha.out ?_; simp only [Act.put, List.setIfInBounds_toArray, List.set_cons_zero, List.set_cons_succ]) | (refine wpSure_row 23 _ rfl (w.heap.size + 1) rfl (u8s b) rfl 23 (0, 0) _ (fun W hS => hS.2 ((w.heap.size + 1), u8s b, 23) (by simp)) Try.underlying23 rfl Hb.out ?_; simp only [Act.put, List.setIfInBounds_toArray, List.set_cons_zero, List.set_cons_succ])
    | (refine wpSure_call _ _ _ rfl ?_ (fun W hS => hS.calls (Print_any a W ha)) ?_; (solve | (intro W; go_simp)); simp only [Act.put, List.setIfInBounds_toArray, List.set_cons_zero, List.set_cons_succ]) | (refine wpSure_call _ _ _ rfl ?_ (fun W hS => hS.calls (Print_any b W hb)) ?_; (solve | (intro W; go_simp)); simp only [Act.put, List.setIfInBounds_toArray, List.set_cons_zero, List.set_cons_succ]) | (refine wpSure_call _ _ _ rfl ?_ (fun W hS => hS.calls (awake_any W)) ?_; (solve | (intro W; go_simp)); simp only [Act.put, List.setIfInBounds_toArray, List.set_cons_zero, List.set_cons_succ])
    | (refine' wpSure_value _ rfl _ _; rotate_left; (solve | (intro W; go_simp) | (intro W; go_simp; with_reducible rfl)); simp only [Act.put, List.setIfInBounds_toArray, List.set_cons_zero, List.set_cons_succ]))
  refine wpSure_end (fun w' hS => ?_)
  go_wp2
  go_ret
  exact ⟨rfl, hS.1⟩
end Go.Proofs.Ytjmbpjbeljeglaa
