/-
  The laws of layer 1: what GuidOrder comes to.
-/
import Derived.Test.YtjmbpjbeljeglaaLaw3
import Derived.Test.YtjmbpjbeljeglaaOrder
import Derived.Deep.Cut
namespace Go.Proofs.Ytjmbpjbeljeglaa
open Go Go.ChangeShapes Go.WideShapes Go.ChangeAt Go.RowKit

/-- A row is read while blocks are kept. -/
theorem Keeps.at {w0 W : World} {L : List (Nat × Array Value × TypeId)} (h : Keeps w0 L W) (b : Nat) (cs : Array Value) (t : TypeId) (hm : (b, cs, t) ∈ L) : W.heap[b]? = some (.cells cs t (0, 0)) := h.2 _ hm

theorem keeps_three (w : World) (x y z : Array Value) (t : TypeId) : Keeps w [(w.heap.size, x, t), (w.heap.size + 1, y, t), (w.heap.size + 1 + 1, z, t)] (((w.alloc (.cells x t)).alloc (.cells y t)).alloc (.cells z t)) :=
  ⟨(((Below.refl _ _).alloc (Nat.le_refl _) _).alloc (by simp) _).alloc (by simp; omega) _, fun v hv => by
    simp at hv
    rcases hv with rfl | rfl | rfl
    · exact heap_alloc3_old _ _ _ _
    · exact heap_alloc3_mid _ _ _ _
    · have := heap_alloc_new ((w.alloc (.cells x t)).alloc (.cells y t)) (.cells z t)
      simpa using this⟩
set_option maxHeartbeats 4000000 in
theorem Order_any (a b c : List Int) (w : World) (ha : IsG a) (hb : IsG b) (hc : IsG c) : Calls Try.prog 6 #[.agg (u8s a), .agg (u8s b), .agg (u8s c)] w fun e w' => e = .returned (.bool true) ∧ Below w.heap.size w w' := by
  have Ha : RowKit.Hid ((Try.prog.info? 23).map (·.size) = some (u8s a).size) := hid (by rw [u8s_size, ha.len]; exact infoG)
  have Hb : RowKit.Hid ((Try.prog.info? 23).map (·.size) = some (u8s b).size) := hid (by rw [u8s_size, hb.len]; exact infoG)
  have Hc : RowKit.Hid ((Try.prog.info? 23).map (·.size) = some (u8s c).size) := hid (by rw [u8s_size, hc.len]; exact infoG)
  have hq : ∀ W, (Op.equalIn 10000 23 (.agg (u8s a)) (.agg (u8s b))).run Try.prog W = .ok (a == b) W := fun W => eq_g a b ha.len hb.len W
  have hl := less_print ha hb
  have Cab := fun W => Compare_any a b W ha.len hb.len
  have Rab := fun W => refCompare_any a b W ha.len hb.len
  have Cba := fun W => Compare_any b a W hb.len ha.len
  have Cbc := fun W => Compare_any b c W hb.len hc.len
  have Cac := fun W => Compare_any a c W ha.len hc.len
  rw [cmpL_neg a b] at Cba
  have he : (a == b) = (cmpL a b == 0) := by
    rw [Bool.eq_iff_iff]; simp only [beq_iff_eq]; exact (cmpL_eq a b (by rw [ha.len, hb.len])).symm
  rw [he] at hq
  have hx := cmpL_val a b
  have hy := cmpL_val b c
  have hz := cmpL_val a c
  have ht := cmpL_trans a b c (by rw [ha.len, hb.len]) (by rw [hb.len, hc.len])
  clear he
  generalize cmpL a b = x at *
  generalize cmpL b c = y at *
  generalize cmpL a c = z at *
  have Hq := hid hq
  have Hl := hid hl
  have HCab := hid Cab
  have HRab := hid Rab
  have HCba := hid Cba
  have HCbc := hid Cbc
  have HCac := hid Cac
  clear hq hl Cab Rab Cba Cbc Cac
  have hsplit : (x = 1 ∨ ((x = -1 ∨ x = 0) ∧ (y = 1 ∨ ((y = -1 ∨ y = 0) ∧ (z = -1 ∨ z = 0))))) := by
    rcases hx with h | h | h
    · refine .inr ⟨.inl h, ?_⟩
      rcases hy with g | g | g
      · exact .inr ⟨.inl g, by rcases hz with k | k | k; exact .inl k; exact .inr k; exact absurd (ht (by omega) (by omega)) (by omega)⟩
      · exact .inr ⟨.inr g, by rcases hz with k | k | k; exact .inl k; exact .inr k; exact absurd (ht (by omega) (by omega)) (by omega)⟩
      · exact .inl g
    · refine .inr ⟨.inr h, ?_⟩
      rcases hy with g | g | g
      · exact .inr ⟨.inl g, by rcases hz with k | k | k; exact .inl k; exact .inr k; exact absurd (ht (by omega) (by omega)) (by omega)⟩
      · exact .inr ⟨.inr g, by rcases hz with k | k | k; exact .inl k; exact .inr k; exact absurd (ht (by omega) (by omega)) (by omega)⟩
      · exact .inl g
    · exact .inl h
  clear hx hy hz ht
  rcases hsplit with rfl | ⟨rfl | rfl, rfl | ⟨rfl | rfl, rfl | rfl⟩⟩
  all_goals
    have hq := Hq.out
    have hl := Hl.out
    go_enter Try.func6, Try.ntmps6
    go_upto_region 1 with (fail)
    have hK : Keeps w [(w.heap.size, u8s a, 23), (w.heap.size + 1, u8s b, 23), (w.heap.size + 1 + 1, u8s c, 23)] (((w.alloc (.cells (u8s a) 23)).alloc (.cells (u8s b) 23)).alloc (.cells (u8s c) 23)) := keeps_three w (u8s a) (u8s b) (u8s c) 23
    refine wp_region_sure_text (Keeps w [(w.heap.size, u8s a, 23), (w.heap.size + 1, u8s b, 23), (w.heap.size + 1 + 1, u8s c, 23)]) hK ?_
    clear hK
    repeat (first | (refine wpSure_not rfl ?_; simp only [Act.put, List.setIfInBounds_toArray, List.set_cons_zero, List.set_cons_succ]) | ((with_reducible refine atS ⟨_, .load 23 (.tmp 3), _, _, _, _⟩ ?_); (refine wpSure_row 23 _ rfl w.heap.size rfl (u8s a) rfl 23 (0, 0) _ (fun W hS => hS.2 (w.heap.size, u8s a, 23) (by simp)) Try.underlying23 rfl Ha.out ?_; simp only [Act.put, List.setIfInBounds_toArray, List.set_cons_zero, List.set_cons_succ])) | ((with_reducible refine atS ⟨_, .load 23 (.tmp 4), _, _, _, _⟩ ?_); (refine wpSure_row 23 _ rfl (w.heap.size + 1) rfl (u8s b) rfl 23 (0, 0) _ (fun W hS => hS.2 ((w.heap.size + 1), u8s b, 23) (by simp)) Try.underlying23 rfl Hb.out ?_; simp only [Act.put, List.setIfInBounds_toArray, List.set_cons_zero, List.set_cons_succ])) | ((with_reducible refine atS ⟨_, .load 23 (.tmp 5), _, _, _, _⟩ ?_); (refine wpSure_row 23 _ rfl (w.heap.size + 1 + 1) rfl (u8s c) rfl 23 (0, 0) _ (fun W hS => hS.2 ((w.heap.size + 1 + 1), u8s c, 23) (by simp)) Try.underlying23 rfl Hc.out ?_; simp only [Act.put, List.setIfInBounds_toArray, List.set_cons_zero, List.set_cons_succ])) | ((with_reducible refine atS ⟨_, .call ⟨.value (.func 14), _, _⟩, _, _, _, _⟩ ?_); first | (refine wpSure_call _ _ _ rfl ?_ (fun W hS => hS.calls (HCab.out W)) ?_; (solve | (intro W; go_simp)); simp only [Act.put, List.setIfInBounds_toArray, List.set_cons_zero, List.set_cons_succ])) | ((with_reducible refine atS ⟨_, .call ⟨.value (.func 15), _, _⟩, _, _, _, _⟩ ?_); first | (refine wpSure_call _ _ _ rfl ?_ (fun W hS => hS.calls (HRab.out W)) ?_; (solve | (intro W; go_simp)); simp only [Act.put, List.setIfInBounds_toArray, List.set_cons_zero, List.set_cons_succ])) | ((with_reducible refine atS ⟨_, .call ⟨.value (.func 9), _, _⟩, _, _, _, _⟩ ?_); first | (refine wpSure_call _ _ _ rfl ?_ (fun W hS => hS.calls (Print_any a W ha)) ?_; (solve | (intro W; go_simp)); simp only [Act.put, List.setIfInBounds_toArray, List.set_cons_zero, List.set_cons_succ]) | (refine wpSure_call _ _ _ rfl ?_ (fun W hS => hS.calls (Print_any b W hb)) ?_; (solve | (intro W; go_simp)); simp only [Act.put, List.setIfInBounds_toArray, List.set_cons_zero, List.set_cons_succ])) | ((with_reducible refine atS ⟨_, .call ⟨.value (.func 11), _, _⟩, _, _, _, _⟩ ?_); first | (refine wpSure_call _ _ _ rfl ?_ (fun W hS => hS.calls (awake_any W)) ?_; (solve | (intro W; go_simp)); simp only [Act.put, List.setIfInBounds_toArray, List.set_cons_zero, List.set_cons_succ])) | (refine' wpSure_value _ rfl _ _; rotate_left; (solve | (intro W; go_simp) | (intro W; go_simp; with_reducible rfl)); simp only [Act.put, List.setIfInBounds_toArray, List.set_cons_zero, List.set_cons_succ]))
    refine wpSure_end (fun w1 hS1 => ?_)
    go_upto_region 2 with (fail)
    refine wp_region_sure_text (Keeps w [(w.heap.size, u8s a, 23), (w.heap.size + 1, u8s b, 23), (w.heap.size + 1 + 1, u8s c, 23)]) hS1 ?_
    repeat (first | (refine wpSure_not rfl ?_; simp only [Act.put, List.setIfInBounds_toArray, List.set_cons_zero, List.set_cons_succ]) | ((with_reducible refine atS ⟨_, .load 23 (.tmp 3), _, _, _, _⟩ ?_); (refine wpSure_row 23 _ rfl w.heap.size rfl (u8s a) rfl 23 (0, 0) _ (fun W hS => hS.2 (w.heap.size, u8s a, 23) (by simp)) Try.underlying23 rfl Ha.out ?_; simp only [Act.put, List.setIfInBounds_toArray, List.set_cons_zero, List.set_cons_succ])) | ((with_reducible refine atS ⟨_, .load 23 (.tmp 4), _, _, _, _⟩ ?_); (refine wpSure_row 23 _ rfl (w.heap.size + 1) rfl (u8s b) rfl 23 (0, 0) _ (fun W hS => hS.2 ((w.heap.size + 1), u8s b, 23) (by simp)) Try.underlying23 rfl Hb.out ?_; simp only [Act.put, List.setIfInBounds_toArray, List.set_cons_zero, List.set_cons_succ])) | ((with_reducible refine atS ⟨_, .load 23 (.tmp 5), _, _, _, _⟩ ?_); (refine wpSure_row 23 _ rfl (w.heap.size + 1 + 1) rfl (u8s c) rfl 23 (0, 0) _ (fun W hS => hS.2 ((w.heap.size + 1 + 1), u8s c, 23) (by simp)) Try.underlying23 rfl Hc.out ?_; simp only [Act.put, List.setIfInBounds_toArray, List.set_cons_zero, List.set_cons_succ])) | ((with_reducible refine atS ⟨_, .call ⟨.value (.func 14), _, _⟩, _, _, _, _⟩ ?_); first | (refine wpSure_call _ _ _ rfl ?_ (fun W hS => hS.calls (HCba.out W)) ?_; (solve | (intro W; go_simp)); simp only [Act.put, List.setIfInBounds_toArray, List.set_cons_zero, List.set_cons_succ])) | ((with_reducible refine atS ⟨_, .call ⟨.value (.func 15), _, _⟩, _, _, _, _⟩ ?_); first | (refine wpSure_call _ _ _ rfl ?_ (fun W hS => hS.calls (HRab.out W)) ?_; (solve | (intro W; go_simp)); simp only [Act.put, List.setIfInBounds_toArray, List.set_cons_zero, List.set_cons_succ])) | ((with_reducible refine atS ⟨_, .call ⟨.value (.func 9), _, _⟩, _, _, _, _⟩ ?_); first | (refine wpSure_call _ _ _ rfl ?_ (fun W hS => hS.calls (Print_any a W ha)) ?_; (solve | (intro W; go_simp)); simp only [Act.put, List.setIfInBounds_toArray, List.set_cons_zero, List.set_cons_succ]) | (refine wpSure_call _ _ _ rfl ?_ (fun W hS => hS.calls (Print_any b W hb)) ?_; (solve | (intro W; go_simp)); simp only [Act.put, List.setIfInBounds_toArray, List.set_cons_zero, List.set_cons_succ])) | ((with_reducible refine atS ⟨_, .call ⟨.value (.func 11), _, _⟩, _, _, _, _⟩ ?_); first | (refine wpSure_call _ _ _ rfl ?_ (fun W hS => hS.calls (awake_any W)) ?_; (solve | (intro W; go_simp)); simp only [Act.put, List.setIfInBounds_toArray, List.set_cons_zero, List.set_cons_succ])) | (refine' wpSure_value _ rfl _ _; rotate_left; (solve | (intro W; go_simp) | (intro W; go_simp; with_reducible rfl)); simp only [Act.put, List.setIfInBounds_toArray, List.set_cons_zero, List.set_cons_succ]))
    refine wpSure_end (fun w2 hS2 => ?_)
    go_upto_region 4 with (fail)
    refine wp_region_sure_text (Keeps w [(w.heap.size, u8s a, 23), (w.heap.size + 1, u8s b, 23), (w.heap.size + 1 + 1, u8s c, 23)]) hS2 ?_
    repeat (first | (refine wpSure_not rfl ?_; simp only [Act.put, List.setIfInBounds_toArray, List.set_cons_zero, List.set_cons_succ]) | ((with_reducible refine atS ⟨_, .load 23 (.tmp 3), _, _, _, _⟩ ?_); (refine wpSure_row 23 _ rfl w.heap.size rfl (u8s a) rfl 23 (0, 0) _ (fun W hS => hS.2 (w.heap.size, u8s a, 23) (by simp)) Try.underlying23 rfl Ha.out ?_; simp only [Act.put, List.setIfInBounds_toArray, List.set_cons_zero, List.set_cons_succ])) | ((with_reducible refine atS ⟨_, .load 23 (.tmp 4), _, _, _, _⟩ ?_); (refine wpSure_row 23 _ rfl (w.heap.size + 1) rfl (u8s b) rfl 23 (0, 0) _ (fun W hS => hS.2 ((w.heap.size + 1), u8s b, 23) (by simp)) Try.underlying23 rfl Hb.out ?_; simp only [Act.put, List.setIfInBounds_toArray, List.set_cons_zero, List.set_cons_succ])) | ((with_reducible refine atS ⟨_, .load 23 (.tmp 5), _, _, _, _⟩ ?_); (refine wpSure_row 23 _ rfl (w.heap.size + 1 + 1) rfl (u8s c) rfl 23 (0, 0) _ (fun W hS => hS.2 ((w.heap.size + 1 + 1), u8s c, 23) (by simp)) Try.underlying23 rfl Hc.out ?_; simp only [Act.put, List.setIfInBounds_toArray, List.set_cons_zero, List.set_cons_succ])) | ((with_reducible refine atS ⟨_, .call ⟨.value (.func 14), _, _⟩, _, _, _, _⟩ ?_); first | (refine wpSure_call _ _ _ rfl ?_ (fun W hS => hS.calls (HCbc.out W)) ?_; (solve | (intro W; go_simp)); simp only [Act.put, List.setIfInBounds_toArray, List.set_cons_zero, List.set_cons_succ]) | (refine wpSure_call _ _ _ rfl ?_ (fun W hS => hS.calls (HCac.out W)) ?_; (solve | (intro W; go_simp)); simp only [Act.put, List.setIfInBounds_toArray, List.set_cons_zero, List.set_cons_succ])) | ((with_reducible refine atS ⟨_, .call ⟨.value (.func 15), _, _⟩, _, _, _, _⟩ ?_); first | (refine wpSure_call _ _ _ rfl ?_ (fun W hS => hS.calls (HRab.out W)) ?_; (solve | (intro W; go_simp)); simp only [Act.put, List.setIfInBounds_toArray, List.set_cons_zero, List.set_cons_succ])) | ((with_reducible refine atS ⟨_, .call ⟨.value (.func 9), _, _⟩, _, _, _, _⟩ ?_); first | (refine wpSure_call _ _ _ rfl ?_ (fun W hS => hS.calls (Print_any a W ha)) ?_; (solve | (intro W; go_simp)); simp only [Act.put, List.setIfInBounds_toArray, List.set_cons_zero, List.set_cons_succ]) | (refine wpSure_call _ _ _ rfl ?_ (fun W hS => hS.calls (Print_any b W hb)) ?_; (solve | (intro W; go_simp)); simp only [Act.put, List.setIfInBounds_toArray, List.set_cons_zero, List.set_cons_succ])) | ((with_reducible refine atS ⟨_, .call ⟨.value (.func 11), _, _⟩, _, _, _, _⟩ ?_); first | (refine wpSure_call _ _ _ rfl ?_ (fun W hS => hS.calls (awake_any W)) ?_; (solve | (intro W; go_simp)); simp only [Act.put, List.setIfInBounds_toArray, List.set_cons_zero, List.set_cons_succ])) | (refine' wpSure_value _ rfl _ _; rotate_left; (solve | (intro W; go_simp) | (intro W; go_simp; with_reducible rfl)); simp only [Act.put, List.setIfInBounds_toArray, List.set_cons_zero, List.set_cons_succ]))
    refine wpSure_end (fun w3 hS3 => ?_)
    go_upto_region 6 with (fail)
    refine wp_region_sure (Keeps w [(w.heap.size, u8s a, 23), (w.heap.size + 1, u8s b, 23), (w.heap.size + 1 + 1, u8s c, 23)]) (by kernel_rfl) (by kernel_rfl) hS3.drew ?_
    repeat (first | (refine wpSure_not rfl ?_; simp only [Act.put, List.setIfInBounds_toArray, List.set_cons_zero, List.set_cons_succ]) | ((with_reducible refine atS ⟨_, .load 23 (.tmp 3), _, _, _, _⟩ ?_); (refine wpSure_row 23 _ rfl w.heap.size rfl (u8s a) rfl 23 (0, 0) _ (fun W hS => hS.2 (w.heap.size, u8s a, 23) (by simp)) Try.underlying23 rfl Ha.out ?_; simp only [Act.put, List.setIfInBounds_toArray, List.set_cons_zero, List.set_cons_succ])) | ((with_reducible refine atS ⟨_, .load 23 (.tmp 4), _, _, _, _⟩ ?_); (refine wpSure_row 23 _ rfl (w.heap.size + 1) rfl (u8s b) rfl 23 (0, 0) _ (fun W hS => hS.2 ((w.heap.size + 1), u8s b, 23) (by simp)) Try.underlying23 rfl Hb.out ?_; simp only [Act.put, List.setIfInBounds_toArray, List.set_cons_zero, List.set_cons_succ])) | ((with_reducible refine atS ⟨_, .load 23 (.tmp 5), _, _, _, _⟩ ?_); (refine wpSure_row 23 _ rfl (w.heap.size + 1 + 1) rfl (u8s c) rfl 23 (0, 0) _ (fun W hS => hS.2 ((w.heap.size + 1 + 1), u8s c, 23) (by simp)) Try.underlying23 rfl Hc.out ?_; simp only [Act.put, List.setIfInBounds_toArray, List.set_cons_zero, List.set_cons_succ])) | ((with_reducible refine atS ⟨_, .call ⟨.value (.func 14), _, _⟩, _, _, _, _⟩ ?_); first | (refine wpSure_call _ _ _ rfl ?_ (fun W hS => hS.calls (HCab.out W)) ?_; (solve | (intro W; go_simp)); simp only [Act.put, List.setIfInBounds_toArray, List.set_cons_zero, List.set_cons_succ])) | ((with_reducible refine atS ⟨_, .call ⟨.value (.func 15), _, _⟩, _, _, _, _⟩ ?_); first | (refine wpSure_call _ _ _ rfl ?_ (fun W hS => hS.calls (HRab.out W)) ?_; (solve | (intro W; go_simp)); simp only [Act.put, List.setIfInBounds_toArray, List.set_cons_zero, List.set_cons_succ])) | ((with_reducible refine atS ⟨_, .call ⟨.value (.func 9), _, _⟩, _, _, _, _⟩ ?_); first | (refine wpSure_call _ _ _ rfl ?_ (fun W hS => hS.calls (Print_any a W ha)) ?_; (solve | (intro W; go_simp)); simp only [Act.put, List.setIfInBounds_toArray, List.set_cons_zero, List.set_cons_succ]) | (refine wpSure_call _ _ _ rfl ?_ (fun W hS => hS.calls (Print_any b W hb)) ?_; (solve | (intro W; go_simp)); simp only [Act.put, List.setIfInBounds_toArray, List.set_cons_zero, List.set_cons_succ])) | ((with_reducible refine atS ⟨_, .call ⟨.value (.func 11), _, _⟩, _, _, _, _⟩ ?_); first | (refine wpSure_call _ _ _ rfl ?_ (fun W hS => hS.calls (awake_any W)) ?_; (solve | (intro W; go_simp)); simp only [Act.put, List.setIfInBounds_toArray, List.set_cons_zero, List.set_cons_succ])) | (refine' wpSure_value _ rfl _ _; rotate_left; (solve | (intro W; go_simp) | (intro W; go_simp; with_reducible rfl)); simp only [Act.put, List.setIfInBounds_toArray, List.set_cons_zero, List.set_cons_succ]))
    refine wpSure_end (fun w4 hS4 => ?_)
    go_wp2
    go_ret
    exact ⟨rfl, hS4.1⟩
end Go.Proofs.Ytjmbpjbeljeglaa
