/-
  The laws of layer 1: what each call of the law's function comes to.
-/
import Derived.Test.YtjmbpjbeljeglaaGuidE
import Derived.Test.YtjmbpjbeljeglaaGuidG
import Derived.Test.YtjmbpjbeljeglaaEq
namespace Go.Proofs.Ytjmbpjbeljeglaa
open Go.ChangeShapes Go.WideShapes Go.ChangeAt Go.RowKit

theorem eq_g (xs ys : List Int) (hx : xs.length = 16) (hy : ys.length = 16) (w : World) : (Op.equalIn 10000 23 (.agg (u8s xs)) (.agg (u8s ys))).run Try.prog w = .ok (xs == ys) w :=
  run_equalIn_u8s w 9998 23 5 16 Try.underlying23 Try.underlying5 szB xs ys hx hy
def ten : List Int := [0, 0, 0, 0, 0, 0, 0, 0, 0, 0, 0, 0, 0, 0, 0, 10]
theorem parse_ten : pars (sI ⟨#[123, 48, 48, 48, 48, 48, 48, 48, 48, 45, 48, 48, 48, 48, 45, 48, 48, 48, 48, 45, 48, 48, 48, 48, 45, 48, 48, 48, 48, 48, 48, 48, 48, 48, 48, 48, 65, 125]⟩) = some ten := by decide +kernel
theorem ten_of : ofL 10 = ten := by decide +kernel
theorem ofL_isG (n : Int) : IsG (ofL n) := by
  have h : ∀ j, 0 ≤ (ofL n).getD j 0 ∧ (ofL n).getD j 0 ≤ 255 := fun j => by
    by_cases hj : j < 16
    · simp only [ofL, ofUp, List.getD, List.getElem?_map, List.getElem?_range hj, Option.map_some, Option.getD_some]
      split <;> omega
    · have : (ofL n).getD j 0 = 0 := by simp [ofL, ofUp, List.getD, hj]
      omega
  exact ⟨ofUp_len n 8, fun j => (h j).1, fun j => (h j).2⟩
theorem print_258 : strI (prL (ofL 258)) = ⟨#[123, 48, 48, 48, 48, 48, 48, 48, 48, 45, 48, 48, 48, 48, 45, 48, 48, 48, 48, 45, 48, 48, 48, 48, 45, 48, 48, 48, 48, 48, 48, 48, 48, 48, 49, 48, 50, 125]⟩ := by decide +kernel

theorem of_ten (w : World) : Calls Try.prog 17 #[.int .u64 10] w fun e w' => e = .returned (.agg (u8s ten)) ∧ Below w.heap.size w w' := by
  rw [← ten_of]; exact Of_any 10 w (by decide)
theorem print_any_258 (w : World) : Calls Try.prog 9 #[.agg (u8s (ofL 258))] w fun e w' => e = .returned (.string ⟨#[123, 48, 48, 48, 48, 48, 48, 48, 48, 45, 48, 48, 48, 48, 45, 48, 48, 48, 48, 45, 48, 48, 48, 48, 45, 48, 48, 48, 48, 48, 48, 48, 48, 48, 49, 48, 50, 125]⟩) ∧ Below w.heap.size w w' := by
  rw [← print_258]; exact Print_any _ w (ofL_isG 258)

set_option maxHeartbeats 1000000 in
theorem awake_any (w : World) : Calls Try.prog 11 #[] w fun e w' => e = .returned (.bool true) ∧ Below w.heap.size w w' := by
  have Hi : RowKit.Hid ((Try.prog.info? 23).map (·.size) = some (u8s ten).size) := hid infoG
  go_enter Try.func11, Try.ntmps11
  go_wp2_with fail
  refine (Parse_any _ _).mono ?_
  rintro e w1 ⟨rfl, hb⟩
  rw [parsV_some parse_ten]
  have hb' := hid hb
  have hbs := hb.size
  clear hb
  go_wp2_with ((with_reducible refine at_op ⟨none, .store 23 (.tmp 1) (.tmp 5), _, _, _, _⟩ ?_); refine wpList_store_row rfl 23 _ _ rfl w1.heap.size (u8s ten) rfl rfl 23 (u8s g0) (heap_alloc_new _ _) Hi.out rfl (u8s_one _) ?_)
  have hK : Keeps w [(w1.heap.size, u8s ten, 23)] ((w1.alloc (.cells (u8s g0) 23)).setRow w1.heap.size (u8s ten)) :=
    ⟨below_setRow (hb'.out.alloc hbs _) _ _ hbs, fun x hx => by simp at hx; subst hx; exact setRow_heap _ _ _ _ 23 (0, 0) (heap_alloc_new _ _)⟩
  refine wp_region_sure (Keeps w [(w1.heap.size, u8s ten, 23)]) (by kernel_rfl) (by kernel_rfl) hK.drew ?_
  have hq : ∀ W, (Op.equalIn 10000 23 (.agg (u8s ten)) (.agg (u8s ten))).run Try.prog W = .ok true W := fun W => by rw [eq_g ten ten rfl rfl W]; rfl
  clear hK hb' hbs
  repeat (first
    | (refine wpSure_not rfl ?_; simp only [Act.put, List.setIfInBounds_toArray, List.set_cons_zero, List.set_cons_succ])
    | (refine wpSure_row 23 _ rfl w1.heap.size rfl (u8s ten) rfl 23 (0, 0) _ (fun W hS => hS.2 (w1.heap.size, u8s ten, 23) (by simp)) Try.underlying23 rfl Hi.out ?_; simp only [Act.put, List.setIfInBounds_toArray, List.set_cons_zero, List.set_cons_succ])
    | (refine wpSure_call _ _ _ rfl ?_ (fun W hS => hS.calls (of_ten W)) ?_; (solve | (intro W; go_simp)); simp only [Act.put, List.setIfInBounds_toArray, List.set_cons_zero, List.set_cons_succ])
    | (refine wpSure_call _ _ _ rfl ?_ (fun W hS => hS.calls (Of_any 258 W (by decide))) ?_; (solve | (intro W; go_simp)); simp only [Act.put, List.setIfInBounds_toArray, List.set_cons_zero, List.set_cons_succ])
    | (refine wpSure_call _ _ _ rfl ?_ (fun W hS => hS.calls (print_any_258 W)) ?_; (solve | (intro W; go_simp)); simp only [Act.put, List.setIfInBounds_toArray, List.set_cons_zero, List.set_cons_succ])
    | (refine' wpSure_value _ rfl _ _; rotate_left; (solve | (intro W; go_simp) | (intro W; go_simp; with_reducible rfl)); simp only [Act.put, List.setIfInBounds_toArray, List.set_cons_zero, List.set_cons_succ]))
  refine wpSure_end (fun w' hS => ?_)
  go_wp2
  go_ret
  exact ⟨rfl, hS.1⟩


set_option maxHeartbeats 1000000 in
theorem Prints_any (xs : List Int) (w : World) (hx : IsG xs) : Calls Try.prog 3 #[.agg (u8s xs)] w fun e w' => e = .returned (.bool true) ∧ Below w.heap.size w w' := by
  have hi : (Try.prog.info? 23).map (·.size) = some (u8s xs).size := by rw [u8s_size, hx.len]; exact infoG
  have Hi := hid hi
  clear hi
  go_enter Try.func3, Try.ntmps3
  go_wp2
  have hK : Keeps w [(w.heap.size, u8s xs, 23)] (w.alloc (.cells (u8s xs) 23)) := ⟨(Below.refl _ _).alloc (Nat.le_refl _) _, fun x hx => by simp at hx; subst hx; exact heap_alloc_new _ _⟩
  refine wp_region_sure (Keeps w [(w.heap.size, u8s xs, 23)]) (by kernel_rfl) (by kernel_rfl) hK.drew ?_
  clear hK
  repeat (first
    | (refine wpSure_not rfl ?_; simp only [Act.put, List.setIfInBounds_toArray, List.set_cons_zero, List.set_cons_succ])
    | (refine wpSure_row 23 _ rfl w.heap.size rfl (u8s xs) rfl 23 (0, 0) _ (fun W hS => hS.2 (w.heap.size, u8s xs, 23) (by simp)) Try.underlying23 rfl Hi.out ?_; simp only [Act.put, List.setIfInBounds_toArray, List.set_cons_zero, List.set_cons_succ])
    | (refine wpSure_call _ _ _ rfl ?_ (fun W hS => hS.calls (Print_any xs W hx)) ?_; (solve | (intro W; go_simp)); simp only [Act.put, List.setIfInBounds_toArray, List.set_cons_zero, List.set_cons_succ])
    | (refine wpSure_call _ _ _ rfl ?_ (fun W hS => hS.calls (refPrint_any xs W hx)) ?_; (solve | (intro W; go_simp)); simp only [Act.put, List.setIfInBounds_toArray, List.set_cons_zero, List.set_cons_succ])
    | (refine wpSure_call _ _ _ rfl ?_ (fun W hS => hS.calls (awake_any W)) ?_; (solve | (intro W; go_simp)); simp only [Act.put, List.setIfInBounds_toArray, List.set_cons_zero, List.set_cons_succ])
    | (refine' wpSure_value _ rfl _ _; rotate_left; (solve | (intro W; go_simp) | (intro W; go_simp; with_reducible rfl)); simp only [Act.put, List.setIfInBounds_toArray, List.set_cons_zero, List.set_cons_succ]))
  refine wpSure_end (fun w' hS => ?_)
  go_wp2
  go_ret
  exact ⟨rfl, hS.1⟩
end Go.Proofs.Ytjmbpjbeljeglaa
