/-
  The laws of layer 1: what each call of the law's function comes to.
-/
import Derived.Test.YtmmmjkmhlkkdkaaGuidE
import Derived.Test.YtmmmjkmhlkkdkaaLibB
import Derived.Test.YtmmmjkmhlkkdkaaSure
import Derived.Test.YtmmmjkmhlkkdkaaEq
namespace Go.Proofs.Ytmmmjkmhlkkdkaa
open Go.ChangeShapes Go.WideShapes Go.ChangeAt Go.RowKit

set_option maxRecDepth 100000 in
theorem eq_g (xs ys : List Int) (hx : xs.length = 16) (hy : ys.length = 16) (w : World) : (Op.equalIn 10000 51 (.agg (u8s xs)) (.agg (u8s ys))).run Try.prog w = .ok (xs == ys) w :=
  run_equalIn_u8s w 9998 51 5 16 Try.underlying51 Try.underlying5 szB xs ys hx hy
def ten : List Int := [0, 0, 0, 0, 0, 0, 0, 0, 0, 0, 0, 0, 0, 0, 0, 10]
set_option maxRecDepth 100000 in
theorem parse_ten : pars (sI ⟨#[123, 48, 48, 48, 48, 48, 48, 48, 48, 45, 48, 48, 48, 48, 45, 48, 48, 48, 48, 45, 48, 48, 48, 48, 45, 48, 48, 48, 48, 48, 48, 48, 48, 48, 48, 48, 65, 125]⟩) = some ten := by decide +kernel
set_option maxRecDepth 100000 in
theorem ten_of : ofL 10 = ten := by decide +kernel
set_option maxRecDepth 100000 in
theorem ofL_isG (n : Int) : IsG (ofL n) := by
  have h : ∀ j, 0 ≤ (ofL n).getD j 0 ∧ (ofL n).getD j 0 ≤ 255 := fun j => by
    by_cases hj : j < 16
    · simp only [ofL, ofUp, List.getD, List.getElem?_map, List.getElem?_range hj, Option.map_some, Option.getD_some]
      split <;> omega
    · have : (ofL n).getD j 0 = 0 := by simp [ofL, ofUp, List.getD, hj]
      omega
  exact ⟨ofUp_len n 8, fun j => (h j).1, fun j => (h j).2⟩
set_option maxRecDepth 100000 in
theorem print_258 : strI (prL (ofL 258)) = ⟨#[123, 48, 48, 48, 48, 48, 48, 48, 48, 45, 48, 48, 48, 48, 45, 48, 48, 48, 48, 45, 48, 48, 48, 48, 45, 48, 48, 48, 48, 48, 48, 48, 48, 48, 49, 48, 50, 125]⟩ := by decide +kernel

set_option maxRecDepth 100000 in
theorem of_ten (w : World) : Calls Try.prog 27 #[.int .u64 10] w fun e w' => e = .returned (.agg (u8s ten)) ∧ Below w.heap.size w w' := by
  rw [← ten_of]; exact Of_any 10 w (by decide)
set_option maxRecDepth 100000 in
theorem print_any_258 (w : World) : Calls Try.prog 28 #[.agg (u8s (ofL 258))] w fun e w' => e = .returned (.string ⟨#[123, 48, 48, 48, 48, 48, 48, 48, 48, 45, 48, 48, 48, 48, 45, 48, 48, 48, 48, 45, 48, 48, 48, 48, 45, 48, 48, 48, 48, 48, 48, 48, 48, 48, 49, 48, 50, 125]⟩) ∧ Below w.heap.size w w' := by
  rw [← print_258]; exact Print_any _ w (ofL_isG 258)

set_option maxRecDepth 100000 in
set_option maxHeartbeats 1000000 in
theorem awakeG_any (w : World) : Calls Try.prog 19 #[] w fun e w' => e = .returned (.bool true) ∧ Below w.heap.size w w' := by
  have Hi : RowKit.Hid ((Try.prog.info? 51).map (·.size) = some (u8s ten).size) := hid infoG
  go_enter Try.func19, Try.ntmps19
  go_wp2_with fail
  refine (Parse_any _ _).mono ?_
  rintro e w1 ⟨rfl, hb⟩
  rw [parsV_some parse_ten]
  have hb' := hid hb
  have hbs := hb.size
  clear hb
  go_wp2_with ((with_reducible refine at_op ⟨none, .store 51 (.tmp 1) (.tmp 5), _, _, _, _⟩ ?_); refine wpList_store_row rfl 51 _ _ rfl w1.heap.size (u8s ten) rfl rfl 51 (u8s g0) (heap_alloc_new _ _) Hi.out rfl (u8s_one _) ?_)
  have hK : Keeps w [(w1.heap.size, u8s ten, 51)] ((w1.alloc (.cells (u8s g0) 51)).setRow w1.heap.size (u8s ten)) :=
    ⟨below_setRow (hb'.out.alloc hbs _) _ _ hbs, fun x hx => by simp at hx; subst hx; exact setRow_heap _ _ _ _ 51 (0, 0) (heap_alloc_new _ _)⟩
  refine wp_region_sure (Keeps w [(w1.heap.size, u8s ten, 51)]) (by kernel_rfl) (by kernel_rfl) hK.drew ?_
  have hq : ∀ W, (Op.equalIn 10000 51 (.agg (u8s ten)) (.agg (u8s ten))).run Try.prog W = .ok true W := fun W => by rw [eq_g ten ten rfl rfl W]; rfl
  clear hK hb' hbs
  repeat (first
    | (refine wpSure_not rfl ?_; simp only [Act.put, List.setIfInBounds_toArray, List.set_cons_zero, List.set_cons_succ])
    | (refine wpSure_row 51 _ rfl w1.heap.size rfl (u8s ten) rfl 51 (0, 0) _ (fun W hS => hS.2 (w1.heap.size, u8s ten, 51) (by simp)) Try.underlying51 rfl Hi.out ?_; simp only [Act.put, List.setIfInBounds_toArray, List.set_cons_zero, List.set_cons_succ])
    | (refine wpSure_call _ _ _ rfl ?_ (fun W hS => hS.calls (of_ten W)) ?_; (solve | (intro W; go_simp)); simp only [Act.put, List.setIfInBounds_toArray, List.set_cons_zero, List.set_cons_succ])
    | (refine wpSure_call _ _ _ rfl ?_ (fun W hS => hS.calls (Of_any 258 W (by decide))) ?_; (solve | (intro W; go_simp)); simp only [Act.put, List.setIfInBounds_toArray, List.set_cons_zero, List.set_cons_succ])
    | (refine wpSure_call _ _ _ rfl ?_ (fun W hS => hS.calls (print_any_258 W)) ?_; (solve | (intro W; go_simp)); simp only [Act.put, List.setIfInBounds_toArray, List.set_cons_zero, List.set_cons_succ])
    | (refine' wpSure_value _ rfl _ _; rotate_left; (solve | (intro W; go_simp) | (intro W; go_simp; with_reducible rfl)); simp only [Act.put, List.setIfInBounds_toArray, List.set_cons_zero, List.set_cons_succ]))
  refine wpSure_end (fun w' hS => ?_)
  go_wp2
  go_ret
  exact ⟨rfl, hS.1⟩


end Go.Proofs.Ytmmmjkmhlkkdkaa
