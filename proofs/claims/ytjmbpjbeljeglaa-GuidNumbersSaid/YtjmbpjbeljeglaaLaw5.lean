/-
  The laws of layer 1: what GuidNumbers comes to.
-/
import Derived.Test.YtjmbpjbeljeglaaLaw3
import Derived.Deep.Cut
namespace Go.Proofs.Ytjmbpjbeljeglaa
open Go Go.ChangeShapes Go.WideShapes Go.ChangeAt Go.RowKit

theorem ofL_get (n : Int) (j : Nat) (hj : j < 16) : (ofL n).getD j 0 = if 7 < j then n / 256 ^ (15 - j) % 256 else 0 := by
  simp only [ofL, ofUp, List.getD, List.getElem?_map, List.getElem?_range hj, Option.map_some, Option.getD_some]
  by_cases h : 7 < j
  · rw [if_pos (by omega), if_pos h]
  · rw [if_neg (by omega), if_neg h]
theorem ofL_zeros (n : Int) : Zeros (ofL n) 8 := fun j h1 h2 => by rw [ofL_get n j (by omega), if_neg (by omega)]
theorem pow256_8 : (256 : Int) ^ 8 = 18446744073709551616 := by decide
theorem valUp_zero {g : List Int} (h : Zeros g 8) : ∀ k, k ≤ 8 → valUp g k = 0
  | 0, _ => rfl
  | k + 1, hk => by unfold valUp; rw [valUp_zero h k (by omega), h k (by omega) (by omega)]; rfl
theorem valUp_ofL {n : Int} (hn : U64 n) : ∀ i, i ≤ 8 → valUp (ofL n) (8 + i) = n / 256 ^ (8 - i)
  | 0, _ => by
    rw [Nat.add_zero, valUp_zero (ofL_zeros n) 8 (by omega), Nat.sub_zero, pow256_8]
    have h0 := hn.1
    have h1 := hn.2
    omega
  | i + 1, hi => by
    have ih := valUp_ofL hn i (by omega)
    rw [show 8 + (i + 1) = (8 + i) + 1 by omega]
    unfold valUp
    rw [ih, ofL_get n (8 + i) (by omega), if_pos (by omega), show 15 - (8 + i) = 7 - i by omega, show 8 - (i + 1) = 7 - i by omega, show 8 - i = (7 - i) + 1 by omega, ← pow_div n (7 - i)]
    omega
theorem numL_ofL {n : Int} (hn : U64 n) : numL (ofL n) = (n, true) := by
  unfold numL
  rw [if_pos (ofL_zeros n)]
  have := valUp_ofL hn 8 (by omega)
  rw [Nat.sub_self, Int.pow_zero, Int.ediv_one] at this
  rw [show (16 : Nat) = 8 + 8 from rfl, this]
theorem valUp_div {g : List Int} (hg : IsG g) (k : Nat) : ∀ i, valUp g (k + i) / 256 ^ i = valUp g k
  | 0 => by simp
  | i + 1 => by
    have ih := valUp_div hg k i
    have h0 := hg.lo (k + i)
    have h1 := hg.hi (k + i)
    rw [show k + (i + 1) = (k + i) + 1 by omega, Int.pow_succ, Int.mul_comm, ← Int.ediv_ediv_of_nonneg (by decide : (0 : Int) ≤ 256)]
    have hs : valUp g (k + i + 1) = valUp g (k + i) * 256 + g.getD (k + i) 0 := rfl
    rw [hs, show (valUp g (k + i) * 256 + g.getD (k + i) 0) / 256 = valUp g (k + i) by omega]
    exact ih
theorem ofL_valUp {g : List Int} (hg : IsG g) (hz : Zeros g 8) : ofL (valUp g 16) = g := by
  apply List.ext_getElem
  · rw [(ofL_isG _).len, hg.len]
  · intro j a b
    rw [getElem_getD _ j a, getElem_getD _ j b]
    have hj : j < 16 := by rw [hg.len] at b; exact b
    rw [ofL_get _ j hj]
    split
    · have := valUp_div hg (j + 1) (15 - j)
      rw [show j + 1 + (15 - j) = 16 by omega] at this
      rw [this]
      unfold valUp
      have h0 := hg.lo j
      have h1 := hg.hi j
      omega
    · rw [hz j (by omega) (by omega)]
theorem valUp_u64 {g : List Int} (hg : IsG g) (hz : Zeros g 8) : U64 (valUp g 16) := by
  have h := valUp_bd hg 16 (fun j _ h2 => hz j (by omega) h2)
  rw [show 16 - 8 = 8 from rfl, pow256_8] at h
  exact ⟨h.1, by have := h.2; omega⟩

set_option maxHeartbeats 2000000 in
theorem Numbers_any (n : Int) (g : List Int) (w : World) (hn : U64 n) (hg : IsG g) : Calls Try.prog 8 #[.int .u64 n, .agg (u8s g)] w fun e w' => e = .returned (.bool true) ∧ Below w.heap.size w w' := by
  have hx := ofL_isG n
  have Hx : RowKit.Hid ((Try.prog.info? 23).map (·.size) = some (u8s (ofL n)).size) := hid (by rw [u8s_size, hx.len]; exact infoG)
  have Hg : RowKit.Hid ((Try.prog.info? 23).map (·.size) = some (u8s g).size) := hid (by rw [u8s_size, hg.len]; exact infoG)
  have Hl : RowKit.Hid ((u8s g0).size = (u8s (ofL n)).size) := hid (by rw [u8s_size, u8s_size, hx.len]; rfl)
  have hq : ∀ W, (Op.equalIn 10000 23 (.agg (u8s (ofL n))) (.agg (u8s (ofL n)))).run Try.prog W = .ok true W := fun W => by rw [eq_g _ _ hx.len hx.len W]; simp
  have Hq := hid hq
  clear hq
  go_enter Try.func8, Try.ntmps8
  go_wp2_with fail
  refine (Of_any n _ hn.1).mono ?_
  rintro e w1 ⟨rfl, hb1⟩
  have hK1 : Keeps w [(w.heap.size, u8s g, 23)] w1 := Keeps.call ⟨(Below.refl _ _).alloc (Nat.le_refl _) _, fun x hx => by simp at hx; subst hx; exact heap_alloc_new _ _⟩ hb1
  clear hb1
  have HB := hid (hK1.box (u8s g0) (u8s (ofL n)) 23)
  have HL5 := hid (HB.out.2 (w1.heap.size, u8s (ofL n), 23) (by simp))
  clear hK1
  go_wp2_with (first | ((with_reducible refine at_op ⟨none, .store 23 (.tmp 5) (.tmp 13), _, _, _, _⟩ ?_); refine wpList_store_row rfl 23 _ _ rfl w1.heap.size (u8s (ofL n)) rfl rfl 23 (u8s g0) (heap_alloc_new _ _) Hx.out Hl.out (u8s_one _) ?_) | ((with_reducible refine at_op ⟨some 15, _, _, _, _, _⟩ ?_); refine wpList_load_row rfl 23 _ rfl w1.heap.size rfl 23 (u8s (ofL n)) (0, 0) _ HL5.out Try.underlying23 rfl Hx.out ?_))
  refine (Number_any _ _ hx).mono ?_
  rintro e w2 ⟨rfl, hb2⟩
  rw [numL_ofL hn]
  have HB2 := hid (HB.out.call hb2)
  have HL3 := hid (HB2.out.2 (w.heap.size, u8s g, 23) (by simp))
  clear hb2
  go_wp2_with (first | ((with_reducible refine at_op ⟨some 20, _, _, _, _, _⟩ ?_); refine wpList_load_row rfl 23 _ rfl w.heap.size rfl 23 (u8s g) (0, 0) _ HL3.out Try.underlying23 rfl Hg.out ?_) | fail)
  refine (Number_any g _ hg).mono ?_
  rintro e w3 ⟨rfl, hb3⟩
  have hK3 := HB2.out.call hb3
  clear hb3
  by_cases hz : Zeros g 8
  · have hnum : numL g = (valUp g 16, true) := by unfold numL; rw [if_pos hz]
    have HRm := hid (fun W => refOf_any (valUp g 16) W (valUp_u64 hg hz))
    have hq2 : ∀ W, (Op.equalIn 10000 23 (.agg (u8s (ofL (valUp g 16)))) (.agg (u8s g))).run Try.prog W = .ok true W := fun W => by rw [ofL_valUp hg hz, eq_g _ _ hg.len hg.len W]; simp
    rw [hnum]
    clear hnum hz
    go_upto_region 4 with (fail)
    have hq := Hq.out
    refine wp_region_sure (Keeps w [(w1.heap.size, u8s (ofL n), 23), (w.heap.size, u8s g, 23)]) (by kernel_rfl) (by kernel_rfl) hK3.drew ?_
    repeat (first | (refine wpSure_not rfl ?_; simp only [Act.put, List.setIfInBounds_toArray, List.set_cons_zero, List.set_cons_succ]) | ((with_reducible refine atS ⟨_, .load 23 (.tmp 5), _, _, _, _⟩ ?_); (refine wpSure_row 23 _ rfl w1.heap.size rfl (u8s (ofL n)) rfl 23 (0, 0) _ (fun W hS => hS.2 (w1.heap.size, u8s (ofL n), 23) (by simp)) Try.underlying23 rfl Hx.out ?_; simp only [Act.put, List.setIfInBounds_toArray, List.set_cons_zero, List.set_cons_succ])) | ((with_reducible refine atS ⟨_, .load 23 (.tmp 3), _, _, _, _⟩ ?_); (refine wpSure_row 23 _ rfl w.heap.size rfl (u8s g) rfl 23 (0, 0) _ (fun W hS => hS.2 (w.heap.size, u8s g, 23) (by simp)) Try.underlying23 rfl Hg.out ?_; simp only [Act.put, List.setIfInBounds_toArray, List.set_cons_zero, List.set_cons_succ])) | ((with_reducible refine atS ⟨_, .call ⟨.value (.func 19), _, _⟩, _, _, _, _⟩ ?_); (refine wpSure_call _ _ _ rfl ?_ (fun W hS => hS.calls (refOf_any n W hn)) ?_; (solve | (intro W; go_simp)); simp only [Act.put, List.setIfInBounds_toArray, List.set_cons_zero, List.set_cons_succ])) | (refine' wpSure_value _ rfl _ _; rotate_left; (solve | (intro W; go_simp) | (intro W; go_simp; with_reducible rfl)); simp only [Act.put, List.setIfInBounds_toArray, List.set_cons_zero, List.set_cons_succ]))
    refine wpSure_end (fun w4 hS4 => ?_)
    go_upto_region 7 with (fail)
    refine wp_region_sure (Keeps w [(w1.heap.size, u8s (ofL n), 23), (w.heap.size, u8s g, 23)]) (by kernel_rfl) (by kernel_rfl) hS4.drew ?_
    repeat (first | (refine wpSure_not rfl ?_; simp only [Act.put, List.setIfInBounds_toArray, List.set_cons_zero, List.set_cons_succ]) | ((with_reducible refine atS ⟨_, .load 23 (.tmp 3), _, _, _, _⟩ ?_); (refine wpSure_row 23 _ rfl w.heap.size rfl (u8s g) rfl 23 (0, 0) _ (fun W hS => hS.2 (w.heap.size, u8s g, 23) (by simp)) Try.underlying23 rfl Hg.out ?_; simp only [Act.put, List.setIfInBounds_toArray, List.set_cons_zero, List.set_cons_succ])) | ((with_reducible refine atS ⟨_, .call ⟨.value (.func 19), _, _⟩, _, _, _, _⟩ ?_); (refine wpSure_call _ _ _ rfl ?_ (fun W hS => hS.calls (HRm.out W)) ?_; (solve | (intro W; go_simp)); simp only [Act.put, List.setIfInBounds_toArray, List.set_cons_zero, List.set_cons_succ])) | ((with_reducible refine atS ⟨_, .call ⟨.value (.func 11), _, _⟩, _, _, _, _⟩ ?_); (refine wpSure_call _ _ _ rfl ?_ (fun W hS => hS.calls (awake_any W)) ?_; (solve | (intro W; go_simp)); simp only [Act.put, List.setIfInBounds_toArray, List.set_cons_zero, List.set_cons_succ])) | (refine' wpSure_value _ rfl _ _; rotate_left; (solve | (intro W; go_simp) | (intro W; go_simp; with_reducible rfl)); simp only [Act.put, List.setIfInBounds_toArray, List.set_cons_zero, List.set_cons_succ]))
    refine wpSure_end (fun w5 hS5 => ?_)
    go_wp2
    go_ret
    exact ⟨rfl, hS5.1⟩
  · have hnum : numL g = (0, false) := by unfold numL; rw [if_neg hz]
    have Hz := hid hz
    rw [hnum]
    clear hnum hz
    go_upto_region 4 with (fail)
    have hq := Hq.out
    refine wp_region_sure (Keeps w [(w1.heap.size, u8s (ofL n), 23), (w.heap.size, u8s g, 23)]) (by kernel_rfl) (by kernel_rfl) hK3.drew ?_
    repeat (first | (refine wpSure_not rfl ?_; simp only [Act.put, List.setIfInBounds_toArray, List.set_cons_zero, List.set_cons_succ]) | ((with_reducible refine atS ⟨_, .load 23 (.tmp 5), _, _, _, _⟩ ?_); (refine wpSure_row 23 _ rfl w1.heap.size rfl (u8s (ofL n)) rfl 23 (0, 0) _ (fun W hS => hS.2 (w1.heap.size, u8s (ofL n), 23) (by simp)) Try.underlying23 rfl Hx.out ?_; simp only [Act.put, List.setIfInBounds_toArray, List.set_cons_zero, List.set_cons_succ])) | ((with_reducible refine atS ⟨_, .load 23 (.tmp 3), _, _, _, _⟩ ?_); (refine wpSure_row 23 _ rfl w.heap.size rfl (u8s g) rfl 23 (0, 0) _ (fun W hS => hS.2 (w.heap.size, u8s g, 23) (by simp)) Try.underlying23 rfl Hg.out ?_; simp only [Act.put, List.setIfInBounds_toArray, List.set_cons_zero, List.set_cons_succ])) | ((with_reducible refine atS ⟨_, .call ⟨.value (.func 19), _, _⟩, _, _, _, _⟩ ?_); (refine wpSure_call _ _ _ rfl ?_ (fun W hS => hS.calls (refOf_any n W hn)) ?_; (solve | (intro W; go_simp)); simp only [Act.put, List.setIfInBounds_toArray, List.set_cons_zero, List.set_cons_succ])) | (refine' wpSure_value _ rfl _ _; rotate_left; (solve | (intro W; go_simp) | (intro W; go_simp; with_reducible rfl)); simp only [Act.put, List.setIfInBounds_toArray, List.set_cons_zero, List.set_cons_succ]))
    refine wpSure_end (fun w4 hS4 => ?_)
    clear hq
    have Hcell := hid (hS4.2 (w.heap.size, u8s g, 23) (by simp))
    have HS4 := hid hS4.1
    clear hS4 hK3
    go_wp2
    go_loop [10, 11] (fun z i => ∃ (m : Nat) (b : Bool), m ≤ 8 ∧ i = .int .i64 m ∧ z = .bool b ∧ RowKit.Hid (b = decide (Zeros g m))) (fun _ i => 8 - (intOf i).toNat)
    case atStart => exact ⟨0, true, by omega, rfl, rfl, (decide_eq_true (fun j h => by omega)).symm⟩
    case round =>
      obtain ⟨m, b, hm, rfl, rfl, hb⟩ := hrel
      by_cases hlt : m < 8
      · have hc := cell_u8s Hcell.out m (by rw [hg.len]; omega)
        have hst : RowKit.Hid (∀ v : Bool, (v = true ↔ g.getD m 0 = 0) → (b && v) = decide (Zeros g (m + 1))) := hid (fun v hv => by
          rw [hb.out, Bool.eq_iff_iff]
          simp only [Bool.and_eq_true, decide_eq_true_eq, hv]
          constructor
          · rintro ⟨h1, h2⟩; exact h1.step (fun _ => h2)
          · intro h; exact ⟨fun j h1 h2 => h j (by omega) h2, h m (by omega) hlt⟩)
        clear hb
        generalize g.getD m 0 = y at *
        by_cases hy : y = 0
        · have e := hid (hst.out true (by simp [hy]))
          have hy2 : (y == 0) = true := by simp [hy]
          clear hst hy
          cases b
          all_goals
            go_wp2
            go_round
            case rel => exact ⟨m + 1, _, by omega, by go_num, rfl, by first | exact e | simpa using e⟩
            case measure => simp [intOf]; omega
        · have e := hid (hst.out false (by simp [hy]))
          have hy2 : (y == 0) = false := by simp [hy]
          clear hst hy
          cases b
          all_goals
            go_wp2
            go_round
            case rel => exact ⟨m + 1, _, by omega, by go_num, rfl, by first | exact e | simpa using e⟩
            case measure => simp [intOf]; omega
      · obtain rfl : m = 8 := by omega
        have hbf : b = false := by rw [hb.out]; exact decide_eq_false Hz.out
        subst hbf
        clear hb
        go_wp2_with fail
        refine (awake_any _).mono ?_
        rintro e w5 ⟨rfl, hb5⟩
        have HB5 := hid (below_on HS4.out hb5)
        clear hb5
        go_wp2
        go_ret
        exact ⟨rfl, HB5.out⟩
end Go.Proofs.Ytjmbpjbeljeglaa
