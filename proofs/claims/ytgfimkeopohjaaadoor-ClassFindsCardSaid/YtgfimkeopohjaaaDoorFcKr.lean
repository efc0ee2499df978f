/- FcQ FcKc FcKr in one -/
import Derived.Test.YtgfimkeopohjaaaDoorFcG
import Derived.Test.YtgfimkeopohjaaaDoorMixD
namespace Go.Proofs.YtgfimkeopohjaaaDoor
open Go Go.ChangeShapes Go.WideShapes Go.ChangeAt Go.RowKit

theorem find_at {g : List Int} : ∀ {l : List Face} {q : Nat} {f : Face}, l[q]? = some f → f.id = g → (∀ i f', i < q → l[i]? = some f' → f'.id ≠ g) → findL l g = some q
  | [], _, _, h, _, _ => by cases h
  | a :: l, 0, f, h, hf, _ => by
    simp at h; subst h
    unfold findL
    rw [if_pos hf]
  | a :: l, q + 1, f, h, hf, hn => by
    unfold findL
    rw [if_neg (hn 0 a (by omega) rfl), find_at (l := l) (q := q) (f := f) (by simpa using h) hf (fun i f' hi hf' => hn (i + 1) f' (by omega) (by simpa using hf'))]
    rfl
theorem find_none {g : List Int} : ∀ {l : List Face}, (∀ f ∈ l, f.id ≠ g) → findL l g = none
  | [], _ => rfl
  | a :: l, h => by
    unfold findL
    rw [if_neg (h a (by simp)), find_none (fun f hf => h f (by simp [hf]))]
    rfl
def rfV : Option Nat → Int
  | some a => (a : Int)
  | none => -1
end Go.Proofs.YtgfimkeopohjaaaDoor

namespace Go.Proofs.YtgfimkeopohjaaaDoor
open Go Go.ChangeShapes Go.WideShapes Go.ChangeAt Go.RowKit

theorem check_step {l : List Face} {q : Nat} {f : Face} (hf : l[q]? = some f) : checkFrom l q (l.drop q) = if baseOk q f.base then (if (findL (l.take q) f.id).isSome then 13 else checkFrom l (q + 1) (l.drop (q + 1))) else 5 := by
  obtain ⟨hlt, e⟩ := List.getElem?_eq_some_iff.1 hf
  rw [List.drop_eq_getElem_cons hlt, e, checkFrom]
theorem check_end {l : List Face} : checkFrom l l.length (l.drop l.length) = 0 := by rw [List.drop_length]; rfl
end Go.Proofs.YtgfimkeopohjaaaDoor

namespace Go.Proofs.YtgfimkeopohjaaaDoor
open Go Go.ChangeShapes Go.WideShapes Go.ChangeAt Go.RowKit

set_option maxHeartbeats 2000000 in
set_option maxRecDepth 100000 in
theorem RCheck_any (w : World) (ad : Option Addr) (N cap : Nat) (l : List Face) (hF : FRow w w.heap.size ad l) (hN : N = l.length) (hN2 : N ≤ 100000) :
    Calls Tryd.prog 31 #[.slice ad N cap] w fun e w' => e = .returned (.int .i64 (checkL l)) ∧ Below w.heap.size w w' := by
  have HF := hid hF
  have HN := hid hN
  clear hF hN
  by_cases hlen : N < 1 ∨ 16 < N
  · have hc : checkL l = 20 := by unfold checkL; rw [if_pos (by have := HN.out; omega)]
    have HC := hid hc
    clear hc
    by_cases h1 : N < 1
    · have d1 : ((N : Int) == 0) = true := by simp; omega
      clear hlen h1 HF
      go_enter Tryd.func31, Tryd.ntmps31
      go_wp2
      go_ret
      exact ⟨by rw [HC.out]; rfl, Below.refl _ _⟩
    · have d1 : ((N : Int) == 0) = false := by simp; omega
      have d2 : decide ((16 : Int) < (N : Int)) = true := by simp; omega
      clear hlen h1 HF
      go_enter Tryd.func31, Tryd.ntmps31
      go_wp2
      go_ret
      exact ⟨by rw [HC.out]; rfl, Below.refl _ _⟩
  · have hc : checkL l = checkFrom l 0 (l.drop 0) := by unfold checkL; rw [if_neg (by have := HN.out; omega)]; rfl
    have HC := hid hc
    have d1 : ((N : Int) == 0) = false := by simp; omega
    have d2 : decide ((16 : Int) < (N : Int)) = false := by simp; omega
    have hn16 : N ≤ 16 := by omega
    clear hlen hc
    go_enter Tryd.func31, Tryd.ntmps31
    go_wp2
    clear d1 d2
    go_loopw [3] (fun p wr => ∃ q : Nat, q ≤ N ∧ p = .int .i64 q ∧ RowKit.Hid (checkL l = checkFrom l q (l.drop q)) ∧ RowKit.Hid (Fr (fun _ => False) w wr)) (fun p _ => N - (intOf p).toNat)
    case atStart => exact ⟨0, by omega, rfl, HC, hid (Fr.refl _ _)⟩
    case round =>
      obtain ⟨q, hq, rfl, HCq, HX⟩ := hrel
      by_cases hql : q < N
      · have hx : l[q]? = some (l[q]'(by have := HN.out; omega)) := List.getElem?_eq_getElem (by have := HN.out; omega)
        generalize (l[q]'(by have := HN.out; omega)) = f at hx
        have hfi := HF.out.len f (List.mem_of_getElem? hx)
        obtain ⟨b, o, rfl, hb⟩ := HF.out.some (by have := HN.out; omega)
        have HFI := hid hfi
        have hst := check_step hx
        have cb : wr.cell? ⟨b, o + q * 17 + 16, none⟩ = some (.int .i64 f.base) := (HF.out.below (HX.out.below (Nat.le_refl _) (fun _ h => h.elim))).base hx
        have HS2 := hid (show ∀ W, Fr (fun _ => False) w W → AtL W b (o + q * 17) (u8s f.id).toList from fun W h => (HF.out.id hx).fr h)
        have HXX := hid hx
        clear hx hfi hb
        cases hbo : baseOk q f.base with
        | false =>
          rw [hbo] at hst
          simp only [Bool.false_eq_true, if_false] at hst
          have HST := hid hst
          clear hst
          have hbl : Below w.heap.size w wr := HX.out.below (Nat.le_refl _) (fun _ h => h.elim)
          have HBL := hid hbl
          clear hbl
          unfold baseOk at hbo
          by_cases h0 : q = 0
          · rw [if_pos h0] at hbo
            have d1 : ((q : Int) == 0) = true := by simp; omega
            have d2 : (f.base == (-1 : Int)) = false := by simpa using hbo
            have d3 : (f.base != (-1 : Int)) = true := by unfold bne; rw [d2]; rfl
            clear h0 hbo
            go_wp2
            go_ret
            exact ⟨by rw [HCq.out, HST.out]; rfl, HBL.out⟩
          · rw [if_neg h0] at hbo
            have d1 : ((q : Int) == 0) = false := by simp; omega
            by_cases hneg : f.base < 0
            · have d2 : decide (f.base < 0) = true := by simpa using hneg
              clear h0 hbo hneg
              go_wp2
              go_ret
              exact ⟨by rw [HCq.out, HST.out]; rfl, HBL.out⟩
            · have d2 : decide (f.base < 0) = false := by simpa using hneg
              have d3 : decide ((q : Int) ≤ f.base) = true := by simp at hbo ⊢; omega
              clear h0 hbo hneg
              go_wp2
              go_ret
              exact ⟨by rw [HCq.out, HST.out]; rfl, HBL.out⟩
        | true =>
          rw [hbo] at hst
          simp only [if_true] at hst
          have HST := hid hst
          clear hst
          have key : (q = 0 ∧ f.base = -1) ∨ (¬ q = 0 ∧ 0 ≤ f.base ∧ f.base < (q : Int)) := by
            unfold baseOk at hbo
            by_cases h0 : q = 0
            · rw [if_pos h0] at hbo; exact .inl ⟨h0, by simpa using hbo⟩
            · rw [if_neg h0] at hbo; exact .inr ⟨h0, by simpa using hbo⟩
          clear hbo
          have inner : True := trivial
          rcases key with ⟨h0, hm⟩ | ⟨h0, hm1, hm2⟩
          · have d1 : ((q : Int) == 0) = true := by simp; omega
            have d3 : (f.base != (-1 : Int)) = false := by rw [hm]; rfl
            clear h0 hm
            go_wp2
            clear d1 d3 inner cb
            have HXr := HX
            go_loopw [5] (fun p wy => ∃ k : Nat, k ≤ q ∧ p = .int .i64 k ∧ RowKit.Hid (∀ i f', i < k → l[i]? = some f' → f'.id ≠ f.id) ∧ RowKit.Hid (Fr (fun _ => False) w wy)) (fun p _ => q - (intOf p).toNat)
            case atStart => exact ⟨0, by omega, rfl, hid (fun i f' h => by omega), HXr⟩
            case round =>
              obtain ⟨k, hk, rfl, HP, HY⟩ := hrel
              by_cases hkq : k < q
              · have hy : l[k]? = some (l[k]'(by have := HN.out; omega)) := List.getElem?_eq_getElem (by have := HN.out; omega)
                generalize (l[k]'(by have := HN.out; omega)) = f2 at hy
                have hfi2 := HF.out.len f2 (List.mem_of_getElem? hy)
                have HFI2 := hid hfi2
                have hkN : k < N := by omega
                have HS1 := hid (show ∀ W, Fr (fun _ => False) w W → AtL W b (o + k * 17) (u8s f2.id).toList from fun W h => (HF.out.id hy).fr h)
                have HYY := hid hy
                have he := fun W => eq28 f2.id f.id hfi2 HFI.out W
                have hgd := guard28
                clear hy hfi2
                by_cases heq : f2.id = f.id
                · have e1 : (f2.id == f.id) = true := by simpa using heq
                  rw [e1] at he
                  have hfd : findL (l.take q) f.id = some k := find_at (f := f2) (by rw [List.getElem?_take, if_pos hkq]; exact HYY.out) heq (fun i f' hi hf' => HP.out i f' hi (by
                    rw [List.getElem?_take] at hf'
                    split at hf'
                    · exact hf'
                    · cases hf'))
                  have h13 := HST.out
                  rw [hfd] at h13
                  simp only [Option.isSome_some, if_true] at h13
                  have H13 := hid h13
                  clear heq e1 hfd h13
                  go_wp2
                  refine D.wp_region_mix [0, 0, 0, 0, 1, 0, 0, 0, 0, 1, 0] (fun W => Fr (fun _ => False) w W) (by kernel_rfl) (by kernel_rfl) HY.out.drew ?_
                  repeat (first
                    | (refine C.wpMix_read _ rfl rfl (fun W hS => load_id rfl rfl (HS1.out W hS) HFI2.out) ?_; simp only [Act.put, List.setIfInBounds_toArray, List.set_cons_zero, List.set_cons_succ])
                    | (refine C.wpMix_read _ rfl rfl (fun W hS => load_id rfl rfl (HS2.out W hS) HFI.out) ?_; simp only [Act.put, List.setIfInBounds_toArray, List.set_cons_zero, List.set_cons_succ])
                    | (refine' C.wpMix_value _ rfl rfl _ _; rotate_left; (solve | (intro W; go_simp) | (intro W; go_simp; with_reducible rfl)); simp only [Act.put, List.setIfInBounds_toArray, List.set_cons_zero, List.set_cons_succ]))
                  refine C.wpMix_end ?_
                  go_wp2
                  go_ret
                  exact ⟨by rw [HCq.out, H13.out]; rfl, HY.out.drew.below (Nat.le_refl _) (fun _ h => h.elim)⟩
                · have e1 : (f2.id == f.id) = false := by simpa using heq
                  rw [e1] at he
                  have HE := hid heq
                  clear heq e1
                  go_wp2
                  refine D.wp_region_mix [0, 0, 0, 0, 1, 0, 0, 0, 0, 1, 0] (fun W => Fr (fun _ => False) w W) (by kernel_rfl) (by kernel_rfl) HY.out.drew ?_
                  repeat (first
                    | (refine C.wpMix_read _ rfl rfl (fun W hS => load_id rfl rfl (HS1.out W hS) HFI2.out) ?_; simp only [Act.put, List.setIfInBounds_toArray, List.set_cons_zero, List.set_cons_succ])
                    | (refine C.wpMix_read _ rfl rfl (fun W hS => load_id rfl rfl (HS2.out W hS) HFI.out) ?_; simp only [Act.put, List.setIfInBounds_toArray, List.set_cons_zero, List.set_cons_succ])
                    | (refine' C.wpMix_value _ rfl rfl _ _; rotate_left; (solve | (intro W; go_simp) | (intro W; go_simp; with_reducible rfl)); simp only [Act.put, List.setIfInBounds_toArray, List.set_cons_zero, List.set_cons_succ]))
                  refine C.wpMix_end ?_
                  go_wp2
                  go_roundw
                  case rel =>
                    refine ⟨k + 1, by omega, by go_num, hid (fun i f' hi hf' => ?_), hid HY.out.drew⟩
                    by_cases hik : i = k
                    · subst hik
                      rw [HYY.out] at hf'; cases hf'
                      exact HE.out
                    · exact HP.out i f' (by omega) hf'
                  case measure => simp [intOf]; omega
              · obtain rfl : k = q := by omega
                have hfd : findL (l.take k) f.id = none := find_none (fun f' hf' => by
                  obtain ⟨i, hi⟩ := List.mem_iff_getElem?.1 hf'
                  rw [List.getElem?_take] at hi
                  split at hi
                  · rename_i hik; exact HP.out i f' hik hi
                  · cases hi)
                have h13 := HST.out
                rw [hfd] at h13
                simp only [Option.isSome_none, Bool.false_eq_true, if_false] at h13
                have H13 := hid h13
                clear hfd h13
                go_wp2
                go_roundw
                case rel => exact ⟨k + 1, by omega, by go_num, hid (by rw [HCq.out, H13.out]), HY⟩
                case measure => simp [intOf]; omega
          · have d1 : ((q : Int) == 0) = false := by simp; omega
            have d2 : decide (f.base < 0) = false := by simp; omega
            have d3 : decide ((q : Int) ≤ f.base) = false := by simp; omega
            clear h0 hm1 hm2
            go_wp2
            clear d1 d3 inner cb
            have HXr := HX
            go_loopw [5] (fun p wy => ∃ k : Nat, k ≤ q ∧ p = .int .i64 k ∧ RowKit.Hid (∀ i f', i < k → l[i]? = some f' → f'.id ≠ f.id) ∧ RowKit.Hid (Fr (fun _ => False) w wy)) (fun p _ => q - (intOf p).toNat)
            case atStart => exact ⟨0, by omega, rfl, hid (fun i f' h => by omega), HXr⟩
            case round =>
              obtain ⟨k, hk, rfl, HP, HY⟩ := hrel
              by_cases hkq : k < q
              · have hy : l[k]? = some (l[k]'(by have := HN.out; omega)) := List.getElem?_eq_getElem (by have := HN.out; omega)
                generalize (l[k]'(by have := HN.out; omega)) = f2 at hy
                have hfi2 := HF.out.len f2 (List.mem_of_getElem? hy)
                have HFI2 := hid hfi2
                have hkN : k < N := by omega
                have HS1 := hid (show ∀ W, Fr (fun _ => False) w W → AtL W b (o + k * 17) (u8s f2.id).toList from fun W h => (HF.out.id hy).fr h)
                have HYY := hid hy
                have he := fun W => eq28 f2.id f.id hfi2 HFI.out W
                have hgd := guard28
                clear hy hfi2
                by_cases heq : f2.id = f.id
                · have e1 : (f2.id == f.id) = true := by simpa using heq
                  rw [e1] at he
                  have hfd : findL (l.take q) f.id = some k := find_at (f := f2) (by rw [List.getElem?_take, if_pos hkq]; exact HYY.out) heq (fun i f' hi hf' => HP.out i f' hi (by
                    rw [List.getElem?_take] at hf'
                    split at hf'
                    · exact hf'
                    · cases hf'))
                  have h13 := HST.out
                  rw [hfd] at h13
                  simp only [Option.isSome_some, if_true] at h13
                  have H13 := hid h13
                  clear heq e1 hfd h13
                  go_wp2
                  refine D.wp_region_mix [0, 0, 0, 0, 1, 0, 0, 0, 0, 1, 0] (fun W => Fr (fun _ => False) w W) (by kernel_rfl) (by kernel_rfl) HY.out.drew ?_
                  repeat (first
                    | (refine C.wpMix_read _ rfl rfl (fun W hS => load_id rfl rfl (HS1.out W hS) HFI2.out) ?_; simp only [Act.put, List.setIfInBounds_toArray, List.set_cons_zero, List.set_cons_succ])
                    | (refine C.wpMix_read _ rfl rfl (fun W hS => load_id rfl rfl (HS2.out W hS) HFI.out) ?_; simp only [Act.put, List.setIfInBounds_toArray, List.set_cons_zero, List.set_cons_succ])
                    | (refine' C.wpMix_value _ rfl rfl _ _; rotate_left; (solve | (intro W; go_simp) | (intro W; go_simp; with_reducible rfl)); simp only [Act.put, List.setIfInBounds_toArray, List.set_cons_zero, List.set_cons_succ]))
                  refine C.wpMix_end ?_
                  go_wp2
                  go_ret
                  exact ⟨by rw [HCq.out, H13.out]; rfl, HY.out.drew.below (Nat.le_refl _) (fun _ h => h.elim)⟩
                · have e1 : (f2.id == f.id) = false := by simpa using heq
                  rw [e1] at he
                  have HE := hid heq
                  clear heq e1
                  go_wp2
                  refine D.wp_region_mix [0, 0, 0, 0, 1, 0, 0, 0, 0, 1, 0] (fun W => Fr (fun _ => False) w W) (by kernel_rfl) (by kernel_rfl) HY.out.drew ?_
                  repeat (first
                    | (refine C.wpMix_read _ rfl rfl (fun W hS => load_id rfl rfl (HS1.out W hS) HFI2.out) ?_; simp only [Act.put, List.setIfInBounds_toArray, List.set_cons_zero, List.set_cons_succ])
                    | (refine C.wpMix_read _ rfl rfl (fun W hS => load_id rfl rfl (HS2.out W hS) HFI.out) ?_; simp only [Act.put, List.setIfInBounds_toArray, List.set_cons_zero, List.set_cons_succ])
                    | (refine' C.wpMix_value _ rfl rfl _ _; rotate_left; (solve | (intro W; go_simp) | (intro W; go_simp; with_reducible rfl)); simp only [Act.put, List.setIfInBounds_toArray, List.set_cons_zero, List.set_cons_succ]))
                  refine C.wpMix_end ?_
                  go_wp2
                  go_roundw
                  case rel =>
                    refine ⟨k + 1, by omega, by go_num, hid (fun i f' hi hf' => ?_), hid HY.out.drew⟩
                    by_cases hik : i = k
                    · subst hik
                      rw [HYY.out] at hf'; cases hf'
                      exact HE.out
                    · exact HP.out i f' (by omega) hf'
                  case measure => simp [intOf]; omega
              · obtain rfl : k = q := by omega
                have hfd : findL (l.take k) f.id = none := find_none (fun f' hf' => by
                  obtain ⟨i, hi⟩ := List.mem_iff_getElem?.1 hf'
                  rw [List.getElem?_take] at hi
                  split at hi
                  · rename_i hik; exact HP.out i f' hik hi
                  · cases hi)
                have h13 := HST.out
                rw [hfd] at h13
                simp only [Option.isSome_none, Bool.false_eq_true, if_false] at h13
                have H13 := hid h13
                clear hfd h13
                go_wp2
                go_roundw
                case rel => exact ⟨k + 1, by omega, by go_num, hid (by rw [HCq.out, H13.out]), HY⟩
                case measure => simp [intOf]; omega
      · obtain rfl : q = N := by omega
        have he : checkL l = 0 := by rw [HCq.out, HN.out]; exact check_end
        have HE := hid he
        clear he
        go_wp2
        go_ret
        exact ⟨by rw [HE.out]; rfl, HX.out.below (Nat.le_refl _) (fun _ h => h.elim)⟩
end Go.Proofs.YtgfimkeopohjaaaDoor
