/-
  Contracts of the functions of package guid and of its plain twin that order GUIDs and print them.
-/
import Derived.Test.YtmmmjkmhlkkdkaaChecked
import Derived.Test.YtmmmjkmhlkkdkaaLib
namespace Go.Proofs.Ytmmmjkmhlkkdkaa
open Go.ChangeShapes Go.WideShapes Go.ChangeAt Go.RowKit

set_option maxRecDepth 100000 in
theorem szB (w : World) : (sizeOf 5).run Try.prog w = .ok 1 w := by kernel_rfl
set_option maxRecDepth 100000 in
theorem agB (w : World) : (isAgg 5).run Try.prog w = .ok false w := by kernel_rfl
set_option maxRecDepth 100000 in
theorem infoG : (Try.prog.info? 51).map (·.size) = some 16 := by kernel_rfl

def cmpL : List Int → List Int → Int
  | x :: xs, y :: ys => if x < y then -1 else if y < x then 1 else cmpL xs ys
  | _, _ => 0
set_option maxRecDepth 100000 in
theorem cmpL_at (xs ys : List Int) (k : Nat) (h : k < xs.length) (h' : k < ys.length) : cmpL (xs.drop k) (ys.drop k) = if xs.getD k 0 < ys.getD k 0 then -1 else if ys.getD k 0 < xs.getD k 0 then 1 else cmpL (xs.drop (k+1)) (ys.drop (k+1)) := by
  rw [List.drop_eq_getElem_cons h, List.drop_eq_getElem_cons h', cmpL]
  simp [h, h']

set_option maxRecDepth 100000 in
/-- guid.Compare: which of two rows of sixteen bytes comes first. -/
theorem Compare_any (xs ys : List Int) (w : World) (hx : xs.length = 16) (hy : ys.length = 16) : Calls Try.prog 30 #[.agg (u8s xs), .agg (u8s ys)] w fun e w' => e = .returned (.int .i64 (cmpL xs ys)) ∧ Below w.heap.size w w' := by
  have hi : (Try.prog.info? 51).map (·.size) = some (u8s xs).size := by rw [u8s_size, hx]; exact infoG
  have Hx := hid hx
  have Hy := hid hy
  have Hi := hid hi
  clear hx hy hi
  go_enter Try.func30, Try.ntmps30
  go_wp2_with (refine wpList_load_row rfl 51 _ rfl w.heap.size rfl 51 (u8s xs) (0,0) _ (heap_alloc2_old _ _ _) Try.underlying51 rfl Hi.out ?_)
  go_loop [4,5,6,8] (fun r i b n => ∃ k : Nat, k ≤ 16 ∧ n = .int .i64 k ∧ RowKit.Hid (cmpL xs ys = cmpL (xs.drop k) (ys.drop k))) (fun _ _ _ n => 16 - (intOf n).toNat)
  case atStart => exact ⟨0, by omega, rfl, hid (by simp)⟩
  case round =>
    obtain ⟨k, hk, rfl, hrest⟩ := hrel
    by_cases hlt : k < 16
    · have hix := fun w => run_index_u8s (P := Try.prog) w 51 5 16 xs k Try.underlying51 szB agB Hx.out hlt
      have hc : ((w.alloc (.cells (u8s xs) 51)).alloc (.cells (u8s ys) 51)).cell? ⟨w.heap.size + 1, k, none⟩ = some (.int .u8 (ys.getD k 0)) := by
        rw [cell_of_row _ _ k _ 51 (0,0) (heap_alloc2_new _ _ _)]; exact u8s_get ys k (by rw [Hy.out]; exact hlt)
      have hat := cmpL_at xs ys k (by rw [Hx.out]; exact hlt) (by rw [Hy.out]; exact hlt)
      have HR := hid (hrest.out.trans hat)
      clear hat hrest
      generalize xs.getD k 0 = x at *
      generalize ys.getD k 0 = y at *
      go_wp2
      · go_ret
        have h1 : x < y := by assumption
        exact ⟨ret_int (by rw [HR.out, if_pos h1]), ((Below.refl _ _).alloc (Nat.le_refl _) _).alloc (by simp) _⟩
      · go_ret
        have h1 : y ≤ x := by assumption
        have h2 : y < x := by assumption
        exact ⟨ret_int (by rw [HR.out, if_neg (by omega), if_pos h2]), ((Below.refl _ _).alloc (Nat.le_refl _) _).alloc (by simp) _⟩
      · have h1 : y ≤ x := by assumption
        have h2 : x ≤ y := by assumption
        have h3 : cmpL xs ys = cmpL (xs.drop (k+1)) (ys.drop (k+1)) := by rw [HR.out, if_neg (by omega), if_neg (by omega)]
        have H3 := hid h3
        clear h3
        go_round
        case rel => exact ⟨k + 1, by omega, by go_num, H3⟩
        case measure => simp [intOf]; omega
    · have h0 : cmpL xs ys = 0 := by rw [hrest.out, List.drop_of_length_le (by rw [Hx.out]; omega)]; simp [cmpL]
      have H0 := hid h0
      clear hrest h0
      go_wp2
      go_ret
      exact ⟨ret_int (by rw [H0.out]), ((Below.refl _ _).alloc (Nat.le_refl _) _).alloc (by simp) _⟩
end Go.Proofs.Ytmmmjkmhlkkdkaa
