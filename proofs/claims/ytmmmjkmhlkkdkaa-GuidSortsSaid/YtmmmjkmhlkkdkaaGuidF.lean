/-
  Contracts of the plain twins of Compare and Parse.
-/
import Derived.Test.YtmmmjkmhlkkdkaaGuidA
import Derived.Test.YtmmmjkmhlkkdkaaGuidN
namespace Go.Proofs.Ytmmmjkmhlkkdkaa
open Go.ChangeShapes Go.WideShapes Go.ChangeAt Go.RowKit

set_option maxRecDepth 100000 in
theorem refCompare_any (xs ys : List Int) (w : World) (hx : xs.length = 16) (hy : ys.length = 16) : Calls Try.prog 21 #[.agg (u8s xs), .agg (u8s ys)] w fun e w' => e = .returned (.int .i64 (cmpL xs ys)) ∧ Below w.heap.size w w' := by
  have Hx := hid hx
  have Hy := hid hy
  clear hx hy
  go_enter Try.func21, Try.ntmps21
  go_wp2
  go_loopw [5] (fun n wr => ∃ k : Nat, k ≤ 16 ∧ n = .int .i64 k ∧ RowKit.Hid (cmpL xs ys = cmpL (xs.drop k) (ys.drop k)) ∧ wr.heap[w.heap.size]? = some (.cells (u8s xs) 51 (0,0)) ∧ wr.heap[w.heap.size+1]? = some (.cells (u8s ys) 51 (0,0)) ∧ Below w.heap.size w wr) (fun n _ => 16 - (intOf n).toNat)
  case atStart => exact ⟨0, by omega, rfl, hid (by simp), heap_alloc2_old _ _ _, heap_alloc2_new _ _ _, ((Below.refl _ _).alloc (Nat.le_refl _) _).alloc (by simp) _⟩
  case round =>
    obtain ⟨k, hk, rfl, hrest, ha, hb, hB⟩ := hrel
    by_cases hlt : k < 16
    · have hc1 := cell_u8s ha k (by rw [Hx.out]; exact hlt)
      have hc2 := cell_u8s hb k (by rw [Hy.out]; exact hlt)
      have hat := cmpL_at xs ys k (by rw [Hx.out]; exact hlt) (by rw [Hy.out]; exact hlt)
      have HR := hid (hrest.out.trans hat)
      have HA := hid ha
      have HB := hid hb
      have HBB := hid hB
      have hlt' : (k : Int) < 16 := by omega
      clear hat hrest ha hb hB
      generalize xs.getD k 0 = x at *
      generalize ys.getD k 0 = y at *
      by_cases h1 : x < y
      · go_wp2
        go_quiet (fail)
        go_wp2
        go_ret
        exact ⟨ret_int (by rw [HR.out, if_pos h1]), below_drewN HBB.out _⟩
      · by_cases h2 : y < x
        · have d1 : decide (x < y) = false := by simpa using h1
          go_wp2
          go_quiet (fail)
          go_wp2
          go_quiet (fail)
          go_wp2
          go_ret
          exact ⟨ret_int (by rw [HR.out, if_neg (by omega), if_pos h2]), below_drewN (below_drewN HBB.out _) _⟩
        · have d1 : decide (x < y) = false := by simpa using h1
          have d2 : decide (y < x) = false := by simpa using h2
          have h3 : cmpL xs ys = cmpL (xs.drop (k+1)) (ys.drop (k+1)) := by rw [HR.out, if_neg h1, if_neg h2]
          have H3 := hid h3
          clear h3
          go_wp2
          go_quiet (fail)
          go_wp2
          go_quiet (fail)
          go_wp2
          go_roundw
          case rel => exact ⟨k + 1, by omega, by go_num, H3, HA.out, HB.out, below_drewN HBB.out _⟩
          case measure => simp [intOf]; omega
    · have h0 : cmpL xs ys = 0 := by rw [hrest.out, List.drop_of_length_le (by rw [Hx.out]; omega)]; simp [cmpL]
      have H0 := hid h0
      have HBB := hid hB
      clear hrest h0 ha hb hB
      go_wp2
      go_ret
      exact ⟨ret_int (by rw [H0.out]), HBB.out⟩
end Go.Proofs.Ytmmmjkmhlkkdkaa
