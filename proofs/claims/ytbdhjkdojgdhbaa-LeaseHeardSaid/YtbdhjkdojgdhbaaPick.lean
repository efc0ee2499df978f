/-
  The contract of the plain helper Pick, of any seat.
-/
import Derived.Test.YtbdhjkdojgdhbaaChecked
import Derived.Test.YtbdhjkdojgdhbaaLib
namespace Go.Proofs.Ytbdhjkdojgdhbaa
open Go.ChangeShapes Go.WideShapes Go.ChangeAt Go.RowKit
theorem ret_i64 {a b : Int} (h : a = b) : Ending.returned (.int .i64 a) = .returned (.int .i64 b) := by rw [h]
theorem tmod_pick (x n : Int) (hn : 1 ≤ n) : -n < x.tmod n ∧ x.tmod n < n ∧ (x.tmod n < 0 → x % n = x.tmod n + n) ∧ (0 ≤ x.tmod n → x % n = x.tmod n) := by
  have h1 := Int.tmod_add_mul_tdiv x n
  have h2 := Int.emod_add_mul_ediv x n
  have h3 := Int.emod_nonneg x (show n ≠ 0 by omega)
  have h4 := Int.emod_lt_of_pos x (show 0 < n by omega)
  rcases Int.le_total 0 x with hx | hx
  · rw [Int.tmod_eq_emod_of_nonneg hx]
    omega
  · have e : x.tmod n = -((-x) % n) := by rw [← Int.tmod_eq_emod_of_nonneg (by omega), Int.neg_tmod]; omega
    have h5 := Int.emod_nonneg (-x) (show n ≠ 0 by omega)
    have h6 := Int.emod_lt_of_pos (-x) (show 0 < n by omega)
    have h7 : x % n = (-((-x) % n)) % n := by
      rw [← e]
      conv => lhs; rw [← h1]
      exact Int.add_mul_emod_self_left _ _ _
    rw [e]
    refine ⟨by omega, by omega, fun hl => ?_, fun hl => ?_⟩
    · rw [h7]
      have : (-((-x) % n)) % n = (-((-x) % n) + n) % n := by simp
      rw [this, Int.emod_eq_of_lt (by omega) (by omega)]
    · have : (-x) % n = 0 := by omega
      rw [h7, this]; simp
set_option maxHeartbeats 400000 in
theorem Pick_any (x n : Int) (w : World) (_ : -9223372036854775808 ≤ x ∧ x ≤ 9223372036854775807) (h1 : 1 ≤ n) (h2 : n ≤ 4611686018427387904) : Calls Try.prog 16 #[.int .i64 x, .int .i64 n] w fun e w' => e = .returned (.int .i64 (x % n)) ∧ w = w' := by
  obtain ⟨t1, t2, t3, t4⟩ := tmod_pick x n h1
  have T3 := hid t3
  have T4 := hid t4
  have hn0 : ¬ n = 0 := by omega
  have hn1 : decide (n < 1) = false := by simp; omega
  have hw := IntWalk.i64_in (x.tmod n) (by omega)
  have hw2 := fun h : x.tmod n < 0 => IntWalk.i64_in (x.tmod n + n) (by omega)
  clear t3 t4
  go_enter Try.func16, Try.ntmps16
  go_wp2
  · go_ret
    have h : x.tmod n < 0 := by assumption
    exact ⟨ret_i64 (T3.out h).symm, rfl⟩
  · go_ret
    have h : 0 ≤ x.tmod n := by assumption
    exact ⟨ret_i64 (T4.out h).symm, rfl⟩
theorem Pick_low (x n : Int) (w : World) (h : n < 1) : Calls Try.prog 16 #[.int .i64 x, .int .i64 n] w fun e w' => e = .returned (.int .i64 0) ∧ w = w' := by
  have hn1 : decide (n < 1) = true := by simpa using h
  go_enter Try.func16, Try.ntmps16
  go_wp2
  go_ret
  exact ⟨rfl, rfl⟩
end Go.Proofs.Ytbdhjkdojgdhbaa
