/-
  The contracts of wire's isSize and gap.
-/
import Derived.Test.YtceeipejhmnkfaaWrA
namespace Go.Proofs.Ytceeipejhmnkfaa
open Go Go.ChangeShapes Go.WideShapes Go.ChangeAt Go.RowKit

set_option maxRecDepth 100000 in
theorem isSize_any (s : Int) (w : World) : Calls Try.prog 56 #[.int .i64 s] w fun e w' => e = .returned (.bool (fits s)) ∧ w = w' := by
  by_cases h1 : s = 1
  · subst h1
    go_enter Try.func56, Try.ntmps56
    go_wp2
    go_ret
    exact ⟨rfl, rfl⟩
  · by_cases h2 : s = 2
    · subst h2
      go_enter Try.func56, Try.ntmps56
      go_wp2
      go_ret
      exact ⟨rfl, rfl⟩
    · by_cases h3 : s = 4
      · subst h3
        go_enter Try.func56, Try.ntmps56
        go_wp2
        go_ret
        exact ⟨rfl, rfl⟩
      · have E := hid (show fits s = (s == 8) by simp [fits, h1, h2, h3])
        have b1 : (s == 1) = false := by simpa using h1
        have b2 : (s == 2) = false := by simpa using h2
        have b3 : (s == 4) = false := by simpa using h3
        clear h1 h2 h3
        go_enter Try.func56, Try.ntmps56
        go_wp2
        go_ret
        exact ⟨ret_bool E.out.symm, rfl⟩
set_option maxRecDepth 100000 in
theorem gap_any (a k : Nat) (w : World) (hk : Siz k) (ha : a ≤ 140737488351232) : Calls Try.prog 79 #[.int .i64 a, .int .i64 k] w fun e w' => e = .returned (.int .i64 (gap a k)) ∧ w = w' := by
  rcases hk with rfl | rfl | rfl | rfl
  · go_enter Try.func79, Try.ntmps79
    go_wp2
    go_ret
    exact ⟨ret_int (by unfold gap; omega), rfl⟩
  · go_enter Try.func79, Try.ntmps79
    go_wp2
    go_ret
    exact ⟨ret_int (by unfold gap; omega), rfl⟩
  · go_enter Try.func79, Try.ntmps79
    go_wp2
    go_ret
    exact ⟨ret_int (by unfold gap; omega), rfl⟩
  · go_enter Try.func79, Try.ntmps79
    go_wp2
    go_ret
    exact ⟨ret_int (by unfold gap; omega), rfl⟩
end Go.Proofs.Ytceeipejhmnkfaa
