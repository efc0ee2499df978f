/-
  The contract of the plain helper SameBytes.
-/
import Derived.Test.YtceeipejhmnkfaaWrA
namespace Go.Proofs.Ytceeipejhmnkfaa
open Go Go.ChangeShapes Go.WideShapes Go.ChangeAt Go.RowKit

set_option maxRecDepth 100000 in
/-- SameBytes: two rows of bytes. -/
theorem SameBytes_any (w : World) (a b : Option Addr) (ka kb n m : Nat) (xs ys : List Int) (hn : n = xs.length) (hm : m = ys.length) (ha : Bs w w.heap.size a xs) (hb : Bs w w.heap.size b ys) (hn2 : n ≤ 140737488351232) (hm2 : m ≤ 140737488351232) :
    Calls Try.prog 11 #[.slice a n ka, .slice b m kb] w fun e w' => e = .returned (.bool (xs == ys)) ∧ Below w.heap.size w w' := by
  by_cases hnm : n = m
  · subst hnm
    have HA := hid ha
    have HB := hid hb
    have HN := hid hn
    have HM := hid hm
    clear ha hb hn hm
    go_enter Try.func11, Try.ntmps11
    go_wp2
    go_loopw [5] (fun i wr => ∃ q : Nat, q ≤ n ∧ i = .int .i64 q ∧ RowKit.Hid (xs.take q = ys.take q) ∧ RowKit.Hid (Below w.heap.size w wr)) (fun i _ => n - (intOf i).toNat)
    case atStart => exact ⟨0, by omega, rfl, hid rfl, hid (Below.refl _ _)⟩
    case round =>
      obtain ⟨q, hq1, rfl, HT, HW⟩ := hrel
      by_cases hql : q < n
      · obtain ⟨g, o, rfl, _⟩ := HA.out.some (by have := HN.out; omega)
        obtain ⟨g2, o2, rfl, _⟩ := HB.out.some (by have := HM.out; omega)
        have c1 := (HA.out.below HW.out).cell (j := q) (by have := HN.out; omega)
        have c2 := (HB.out.below HW.out).cell (j := q) (by have := HM.out; omega)
        have e1 : xs[q]? = some (xs.getD q 0) := getD_at (by have := HN.out; omega)
        have e2 : ys[q]? = some (ys.getD q 0) := getD_at (by have := HM.out; omega)
        generalize xs.getD q 0 = x at *
        generalize ys.getD q 0 = y at *
        have E1 := hid e1
        have E2 := hid e2
        clear e1 e2
        by_cases hxy : x = y
        · subst hxy
          go_wp2
          go_region
          all_goals
            go_wp2
            go_roundw
            case rel => exact ⟨q + 1, by omega, by go_num, hid (by rw [List.take_add_one, List.take_add_one, HT.out, E1.out, E2.out]), hid HW.out.drew⟩
            case measure => simp [intOf]; omega
        · have hd : (x != y) = true := by simpa using hxy
          have hne : (xs == ys) = false := by
            rw [beq_eq_false_iff_ne]
            intro e
            have h1 := E1.out
            rw [e, E2.out] at h1
            exact hxy (Option.some.inj h1).symm
          have HNE := hid hne
          clear hxy hne
          go_wp2
          go_region
          all_goals
            go_wp2
            go_ret
            exact ⟨ret_bool HNE.out.symm, HW.out.drew⟩
      · obtain rfl : q = n := by omega
        go_wp2
        go_ret
        have h1 := HT.out
        rw [List.take_of_length_le (by have := HN.out; omega), List.take_of_length_le (by have := HM.out; omega)] at h1
        exact ⟨ret_bool (by rw [h1]; simp), HW.out⟩
  · have hne : (xs == ys) = false := by
      rw [beq_eq_false_iff_ne]
      intro e
      rw [e] at hn; omega
    have HNE := hid hne
    have hd : (n : Int) ≠ m := by omega
    have hd2 : ((n : Int) != (m : Int)) = true := by simpa using hd
    have hd3 : (n != m) = true := by simpa using hnm
    clear hne hnm hd ha hb hn hm
    go_enter Try.func11, Try.ntmps11
    go_wp2
    go_ret
    exact ⟨ret_bool HNE.out.symm, Below.refl _ _⟩
end Go.Proofs.Ytceeipejhmnkfaa
