/-
  The plain twin's number out of bytes.
-/
import Derived.Test.YtceeipejhmnkfaaWrA
namespace Go.Proofs.Ytceeipejhmnkfaa
open Go Go.ChangeShapes Go.WideShapes Go.ChangeAt Go.RowKit

theorem valL_at {xs : List Int} {q : Nat} {x : Int} (h : xs[q]? = some x) : valL (xs.drop q) = x + 256 * valL (xs.drop (q + 1)) := by
  have hq : q < xs.length := (List.getElem?_eq_some_iff.1 h).1
  have hx : xs[q] = x := by
    have := List.getElem?_eq_getElem hq
    rw [h] at this; exact (Option.some.inj this).symm
  rw [List.drop_eq_getElem_cons hq, valL, hx]
set_option maxRecDepth 100000 in
theorem refnum_any (w : World) (b o ka n : Nat) (xs : List Int) (hn : n = xs.length) (ha : Bs w w.heap.size (some ⟨b, o, none⟩) xs) (hb : Byt xs) (hn2 : n ≤ 8) :
    Calls Try.prog 55 #[.slice (some ⟨b, o, none⟩) n ka] w fun e w' => e = .returned (.int .u64 (valL xs)) ∧ w = w' := by
  have HA := hid ha
  have HB := hid hb
  have HN := hid hn
  have hw1 : IntKind.i64.wrap ((n : Int) - 1) = (n : Int) - 1 := IntWalk.i64_in _ (by omega)
  clear ha hb hn
  go_enter Try.func55, Try.ntmps55
  go_wp2
  go_loop [3, 4] (fun v i => ∃ k : Nat, k ≤ n ∧ i = .int .i64 ((k : Int) - 1) ∧ ∃ z : Int, v = .int .u64 z ∧ 0 ≤ z ∧ RowKit.Hid (z < 256 ^ (n - k)) ∧ RowKit.Hid (z = valL (xs.drop k))) (fun _ i => (intOf i + 1).toNat)
  case atStart => exact ⟨n, Nat.le_refl _, rfl, 0, rfl, by omega, hid (by simp), hid (by rw [List.drop_of_length_le (by rw [HN.out]; exact Nat.le_refl _)]; rfl)⟩
  case round =>
    obtain ⟨k, hk, rfl, z, rfl, hz0, HZ, HV⟩ := hrel
    by_cases hk0 : 0 < k
    · obtain ⟨q, rfl⟩ : ∃ q, k = q + 1 := ⟨k - 1, by omega⟩
      have hq : q < xs.length := by rw [← HN.out]; omega
      have cq := HA.out.cell (j := q) hq
      have hx := getD_at hq
      have hx0 := getD_byt HB.out q
      generalize xs.getD q 0 = x at *
      have hv := valL_at hx
      rw [← HV.out] at hv
      have hzz : z < 256 ^ (7 - q) := Int.lt_of_lt_of_le HZ.out (by
        have := Nat.pow_le_pow_right (n := 256) (by omega) (show n - (q + 1) ≤ 7 - q by omega)
        have h2 : ((256 ^ (n - (q + 1)) : Nat) : Int) ≤ ((256 ^ (7 - q) : Nat) : Int) := Int.ofNat_le.2 this
        rw [Int.natCast_pow, Int.natCast_pow] at h2; exact h2)
      have hz7 : z < 72057594037927936 := Int.lt_of_lt_of_le hzz (by
        have := Nat.pow_le_pow_right (n := 256) (by omega) (show 7 - q ≤ 7 by omega)
        have h2 : ((256 ^ (7 - q) : Nat) : Int) ≤ ((256 ^ 7 : Nat) : Int) := Int.ofNat_le.2 this
        rw [Int.natCast_pow, Int.natCast_pow] at h2
        have h7 : ((256 : Nat) : Int) ^ 7 = 72057594037927936 := by decide
        rw [h7] at h2; exact h2)
      have hm : IntKind.u64.wrap (z * 256) = z * 256 := IntWalk.u64_in _ ⟨by omega, by omega⟩
      have ha2 : IntKind.u64.wrap (z * 256 + x) = z * 256 + x := IntWalk.u64_in _ ⟨by omega, by omega⟩
      have hx2 : IntKind.u64.wrap x = x := IntWalk.u64_in _ ⟨by omega, by omega⟩
      have hlt2 : z * 256 + x < 256 ^ (n - q) := by
        have h1 := HZ.out
        have e : n - q = (n - (q + 1)) + 1 := by omega
        rw [e, Int.pow_succ]; omega
      have HLT := hid hlt2
      have HVV : RowKit.Hid (z * 256 + x = valL (xs.drop q)) := hid (by rw [hv]; omega)
      have hqi : ((q + 1 : Nat) : Int) - 1 = (q : Int) := by omega
      rw [hqi]
      have hzx : 0 ≤ z * 256 + x := by omega
      have hw2 : IntKind.i64.wrap ((q : Int) - 1) = (q : Int) - 1 := IntWalk.i64_in _ (by omega)
      clear hv hzz hlt2 HZ HV hx hqi hk0 hz7
      go_wp2
      go_round
      case rel => exact ⟨q, by omega, rfl, _, rfl, hzx, HLT, HVV⟩
      case measure => simp [intOf]
    · obtain rfl : k = 0 := by omega
      have HV0 : RowKit.Hid (z = valL xs) := hid (by rw [HV.out]; rfl)
      clear HZ HV
      go_wp2
      go_ret
      exact ⟨ret_int HV0.out, rfl⟩
end Go.Proofs.Ytceeipejhmnkfaa
