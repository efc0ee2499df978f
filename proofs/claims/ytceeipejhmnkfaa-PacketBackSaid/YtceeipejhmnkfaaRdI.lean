/-
  What was read of bytes was laid so: the bytes up to the place behind it.
-/
import Derived.Test.YtceeipejhmnkfaaWrM
namespace Go.Proofs.Ytceeipejhmnkfaa

set_option maxRecDepth 100000 in
theorem byt_valL : ∀ xs : List Int, Byt xs → byt (valL xs) xs.length = xs
  | [], _ => rfl
  | x :: xs, h => by
    have hx := h x (by simp)
    have ih := byt_valL xs (fun y hy => h y (by simp [hy]))
    rw [List.length_cons, valL, byt]
    have e1 : (x + 256 * valL xs) % 256 = x := by omega
    have e2 : (x + 256 * valL xs) / 256 = valL xs := by omega
    rw [e1, e2, ih]
set_option maxRecDepth 100000 in
theorem rep_all : ∀ {xs : List Int}, xs.all (· == 0) = true → xs = List.replicate xs.length 0
  | [], _ => rfl
  | x :: xs, h => by
    rw [List.all_cons, Bool.and_eq_true] at h
    have ih := rep_all h.2
    have hx : x = 0 := by simpa using h.1
    rw [List.length_cons, List.replicate_succ, ← ih, hx]
set_option maxRecDepth 100000 in
theorem rd_inv {b : List Int} {a k : Nat} {s n : Int} (hb : Byt b) (ha : a ≤ b.length) (h : rd b a s = (n, k, 0)) : ∃ sz : Nat, s = sz ∧ Siz sz ∧ lay (b.take a) n sz = b.take k ∧ a < k ∧ k ≤ b.length ∧ 0 ≤ n ∧ n < 256 ^ sz := by
  unfold rd at h
  by_cases h1 : fits s = false
  · rw [if_pos h1] at h
    have := congrArg (fun x => x.2.2) h
    simp at this
  · rw [if_neg h1] at h
    obtain ⟨sz, rfl, hs⟩ := fits_nat (by simpa using h1)
    rw [Int.toNat_natCast] at h
    by_cases h2 : b.length < a + gap a sz + sz
    · rw [if_pos h2] at h
      have := congrArg (fun x => x.2.2) h
      simp at this
    · rw [if_neg h2] at h
      by_cases h3 : ((b.drop a).take (gap a sz)).all (· == 0) = false
      · rw [if_pos h3] at h
        have := congrArg (fun x => x.2.2) h
        simp at this
      · rw [if_neg h3] at h
        have en := congrArg (fun x => x.1) h
        have ek := congrArg (fun x => x.2.1) h
        simp only at en ek
        have hl : ((b.drop (a + gap a sz)).take sz).length = sz := by rw [List.length_take, List.length_drop]; omega
        have hpb : Byt ((b.drop (a + gap a sz)).take sz) := hb.part _ _
        have hz : (b.drop a).take (gap a sz) = List.replicate (gap a sz) 0 := by
          have h4 := rep_all (xs := (b.drop a).take (gap a sz)) (by simpa using h3)
          rw [show ((b.drop a).take (gap a sz)).length = gap a sz by rw [List.length_take, List.length_drop]; omega] at h4
          exact h4
        have hbv := byt_valL _ hpb
        rw [hl] at hbv
        have hvp := valL_pos _ hpb
        rw [hl] at hvp
        have hta : (b.take a).length = a := by rw [List.length_take]; omega
        have hsz : 1 ≤ sz := by rcases hs with rfl | rfl | rfl | rfl <;> omega
        refine ⟨sz, rfl, hs, ?_, by omega, by omega, by rw [← en]; exact hvp.1, by rw [← en]; exact hvp.2⟩
        unfold lay
        rw [hta, ← en, hbv, ← ek, List.take_add, List.take_add, hz]
end Go.Proofs.Ytceeipejhmnkfaa
