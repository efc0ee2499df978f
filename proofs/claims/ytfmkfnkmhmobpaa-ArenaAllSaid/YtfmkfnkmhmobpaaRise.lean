/-
  What an arena tells of all: the mathematics.
-/
import Derived.Test.YtfmkfnkmhmobpaaSame
import Derived.Test.YtfmkfnkmhmobpaaRefD
namespace Go.Proofs.Ytfmkfnkmhmobpaa

theorem pairF_fst (k : Nat) (L : List Spot) : (pairF k L).map (·.1) = allF k L := by
  induction L generalizing k with
  | nil => rfl
  | cons s L ih =>
    simp only [pairF, allF]
    split
    · simp [ih]
    · exact ih _
theorem pairF_len (k : Nat) (L : List Spot) : (pairF k L).length = cnt L := by
  rw [← allF_len k L, ← pairF_fst k L, List.length_map]
theorem pairF_mem (k : Nat) (L : List Spot) (y : Int × Int) (h : y ∈ pairF k L) : ∃ i s, L[i]? = some s ∧ s.t = true ∧ y = (hand (k + i) s.g, s.x) := by
  induction L generalizing k with
  | nil => cases h
  | cons s L ih =>
    simp only [pairF] at h
    have hrec : y ∈ pairF (k + 1) L → ∃ i s', (s :: L)[i]? = some s' ∧ s'.t = true ∧ y = (hand (k + i) s'.g, s'.x) := fun h => by
      obtain ⟨i, s', h1, h2, h3⟩ := ih _ h
      refine ⟨i + 1, s', by simpa using h1, h2, ?_⟩
      rw [h3, show k + 1 + i = k + (i + 1) from by omega]
    split at h
    · rename_i ht
      rcases List.mem_cons.1 h with h | h
      · exact ⟨0, s, rfl, ht, by rw [h]; rfl⟩
      · exact hrec h
    · exact hrec h
theorem hand_mod (i g : Nat) (hi : i ≤ 65536) : hand i g % 4294967296 = (i : Int) + 1 := by
  unfold hand; omega
theorem pairF_rises (k : Nat) (L : List Spot) (hk : k + L.length ≤ 65536) : List.Pairwise (fun a b : Int × Int => a.1 % 4294967296 < b.1 % 4294967296) (pairF k L) := by
  induction L generalizing k with
  | nil => exact List.Pairwise.nil
  | cons s L ih =>
    simp only [List.length_cons] at hk
    have h1 := ih (k + 1) (by omega)
    simp only [pairF]
    split
    · refine List.Pairwise.cons (fun y hy => ?_) h1
      obtain ⟨i, s', h2, h3, h4⟩ := pairF_mem _ _ _ hy
      have hi : i < L.length := (List.getElem?_eq_some_iff.1 h2).1
      rw [h4, hand_mod _ _ (by omega)]
      simp only
      rw [hand_mod _ _ (by omega)]
      omega
    · exact h1
theorem pairF_step (L : List Spot) (hL : L.length ≤ 65536) (q : Nat) (y z : Int × Int) (hy : (pairF 0 L)[q]? = some y) (hz : (pairF 0 L)[q + 1]? = some z) : y.1 % 4294967296 < z.1 % 4294967296 := by
  have h := List.pairwise_iff_getElem.1 (pairF_rises 0 L (by omega)) q (q + 1) (List.getElem?_eq_some_iff.1 hy).1 (List.getElem?_eq_some_iff.1 hz).1 (by omega)
  rw [(List.getElem?_eq_some_iff.1 hy).2, (List.getElem?_eq_some_iff.1 hz).2] at h
  exact h
theorem pairF_at (L : List Spot) (q : Nat) (y : Int × Int) (hy : (pairF 0 L)[q]? = some y) : ∃ i s, L[i]? = some s ∧ s.t = true ∧ y = (hand i s.g, s.x) := by
  obtain ⟨i, s, h1, h2, h3⟩ := pairF_mem 0 L y (List.mem_of_getElem? hy)
  exact ⟨i, s, h1, h2, by rw [h3, Nat.zero_add]⟩
end Go.Proofs.Ytfmkfnkmhmobpaa
