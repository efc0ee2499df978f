/-
  Layer 16 plainly: what stays true of who is in it.
-/
import Derived.Test.YtbdhjkdojgdhbaaLsM
namespace Go.Proofs.Ytbdhjkdojgdhbaa
open Go

theorem rise_out {k : Int} {l : List On} (h : Rise l) : Rise (outK k l) := List.Pairwise.sublist (List.filter_sublist) h
theorem out_ne {k : Int} {l : List On} {x : On} (h : x ∈ outK k l) : x.1 ≠ k ∧ x ∈ l := by
  unfold outK at h
  rw [List.mem_filter] at h
  exact ⟨by simpa using h.2, h.1⟩
theorem take_low {k : Int} : ∀ {l : List On} {x : On}, x ∈ l.take (lowK k l) → x.1 < k := fun {l x} h => by
  obtain ⟨j, hj⟩ := List.mem_iff_getElem?.1 h
  rw [List.getElem?_take] at hj
  split at hj
  · rename_i hl
    obtain ⟨y, h1, h2⟩ := low_at hl
    rw [h1] at hj
    cases hj
    exact h2
  · cases hj
theorem drop_low {k : Int} : ∀ {l : List On}, Rise l → ∀ {x : On}, x ∈ l.drop (lowK k l) → k ≤ x.1
  | [], _, x, h => by simp at h
  | y :: r, hr, x, h => by
    unfold Rise at hr
    rw [List.pairwise_cons] at hr
    rw [lowK] at h
    split at h
    · exact drop_low (l := r) hr.2 (by simpa using h)
    · rename_i hy
      simp only [List.drop_zero, List.mem_cons] at h
      rcases h with rfl | h
      · omega
      · have := hr.1 x h; omega
theorem rise_in {k t : Int} {l : List On} (h : Rise l) : Rise (inK k t l) := by
  have ho := rise_out (k := k) h
  unfold inK Rise
  rw [List.append_assoc, List.pairwise_append]
  refine ⟨List.Pairwise.sublist (List.take_sublist _ _) ho, ?_, fun a ha b hb => ?_⟩
  · rw [List.singleton_append, List.pairwise_cons]
    refine ⟨fun b hb => ?_, List.Pairwise.sublist (List.drop_sublist _ _) ho⟩
    have h1 := drop_low ho hb
    have h2 := (out_ne (List.mem_of_mem_drop hb)).1
    show k < b.1
    omega
  · have h1 := take_low ha
    rw [List.singleton_append, List.mem_cons] at hb
    rcases hb with rfl | hb
    · exact h1
    · have h2 := drop_low ho hb; omega
theorem in_len {k t : Int} {l : List On} : (inK k t l).length ≤ l.length + 1 := by
  unfold inK
  have h1 : (outK k l).length ≤ l.length := List.length_filter_le _ _
  simp only [List.length_append, List.length_take, List.length_singleton, List.length_drop]
  omega
theorem in_mem {k t : Int} {l : List On} {x : On} (h : x ∈ inK k t l) : x = (k, t) ∨ x ∈ l := by
  unfold inK at h
  simp only [List.mem_append, List.mem_singleton] at h
  rcases h with (h | h) | h
  · exact .inr (out_ne (List.mem_of_mem_take h)).2
  · exact .inl h
  · exact .inr (out_ne (List.mem_of_mem_drop h)).2
theorem set_len {k t : Int} {l : List On} : (setK k t l).length = l.length := by simp [setK]
theorem set_rise {k t : Int} {l : List On} (h : Rise l) : Rise (setK k t l) := by
  unfold Rise setK
  rw [List.pairwise_map]
  refine List.Pairwise.imp ?_ h
  intro a b hab
  split <;> split <;> simp_all
theorem set_mem {k t : Int} {l : List On} {x : On} (h : x ∈ setK k t l) : x = (k, t) ∨ x ∈ l := by
  unfold setK at h
  rw [List.mem_map] at h
  obtain ⟨y, hy, e⟩ := h
  split at e
  · exact .inl e.symm
  · exact .inr (by rw [← e]; exact hy)
/-- A key stands in one place. -/
theorem rise_one {l : List On} (h : Rise l) {i j : Nat} {x y : On} (hi : l[i]? = some x) (hj : l[j]? = some y) (he : x.1 = y.1) : i = j := by
  obtain ⟨hi1, rfl⟩ := List.getElem?_eq_some_iff.1 hi
  obtain ⟨hj1, rfl⟩ := List.getElem?_eq_some_iff.1 hj
  unfold Rise at h
  rw [List.pairwise_iff_getElem] at h
  refine Classical.byContradiction fun hne => ?_
  rcases Nat.lt_or_gt_of_ne hne with hl | hl
  · have := h i j hi1 hj1 hl; omega
  · have := h j i hj1 hi1 hl; omega
theorem set_at {k t : Int} {l : List On} (h : Rise l) {i : Nat} {u : Int} (hi : l[i]? = some (k, u)) : l.set i (k, t) = setK k t l := by
  apply List.ext_getElem?
  intro j
  unfold setK
  rw [List.getElem?_map]
  by_cases hij : i = j
  · subst hij
    rw [List.getElem?_set_self (List.getElem?_eq_some_iff.1 hi).1, hi]
    simp
  · rw [List.getElem?_set_ne hij]
    cases hj : l[j]? with
    | none => rfl
    | some y =>
      simp only [Option.map_some]
      by_cases hy : y.1 = k
      · exact absurd (rise_one h hi hj hy.symm) hij
      · rw [if_neg hy]
/-- What is kept: it rises, it is small, nobody was heard of before the beginning or after now. -/
structure ZOk (N : Nat) (z : Lz) : Prop where
  rise : Rise z.l
  len : z.l.length ≤ N
  now0 : 0 ≤ z.now
  nowN : z.now ≤ N
  time : 0 ≤ z.time ∧ z.time ≤ 1000000
  heard : ∀ x ∈ z.l, 0 ≤ x.2 ∧ x.2 ≤ z.now
theorem ZOk.join {N : Nat} {z : Lz} (h : ZOk N z) (k : Int) : ZOk (N + 1) (z.join k) :=
  ⟨rise_in h.rise, Nat.le_trans in_len (Nat.add_le_add_right h.len 1), h.now0, by have := h.nowN; show z.now ≤ ((N + 1 : Nat) : Int); omega, h.time, fun x hx => by
    rcases in_mem hx with rfl | hx
    · exact ⟨h.now0, Int.le_refl _⟩
    · exact h.heard x hx⟩
theorem ZOk.up {N M : Nat} {z : Lz} (h : ZOk N z) (hM : N ≤ M) : ZOk M z := ⟨h.rise, Nat.le_trans h.len hM, h.now0, by have := h.nowN; omega, h.time, h.heard⟩
theorem ZOk.leave {N : Nat} {z : Lz} (h : ZOk N z) (k : Int) : ZOk N (z.leave k) :=
  ⟨rise_out h.rise, Nat.le_trans (List.length_filter_le _ _) h.len, h.now0, h.nowN, h.time, fun x hx => h.heard x (out_ne hx).2⟩
theorem ZOk.ping {N : Nat} {z : Lz} (h : ZOk N z) (k : Int) : ZOk N (z.ping k) := by
  unfold Lz.ping
  by_cases hk : hasK k z.l = true
  · rw [if_pos hk]
    exact ⟨set_rise h.rise, by show (setK k z.now z.l).length ≤ N; rw [set_len]; exact h.len, h.now0, h.nowN, h.time, fun x hx => by
      rcases set_mem hx with rfl | hx
      · exact ⟨h.now0, Int.le_refl _⟩
      · exact h.heard x hx⟩
  · rw [if_neg hk]
    exact ⟨h.rise, h.len, h.now0, h.nowN, h.time, h.heard⟩
theorem ZOk.tick {N : Nat} {z : Lz} (h : ZOk N z) : ZOk (N + 1) z.tick :=
  ⟨List.Pairwise.sublist (List.filter_sublist) h.rise, Nat.le_trans (List.length_filter_le _ _) (Nat.le_succ_of_le h.len), by have := h.now0; show 0 ≤ z.now + 1; omega, by have := h.nowN; show z.now + 1 ≤ ((N + 1 : Nat) : Int); omega, h.time, fun x hx => by
    have hx2 : x ∈ z.l := (List.mem_filter.1 hx).1
    have := h.heard x hx2
    exact ⟨this.1, by show x.2 ≤ z.now + 1; omega⟩⟩
theorem ZOk.new {a b : Int} (h : 1 ≤ a ∧ a ≤ 1000 ∧ 1 ≤ b ∧ b ≤ 1000) : ZOk 0 ⟨a * b, 0, []⟩ := by
  refine ⟨List.Pairwise.nil, Nat.le_refl 0, Int.le_refl 0, Int.le_refl 0, ⟨Int.mul_nonneg (by omega) (by omega), ?_⟩, fun x hx => by cases hx⟩
  have h6 : a * b ≤ 1000 * 1000 := Int.mul_le_mul h.2.1 h.2.2.2 (by omega) (by omega)
  show a * b ≤ 1000000
  omega
end Go.Proofs.Ytbdhjkdojgdhbaa
