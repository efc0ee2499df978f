/-
  Right rows: their beginnings, their lines. Plain mathematics.
-/
import Derived.Test.YtpcgplcpfbgcfaaFcI
import Derived.Test.YtpcgplcpfbgcfaaFcK
import Derived.Test.YtpcgplcpfbgcfaaFcC
namespace Go.Proofs.Ytpcgplcpfbgcfaa

theorem check_good {l : List Face} : ∀ (d k : Nat), l.length - k = d → checkFrom l k (l.drop k) = 0 → ∀ q f, k ≤ q → l[q]? = some f → baseOk q f.base = true ∧ findL (l.take q) f.id = none
  | 0, k, hd, _, q, f, hq, hf => by have := (List.getElem?_eq_some_iff.1 hf).1; omega
  | d + 1, k, hd, h, q, f, hq, hf => by
    have hk : l[k]? = some l[k] := List.getElem?_eq_getElem (by omega)
    generalize l[k]'(by omega) = f0 at hk
    rw [check_step hk] at h
    have hb : baseOk k f0.base = true := by
      cases hb : baseOk k f0.base with
      | true => rfl
      | false => rw [hb] at h; simp at h
    rw [hb] at h
    simp only [if_true] at h
    have hn : findL (l.take k) f0.id = none := by
      cases hn : findL (l.take k) f0.id with
      | none => rfl
      | some y => rw [hn] at h; simp at h
    rw [hn] at h
    simp only [Option.isSome_none, Bool.false_eq_true, if_false] at h
    by_cases e : k = q
    · subst e
      rw [hk] at hf; cases hf
      exact ⟨hb, hn⟩
    · exact check_good d (k + 1) (by omega) h q f (by omega) hf
theorem check_of {l : List Face} : ∀ (d k : Nat), l.length - k = d → k ≤ l.length → (∀ q f, k ≤ q → l[q]? = some f → baseOk q f.base = true ∧ findL (l.take q) f.id = none) → checkFrom l k (l.drop k) = 0
  | 0, k, hd, hk, _ => by
    have : k = l.length := by omega
    rw [this]; exact check_end
  | d + 1, k, hd, hkl, h => by
    have hk : l[k]? = some l[k] := List.getElem?_eq_getElem (by omega)
    generalize l[k]'(by omega) = f0 at hk
    obtain ⟨h1, h2⟩ := h k f0 (Nat.le_refl _) hk
    rw [check_step hk, h1, h2]
    simp only [if_true, Option.isSome_none, Bool.false_eq_true, if_false]
    exact check_of d (k + 1) (by omega) (by omega) (fun q f hq hf => h q f (by omega) hf)
structure Right (l : List Face) : Prop where
  lo : 1 ≤ l.length
  hi : l.length ≤ 16
  at' : ∀ q f, l[q]? = some f → baseOk q f.base = true ∧ findL (l.take q) f.id = none
theorem right_of {l : List Face} (h : checkL l = 0) : Right l := by
  unfold checkL at h
  split at h
  · cases h
  · rename_i hn
    exact ⟨by omega, by omega, fun q f hf => check_good _ 0 rfl h q f (by omega) hf⟩
theorem Right.check {l : List Face} (h : Right l) : checkL l = 0 := by
  unfold checkL
  rw [if_neg (by have := h.lo; have := h.hi; omega)]
  have := check_of (l := l) _ 0 rfl (by omega) (fun q f _ hf => h.at' q f hf)
  simpa using this
theorem Right.take {l : List Face} (h : Right l) {n : Nat} (h1 : 1 ≤ n) (h2 : n ≤ l.length) : Right (l.take n) := by
  refine ⟨by simp; omega, by have := h.hi; simp; omega, fun q f hf => ?_⟩
  rw [List.getElem?_take] at hf
  split at hf
  · rename_i hq
    have := h.at' q f hf
    rw [List.take_take, Nat.min_eq_left (by omega)]
    exact this
  · cases hf
theorem nxt_take {l : List Face} {n k : Nat} (hk : k < n) : nxt (l.take n) k = nxt l k := by
  unfold nxt
  rw [List.getElem?_take, if_pos hk]
theorem lineN_take {l : List Face} {n : Nat} : ∀ (m k : Nat), k ≤ m → k < n → lineN (l.take n) k = lineN l k
  | m, k, hm, hk => by
    have hn := nxt_take (l := l) hk
    cases h : nxt l k with
    | none => rw [lineN_none (hn.trans h), lineN_none h]
    | some x =>
      have hlt := nxt_lt h
      cases m with
      | zero => omega
      | succ m => rw [lineN_some (hn.trans h), lineN_some h, lineN_take m x (by omega) (by omega)]
theorem lineL_take {l : List Face} {n : Nat} {i : Int} (hn : n ≤ l.length) (hi : 0 ≤ i ∧ i < (n : Int)) : lineL (l.take n) i = lineL l i := by
  rw [lineL_in (by simp; omega), lineL_in (by omega), lineN_take i.toNat i.toNat (Nat.le_refl _) (by omega)]
theorem Right.nxt {l : List Face} (h : Right l) {k : Nat} (hk : k < l.length) (hn : nxt l k = none) : k = 0 := by
  have hf : l[k]? = some l[k] := List.getElem?_eq_getElem hk
  generalize l[k] = f at hf
  have hb := (h.at' k f hf).1
  unfold baseOk at hb
  split at hb
  · assumption
  · have : 0 ≤ f.base ∧ f.base < (k : Int) := by simpa using hb
    rw [nxt_some hf this] at hn
    cases hn
/-- In a right row each line ends at 0. -/
theorem Right.last {l : List Face} (h : Right l) {i : Int} {q k : Nat} (hq : (lineL l i)[q]? = some k) (hl : q + 1 = (lineL l i).length) : k = 0 := by
  have h1 := lineL_at hq
  rw [List.getElem?_eq_none (by omega)] at h1
  exact h.nxt (lineL_mem (List.mem_of_getElem? hq)).1 h1.symm
theorem Right.zero {l : List Face} (h : Right l) {i : Int} (hi : 0 ≤ i ∧ i < (l.length : Int)) : 0 ∈ lineL l i := by
  have hp : 0 < (lineL l i).length := List.length_pos_of_mem (lineL_self hi)
  have hq : (lineL l i)[(lineL l i).length - 1]? = some ((lineL l i)[(lineL l i).length - 1]'(by omega)) := List.getElem?_eq_getElem (by omega)
  have h0 := h.last hq (by omega)
  rw [h0] at hq
  exact List.mem_of_getElem? hq
/-- The first common face of i's line is the greatest one that both have. -/
theorem common_max {l : List Face} {i j : Int} {c : Nat} (h : commonL l i j = some c) : c ∈ lineL l i ∧ c ∈ lineL l j ∧ ∀ d, d ∈ lineL l i → d ∈ lineL l j → d ≤ c := by
  unfold commonL at h
  have h1 := List.find?_some h
  have h2 := List.mem_of_find?_eq_some h
  refine ⟨h2, by simpa using h1, fun d hd hdj => ?_⟩
  rw [List.find?_eq_some_iff_append] at h
  obtain ⟨_, l1, l2, e, hno⟩ := h
  have hf := lineL_fall l i
  rw [e] at hd hf
  rcases List.mem_append.1 hd with hd | hd
  · have := hno d hd
    simp [hdj] at this
  · rcases List.mem_cons.1 hd with hd | hd
    · omega
    · have := (List.pairwise_cons.1 (List.pairwise_append.1 hf).2.1).1 d hd
      omega
theorem Right.common {l : List Face} (h : Right l) {i j : Int} (hi : 0 ≤ i ∧ i < (l.length : Int)) (hj : 0 ≤ j ∧ j < (l.length : Int)) : ∃ c, commonL l i j = some c ∧ commonL l j i = some c ∧ isL l i (c : Int) = true ∧ isL l j (c : Int) = true := by
  have some_of : ∀ {a b : Int}, (0 ≤ a ∧ a < (l.length : Int)) → (0 ≤ b ∧ b < (l.length : Int)) → ∃ c, commonL l a b = some c := fun ha hb => by
    cases hc : commonL l _ _ with
    | some c => exact ⟨c, rfl⟩
    | none =>
      unfold commonL at hc
      rw [List.find?_eq_none] at hc
      have := hc 0 (h.zero ha)
      simp [h.zero hb] at this
  obtain ⟨c, hc⟩ := some_of hi hj
  obtain ⟨d, hd⟩ := some_of hj hi
  obtain ⟨c1, c2, c3⟩ := common_max hc
  obtain ⟨d1, d2, d3⟩ := common_max hd
  have e : c = d := by
    have := c3 d d2 d1
    have := d3 c c2 c1
    omega
  subst e
  refine ⟨c, hc, hd, isL_true (List.prefix_refl _) ⟨c, c1, rfl⟩, isL_true (List.prefix_refl _) ⟨c, c2, rfl⟩⟩
theorem isL_mem {l : List Face} {i j : Int} (h : isL l i j = true) : ∃ k : Nat, k ∈ lineL l i ∧ (k : Int) = j := by
  unfold isL at h
  rw [List.any_eq_true] at h
  obtain ⟨k, hk, e⟩ := h
  exact ⟨k, hk, by simpa using e⟩
theorem is_self {l : List Face} {i : Int} (hi : 0 ≤ i ∧ i < (l.length : Int)) : isL l i i = true := isL_true (List.prefix_refl _) ⟨_, lineL_self hi, by omega⟩
theorem is_anti {l : List Face} {i j : Int} (h1 : isL l i j = true) (h2 : isL l j i = true) : i = j := by
  obtain ⟨a, ha, e1⟩ := isL_mem h1
  obtain ⟨b, hb, e2⟩ := isL_mem h2
  have := (lineL_mem ha).2
  have := (lineL_mem hb).2
  omega
theorem is_trans {l : List Face} {i j k : Int} (h1 : isL l i j = true) (h2 : isL l j k = true) : isL l i k = true := by
  obtain ⟨a, ha, rfl⟩ := isL_mem h1
  obtain ⟨b, hb, rfl⟩ := isL_mem h2
  exact isL_true (List.prefix_refl _) ⟨b, lineL_sub ha b hb, rfl⟩
end Go.Proofs.Ytpcgplcpfbgcfaa
