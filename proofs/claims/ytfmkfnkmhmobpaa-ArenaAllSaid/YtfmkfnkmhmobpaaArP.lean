/-
  What handles find behind a putting and a dropping; a list from which one is struck by laying the last one there.
-/
import Derived.Test.YtfmkfnkmhmobpaaArN
namespace Go.Proofs.Ytfmkfnkmhmobpaa
open Go.ChangeShapes Go.WideShapes Go.ChangeAt Go.RowKit

def Live (A : Ar) (h : Int) : Prop := ∃ i s, Found A h i s
theorem stale_iff (A : Ar) (h : Int) : Stale A h ↔ ¬ Live A h := ⟨fun h1 ⟨i, s, h2⟩ => h1 i s h2, fun h1 i s h2 => h1 ⟨i, s, h2⟩⟩
theorem put_live {A A' : Ar} {x : Int} {i g : Nat} (hA : Ok A) (hp : Put A x i g A') (h : Int) : Live A' h ↔ Live A h ∨ h = hand i g := by
  cases hp with
  | again F i s hF hs =>
    have hlt := (List.getElem?_eq_some_iff.1 hs).1
    obtain ⟨s', hs', ht⟩ := hA.fr i (by rw [hF]; simp)
    rw [hs] at hs'; cases hs'
    constructor
    · rintro ⟨j, s2, f1, f2, f3⟩
      simp only at f1
      by_cases e : i = j
      · subst e
        rw [List.getElem?_set_self hlt] at f1; cases f1
        exact .inr f3
      · rw [List.getElem?_set_ne e] at f1
        exact .inl ⟨j, s2, f1, f2, f3⟩
    · rintro (⟨j, s2, f1, f2, f3⟩ | rfl)
      · have e : i ≠ j := fun e => by subst e; rw [hs] at f1; cases f1; rw [ht] at f2; cases f2
        exact ⟨j, s2, by simp only; rw [List.getElem?_set_ne e]; exact f1, f2, f3⟩
      · exact ⟨i, ⟨x, _, true⟩, List.getElem?_set_self hlt, rfl, rfl⟩
  | fresh hF hl =>
    constructor
    · rintro ⟨j, s2, f1, f2, f3⟩
      simp only at f1
      by_cases e : j < A.L.length
      · rw [List.getElem?_append_left e] at f1
        exact .inl ⟨j, s2, f1, f2, f3⟩
      · rw [List.getElem?_append_right (by omega)] at f1
        have : j - A.L.length = 0 := by
          rcases Nat.eq_zero_or_pos (j - A.L.length) with h' | h'
          · exact h'
          · rw [List.getElem?_eq_none (by simp; omega)] at f1; cases f1
        rw [this] at f1
        simp at f1
        subst f1
        have e2 : j = A.L.length := by omega
        subst e2
        exact .inr f3
    · rintro (⟨j, s2, f1, f2, f3⟩ | rfl)
      · exact ⟨j, s2, by simp only; rw [List.getElem?_append_left (List.getElem?_eq_some_iff.1 f1).1]; exact f1, f2, f3⟩
      · exact ⟨A.L.length, ⟨x, A.first, true⟩, by simp, rfl, rfl⟩
theorem drop_live {A : Ar} {i : Nat} {s : Spot} {hd : Int} (hA : Ok A) (hf : Found A hd i s) (h : Int) : Live (dropAt A i s) h ↔ Live A h ∧ h ≠ hd := by
  obtain ⟨f1, f2, f3⟩ := hf
  have hlt := (List.getElem?_eq_some_iff.1 f1).1
  have hi := hA.lt f1
  have key : ∀ g', (∃ j s2, (A.L.set i ⟨0, g', false⟩)[j]? = some s2 ∧ s2.t = true ∧ h = hand j s2.g) ↔ Live A h ∧ h ≠ hd := by
    intro g'
    constructor
    · rintro ⟨j, s2, k1, k2, k3⟩
      by_cases e : i = j
      · subst e
        rw [List.getElem?_set_self hlt] at k1; cases k1; cases k2
      · rw [List.getElem?_set_ne e] at k1
        refine ⟨⟨j, s2, k1, k2, k3⟩, fun e2 => e ?_⟩
        rw [f3, k3] at e2
        exact (hand_inj (by have := hA.lt k1; omega) (by omega) e2).1.symm
    · rintro ⟨⟨j, s2, k1, k2, k3⟩, hne⟩
      have e : i ≠ j := fun e => by subst e; rw [f1] at k1; cases k1; exact hne (k3.trans f3.symm)
      exact ⟨j, s2, by rw [List.getElem?_set_ne e]; exact k1, k2, k3⟩
  unfold Live Found dropAt
  split
  · exact key _
  · exact key _
/-- One is struck by laying the last one there. -/
theorem strike (m : List Int) (y : Int) (j : Nat) (x : Int) (hx : (m ++ [y])[j]? = some x) (hn : (m ++ [y]).Nodup) : (m.set j y).Nodup ∧ ∀ h, h ∈ m.set j y ↔ h ∈ m ++ [y] ∧ h ≠ x := by
  by_cases hj : j < m.length
  · rw [List.getElem?_append_left hj] at hx
    obtain ⟨_, hx'⟩ := List.getElem?_eq_some_iff.1 hx
    have e2 : m = m.take j ++ x :: m.drop (j + 1) := by rw [← hx']; simp
    obtain ⟨a, b, rfl, ha⟩ : ∃ a b, m = a ++ x :: b ∧ a.length = j := ⟨_, _, e2, by simp; omega⟩
    have e1 : (a ++ x :: b).set j y = a ++ y :: b := by
      rw [← ha, List.set_append_right _ _ (Nat.le_refl _)]; simp
    rw [e1]
    clear e1 e2 hx hx' hj ha
    simp only [List.nodup_append, List.nodup_cons, List.mem_append, List.mem_cons] at hn ⊢
    constructor
    · grind
    · intro h; grind
  · have hl : m.set j y = m := List.set_eq_of_length_le (by omega)
    rw [List.getElem?_append_right (by omega)] at hx
    have : j - m.length = 0 := by
      rcases Nat.eq_zero_or_pos (j - m.length) with h' | h'
      · exact h'
      · rw [List.getElem?_eq_none (by simp; omega)] at hx; cases hx
    rw [this] at hx
    simp at hx
    subst hx
    rw [hl]
    rw [List.nodup_append] at hn
    refine ⟨hn.1, fun h => ⟨fun hm => ⟨by simp [hm], hn.2.2 h hm y (by simp)⟩, fun ⟨h1, h2⟩ => ?_⟩⟩
    simp at h1
    rcases h1 with h1 | h1
    · exact h1
    · exact absurd h1 h2
/-- Another row of the call's own. -/
theorem HRow.side {S : Nat → Prop} {B : Nat} {w w' : World} {v v2 : Value} {ys : List Int} (h : HRow S B w v2 ys) (hf : Fr (fun j => v.ownBlock = some j) w w') (hd : ∀ j, v2.ownBlock = some j → v.ownBlock ≠ some j) : HRow S B w' v2 ys :=
  ⟨hf.owns h.own (fun k hk e => hd k hk e), h.off⟩
theorem HRow.fz {S : Nat → Prop} {B : Nat} {w : World} {g cap n : Nat} {xs : List Int} (h : HRow S B w (.slice (some ⟨g, 0, none⟩) n cap) xs) (hn : n = xs.length) (j : Nat) : w.frozen? ⟨g, j, none⟩ = false := by
  subst hn
  exact h.own.frozenAt j
theorem HRow.cap {S : Nat → Prop} {B : Nat} {w : World} {g cap n : Nat} {xs : List Int} (h : HRow S B w (.slice (some ⟨g, 0, none⟩) n cap) xs) : n ≤ cap := by
  rcases h.own.2 with ⟨h1, _⟩ | ⟨g', cap', cur, hv, _, _, hn, _⟩
  · cases h1
  · simp only [Value.slice.injEq] at hv
    omega
theorem HRow.strike {S : Nat → Prop} {B : Nat} {w : World} {g cap j : Nat} {m : List Int} {y : Int} (h : HRow S B w (.slice (some ⟨g, 0, none⟩) (m.length + 1) cap) (m ++ [y])) (hj : j ≤ m.length) :
    HRow S B (w.setCell ⟨g, j, none⟩ (.int .u64 y)) (.slice (some ⟨g, 0, none⟩) m.length cap) (m.set j y) := by
  refine ⟨?_, fun k hk => h.off k hk⟩
  have h1 := h.own
  rw [List.length_append, List.length_singleton] at h1
  have h2 := (h1.stored j (.int .u64 y)).1
  have e : (List.map (Value.int .u64) (m ++ [y])).set j (.int .u64 y) = (m.set j y).map (Value.int .u64) ++ [.int .u64 y] := by
    rw [← List.map_set]
    have : (m ++ [y]).set j y = m.set j y ++ [y] := by
      by_cases e : j < m.length
      · rw [List.set_append_left _ _ e]
      · obtain rfl : j = m.length := by omega
        rw [List.set_append_right _ _ (Nat.le_refl _), List.set_eq_of_length_le (Nat.le_refl _)]; simp
    rw [this]; simp
  rw [e] at h2
  rw [List.length_set]
  exact owns_cut h2 (by simp) (by omega)
/-- Another handle at a place. -/
theorem HRow.put {S : Nat → Prop} {B : Nat} {w : World} {g cap n i : Nat} {xs : List Int} (h : HRow S B w (.slice (some ⟨g, 0, none⟩) n cap) xs) (hn : n = xs.length) (y : Int) :
    HRow S B (w.setCell ⟨g, i, none⟩ (.int .u64 y)) (.slice (some ⟨g, 0, none⟩) n cap) (xs.set i y) := by
  subst hn
  refine ⟨?_, fun k hk => h.off k hk⟩
  have h2 := (h.own.stored i (.int .u64 y)).1
  rw [← List.map_set] at h2
  rw [List.length_set]
  exact h2
end Go.Proofs.Ytfmkfnkmhmobpaa
