/-
  What Check answers, plainly; with more slots it is the same; what goes on at a place leaves its height; without the last instruction, and with one more, it isn't right.
-/
import Derived.Test.YtcoclaabainibaaDoorCdMo
namespace Go.Proofs.YtcoclaabainibaaDoor
open Go Go.ChangeShapes Go.WideShapes Go.ChangeAt Go.RowKit

/-- The greatest height, the place, why. -/
def checkP (ls : List Ins) (s : Int) : Int × Int × Int :=
  if (heightP ls s).2.2 = 0 then (mostP ls s (heightP ls s).1 (heightP ls s).1.length, 0, 0) else (0, (heightP ls s).2.1, (heightP ls s).2.2)
theorem shape_s (x : Ins) (s t : Int) : (shapeP x s).1 = (shapeP x t).1 ∧ (shapeP x s).2.1 = (shapeP x t).2.1 := by
  unfold shapeP
  repeat' split
  all_goals exact ⟨rfl, rfl⟩
theorem left_s (x : Ins) (s t h : Int) : leftP x s h = leftP x t h := by
  unfold leftP
  rw [(shape_s x s t).1, (shape_s x s t).2]
theorem now_s (ls : List Ins) (s t : Int) (h : List Int) (i : Nat) : ∀ k, nowP ls s h i k = nowP ls t h i k
  | 0 => rfl
  | k + 1 => by
    rw [nowP, nowP, now_s ls s t h i k]
    split <;> rename_i h1
    · rfl
    · rfl
    · simp only [left_s _ s t]
theorem most_s (ls : List Ins) (s t : Int) (h : List Int) : ∀ i, mostP ls s h i = mostP ls t h i
  | 0 => rfl
  | i + 1 => by
    rw [mostP, mostP, most_s ls s t h i]
    split
    · rfl
    · rw [left_s _ s t]
/-- It comes out right. -/
def RightC (ls : List Ins) (s : Int) (h : List Int) : Prop := 1 ≤ ls.length ∧ ls.length ≤ 32 ∧ runP ls s ls.length = (h, none)
theorem right_of {ls : List Ins} {s : Int} (h : (heightP ls s).2.2 = 0) : RightC ls s (heightP ls s).1 := by
  unfold heightP at h ⊢
  split at h
  · simp at h
  · rename_i h1
    rw [if_neg h1]
    cases hr : runP ls s ls.length with
    | mk hh o =>
      rw [hr] at h
      cases o with
      | none => exact ⟨by omega, by omega, hr⟩
      | some e =>
        exfalso
        obtain ⟨i, e⟩ := e
        simp only at h
        subst h
        have key : ∀ j hj i, runP ls s j = (hj, some (i, (0 : Int))) → False := by
          intro j
          induction j with
          | zero => intro hj i hq; rw [runP] at hq; cases hq
          | succ j ih =>
            intro hj i hq
            rw [runP] at hq
            cases hp : runP ls s j with
            | mk h0 o =>
              rw [hp] at hq
              cases o with
              | some e2 => simp only at hq; cases hq; exact ih _ _ hp
              | none =>
                simp only at hq
                split at hq
                · cases hq
                · rename_i hne
                  simp only [Prod.mk.injEq, Option.some.injEq] at hq
                  exact hne hq.2.2
        exact key _ _ _ hr
theorem height_of {ls : List Ins} {s : Int} {h : List Int} (hr : RightC ls s h) : heightP ls s = (h, 0, 0) := by
  rw [heightP, if_neg (by have := hr.1; have := hr.2.1; omega), hr.2.2]
theorem run_small_len {ls : List Ins} {s : Int} : ∀ {j : Nat} {hj : List Int}, runP ls s j = (hj, none) → hj.length = j
  | 0, hj, hq => by rw [runP] at hq; cases hq; rfl
  | j + 1, hj, hq => by
    rw [runP] at hq
    cases hp : runP ls s j with
    | mk h1 o =>
      rw [hp] at hq
      cases o with
      | some e => simp only at hq; cases hq
      | none =>
        simp only at hq
        split at hq
        · cases hq; simp [run_small_len hp]
        · cases hq
/-- The heights of the first ones. -/
theorem run_take {ls : List Ins} {s : Int} : ∀ (n : Nat) {h : List Int}, runP ls s n = (h, none) → ∀ i, i ≤ n → runP ls s i = (h.take i, none) ∧ (i < n → (stepE ls s (h.take i) i).1 = 0 ∧ h[i]? = some (stepE ls s (h.take i) i).2)
  | 0, h, hr, i, hi => by
    obtain rfl : i = 0 := by omega
    rw [runP] at hr
    cases hr
    exact ⟨rfl, fun h => absurd h (by omega)⟩
  | n + 1, h, hr, i, hi => by
    rw [runP] at hr
    cases hq : runP ls s n with
    | mk h0 o =>
      rw [hq] at hr
      cases o with
      | some e => simp only at hr; cases hr
      | none =>
        simp only at hr
        split at hr
        · rename_i he
          cases hr
          by_cases hin : i ≤ n
          · obtain ⟨h1, h2⟩ := run_take n hq i hin
            have hlen : h0.length = n := run_small_len hq
            have ht : (h0 ++ [(stepE ls s h0 n).2]).take i = h0.take i := List.take_append_of_le_length (by omega)
            rw [ht]
            refine ⟨h1, fun hlt => ?_⟩
            by_cases hin2 : i < n
            · obtain ⟨h3, h4⟩ := h2 hin2
              exact ⟨h3, by rw [List.getElem?_append_left (by omega)]; exact h4⟩
            · obtain rfl : i = n := by omega
              have htt : h0.take i = h0 := List.take_of_length_le (by omega)
              rw [htt]
              refine ⟨he, ?_⟩
              rw [List.getElem?_append_right (by omega), hlen, Nat.sub_self]
              rfl
          · obtain rfl : i = n + 1 := by omega
            refine ⟨?_, fun h => absurd h (by omega)⟩
            have hall : (h0 ++ [(stepE ls s h0 n).2]).take (n + 1) = h0 ++ [(stepE ls s h0 n).2] := by
              refine List.take_of_length_le ?_
              have := (run_small_len hq)
              simp [this]
            rw [hall, runP, hq]
            simp only
            rw [if_pos he]
        · cases hr
end Go.Proofs.YtcoclaabainibaaDoor
