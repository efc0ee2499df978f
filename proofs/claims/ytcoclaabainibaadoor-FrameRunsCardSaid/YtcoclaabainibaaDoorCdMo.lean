/-
  The most that a list reaches, plainly (split off CdE).
-/
import Derived.Test.YtcoclaabainibaaDoorCdC
namespace Go.Proofs.YtcoclaabainibaaDoor
open Go Go.ChangeShapes Go.WideShapes Go.ChangeAt Go.RowKit

/-- The greatest height behind one of the first ones. -/
def mostP (ls : List Ins) (s : Int) (h : List Int) : Nat → Int
  | 0 => 0
  | i + 1 => match ls[i]? with
    | none => mostP ls s h i
    | some x => max (mostP ls s h i) (leftP x s (h.getD i 0))
theorem most_small {ls : List Ins} {s : Int} {h : List Int} {m : Nat} (hs : ∀ k, k < m → ∀ x, ls[k]? = some x → 0 ≤ leftP x s (h.getD k 0) ∧ leftP x s (h.getD k 0) ≤ 8) : ∀ i, i ≤ m → 0 ≤ mostP ls s h i ∧ mostP ls s h i ≤ 8 := by
  intro i hi
  induction i with
  | zero => exact ⟨Int.le_refl 0, show (0 : Int) ≤ 8 by decide⟩
  | succ i ih =>
    obtain ⟨h1, h2⟩ := ih (by omega)
    rw [mostP]
    split
    · exact ⟨h1, h2⟩
    · rename_i x hx
      obtain ⟨h3, h4⟩ := hs i (by omega) x hx
      omega
end Go.Proofs.YtcoclaabainibaaDoor
