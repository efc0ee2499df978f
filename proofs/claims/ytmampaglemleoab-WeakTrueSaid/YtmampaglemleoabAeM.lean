/-
  An arena of one-celled things: its places' row.
-/
import Derived.Test.YtmampaglemleoabArM
namespace Go.Proofs.Ytmampaglemleoab
open Go

/-- A pointer at a block, by the block's number and one; 0: none. -/
def encP : Int → Option Addr
  | .ofNat (n + 1) => some ⟨n, 0, none⟩
  | _ => none
abbrev encE (x : Int) : Value := .pointer (encP x)
theorem encE_one (x : Int) : (encE x).oneCell' = true := rfl
theorem encE_zero : encE 0 = .pointer none := rfl
theorem encE_ptr (b : Nat) : encE ((b + 1 : Nat) : Int) = .pointer (some ⟨b, 0, none⟩) := rfl
def Spot.cellsE (s : Spot) : List Value := [encE s.x, .int .u32 s.g, .bool s.t]
def rowE (L : List Spot) : List Value := L.flatMap Spot.cellsE
theorem rowE_len (L : List Spot) : (rowE L).length = L.length * 3 := by
  induction L with
  | nil => rfl
  | cons s L ih => simp only [rowE, List.flatMap_cons, List.length_append, List.length_cons] at ih ⊢; rw [ih]; simp only [Spot.cellsE, List.length_cons, List.length_nil]; omega
theorem rowE_append (L M : List Spot) : rowE (L ++ M) = rowE L ++ rowE M := by simp [rowE]
theorem rowE_at (L : List Spot) (i j : Nat) (s : Spot) (h : L[i]? = some s) (hj : j < 3) : (rowE L)[i * 3 + j]? = s.cellsE[j]? := by
  induction L generalizing i with
  | nil => simp at h
  | cons a L ih =>
    have e : rowE (a :: L) = a.cellsE ++ rowE L := by simp [rowE]
    rw [e]
    cases i with
    | zero =>
      simp at h; subst h
      rw [List.getElem?_append_left (by simp [Spot.cellsE]; omega)]; simp
    | succ i =>
      simp at h
      rw [List.getElem?_append_right (by simp [Spot.cellsE]; omega)]
      have : (i + 1) * 3 + j - a.cellsE.length = i * 3 + j := by simp [Spot.cellsE]; omega
      rw [this]; exact ih i h
theorem rowE_set (L : List Spot) (i j : Nat) (s s' : Spot) (v : Value) (h : L[i]? = some s) (hj : j < 3) (hs : s.cellsE.set j v = s'.cellsE) : (rowE L).set (i * 3 + j) v = rowE (L.set i s') := by
  induction L generalizing i with
  | nil => simp at h
  | cons a L ih =>
    have e : rowE (a :: L) = a.cellsE ++ rowE L := by simp [rowE]
    rw [e]
    cases i with
    | zero =>
      simp at h; subst h
      rw [List.set_append_left _ _ (by simp [Spot.cellsE]; omega)]
      simp only [List.set_cons_zero]
      have e2 : rowE (s' :: L) = s'.cellsE ++ rowE L := by simp [rowE]
      rw [e2]; congr 1; simpa using hs
    | succ i =>
      simp at h
      rw [List.set_append_right _ _ (by simp [Spot.cellsE]; omega)]
      have : (i + 1) * 3 + j - a.cellsE.length = i * 3 + j := by simp [Spot.cellsE]; omega
      rw [this, ih i h]
      simp [rowE]
theorem rowE_one (L : List Spot) : ∀ u ∈ rowE L, u.oneCell' = true := fun u hu => by
  obtain ⟨s, _, hs⟩ := List.mem_flatMap.1 hu
  simp [Spot.cellsE] at hs
  rcases hs with rfl | rfl | rfl
  · exact encE_one _
  · rfl
  · rfl
end Go.Proofs.Ytmampaglemleoab
