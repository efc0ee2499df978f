/-
  Layer 16 plainly: who is in it, rising, and when each was heard of.
-/
import Derived.Test.YtbdhjkdojgdhbaaNum
namespace Go.Proofs.Ytbdhjkdojgdhbaa
open Go

/-- A key, and when it was heard of. -/
abbrev On := Int × Int
/-- The time, now, who is in it. -/
structure Lz where
  time : Int
  now : Int
  l : List On
def hasK (k : Int) (l : List On) : Bool := l.any (·.1 == k)
/-- The place of a key; -1: it isn't there. -/
def idxK (k : Int) : List On → Int
  | [] => -1
  | x :: r => if x.1 = k then 0 else if idxK k r < 0 then -1 else idxK k r + 1
def outK (k : Int) (l : List On) : List On := l.filter (fun x => x.1 != k)
/-- How many are ahead of a key. -/
def lowK (k : Int) : List On → Nat
  | [] => 0
  | x :: r => if x.1 < k then lowK k r + 1 else 0
def inK (k t : Int) (l : List On) : List On := (outK k l).take (lowK k (outK k l)) ++ [(k, t)] ++ (outK k l).drop (lowK k (outK k l))
def setK (k t : Int) (l : List On) : List On := l.map (fun x => if x.1 = k then (k, t) else x)
def dueB (z : Lz) (x : On) : Bool := decide (z.time ≤ z.now + 1 - x.2)
def overK (z : Lz) : List Int := (z.l.filter (dueB z)).map (·.1)
def restK (z : Lz) : List On := z.l.filter (fun x => !dueB z x)
def Lz.join (z : Lz) (k : Int) : Lz := ⟨z.time, z.now, inK k z.now z.l⟩
def Lz.ping (z : Lz) (k : Int) : Lz := ⟨z.time, z.now, if hasK k z.l then setK k z.now z.l else z.l⟩
def Lz.leave (z : Lz) (k : Int) : Lz := ⟨z.time, z.now, outK k z.l⟩
def Lz.tick (z : Lz) : Lz := ⟨z.time, z.now + 1, restK z⟩
def atK (k : Int) (l : List On) : Int := (l.getD (idxK k l).toNat (0, 0)).2
/-- Rising. -/
def Rise (l : List On) : Prop := l.Pairwise (fun x y => x.1 < y.1)
theorem idx_no {k : Int} : ∀ {l : List On}, hasK k l = false → idxK k l = -1
  | [], _ => rfl
  | x :: r, h => by
    simp only [hasK, List.any_cons, Bool.or_eq_false_iff, beq_eq_false_iff_ne] at h
    rw [idxK, if_neg h.1, idx_no (l := r) h.2]
    rfl
theorem idx_has {k : Int} : ∀ {l : List On}, hasK k l = true → ∃ i : Nat, idxK k l = i ∧ i < l.length ∧ ∃ t, l[i]? = some (k, t)
  | [], h => by simp [hasK] at h
  | x :: r, h => by
    by_cases hx : x.1 = k
    · refine ⟨0, by rw [idxK, if_pos hx]; rfl, by simp, x.2, ?_⟩
      rw [List.getElem?_cons_zero, ← hx]
    · simp only [hasK, List.any_cons, Bool.or_eq_true, beq_iff_eq] at h
      obtain ⟨i, h1, h2, t, h3⟩ := idx_has (l := r) (by rcases h with e | e; exact absurd e hx; exact e)
      refine ⟨i + 1, by rw [idxK, if_neg hx, h1, if_neg (by omega)]; rfl, by simp; omega, t, by simpa using h3⟩
theorem out_len {k : Int} : ∀ {l : List On}, decide ((outK k l).length < l.length) = hasK k l
  | [] => rfl
  | x :: r => by
    have ih := out_len (k := k) (l := r)
    have hle : (outK k r).length ≤ r.length := List.length_filter_le _ _
    by_cases hx : x.1 = k
    · have e1 : outK k (x :: r) = outK k r := by simp [outK, hx]
      have e2 : hasK k (x :: r) = true := by simp [hasK, hx]
      rw [e1, e2]
      exact decide_eq_true (by rw [List.length_cons]; omega)
    · have e1 : outK k (x :: r) = x :: outK k r := by simp [outK, hx]
      have e2 : hasK k (x :: r) = hasK k r := by simp [hasK, hx]
      rw [e1, e2, ← ih, List.length_cons, List.length_cons]
      by_cases h : (outK k r).length < r.length
      · rw [decide_eq_true h, decide_eq_true (by omega)]
      · rw [decide_eq_false h, decide_eq_false (by omega)]
/-- Where the place was found, what stands ahead of it has other keys. -/
theorem low_le (k : Int) : ∀ l : List On, lowK k l ≤ l.length
  | [] => Nat.le_refl _
  | x :: r => by
    rw [lowK]
    split
    · have := low_le k r; simp; omega
    · simp
theorem low_at {k : Int} : ∀ {l : List On} {i : Nat}, i < lowK k l → ∃ x, l[i]? = some x ∧ x.1 < k
  | [], i, h => by simp [lowK] at h
  | x :: r, i, h => by
    rw [lowK] at h
    split at h
    · rename_i hx
      cases i with
      | zero => exact ⟨x, rfl, hx⟩
      | succ i => exact low_at (l := r) (i := i) (by omega)
    · omega
theorem low_stop {k : Int} : ∀ {l : List On} {x : On}, l[lowK k l]? = some x → ¬ x.1 < k
  | [], x, h => by simp at h
  | y :: r, x, h => by
    rw [lowK] at h
    split at h
    · rename_i hy
      exact low_stop (l := r) (by simpa using h)
    · rename_i hy
      simp at h
      subst h
      exact hy
theorem idx_step {k : Int} {l : List On} {i : Nat} {x : On} (hx : l[i]? = some x) (hn : ∀ (j : Nat) (y : On), j < i → l[j]? = some y → y.1 ≠ k) (h : x.1 = k) : idxK k l = i := by
  induction l generalizing i with
  | nil => simp at hx
  | cons y r ih =>
    cases i with
    | zero =>
      simp at hx
      subst hx
      rw [idxK, if_pos h]; rfl
    | succ i =>
      have h0 := hn 0 y (by omega) rfl
      rw [idxK, if_neg h0, ih (i := i) (by simpa using hx) (fun j z hj hz => hn (j + 1) z (by omega) (by simpa using hz)), if_neg (by omega)]
      rfl
theorem idx_end {k : Int} {l : List On} (hn : ∀ (j : Nat) (y : On), l[j]? = some y → y.1 ≠ k) : idxK k l = -1 := by
  refine idx_no ?_
  simp only [hasK, List.any_eq_false, beq_iff_eq]
  intro x hx
  obtain ⟨j, hj⟩ := List.mem_iff_getElem?.1 hx
  exact hn j x hj
end Go.Proofs.Ytbdhjkdojgdhbaa
