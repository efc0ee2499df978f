/-
  Who is in it, rising, as a map's datum. No program.
-/
import Derived.Maps.Ext
import Derived.Maps.OwnSet
import Derived.Test.YtbdhjkdojgdhbaaLsZ
namespace Go.Proofs.Ytbdhjkdojgdhbaa
open Go

def datO (l : List On) : DataW Unit := .map (l.map fun p => (Lit.int .u64 p.1, DataW.lit (.int .i64 p.2)))
def layO (x : On) : List On → List On
  | [] => [x]
  | y :: r => if x.1 < y.1 then x :: y :: r else y :: layO x r
def getO (k : Int) (l : List On) : Int := match l.find? (fun p => p.1 == k) with | some p => p.2 | none => 0
theorem datO_lay (k c : Int) : ∀ l : List On, DataW.insert (Lit.int .u64 k, DataW.lit (H := Unit) (.int .i64 c)) (l.map fun p => (Lit.int .u64 p.1, DataW.lit (.int .i64 p.2))) = (layO (k, c) l).map fun p => (Lit.int .u64 p.1, DataW.lit (.int .i64 p.2))
  | [] => rfl
  | y :: r => by
    unfold layO
    simp only [List.map_cons, DataW.insert, Lit.before]
    by_cases h : k < y.1
    · simp [h]
    · simp [h, datO_lay k c r]
theorem datO_cut0 (l : List On) (k : Int) : (l.map fun p => (Lit.int .u64 p.1, DataW.lit (H := Unit) (.int .i64 p.2))).filter (fun p => !p.1.sameKey (.int .u64 k)) = (outK k l).map fun p => (Lit.int .u64 p.1, DataW.lit (.int .i64 p.2)) := by
  unfold outK
  rw [List.filter_map]
  congr 1
  refine List.filter_congr fun p _ => ?_
  simp [Lit.sameKey, BEq.beq, bne]
theorem datO_put (l : List On) (k c : Int) : (datO l).put (.int .u64 k) (.lit (.int .i64 c)) = datO (layO (k, c) (outK k l)) := by
  unfold datO
  simp only [DataW.put]
  rw [datO_cut0, datO_lay]
theorem datO_cut (l : List On) (k : Int) : (datO l).del (.int .u64 k) = datO (outK k l) := by
  unfold datO
  simp only [DataW.del]
  rw [datO_cut0]
theorem find_datO (l : List On) (k : Int) : (l.map fun p => (Lit.int .u64 p.1, DataW.lit (H := Unit) (.int .i64 p.2))).find? (fun p => p.1.sameKey (.int .u64 k)) = (l.find? (fun p => p.1 == k)).map fun p => (Lit.int .u64 p.1, DataW.lit (.int .i64 p.2)) := by
  rw [List.find?_map]
  have : ((fun p : Lit × DataW Unit => p.1.sameKey (.int .u64 k)) ∘ fun p : On => (Lit.int .u64 p.1, DataW.lit (H := Unit) (.int .i64 p.2))) = fun p => p.1 == k := by
    funext p; simp [Lit.sameKey, BEq.beq]
  rw [this]
theorem datO_get (l : List On) (k : Int) : (datO l).atKey (.int .u64 k) (.lit (.int .i64 0)) = .lit (.int .i64 (getO k l)) := by
  unfold datO getO
  simp only [DataW.atKey]
  rw [find_datO]
  cases l.find? (fun p => p.1 == k) <;> rfl
theorem datO_has (l : List On) (k : Int) : Maps.has (datO l) (.int .u64 k) = hasK k l := by
  unfold datO hasK
  rw [Maps.has_eq, List.any_map]
  congr 1
  funext p
  simp [Lit.sameKey, BEq.beq]
theorem datO_size (l : List On) : Maps.size (datO l) = l.length := by simp [datO, Maps.size]
theorem same_o (a b : Int) : (Lit.int .u64 a).sameKey (.int .u64 b) = decide (a = b) := by simp [Lit.sameKey]
theorem mem_datO {l : List On} {x c : Int} (h : ∀ zd, (datO l).atKey (.int .u64 x) zd = .lit (.int .i64 c)) : (x, c) ∈ l := by
  have h1 := h .nil
  unfold datO at h1
  simp only [DataW.atKey] at h1
  rw [find_datO] at h1
  cases hf : l.find? (fun p => p.1 == x) with
  | none => rw [hf] at h1; cases h1
  | some p =>
    have hm := List.mem_of_find?_eq_some hf
    have hs := List.find?_some hf
    rw [hf] at h1
    simp at h1 hs
    obtain ⟨a, b⟩ := p
    simp at h1 hs
    subst h1; subst hs
    exact hm
/-- Laid where it belongs. -/
theorem lay_in (k t : Int) : ∀ {l : List On}, (∀ x ∈ l, x.1 ≠ k) → layO (k, t) l = l.take (lowK k l) ++ [(k, t)] ++ l.drop (lowK k l)
  | [], _ => rfl
  | y :: r, h => by
    have hy := h y (by simp)
    unfold layO
    rw [lowK]
    by_cases h1 : k < y.1
    · rw [if_pos h1, if_neg (by omega)]
      rfl
    · rw [if_neg h1, if_pos (by omega), lay_in k t (l := r) (fun x hx => h x (by simp [hx]))]
      simp
theorem in_lay (k t : Int) (l : List On) : inK k t l = layO (k, t) (outK k l) := by
  rw [lay_in k t (fun x hx => (out_ne hx).1)]
  rfl
theorem out_none {k : Int} {l : List On} (h : ∀ x ∈ l, x.1 ≠ k) : outK k l = l := by
  unfold outK
  rw [List.filter_eq_self]
  intro x hx
  simpa using h x hx
/-- Who was in it stands where he stood. -/
theorem in_set (k t : Int) : ∀ {l : List On}, Rise l → hasK k l = true → inK k t l = setK k t l
  | [], _, h => by cases h
  | x :: r, hr, h => by
    unfold Rise at hr
    rw [List.pairwise_cons] at hr
    by_cases hx : x.1 = k
    · have hn : ∀ y ∈ r, y.1 ≠ k := fun y hy => by have := hr.1 y hy; omega
      have e1 : outK k (x :: r) = r := by
        have : outK k (x :: r) = outK k r := by simp [outK, hx]
        rw [this, out_none hn]
      have e2 : setK k t r = r := by
        unfold setK
        conv => rhs; rw [← List.map_id r]
        refine List.map_congr_left fun y hy => ?_
        rw [if_neg (hn y hy)]
        rfl
      have e3 : layO (k, t) r = (k, t) :: r := by
        cases r with
        | nil => rfl
        | cons y q =>
          unfold layO
          rw [if_pos (by have := hr.1 y (by simp); show k < y.1; omega)]
      rw [in_lay, e1, e3]
      unfold setK at e2 ⊢
      rw [List.map_cons, if_pos hx, e2]
    · have hk : hasK k r = true := by
        simp only [hasK, List.any_cons, Bool.or_eq_true, beq_iff_eq] at h
        rcases h with h | h
        · exact absurd h hx
        · exact h
      have hlt : x.1 < k := by
        obtain ⟨y, hy, e⟩ := List.any_eq_true.1 hk
        have := hr.1 y hy
        simp at e
        omega
      have e1 : outK k (x :: r) = x :: outK k r := by simp [outK, hx]
      have ih := in_set k t (l := r) hr.2 hk
      rw [in_lay] at ih
      rw [in_lay, e1]
      unfold layO
      rw [if_neg (by show ¬ k < x.1; omega), ih]
      unfold setK
      rw [List.map_cons, if_neg hx]
theorem at_getO {k : Int} : ∀ {l : List On}, hasK k l = true → atK k l = getO k l := by
  intro l h
  obtain ⟨i, h1, h2, t, h3⟩ := idx_has h
  unfold atK
  rw [h1, Int.toNat_natCast, List.getD_eq_getElem?_getD, h3]
  have hf : ∀ {q : List On} {j : Nat}, idxK k q = j → q[j]? = some (k, t) → q.find? (fun p => p.1 == k) = some (k, t) := by
    intro q
    induction q with
    | nil => intro j _ h; simp at h
    | cons y r ih =>
      intro j hj hq
      by_cases hy : y.1 = k
      · rw [idxK, if_pos hy] at hj
        obtain rfl : j = 0 := by omega
        simp at hq
        rw [List.find?_cons_of_pos (by simpa using hy), hq]
      · rw [List.find?_cons_of_neg (by simpa using hy)]
        rw [idxK, if_neg hy] at hj
        split at hj
        · omega
        · cases j with
          | zero => omega
          | succ j => exact ih (j := j) (by omega) (by simpa using hq)
  unfold getO
  rw [hf h1 h3]
  rfl
end Go.Proofs.Ytbdhjkdojgdhbaa
