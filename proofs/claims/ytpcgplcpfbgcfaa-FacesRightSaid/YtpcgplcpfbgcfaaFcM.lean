/-
  Rows of faces as lists: the line of a place, who is in it, what two have in common. Plain mathematics.
-/
import Derived.ProofKit
namespace Go.Proofs.Ytpcgplcpfbgcfaa

/-- A face. -/
structure Face where
  id : List Int
  base : Int
/-- The next place of a line. -/
def nxt (l : List Face) (k : Nat) : Option Nat :=
  match l[k]? with
  | some f => if 0 ≤ f.base ∧ f.base < (k : Int) then some f.base.toNat else none
  | none => none
theorem nxt_lt {l : List Face} {k m : Nat} (h : nxt l k = some m) : m < k := by
  unfold nxt at h
  split at h
  · split at h
    · simp at h; omega
    · cases h
  · cases h
theorem nxt_some {l : List Face} {k : Nat} {f : Face} (hf : l[k]? = some f) (h : 0 ≤ f.base ∧ f.base < (k : Int)) : nxt l k = some f.base.toNat := by
  unfold nxt; rw [hf]; simp only [if_pos h]
theorem nxt_none {l : List Face} {k : Nat} {f : Face} (hf : l[k]? = some f) (h : ¬ (0 ≤ f.base ∧ f.base < (k : Int))) : nxt l k = none := by
  unfold nxt; rw [hf]; simp only [if_neg h]
/-- The line from a place on. -/
def lineN (l : List Face) (k : Nat) : List Nat :=
  match _h : nxt l k with
  | some m => k :: lineN l m
  | none => [k]
termination_by k
decreasing_by exact nxt_lt _h
theorem lineN_some {l : List Face} {k m : Nat} (h : nxt l k = some m) : lineN l k = k :: lineN l m := by
  rw [lineN]; split
  · rename_i m' h'; rw [h] at h'; cases h'; rfl
  · rename_i h'; rw [h] at h'; cases h'
theorem lineN_none {l : List Face} {k : Nat} (h : nxt l k = none) : lineN l k = [k] := by
  rw [lineN]; split
  · rename_i m' h'; rw [h] at h'; cases h'
  · rfl
theorem lineN_cons (l : List Face) (k : Nat) : ∃ t, lineN l k = k :: t := by
  cases h : nxt l k with
  | some m => exact ⟨_, lineN_some h⟩
  | none => exact ⟨_, lineN_none h⟩
theorem lineN_at (l : List Face) : ∀ (q k0 k : Nat), (lineN l k0)[q]? = some k → (lineN l k0)[q + 1]? = nxt l k
  | 0, k0, k, h => by
    cases hn : nxt l k0 with
    | some m =>
      rw [lineN_some hn] at h ⊢
      simp at h; subst h
      obtain ⟨t, ht⟩ := lineN_cons l m
      simp [ht, hn]
    | none =>
      rw [lineN_none hn] at h ⊢
      simp at h; subst h
      simp [hn]
  | q + 1, k0, k, h => by
    cases hn : nxt l k0 with
    | some m =>
      rw [lineN_some hn] at h ⊢
      simp at h
      have := lineN_at l q m k h
      simpa using this
    | none =>
      rw [lineN_none hn] at h
      simp at h
theorem lineN_le (l : List Face) : ∀ (n k0 : Nat), k0 ≤ n → ∀ k ∈ lineN l k0, k ≤ k0
  | 0, k0, hn, k, hk => by
    cases h : nxt l k0 with
    | some m => have := nxt_lt h; omega
    | none => rw [lineN_none h] at hk; simp at hk; omega
  | n + 1, k0, hn, k, hk => by
    cases h : nxt l k0 with
    | some m =>
      have h1 := nxt_lt h
      rw [lineN_some h] at hk
      rcases List.mem_cons.1 hk with e | hk
      · omega
      · have := lineN_le l n m (by omega) k hk; omega
    | none => rw [lineN_none h] at hk; simp at hk; omega
theorem lineN_fall (l : List Face) : ∀ (n k0 : Nat), k0 ≤ n → (lineN l k0).Pairwise (· > ·)
  | 0, k0, hn => by
    cases h : nxt l k0 with
    | some m => have := nxt_lt h; omega
    | none => rw [lineN_none h]; simp
  | n + 1, k0, hn => by
    cases h : nxt l k0 with
    | some m =>
      have h1 := nxt_lt h
      rw [lineN_some h]
      refine List.pairwise_cons.2 ⟨fun k hk => ?_, lineN_fall l n m (by omega)⟩
      have := lineN_le l m m (Nat.le_refl _) k hk; omega
    | none => rw [lineN_none h]; simp
/-- What stands behind a place of a line is that place's own line. -/
theorem lineN_split (l : List Face) : ∀ (pre : List Nat) (k0 x : Nat) (t : List Nat), lineN l k0 = pre ++ x :: t → lineN l x = x :: t
  | [], k0, x, t, h => by
    obtain ⟨t', ht⟩ := lineN_cons l k0
    rw [ht] at h
    simp at h
    obtain ⟨rfl, rfl⟩ := h
    exact ht
  | p :: pre, k0, x, t, h => by
    cases hn : nxt l k0 with
    | some m =>
      rw [lineN_some hn] at h
      simp at h
      exact lineN_split l pre m x t h.2
    | none =>
      rw [lineN_none hn] at h
      simp at h
/-- The line of any place: none where there is no face. -/
def lineL (l : List Face) (i : Int) : List Nat := if 0 ≤ i ∧ i < (l.length : Int) then lineN l i.toNat else []
theorem lineL_in {l : List Face} {i : Int} (h : 0 ≤ i ∧ i < (l.length : Int)) : lineL l i = lineN l i.toNat := if_pos h
theorem lineL_nat {l : List Face} {k : Nat} (h : k < l.length) : lineL l (k : Int) = lineN l k := by rw [lineL_in (by omega)]; rfl
theorem lineL_out {l : List Face} {i : Int} (h : ¬ (0 ≤ i ∧ i < (l.length : Int))) : lineL l i = [] := if_neg h
theorem lineL_mem {l : List Face} {i : Int} {k : Nat} (h : k ∈ lineL l i) : k < l.length ∧ (k : Int) ≤ i := by
  unfold lineL at h
  split at h
  · have := lineN_le l i.toNat i.toNat (Nat.le_refl _) k h; omega
  · cases h
theorem lineL_fall (l : List Face) (i : Int) : (lineL l i).Pairwise (· > ·) := by
  unfold lineL
  split
  · exact lineN_fall l i.toNat i.toNat (Nat.le_refl _)
  · exact List.Pairwise.nil
theorem lineL_split {l : List Face} {i : Int} {pre : List Nat} {x : Nat} {t : List Nat} (h : lineL l i = pre ++ x :: t) : lineL l (x : Int) = x :: t := by
  have hx : x ∈ lineL l i := by rw [h]; simp
  rw [lineL_nat (lineL_mem hx).1]
  unfold lineL at h
  split at h
  · exact lineN_split l pre _ x t h
  · simp at h
theorem lineL_at {l : List Face} {i : Int} {q k : Nat} (h : (lineL l i)[q]? = some k) : (lineL l i)[q + 1]? = nxt l k := by
  unfold lineL at h ⊢
  split
  · rename_i hc; rw [if_pos hc] at h; exact lineN_at l q _ k h
  · rename_i hc; rw [if_neg hc] at h; cases h
theorem lineL_head {l : List Face} {i : Int} (h : 0 ≤ i ∧ i < (l.length : Int)) : (lineL l i)[0]? = some i.toNat := by
  rw [lineL_in h]
  obtain ⟨t, ht⟩ := lineN_cons l i.toNat
  rw [ht]; rfl
/-- A line's length. -/
theorem fall_len : ∀ (L : List Nat) (n : Nat), L.Pairwise (· > ·) → (∀ k ∈ L, k < n) → L.length ≤ n
  | [], _, _, _ => Nat.zero_le _
  | a :: L, n, hp, hn => by
    have h1 := List.pairwise_cons.1 hp
    have := fall_len L a h1.2 (fun k hk => h1.1 k hk)
    have := hn a (by simp)
    simp; omega
theorem lineL_len (l : List Face) (i : Int) : (lineL l i).length ≤ l.length := fall_len _ _ (lineL_fall l i) (fun _ hk => (lineL_mem hk).1)
theorem lineL_sub {l : List Face} {i : Int} {x : Nat} (h : x ∈ lineL l i) : ∀ y ∈ lineL l (x : Int), y ∈ lineL l i := fun y hy => by
  obtain ⟨pre, t, e⟩ := List.append_of_mem h
  rw [lineL_split e] at hy
  rw [e]; exact List.mem_append.2 (.inr hy)
theorem lineL_self {l : List Face} {i : Int} (h : 0 ≤ i ∧ i < (l.length : Int)) : i.toNat ∈ lineL l i := List.mem_of_getElem? (lineL_head h)
/-- What two lines have in common: the first one of i's that is in j's. -/
def commonL (l : List Face) (i j : Int) : Option Nat := (lineL l i).find? fun k => decide (k ∈ lineL l j)
/-- The first face of an Id. -/
def findL : List Face → List Int → Option Nat
  | [], _ => none
  | f :: l, g => if f.id = g then some 0 else (findL l g).map (· + 1)
/-- Is one of this Id in the line of k? -/
def isUnder (l : List Face) (g : List Int) (k : Nat) : Bool := (lineL l (k : Int)).any fun y => decide ((l[y]?.map Face.id) = some g)
/-- All faces in whose lines one of this Id is. -/
def underL (l : List Face) (g : List Int) (n : Nat) : List Nat := (List.range n).filter (isUnder l g)
theorem underL_succ (l : List Face) (g : List Int) (n : Nat) : underL l g (n + 1) = underL l g n ++ (if isUnder l g n then [n] else []) := by
  unfold underL
  rw [List.range_succ, List.filter_append]
  congr 1
  by_cases h : isUnder l g n <;> simp [h]
/-- The place's Base is right. -/
def baseOk (k : Nat) (b : Int) : Bool := if k = 0 then decide (b = -1) else decide (0 ≤ b ∧ b < (k : Int))
/-- What is wrong from a place on. -/
def checkFrom (l : List Face) : Nat → List Face → Int
  | _, [] => 0
  | k, f :: r => if baseOk k f.base then (if (findL (l.take k) f.id).isSome then 13 else checkFrom l (k + 1) r) else 5
def checkL (l : List Face) : Int := if l.length < 1 ∨ 16 < l.length then 20 else checkFrom l 0 l
end Go.Proofs.Ytpcgplcpfbgcfaa
