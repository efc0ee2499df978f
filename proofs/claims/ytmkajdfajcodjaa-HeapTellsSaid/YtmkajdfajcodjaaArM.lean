/-
  The plain mathematics of an arena: places with generations, free places, handles. It speaks of no program.
-/
import Derived.Laws.Rows
namespace Go.Proofs.Ytmkajdfajcodjaa
open Go

/-- A place: what is there, its generation, whether something is. -/
structure Spot where
  x : Int
  g : Nat
  t : Bool
/-- An arena: places, and the free ones, the last dropped behind. -/
structure Ar where
  most : Nat
  first : Nat
  L : List Spot
  F : List Nat
def Spot.cells (s : Spot) : List Value := [.int .i64 s.x, .int .u32 s.g, .bool s.t]
def rowL (L : List Spot) : List Value := L.flatMap Spot.cells
def rowF (F : List Nat) : List Value := F.map fun (i : Nat) => Value.int .i64 (i : Int)
def cnt (L : List Spot) : Nat := (L.filter (·.t)).length
theorem rowL_len (L : List Spot) : (rowL L).length = L.length * 3 := by
  induction L with
  | nil => rfl
  | cons s L ih => simp only [rowL, List.flatMap_cons, List.length_append, List.length_cons] at ih ⊢; rw [ih]; simp only [Spot.cells, List.length_cons, List.length_nil]; omega
theorem rowF_len (F : List Nat) : (rowF F).length = F.length := by simp [rowF]
theorem rowL_append (L M : List Spot) : rowL (L ++ M) = rowL L ++ rowL M := by simp [rowL]
theorem rowL_at (L : List Spot) (i j : Nat) (s : Spot) (h : L[i]? = some s) (hj : j < 3) : (rowL L)[i * 3 + j]? = s.cells[j]? := by
  induction L generalizing i with
  | nil => simp at h
  | cons a L ih =>
    have e : rowL (a :: L) = a.cells ++ rowL L := by simp [rowL]
    rw [e]
    cases i with
    | zero =>
      simp at h; subst h
      rw [List.getElem?_append_left (by simp [Spot.cells]; omega)]; simp
    | succ i =>
      simp at h
      rw [List.getElem?_append_right (by simp [Spot.cells]; omega)]
      have : (i + 1) * 3 + j - a.cells.length = i * 3 + j := by simp [Spot.cells]; omega
      rw [this]; exact ih i h
theorem rowL_set (L : List Spot) (i j : Nat) (s s' : Spot) (v : Value) (h : L[i]? = some s) (hj : j < 3) (hs : s.cells.set j v = s'.cells) : (rowL L).set (i * 3 + j) v = rowL (L.set i s') := by
  induction L generalizing i with
  | nil => simp at h
  | cons a L ih =>
    have e : rowL (a :: L) = a.cells ++ rowL L := by simp [rowL]
    rw [e]
    cases i with
    | zero =>
      simp at h; subst h
      rw [List.set_append_left _ _ (by simp [Spot.cells]; omega)]
      simp only [List.set_cons_zero]
      have e2 : rowL (s' :: L) = s'.cells ++ rowL L := by simp [rowL]
      rw [e2]; congr 1; simpa using hs
    | succ i =>
      simp at h
      rw [List.set_append_right _ _ (by simp [Spot.cells]; omega)]
      have : (i + 1) * 3 + j - a.cells.length = i * 3 + j := by simp [Spot.cells]; omega
      rw [this, ih i h]
      simp [rowL]
theorem cnt_le (L : List Spot) : cnt L ≤ L.length := List.length_filter_le _ _
theorem cnt_append (L M : List Spot) : cnt (L ++ M) = cnt L + cnt M := by simp [cnt]
theorem cnt_set (L : List Spot) (i : Nat) (s s' : Spot) (h : L[i]? = some s) : cnt (L.set i s') + (if s.t then 1 else 0) = cnt L + (if s'.t then 1 else 0) := by
  induction L generalizing i with
  | nil => simp at h
  | cons a L ih =>
    cases i with
    | zero =>
      simp at h; subst h
      simp only [List.set_cons_zero, cnt, List.filter_cons]
      split <;> split <;> simp
    | succ i =>
      simp at h
      have := ih i h
      simp only [List.set_cons_succ, cnt, List.filter_cons] at this ⊢
      by_cases ha : a.t
      · simp only [ha, if_true, List.length_cons]; omega
      · simp only [ha]; exact this

/-- What always holds of an arena. -/
structure Ok (A : Ar) : Prop where
  m1 : 1 ≤ A.most
  m2 : A.most ≤ 65536
  f1 : 1 ≤ A.first
  f2 : A.first ≤ 4294967295
  len : A.L.length ≤ A.most
  gen : ∀ (i : Nat) (s : Spot), A.L[i]? = some s → 1 ≤ s.g ∧ s.g ≤ 4294967295
  fr : ∀ (i : Nat), i ∈ A.F → ∃ s : Spot, A.L[i]? = some s ∧ s.t = false
  nd : A.F.Nodup
  fl : A.F.length + cnt A.L ≤ A.L.length

def hand (i g : Nat) : Int := (g : Int) * 4294967296 + i + 1
def new (m f : Nat) : Ar := ⟨m, f, [], []⟩
theorem new_ok {m f : Nat} (h : 1 ≤ m ∧ m ≤ 65536) (h' : 1 ≤ f ∧ f ≤ 4294967295) : Ok (new m f) :=
  ⟨h.1, h.2, h'.1, h'.2, by simp [new], by simp [new], by simp [new], by simp [new], by simp [new, cnt]⟩
/-- The place at which the next one is put, with its generation, and the places left free. -/
inductive Put (A : Ar) (x : Int) : Nat → Nat → Ar → Prop
  | again (F : List Nat) (i : Nat) (s : Spot) (hF : A.F = F ++ [i]) (hs : A.L[i]? = some s) : Put A x i s.g { A with L := A.L.set i ⟨x, s.g, true⟩, F := F }
  | fresh (hF : A.F = []) (hl : A.L.length < A.most) : Put A x A.L.length A.first { A with L := A.L ++ [⟨x, A.first, true⟩] }
/-- There is none. -/
def Full (A : Ar) : Prop := A.F = [] ∧ A.L.length = A.most
theorem put_or_full {A : Ar} (h : Ok A) (x : Int) : Full A ∨ ∃ i g A', Put A x i g A' := by
  rcases List.eq_nil_or_concat A.F with e | ⟨F, i, e⟩
  · by_cases hl : A.L.length < A.most
    · exact .inr ⟨_, _, _, .fresh e hl⟩
    · exact .inl ⟨e, by have := h.len; omega⟩
  · rw [List.concat_eq_append] at e
    obtain ⟨s, hs, _⟩ := h.fr i (by rw [e]; simp)
    exact .inr ⟨_, _, _, .again F i s e hs⟩
theorem Put.not_full {A A' : Ar} {x : Int} {i g : Nat} (hp : Put A x i g A') (hf : Full A) : False := by
  cases hp with
  | again F i s hF hs => rw [hf.1] at hF; simp at hF
  | fresh hF hl => have := hf.2; omega
theorem Put.ok {A A' : Ar} {x : Int} {i g : Nat} (h : Ok A) (hp : Put A x i g A') : Ok A' := by
  cases hp with
  | again F i s hF hs =>
    obtain ⟨s', hs', ht⟩ := h.fr i (by rw [hF]; simp)
    rw [hs] at hs'; cases hs'
    have hnd := h.nd
    rw [hF, List.nodup_append] at hnd
    have hlt : i < A.L.length := (List.getElem?_eq_some_iff.1 hs).1
    refine ⟨h.m1, h.m2, h.f1, h.f2, by simpa using h.len, ?_, ?_, hnd.1, ?_⟩
    · intro j s2 hj
      rw [List.getElem?_set] at hj
      split at hj
      · cases hj; exact h.gen i s hs
      · exact h.gen j s2 hj
    · intro j hj
      have hne : i ≠ j := fun e => hnd.2.2 j hj i (by simp) e.symm
      obtain ⟨s2, h2, h3⟩ := h.fr j (by rw [hF]; simp [hj])
      exact ⟨s2, by rw [List.getElem?_set_ne hne]; exact h2, h3⟩
    · have h1 := cnt_set A.L i s ⟨x, s.g, true⟩ hs
      have h2 := h.fl
      rw [hF] at h2
      simp [ht] at h1 h2 ⊢
      omega
  | fresh hF hl =>
    refine ⟨h.m1, h.m2, h.f1, h.f2, by simp; omega, ?_, ?_, by rw [hF]; simp, ?_⟩
    · intro j s2 hj
      by_cases e : j < A.L.length
      · rw [List.getElem?_append_left e] at hj; exact h.gen j s2 hj
      · rw [List.getElem?_append_right (by omega)] at hj
        obtain ⟨_, hj⟩ := List.mem_singleton.1 (List.mem_of_getElem? hj)
        exact ⟨h.f1, h.f2⟩
    · rw [hF]; simp
    · have h2 := h.fl
      simp only [hF, List.length_nil, Nat.zero_add] at h2 ⊢
      simp only [cnt_append, List.length_append]
      have : cnt [(⟨x, A.first, true⟩ : Spot)] = 1 := rfl
      simp only [this, List.length_cons, List.length_nil]; omega
/-- What a handle finds. -/
def Found (A : Ar) (h : Int) (i : Nat) (s : Spot) : Prop := A.L[i]? = some s ∧ s.t = true ∧ h = hand i s.g
def Stale (A : Ar) (h : Int) : Prop := ∀ i s, ¬ Found A h i s
theorem found_or_stale (A : Ar) (h : Int) : Stale A h ∨ ∃ i s, Found A h i s := by
  by_cases e : ∃ i s, Found A h i s
  · exact .inr e
  · exact .inl fun i s hf => e ⟨i, s, hf⟩
/-- Behind the dropping of a place. -/
def dropAt (A : Ar) (i : Nat) (s : Spot) : Ar :=
  if s.g < 4294967295 then { A with L := A.L.set i ⟨0, s.g + 1, false⟩, F := A.F ++ [i] } else { A with L := A.L.set i ⟨0, s.g, false⟩ }
theorem drop_ok {A : Ar} {i : Nat} {s : Spot} (h : Ok A) (hs : A.L[i]? = some s) (ht : s.t = true) : Ok (dropAt A i s) := by
  have hg := h.gen i s hs
  have hlt : i < A.L.length := (List.getElem?_eq_some_iff.1 hs).1
  have hni : i ∉ A.F := fun hm => by
    obtain ⟨s2, h2, h3⟩ := h.fr i hm
    rw [hs] at h2; cases h2; rw [ht] at h3; cases h3
  have hfl := h.fl
  have gens : ∀ g' : Nat, 1 ≤ g' → g' ≤ 4294967295 → ∀ (j : Nat) (s2 : Spot), (A.L.set i ⟨0, g', false⟩)[j]? = some s2 → 1 ≤ s2.g ∧ s2.g ≤ 4294967295 := by
    intro g' h1 h2 j s2 hj
    rw [List.getElem?_set] at hj
    split at hj
    · cases hj; exact ⟨h1, h2⟩
    · exact h.gen j s2 hj
  have frs : ∀ g' : Nat, ∀ j ∈ A.F, ∃ s2 : Spot, (A.L.set i ⟨0, g', false⟩)[j]? = some s2 ∧ s2.t = false := by
    intro g' j hj
    obtain ⟨s2, h2, h3⟩ := h.fr j hj
    exact ⟨s2, by rw [List.getElem?_set_ne (fun e => hni (by rw [e]; exact hj))]; exact h2, h3⟩
  have cs : ∀ g' : Nat, cnt (A.L.set i ⟨0, g', false⟩) + 1 = cnt A.L := by
    intro g'
    have := cnt_set A.L i s ⟨0, g', false⟩ hs
    simp [ht] at this; omega
  unfold dropAt
  split
  · rename_i hlt'
    refine ⟨h.m1, h.m2, h.f1, h.f2, by simpa using h.len, gens _ (by omega) (by omega), ?_, ?_, ?_⟩
    · intro j hj
      rcases List.mem_append.1 hj with hj | hj
      · exact frs _ j hj
      · simp at hj; subst hj
        exact ⟨_, by simp [hlt]; rfl, rfl⟩
    · rw [List.nodup_append]
      exact ⟨h.nd, by simp, fun a ha b hb e => by simp at hb; subst hb; subst e; exact hni ha⟩
    · have := cs (s.g + 1)
      simp; omega
  · refine ⟨h.m1, h.m2, h.f1, h.f2, by simpa using h.len, gens _ hg.1 hg.2, frs _, h.nd, ?_⟩
    have := cs s.g
    simp; omega
end Go.Proofs.Ytmkajdfajcodjaa
