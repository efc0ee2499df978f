/-
  Plain mathematics of GUIDs' texts: nothing of a program.
-/
import Derived.Test.YtmmmjkmhlkkdkaaLib
namespace Go.Proofs.Ytmmmjkmhlkkdkaa

/-- A - stands ahead of these places. -/
def isD (i : Int) : Bool := i == 4 || i == 6 || i == 8 || i == 10
/-- The digit of base 16. -/
def dg (n : Int) : Int := if n < 10 then 48 + n else 87 + n
/-- The text of the first k bytes, with what opens it. -/
def prUp (xs : List Int) : Nat → List Int
  | 0 => [123]
  | k + 1 => (if isD k then prUp xs k ++ [45] else prUp xs k) ++ [dg (xs.getD k 0 / 16), dg (xs.getD k 0 % 16)]
def prL (xs : List Int) : List Int := prUp xs 16 ++ [125]
theorem prUp_len (xs : List Int) : ∀ k, (prUp xs k).length ≤ 3 * k + 1
  | 0 => by simp [prUp]
  | k + 1 => by
    have := prUp_len xs k
    unfold prUp
    split <;> simp <;> omega
theorem dg_bd {n : Int} (h0 : 0 ≤ n) (h1 : n < 16) : 0 ≤ dg n ∧ dg n ≤ 255 := by unfold dg; split <;> omega
theorem prUp_bd {xs : List Int} (hx : IsG xs) : ∀ k, ∀ x ∈ prUp xs k, 0 ≤ x ∧ x ≤ 255
  | 0 => by simp [prUp]
  | k + 1 => by
    have ih := prUp_bd hx k
    have h0 := hx.lo k
    have h1 := hx.hi k
    have d1 := dg_bd (n := xs.getD k 0 / 16) (by omega) (by omega)
    have d2 := dg_bd (n := xs.getD k 0 % 16) (by omega) (by omega)
    intro x hm
    unfold prUp at hm
    simp only [List.mem_append, List.mem_cons, List.not_mem_nil, or_false] at hm
    rcases hm with hm | rfl | rfl
    · split at hm
      · rcases List.mem_append.1 hm with h | h
        · exact ih x h
        · simp at h; omega
      · exact ih x hm
    · exact d1
    · exact d2
theorem prL_bd {xs : List Int} (hx : IsG xs) : ∀ x ∈ prL xs, 0 ≤ x ∧ x ≤ 255 := fun x h => by
  rcases List.mem_append.1 h with h | h
  · exact prUp_bd hx 16 x h
  · simp at h; omega

/-- What a digit stands for. -/
def dgv (c : Int) : Option Int :=
  if 48 ≤ c ∧ c ≤ 57 then some (c - 48) else if 97 ≤ c ∧ c ≤ 102 then some (c - 87) else if 65 ≤ c ∧ c ≤ 70 then some (c - 55) else none
/-- A great digit's letter made small. -/
def low (c : Int) : Int := if 65 ≤ c ∧ c ≤ 70 then c + 32 else c
theorem dgv_iff {c v : Int} (hv : 0 ≤ v ∧ v < 16) : dgv c = some v ↔ low c = dg v := by
  unfold dgv low dg
  split
  · rw [Option.some.injEq]; split <;> split <;> omega
  · split
    · rw [Option.some.injEq]; split <;> split <;> omega
    · split
      · rw [Option.some.injEq]; split <;> omega
      · constructor
        · intro h; cases h
        · intro h; split at h <;> omega
theorem dgv_bd {c v : Int} (h : dgv c = some v) : 0 ≤ v ∧ v < 16 := by
  unfold dgv at h
  split at h
  · simp at h; omega
  · split at h
    · simp at h; omega
    · split at h
      · simp at h; omega
      · cases h
theorem low_dg {v : Int} (h0 : 0 ≤ v) (h1 : v < 16) : low (dg v) = dg v := by unfold low dg; split <;> split <;> omega
theorem low_45 {c : Int} : low c = 45 ↔ c = 45 := by unfold low; split <;> omega
theorem low_123 {c : Int} : low c = 123 ↔ c = 123 := by unfold low; split <;> omega
theorem low_125 {c : Int} : low c = 125 ↔ c = 125 := by unfold low; split <;> omega

/-- Where the text of byte k begins (its - with it), and where its digits do. -/
def posn : Nat → Nat
  | 0 => 1
  | k + 1 => (if isD k then posn k + 1 else posn k) + 2
def pdig (k : Nat) : Nat := if isD k then posn k + 1 else posn k
theorem posn_le : ∀ k, k ≤ 16 → posn k ≤ 37 := by decide
theorem pdig_le : ∀ k, k < 16 → pdig k + 1 ≤ 36 := by decide
/-- Byte k of a text. -/
def rnd (sl : List Int) (k : Nat) : Option Int :=
  if isD k = true ∧ ¬ sl.getD (posn k) 0 = 45 then none
  else match dgv (sl.getD (pdig k) 0), dgv (sl.getD (pdig k + 1) 0) with
    | some h, some l => some (h * 16 + l)
    | _, _ => none
def Framed (sl : List Int) : Prop := sl.length = 38 ∧ sl.getD 0 0 = 123 ∧ sl.getD 37 0 = 125
def AllRnd (sl : List Int) (k : Nat) : Prop := ∀ j, j < k → (rnd sl j).isSome = true
/-- The first k bytes that a text stands for. -/
def gUp (sl : List Int) (k : Nat) : List Int := (List.range 16).map fun j => if j < k then (rnd sl j).getD 0 else 0
instance (sl : List Int) : Decidable (Framed sl) := inferInstanceAs (Decidable (_ ∧ _ ∧ _))
instance (sl : List Int) (k : Nat) : Decidable (AllRnd sl k) := inferInstanceAs (Decidable (∀ j, j < k → (rnd sl j).isSome = true))
/-- The GUID whose text it is. -/
def pars (sl : List Int) : Option (List Int) := if Framed sl ∧ AllRnd sl 16 then some (gUp sl 16) else none

theorem rnd_iff {sl : List Int} {k : Nat} {x : Int} (hx : 0 ≤ x ∧ x ≤ 255) :
    rnd sl k = some x ↔ (isD k = true → low (sl.getD (posn k) 0) = 45) ∧ low (sl.getD (pdig k) 0) = dg (x / 16) ∧ low (sl.getD (pdig k + 1) 0) = dg (x % 16) := by
  rw [low_45, ← dgv_iff (c := sl.getD (pdig k) 0) (v := x / 16) (by omega), ← dgv_iff (c := sl.getD (pdig k + 1) 0) (v := x % 16) (by omega)]
  unfold rnd
  split
  · rename_i h
    constructor
    · intro e; cases e
    · intro ⟨e, _⟩; exact absurd (e h.1) h.2
  · rename_i h
    have h' : isD k = true → sl.getD (posn k) 0 = 45 := fun a => Classical.byContradiction fun b => h ⟨a, b⟩
    split
    · rename_i u l h1 h2
      have b1 := dgv_bd h1
      have b2 := dgv_bd h2
      rw [h1, h2]
      simp only [Option.some.injEq]
      constructor
      · intro e; exact ⟨h', by omega, by omega⟩
      · rintro ⟨_, e1, e2⟩; omega
    · rename_i hn
      constructor
      · intro e; cases e
      · rintro ⟨_, e1, e2⟩; exact absurd e2 (hn _ _ e1)
theorem rnd_bd {sl : List Int} {k : Nat} {x : Int} (h : rnd sl k = some x) : 0 ≤ x ∧ x ≤ 255 := by
  unfold rnd at h
  split at h
  · cases h
  · split at h
    · rename_i u l h1 h2
      have b1 := dgv_bd h1
      have b2 := dgv_bd h2
      simp at h; omega
    · cases h
theorem gUp_len (sl : List Int) (k : Nat) : (gUp sl k).length = 16 := by simp [gUp]
theorem gUp_get (sl : List Int) (k j : Nat) (hj : j < 16) : (gUp sl k).getD j 0 = if j < k then (rnd sl j).getD 0 else 0 := by
  simp [gUp, hj]
theorem gUp_isG (sl : List Int) (k : Nat) : IsG (gUp sl k) := by
  have h : ∀ j, 0 ≤ (gUp sl k).getD j 0 ∧ (gUp sl k).getD j 0 ≤ 255 := fun j => by
    by_cases hj : j < 16
    · rw [gUp_get sl k j hj]
      split
      · cases hr : rnd sl j with
        | none => simp
        | some x => exact rnd_bd hr
      · omega
    · have : (gUp sl k).getD j 0 = 0 := by simp [gUp, List.getD, hj]
      omega
  exact ⟨gUp_len sl k, fun j => (h j).1, fun j => (h j).2⟩
theorem gUp_step (sl : List Int) (k : Nat) (x : Int) (hr : rnd sl k = some x) : (gUp sl k).set k x = gUp sl (k + 1) := by
  apply List.ext_getElem
  · simp [gUp]
  · intro i h1 h2
    rw [List.getElem_set]
    simp only [gUp, List.getElem_map, List.getElem_range]
    by_cases e : k = i
    · subst e; rw [if_pos rfl, if_pos (by omega), hr]; rfl
    · rw [if_neg e]
      by_cases g : i < k
      · rw [if_pos g, if_pos (by omega)]
      · rw [if_neg g, if_neg (by omega)]
theorem prL_len (xs : List Int) : (prL xs).length = 38 := by
  simp [prL, prUp, isD]
end Go.Proofs.Ytmmmjkmhlkkdkaa
