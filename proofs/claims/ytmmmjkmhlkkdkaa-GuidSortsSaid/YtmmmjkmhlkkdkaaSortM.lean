/-
  Plain mathematics: the order of rows of sixteen bytes is a strict weak order. (For slices.SortFunc.)
-/
import Derived.Test.YtmmmjkmhlkkdkaaGuidA
import Derived.Sort.Statements
namespace Go.Proofs.Ytmmmjkmhlkkdkaa
open Go

/-- Sixteen of a list's numbers. -/
def norm16 (x : List Int) : List Int := (List.range 16).map fun i => x.getD i 0
set_option maxRecDepth 100000 in
theorem norm16_len (x : List Int) : (norm16 x).length = 16 := by simp [norm16]
set_option maxRecDepth 100000 in
theorem norm16_id {x : List Int} (h : x.length = 16) : norm16 x = x := by
  refine List.ext_getElem (by simp [norm16, h]) fun i h1 h2 => ?_
  simp [norm16, List.getElem?_eq_getElem h2]
set_option maxRecDepth 100000 in
theorem cmpL_tri : ∀ x y : List Int, cmpL x y = -1 ∨ cmpL x y = 0 ∨ cmpL x y = 1
  | [], _ => by simp [cmpL]
  | _ :: _, [] => by simp [cmpL]
  | a :: x, b :: y => by
    rw [cmpL]; split
    · exact .inl rfl
    · split
      · exact .inr (.inr rfl)
      · exact cmpL_tri x y
set_option maxRecDepth 100000 in
theorem cmpL_self : ∀ x : List Int, cmpL x x = 0
  | [] => rfl
  | a :: x => by rw [cmpL, if_neg (by omega), if_neg (by omega)]; exact cmpL_self x
set_option maxRecDepth 100000 in
theorem cmpL_lt_trans : ∀ (x y z : List Int), x.length = y.length → y.length = z.length → cmpL x y < 0 → cmpL y z < 0 → cmpL x z < 0
  | [], _, _, _, _, h, _ => by simp [cmpL] at h
  | _ :: _, [], _, h, _, _, _ => by simp at h
  | _ :: _, _ :: _, [], _, h, _, _ => by simp at h
  | a :: x, b :: y, c :: z, e1, e2, h1, h2 => by
    have ih := cmpL_lt_trans x y z (by simpa using e1) (by simpa using e2)
    rw [cmpL] at h1 h2 ⊢
    by_cases c1 : a < b <;> by_cases c2 : b < c <;> by_cases c3 : b < a <;> by_cases c4 : c < b <;> by_cases c5 : a < c <;> by_cases c6 : c < a <;> simp [c1, c2, c3, c4, c5, c6] at h1 h2 ⊢ <;> first | omega | exact ih h1 h2
set_option maxRecDepth 100000 in
theorem cmpL_ge_trans : ∀ (x y z : List Int), x.length = y.length → y.length = z.length → ¬ cmpL x y < 0 → ¬ cmpL y z < 0 → ¬ cmpL x z < 0
  | [], [], _, _, _, _, _ => by simp [cmpL]
  | [], _ :: _, _, h, _, _, _ => by simp at h
  | _ :: _, [], _, h, _, _, _ => by simp at h
  | _ :: _, _ :: _, [], _, h, _, _ => by simp at h
  | a :: x, b :: y, c :: z, e1, e2, h1, h2 => by
    have ih := cmpL_ge_trans x y z (by simpa using e1) (by simpa using e2)
    rw [cmpL] at h1 h2 ⊢
    by_cases c1 : a < b <;> by_cases c2 : b < c <;> by_cases c3 : b < a <;> by_cases c4 : c < b <;> by_cases c5 : a < c <;> by_cases c6 : c < a <;> simp [c1, c2, c3, c4, c5, c6] at h1 h2 ih ⊢ <;> first | omega | exact ih h1 h2
set_option maxRecDepth 100000 in
/-- The order is a strict weak order. -/
theorem swo16 : Go.Sort.SWO fun x y : List Int => decide (cmpL (norm16 x) (norm16 y) < 0) where
  irrefl x := by simp [cmpL_self]
  trans x y z h1 h2 := by
    simp only [decide_eq_true_eq] at *
    exact cmpL_lt_trans _ _ _ (by simp [norm16_len]) (by simp [norm16_len]) h1 h2
  ntrans x y z h1 h2 := by
    simp only [decide_eq_false_iff_not] at *
    exact cmpL_ge_trans _ _ _ (by simp [norm16_len]) (by simp [norm16_len]) h1 h2
end Go.Proofs.Ytmmmjkmhlkkdkaa
