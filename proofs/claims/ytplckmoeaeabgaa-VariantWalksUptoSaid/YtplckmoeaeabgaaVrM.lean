/-
  Values as trees, plainly: which may be, their form, how it is read; each undoes the other.
-/
import Derived.Test.YtplckmoeaeabgaaWrM
namespace Go.Proofs.Ytplckmoeaeabgaa

/-- A value: its kind, its number, its text, its parts. -/
inductive Vr where
  | mk (k n : Int) (s : List Int) (l : List Vr) : Vr
namespace Vr
def k : Vr → Int | .mk k _ _ _ => k
def n : Vr → Int | .mk _ n _ _ => n
def s : Vr → List Int | .mk _ _ s _ => s
def l : Vr → List Vr | .mk _ _ _ l => l
end Vr
def none0 : Vr := .mk 0 0 [] []
def formK (k n : Int) (s : List Int) (l : List Vr) : Bool :=
  if k = 0 then decide (n = 0) && s.isEmpty && l.isEmpty
  else if k = 1 then (decide (n = 0) || decide (n = 1)) && s.isEmpty && l.isEmpty
  else if k = 2 then (decide (-2147483648 ≤ n) && decide (n ≤ 2147483647)) && s.isEmpty && l.isEmpty
  else if k = 3 ∨ k = 5 then s.isEmpty && l.isEmpty
  else if k = 4 then decide (n = 0) && l.isEmpty
  else if k = 6 then decide (n = 0) && s.isEmpty
  else false
def formV (v : Vr) : Bool := formK v.k v.n v.s v.l
def chkL (f : Vr → Int) : List Vr → Int
  | [] => 0
  | x :: xs => if f x ≠ 0 then f x else chkL f xs
/-- May a value be, of which so many levels are left? -/
def chk : Nat → Vr → Int
  | 0, _ => 16
  | m + 1, v => if formV v = false then 5 else if 256 < v.s.length ∨ 64 < v.l.length then 20 else chkL (chk m) v.l
/-- A value's form behind bytes. -/
def encV : Nat → List Int → Vr → List Int
  | 0, out, _ => out
  | m + 1, out, v =>
    if v.k = 1 then lay (lay out v.k 1) v.n 1
    else if v.k = 2 then lay (lay out v.k 1) (v.n % 4294967296) 4
    else if v.k = 3 ∨ v.k = 5 then lay (lay out v.k 1) (v.n % 18446744073709551616) 8
    else if v.k = 4 then layT (lay out v.k 1) v.s
    else if v.k = 6 then v.l.foldl (encV m) (lay (lay out v.k 1) v.l.length 4)
    else lay out v.k 1
def numK (k n : Int) : Int := if k = 2 then (if 2147483647 < n then n - 4294967296 else n) else if k = 1 then n else (if n < 9223372036854775808 then n else n - 18446744073709551616)
def sizK (k : Int) : Int := if k = 1 then 1 else if k = 2 then 4 else 8
def rdL (f : Nat → Vr × Nat × Int) : Nat → Nat → List Vr → List Vr × Nat × Int
  | 0, j, acc => (acc, j, 0)
  | n + 1, j, acc => if (f j).2.2 ≠ 0 then ([], j, (f j).2.2) else rdL f n (f j).2.1 (acc ++ [(f j).1])
/-- A value read at a place: it, the place behind it, the error. -/
def rdVr : Nat → List Int → Nat → Vr × Nat × Int
  | 0, _, a => (none0, a, 16)
  | m + 1, b, a =>
    if (rd b a 1).2.2 ≠ 0 then (none0, a, (rd b a 1).2.2)
    else if (rd b a 1).1 = 0 then (none0, (rd b a 1).2.1, 0)
    else if (rd b a 1).1 = 1 ∨ (rd b a 1).1 = 2 ∨ (rd b a 1).1 = 3 ∨ (rd b a 1).1 = 5 then
      (if (rd b (rd b a 1).2.1 (sizK (rd b a 1).1)).2.2 ≠ 0 then (none0, a, (rd b (rd b a 1).2.1 (sizK (rd b a 1).1)).2.2)
      else if (rd b a 1).1 = 1 ∧ 1 < (rd b (rd b a 1).2.1 (sizK (rd b a 1).1)).1 then (none0, a, 5)
      else (.mk (rd b a 1).1 (numK (rd b a 1).1 (rd b (rd b a 1).2.1 (sizK (rd b a 1).1)).1) [] [], (rd b (rd b a 1).2.1 (sizK (rd b a 1).1)).2.1, 0))
    else if (rd b a 1).1 = 4 then
      (if (rdT b (rd b a 1).2.1 256).2.2 ≠ 0 then (none0, a, (rdT b (rd b a 1).2.1 256).2.2)
      else (.mk 4 0 (rdT b (rd b a 1).2.1 256).1 [], (rdT b (rd b a 1).2.1 256).2.1, 0))
    else if (rd b a 1).1 = 6 then
      (if (rd b (rd b a 1).2.1 4).2.2 ≠ 0 then (none0, a, (rd b (rd b a 1).2.1 4).2.2)
      else if 64 < (rd b (rd b a 1).2.1 4).1 then (none0, a, 20)
      else if (rdL (rdVr m b) (rd b (rd b a 1).2.1 4).1.toNat (rd b (rd b a 1).2.1 4).2.1 []).2.2 ≠ 0 then (none0, a, (rdL (rdVr m b) (rd b (rd b a 1).2.1 4).1.toNat (rd b (rd b a 1).2.1 4).2.1 []).2.2)
      else (.mk 6 0 [] (rdL (rdVr m b) (rd b (rd b a 1).2.1 4).1.toNat (rd b (rd b a 1).2.1 4).2.1 []).1, (rdL (rdVr m b) (rd b (rd b a 1).2.1 4).1.toNat (rd b (rd b a 1).2.1 4).2.1 []).2.1, 0))
    else (none0, a, 5)
/-- Numbers of 64 bits, bytes: as deep as is looked at. -/
def okV : Nat → Vr → Prop
  | 0, _ => True
  | m + 1, v => (-9223372036854775808 ≤ v.n ∧ v.n ≤ 9223372036854775807) ∧ Byt v.s ∧ ∀ x ∈ v.l, okV m x

set_option maxRecDepth 100000 in
theorem isE {α : Type} {l : List α} (h : l.isEmpty = true) : l = [] := by cases l with | nil => rfl | cons => cases h
set_option maxRecDepth 100000 in
theorem chkL_zero {f : Vr → Int} : ∀ {l : List Vr}, chkL f l = 0 ↔ ∀ x ∈ l, f x = 0
  | [] => by simp [chkL]
  | x :: xs => by
    unfold chkL
    by_cases h : f x = 0
    · rw [if_neg (by simpa using h), chkL_zero (l := xs)]; simp [h]
    · rw [if_pos h]; simp [h]
set_option maxRecDepth 100000 in
/-- What a value is that may be. -/
theorem chk_zero {m : Nat} {v : Vr} (h : chk (m + 1) v = 0) : formV v = true ∧ v.s.length ≤ 256 ∧ v.l.length ≤ 64 ∧ ∀ x ∈ v.l, chk m x = 0 := by
  unfold chk at h
  by_cases h1 : formV v = false
  · rw [if_pos h1] at h; cases h
  · rw [if_neg h1] at h
    by_cases h2 : 256 < v.s.length ∨ 64 < v.l.length
    · rw [if_pos h2] at h; cases h
    · rw [if_neg h2] at h
      exact ⟨by simpa using h1, by omega, by omega, chkL_zero.1 h⟩
set_option maxRecDepth 100000 in
theorem chk_mk {m : Nat} {v : Vr} (h1 : formV v = true) (h2 : v.s.length ≤ 256) (h3 : v.l.length ≤ 64) (h4 : ∀ x ∈ v.l, chk m x = 0) : chk (m + 1) v = 0 := by
  unfold chk
  rw [if_neg (by simp [h1]), if_neg (by omega)]
  exact chkL_zero.2 h4
set_option maxRecDepth 100000 in
theorem lay_more (xs : List Int) (n : Int) (k : Nat) : ∃ r, lay xs n k = xs ++ r := ⟨_, by unfold lay; rw [List.append_assoc]⟩
set_option maxRecDepth 100000 in
theorem layT_more (xs ys : List Int) : ∃ r, layT xs ys = xs ++ r := ⟨_, by unfold layT lay; rw [List.append_assoc, List.append_assoc]⟩
set_option maxRecDepth 100000 in
theorem more_trans {a b c : List Int} (h : ∃ r, b = a ++ r) (k : ∃ r, c = b ++ r) : ∃ r, c = a ++ r := by
  obtain ⟨r, rfl⟩ := h
  obtain ⟨q, rfl⟩ := k
  exact ⟨r ++ q, by rw [List.append_assoc]⟩
set_option maxRecDepth 100000 in
theorem fold_more {f : List Int → Vr → List Int} (h : ∀ o x, ∃ r, f o x = o ++ r) : ∀ (l : List Vr) (o : List Int), ∃ r, l.foldl f o = o ++ r
  | [], o => ⟨[], by simp⟩
  | x :: l, o => more_trans (h o x) (fold_more h l (f o x))
set_option maxRecDepth 100000 in
theorem encV_more : ∀ (m : Nat) (out : List Int) (v : Vr), ∃ r, encV m out v = out ++ r
  | 0, out, _ => ⟨[], by simp [encV]⟩
  | m + 1, out, v => by
    unfold encV
    split
    · exact more_trans (lay_more _ _ _) (lay_more _ _ _)
    · split
      · exact more_trans (lay_more _ _ _) (lay_more _ _ _)
      · split
        · exact more_trans (lay_more _ _ _) (lay_more _ _ _)
        · split
          · exact more_trans (lay_more _ _ _) (layT_more _ _)
          · split
            · exact more_trans (lay_more _ _ _) (more_trans (lay_more _ _ _) (fold_more (encV_more m) _ _))
            · exact lay_more _ _ _
end Go.Proofs.Ytplckmoeaeabgaa
