/-
  Arenas plainly: handles that were given; an arena with its things left out; what is where behind a putting, a dropping. It speaks of no program.
-/
import Derived.Test.YtmkajdfajcodjaaArM
namespace Go.Proofs.Ytmkajdfajcodjaa
open Go

theorem hand_inj2 {i j g g' : Nat} (hi : i < 4294967295) (hj : j < 4294967295) (h : hand i g = hand j g') : i = j ∧ g = g' := by
  unfold hand at h; omega
/-- A handle that was given. -/
def Past (A : Ar) (h : Int) : Prop := ∃ (i g : Nat) (s : Spot), h = hand i g ∧ A.L[i]? = some s ∧ g ≤ s.g ∧ (i ∈ A.F → g < s.g)
theorem Ok.lt {A : Ar} (h : Ok A) {i : Nat} {s : Spot} (hs : A.L[i]? = some s) : i < 65536 := by
  have := (List.getElem?_eq_some_iff.1 hs).1
  have := h.len
  have := h.m2
  omega
theorem Put.lt {A A' : Ar} {x : Int} {i g : Nat} (h : Ok A) (hp : Put A x i g A') : i < 65536 := by
  cases hp with
  | again F i s hF hs => exact h.lt hs
  | fresh hF hl => have := h.m2; omega
theorem Put.not_past {A A' : Ar} {x : Int} {i g : Nat} (h : Ok A) (hp : Put A x i g A') (hq : Past A (hand i g)) : False := by
  obtain ⟨j, g', s', e, h1, h2, h3⟩ := hq
  have hi := hp.lt h
  obtain ⟨rfl, rfl⟩ := hand_inj2 (by omega) (by have := h.lt h1; omega) e
  cases hp with
  | again F i s hF hs =>
    rw [hs] at h1; cases h1
    have := h3 (by rw [hF]; simp)
    omega
  | fresh hF hl => simp at h1
theorem Put.past {A A' : Ar} {x : Int} {i g : Nat} (h : Ok A) (hp : Put A x i g A') : Past A' (hand i g) := by
  cases hp with
  | again F i s hF hs =>
    have hnd := h.nd
    rw [hF, List.nodup_append] at hnd
    exact ⟨i, s.g, ⟨x, s.g, true⟩, rfl, List.getElem?_set_self (List.getElem?_eq_some_iff.1 hs).1, Nat.le_refl _, fun hm => absurd rfl (hnd.2.2 i hm i (by simp))⟩
  | fresh hF hl => exact ⟨A.L.length, A.first, ⟨x, A.first, true⟩, rfl, by simp, Nat.le_refl _, fun hm => by rw [hF] at hm; cases hm⟩
theorem Past.put {A A' : Ar} {x : Int} {i g : Nat} {hd : Int} (hp : Put A x i g A') (hq : Past A hd) : Past A' hd := by
  obtain ⟨j, g', s', e, h1, h2, h3⟩ := hq
  cases hp with
  | again F i s hF hs =>
    by_cases hij : i = j
    · subst hij
      rw [hs] at h1; cases h1
      exact ⟨i, g', ⟨x, s'.g, true⟩, e, List.getElem?_set_self (List.getElem?_eq_some_iff.1 hs).1, h2, fun hm => h3 (by rw [hF]; simp [hm])⟩
    · exact ⟨j, g', s', e, by rw [List.getElem?_set_ne hij]; exact h1, h2, fun hm => h3 (by rw [hF]; simp [hm])⟩
  | fresh hF hl =>
    exact ⟨j, g', s', e, by rw [List.getElem?_append_left (List.getElem?_eq_some_iff.1 h1).1]; exact h1, h2, h3⟩
theorem Past.drop {A : Ar} {i : Nat} {s : Spot} {hd : Int} (hs : A.L[i]? = some s) (ht : s.t = true) (hA : Ok A) (hq : Past A hd) : Past (dropAt A i s) hd := by
  obtain ⟨j, g', s', e, h1, h2, h3⟩ := hq
  have hlt := (List.getElem?_eq_some_iff.1 hs).1
  have hni : i ∉ A.F := fun hm => by
    obtain ⟨s2, k1, k2⟩ := hA.fr i hm
    rw [hs] at k1; cases k1; rw [ht] at k2; cases k2
  unfold dropAt
  split
  · by_cases hij : i = j
    · subst hij
      rw [hs] at h1; cases h1
      exact ⟨i, g', ⟨0, s.g + 1, false⟩, e, List.getElem?_set_self hlt, by simp; omega, fun _ => by simp; omega⟩
    · refine ⟨j, g', s', e, by rw [List.getElem?_set_ne hij]; exact h1, h2, fun hm => ?_⟩
      rcases List.mem_append.1 hm with hm | hm
      · exact h3 hm
      · simp at hm; exact absurd hm.symm hij
  · by_cases hij : i = j
    · subst hij
      rw [hs] at h1; cases h1
      exact ⟨i, g', ⟨0, s.g, false⟩, e, List.getElem?_set_self hlt, h2, fun hm => absurd hm hni⟩
    · exact ⟨j, g', s', e, by rw [List.getElem?_set_ne hij]; exact h1, h2, h3⟩

theorem hand_bd {A : Ar} (hA : Ok A) {i : Nat} {s : Spot} (hs : A.L[i]? = some s) : 1 ≤ hand i s.g ∧ hand i s.g ≤ 18446744073709551615 := by
  have h1 := (List.getElem?_eq_some_iff.1 hs).1
  have h2 := hA.gen i s hs
  have h3 := hA.len
  have h4 := hA.m2
  unfold hand
  omega
/-- An arena with its things left out. -/
def e0 (s : Spot) : Spot := { s with x := 0 }
def er (A : Ar) : Ar := { A with L := A.L.map e0 }
theorem er_at (A : Ar) (i : Nat) : (er A).L[i]? = (A.L[i]?).map e0 := by simp [er]
theorem cnt_er (L : List Spot) : cnt (L.map e0) = cnt L := by
  unfold cnt
  rw [List.filter_map, List.length_map]
  rfl
theorem er_ok {A : Ar} (h : Ok A) : Ok (er A) := by
  refine ⟨h.m1, h.m2, h.f1, h.f2, by simpa [er] using h.len, ?_, ?_, h.nd, ?_⟩
  · intro i s hs
    rw [er_at, Option.map_eq_some_iff] at hs
    obtain ⟨s0, h0, rfl⟩ := hs
    exact h.gen i s0 h0
  · intro i hi
    obtain ⟨s0, h0, h1⟩ := h.fr i hi
    exact ⟨e0 s0, by rw [er_at, h0]; rfl, h1⟩
  · have := h.fl
    simp only [er, cnt_er, List.length_map]
    exact this
theorem er_full {A : Ar} : Full (er A) ↔ Full A := by simp [Full, er]
theorem er_put {A A' : Ar} {x : Int} {i g : Nat} (h : Put A x i g A') : Put (er A) 0 i g (er A') := by
  cases h with
  | again F i s hF hs =>
    have := Put.again (A := er A) (x := 0) F i (e0 s) hF (by rw [er_at, hs]; rfl)
    simpa [er, List.map_set, e0] using this
  | fresh hF hl =>
    have := Put.fresh (A := er A) (x := 0) hF (by simpa [er] using hl)
    simpa [er, e0] using this
theorem er_drop {A : Ar} {i : Nat} {s : Spot} : er (dropAt A i s) = dropAt (er A) i (e0 s) := by
  unfold dropAt
  have : (e0 s).g = s.g := rfl
  rw [this]
  split <;> simp [er, List.map_set, e0]
theorem er_found {A : Ar} {h : Int} {i : Nat} {s : Spot} (hf : Found A h i s) : Found (er A) h i (e0 s) := ⟨by rw [er_at, hf.1]; rfl, hf.2.1, hf.2.2⟩
theorem Found.same {A : Ar} (hA : Ok A) {h : Int} {i j : Nat} {s r : Spot} (h1 : Found A h i s) (h2 : Found A h j r) : i = j ∧ s = r := by
  have h3 := hA.lt h1.1
  have h4 := hA.lt h2.1
  obtain ⟨e, _⟩ := hand_inj2 (by omega) (by omega) (h1.2.2.symm.trans h2.2.2)
  subst e
  exact ⟨rfl, Option.some.inj (h1.1.symm.trans h2.1)⟩
theorem drop_at {A : Ar} {i : Nat} {s : Spot} (hs : A.L[i]? = some s) (j : Nat) (r : Spot) (hr : r.t = true) : (dropAt A i s).L[j]? = some r ↔ (A.L[j]? = some r ∧ j ≠ i) := by
  have hlt := (List.getElem?_eq_some_iff.1 hs).1
  unfold dropAt
  split <;>
  · simp only
    rw [List.getElem?_set]
    by_cases e : i = j
    · subst e
      rw [if_pos rfl, if_pos hlt]
      simp
      intro h
      rw [← h] at hr
      cases hr
    · rw [if_neg e]
      exact ⟨fun h => ⟨h, fun k => e k.symm⟩, fun h => h.1⟩
theorem Put.at {A A' : Ar} {x : Int} {i g : Nat} (_hA : Ok A) (hp : Put A x i g A') (j : Nat) (r : Spot) (_hr : r.t = true) : A'.L[j]? = some r ↔ ((A.L[j]? = some r ∧ j ≠ i) ∨ (j = i ∧ r = ⟨x, g, true⟩)) := by
  cases hp with
  | again F i s hF hs =>
    have hlt := (List.getElem?_eq_some_iff.1 hs).1
    simp only
    rw [List.getElem?_set]
    by_cases e : i = j
    · subst e
      rw [if_pos rfl, if_pos hlt]
      simp
      exact eq_comm
    · rw [if_neg e]
      constructor
      · exact fun h => .inl ⟨h, fun k => e k.symm⟩
      · rintro (h | h)
        · exact h.1
        · exact absurd h.1.symm e
  | fresh hF hl =>
    simp only
    by_cases e : j < A.L.length
    · rw [List.getElem?_append_left e]
      constructor
      · exact fun h => .inl ⟨h, by omega⟩
      · rintro (h | h)
        · exact h.1
        · omega
    · rw [List.getElem?_append_right (by omega)]
      by_cases e2 : j = A.L.length
      · subst e2
        simp
        exact eq_comm
      · rw [List.getElem?_eq_none (by simp; omega)]
        constructor
        · intro h; cases h
        · rintro (h | h)
          · have := (List.getElem?_eq_some_iff.1 h.1).1; omega
          · exact absurd h.1 e2
theorem Put.free {A A' : Ar} {x : Int} {i g : Nat} (hA : Ok A) (hp : Put A x i g A') (s : Spot) (hs : A.L[i]? = some s) : s.t = false := by
  cases hp with
  | again F i s' hF hs' =>
    obtain ⟨s2, h2, h3⟩ := hA.fr i (by rw [hF]; simp)
    rw [hs] at h2
    cases h2
    exact h3
  | fresh hF hl => simp at hs
end Go.Proofs.Ytmkajdfajcodjaa
