/-
  A right row: what holds at each place; with more slots; without the last instruction; with one more.
-/
import Derived.Test.YtcoclaabainibaaDoorCdP
namespace Go.Proofs.YtcoclaabainibaaDoor
open Go Go.ChangeShapes Go.WideShapes Go.ChangeAt Go.RowKit

/-- All that goes on at i leaves its height. -/
theorem now_left {ls : List Ins} {s : Int} {h : List Int} {i : Nat} : ∀ (j : Nat) {now : Int}, nowP ls s h i j = some now → (∀ k, k < j → ∀ x, ls[k]? = some x → 0 ≤ leftP x s (h.getD k 0)) →
    ∀ k, k < j → ∀ x, ls[k]? = some x → goesP x k i = true → now = leftP x s (h.getD k 0)
  | 0, now, _, _, k, hk, _, _, _ => by omega
  | j + 1, now, hn, hp, k, hk, x, hx, hg => by
    rw [nowP] at hn
    cases hq : nowP ls s h i j with
    | none => rw [hq] at hn; simp at hn
    | some m =>
      rw [hq] at hn
      cases hy : ls[j]? with
      | none =>
        rw [hy] at hn
        simp only [Option.some.injEq] at hn
        subst hn
        by_cases hkj : k = j
        · subst hkj; rw [hy] at hx; cases hx
        · exact now_left j hq (fun k hk => hp k (by omega)) k (by omega) x hx hg
      | some y =>
        rw [hy] at hn
        simp only at hn
        by_cases hkj : k = j
        · subst hkj
          rw [hy] at hx
          cases hx
          rw [hg] at hn
          simp only [if_true] at hn
          split at hn
          · cases hn
          · simpa using hn.symm
        · have h1 := now_left j hq (fun k hk => hp k (by omega)) k (by omega) x hx hg
          have h2 := hp k (by omega) x hx
          cases hgy : goesP y j i
          · rw [hgy] at hn
            simp at hn
            rw [← hn]; exact h1
          · rw [hgy] at hn
            simp only [if_true] at hn
            split at hn
            · cases hn
            · rename_i hc
              simp only [Option.some.injEq] at hn
              omega
/-- Where nothing goes on there is no height. -/
theorem now_no {ls : List Ins} {s : Int} {h : List Int} {i : Nat} : ∀ (j : Nat), (∀ k, k < j → ∀ x, ls[k]? = some x → goesP x k i = false) → nowP ls s h i j = some (if i = 0 then 0 else -1)
  | 0, _ => rfl
  | j + 1, hg => by
    rw [nowP, now_no j (fun k hk => hg k (by omega))]
    cases hy : ls[j]? with
    | none => rfl
    | some y => simp [hg j (by omega) y hy]
/-- What holds at a place of a right row. -/
structure AtC (ls : List Ins) (s : Int) (h : List Int) (i : Nat) (x : Ins) : Prop where
  ok : (shapeP x s).2.2 = true
  lo : (shapeP x s).1 ≤ h.getD i 0
  z : 0 ≤ h.getD i 0
  ret : x.op = 11 → h.getD i 0 = 1
  le : leftP x s (h.getD i 0) ≤ 8
  on : x.op ≠ 11 → i + 1 < ls.length
  skip : x.op = 7 → x.a ≤ (ls.length : Int) - 2 - i
  from_ : ∀ k, k < i → ∀ y, ls[k]? = some y → goesP y k i = true → h.getD i 0 = leftP y s (h.getD k 0)
  some_ : i ≠ 0 → ∃ k, k < i ∧ ∃ y, ls[k]? = some y ∧ goesP y k i = true
  first : i = 0 → h.getD i 0 = 0
theorem now_take_h (ls : List Ins) (s : Int) (h : List Int) (i : Nat) : ∀ k, k ≤ i → nowP ls s (h.take i) i k = nowP ls s h i k
  | 0, _ => rfl
  | k + 1, hk => by
    rw [nowP, nowP, now_take_h ls s h i k (by omega)]
    have e : (h.take i).getD k 0 = h.getD k 0 := by
      rw [List.getD_eq_getElem?_getD, List.getD_eq_getElem?_getD, List.getElem?_take, if_pos (by omega)]
    rw [e]
theorem right_at {ls : List Ins} {s : Int} {h : List Int} (hr : RightC ls s h) {i : Nat} (hi : i < ls.length) {x : Ins} (hx : ls[i]? = some x) : AtC ls s h i x := by
  obtain ⟨h1, h2, h3⟩ := hr
  obtain ⟨_, hst⟩ := run_take ls.length h3 i (by omega)
  obtain ⟨he, hv⟩ := hst hi
  have hsm := (run_small ls.length h3 (Nat.le_refl _)).2
  have hgd : h.getD i 0 = (stepE ls s (h.take i) i).2 := by rw [List.getD_eq_getElem?_getD, hv]; rfl
  unfold stepE at he hgd
  rw [now_take_h ls s h i i (Nat.le_refl _), hx] at he hgd
  cases hn : nowP ls s h i i with
  | none => rw [hn] at he; simp only at he; omega
  | some now =>
    rw [hn] at he hgd
    simp only at he hgd
    subst hgd
    unfold badP at he
    split at he
    · omega
    · rename_i b1
      split at he
      · omega
      · rename_i b2
        split at he
        · omega
        · rename_i b3
          have hl := now_left i hn (fun k hk x hx => (hsm k (by omega) x hx).2.2.1)
          refine ⟨?_, by omega, by omega, fun h => by omega, by omega, fun h => ?_, fun h => by omega, hl, fun h0 => ?_, fun h0 => ?_⟩
          · cases hb : (shapeP x s).2.2
            · exact absurd (.inl hb) b1
            · rfl
          · have : ¬ ((i : Int) = ls.length - 1) := fun e => b3 (.inl ⟨h, e⟩)
            omega
          · refine Classical.byContradiction fun hno => ?_
            have := now_no (ls := ls) (s := s) (h := h) (i := i) i (fun k hk y hy => by
              cases hg : goesP y k i
              · rfl
              · exact absurd ⟨k, hk, y, hy, hg⟩ hno)
            rw [this, if_neg h0] at hn
            simp only [Option.some.injEq] at hn
            omega
          · subst h0
            rw [nowP] at hn
            simpa using hn.symm
theorem shape_more {x : Ins} {s t : Int} (h : s ≤ t) (hs : (shapeP x s).2.2 = true) : (shapeP x t).2.2 = true := by
  unfold shapeP at hs ⊢
  split
  · rename_i h1; rw [if_pos h1] at hs; exact hs
  rename_i h1; rw [if_neg h1] at hs
  split
  · rename_i h2; rw [if_pos h2] at hs; exact hs
  rename_i h2; rw [if_neg h2] at hs
  split
  · rename_i h3; rw [if_pos h3] at hs; exact hs
  rename_i h3; rw [if_neg h3] at hs
  split
  · rename_i h4; rw [if_pos h4] at hs; exact hs
  rename_i h4; rw [if_neg h4] at hs
  split
  · rename_i h5; rw [if_pos h5] at hs; exact hs
  rename_i h5; rw [if_neg h5] at hs
  split
  · rename_i h6; rw [if_pos h6] at hs; exact hs
  rename_i h6; rw [if_neg h6] at hs
  split
  · rename_i h7
    rw [if_pos h7] at hs
    simp only [Bool.and_eq_true, decide_eq_true_eq] at hs ⊢
    omega
  rename_i h7; rw [if_neg h7] at hs
  split
  · rename_i h8
    rw [if_pos h8] at hs
    simp only [Bool.and_eq_true, decide_eq_true_eq] at hs ⊢
    exact ⟨by omega, hs.2⟩
  rename_i h8; rw [if_neg h8] at hs; exact hs
theorem bad_more {n : Nat} {s t : Int} {i : Nat} {x : Ins} {now : Int} (h : s ≤ t) (hb : badP n s i x now = 0) : badP n t i x now = 0 := by
  unfold badP at hb ⊢
  split at hb
  · omega
  · rename_i b1
    split at hb
    · omega
    · rename_i b2
      split at hb
      · omega
      · rename_i b3
        have hok : (shapeP x s).2.2 = true := by
          cases hq : (shapeP x s).2.2
          · exact absurd (.inl hq) b1
          · rfl
        have hok2 := shape_more h hok
        rw [if_neg, if_neg, if_neg b3]
        · rw [← left_s x s t]; exact b2
        · rw [hok2, ← (shape_s x s t).1]
          simp
          omega
/-- With more slots it is the same. -/
theorem run_more {ls : List Ins} {s t : Int} (h : s ≤ t) : ∀ (n : Nat) {hh : List Int}, runP ls s n = (hh, none) → runP ls t n = (hh, none)
  | 0, hh, hr => hr
  | n + 1, hh, hr => by
    rw [runP] at hr
    cases hq : runP ls s n with
    | mk h0 o =>
      rw [hq] at hr
      cases o with
      | some e => simp only at hr; cases hr
      | none =>
        simp only at hr
        split at hr
        · rename_i he
          cases hr
          have hst : stepE ls t h0 n = stepE ls s h0 n := by
            unfold stepE at he ⊢
            rw [now_s ls t s]
            cases hn : nowP ls s h0 n n with
            | none => rfl
            | some now =>
              cases hx : ls[n]? with
              | none => rfl
              | some x =>
                rw [hn, hx] at he
                simp only at he ⊢
                rw [bad_more h he, he]
          rw [runP, run_more h n hq]
          simp only
          rw [hst, if_pos he]
        · cases hr
theorem right_more {ls : List Ins} {s t : Int} {h : List Int} (hst : s ≤ t) (hr : RightC ls s h) : RightC ls t h := ⟨hr.1, hr.2.1, run_more hst _ hr.2.2⟩
theorem check_right {ls : List Ins} {s : Int} {h : List Int} (hr : RightC ls s h) : checkP ls s = (mostP ls s h h.length, 0, 0) := by
  rw [checkP, height_of hr]; rfl
/-- CodeMore, plainly. -/
theorem check_more {ls : List Ins} {s t : Int} (hst : s ≤ t) (h : (checkP ls s).2.2 = 0) : (checkP ls t).2.2 = 0 ∧ (checkP ls t).1 = (checkP ls s).1 := by
  have h0 : (heightP ls s).2.2 = 0 := by
    unfold checkP at h
    split at h
    · assumption
    · exact absurd h (by assumption)
  have hr := right_of h0
  rw [check_right hr, check_right (right_more hst hr)]
  exact ⟨rfl, most_s ls t s _ _⟩
end Go.Proofs.YtcoclaabainibaaDoor
