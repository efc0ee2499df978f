/-
  A right row without its last instruction, and with one more; gone through.
-/
import Derived.Test.YtcoclaabainibaaDoorCdQ
namespace Go.Proofs.YtcoclaabainibaaDoor
open Go Go.ChangeShapes Go.WideShapes Go.ChangeAt Go.RowKit

theorem goes_true {x : Ins} {k i : Nat} (h : goesP x k i = true) : x.op ≠ 11 ∧ (i = k + 1 ∨ (x.op = 7 ∧ x.a = (i : Int) - k - 1)) := by
  unfold goesP at h
  split at h
  · cases h
  · rename_i h1
    refine ⟨h1, ?_⟩
    simp only [Bool.or_eq_true, beq_iff_eq, Bool.and_eq_true] at h
    exact h
theorem goes_of {x : Ins} {k i : Nat} (h1 : x.op ≠ 11) (h : i = k + 1 ∨ (x.op = 7 ∧ x.a = (i : Int) - k - 1)) : goesP x k i = true := by
  unfold goesP
  rw [if_neg h1]
  simp only [Bool.or_eq_true, beq_iff_eq, Bool.and_eq_true]
  exact h
/-- Without the last one it isn't right. -/
theorem short_no {ls : List Ins} {s : Int} {h : List Int} (hr : RightC ls s h) : (heightP (ls.take (ls.length - 1)) s).2.2 ≠ 0 := by
  intro h0
  have hr2 := right_of h0
  have hl : (ls.take (ls.length - 1)).length = ls.length - 1 := by rw [List.length_take]; omega
  have hn : 2 ≤ ls.length := by have := hr2.1; omega
  have hx := List.getElem?_eq_getElem (l := ls) (i := ls.length - 1) (by omega)
  obtain ⟨k, hk, y, hy, hg⟩ := (right_at hr (by omega) hx).some_ (by omega)
  have hy2 : (ls.take (ls.length - 1))[k]? = some y := by rw [List.getElem?_take, if_pos hk]; exact hy
  have hA := right_at hr2 (by omega) hy2
  obtain ⟨h11, hgo⟩ := goes_true hg
  have h1 := hA.on h11
  rw [hl] at h1
  rcases hgo with e | ⟨e7, ea⟩
  · omega
  · have h2 := hA.skip e7
    rw [hl] at h2
    omega
def retI : Ins := ⟨11, 0, 0⟩
/-- With one more return it is wrong there. -/
theorem more_no {ls : List Ins} {s : Int} {h : List Int} (hr : RightC ls s h) (h32 : ls.length < 32) : heightP (ls ++ [retI]) s = (h, (ls.length : Int), 5) := by
  have hlen := run_small_len hr.2.2
  have hl2 : (ls ++ [retI]).length = ls.length + 1 := by simp
  have hget : ∀ k, k < ls.length → (ls ++ [retI])[k]? = ls[k]? := fun k hk => List.getElem?_append_left hk
  have hnow : ∀ (g : List Int) (i : Nat), i ≤ ls.length → ∀ k, k ≤ i → nowP (ls ++ [retI]) s g i k = nowP ls s g i k := by
    intro g i hi k
    induction k with
    | zero => intro _; rfl
    | succ k ih =>
      intro hk
      rw [nowP, nowP, ih (by omega), hget k (by omega)]
  have key : ∀ i, i ≤ ls.length → runP (ls ++ [retI]) s i = (h.take i, none) := by
    intro i
    induction i with
    | zero => intro _; rfl
    | succ i ih =>
      intro hi
      obtain ⟨_, hst⟩ := run_take ls.length hr.2.2 i (by omega)
      obtain ⟨he, hv⟩ := hst (by omega)
      have hx := List.getElem?_eq_getElem (l := ls) (i := i) (by omega)
      have hA := right_at hr (by omega) hx
      generalize ls[i] = x at hx hA
      have hst2 : stepE (ls ++ [retI]) s (h.take i) i = stepE ls s (h.take i) i := by
        unfold stepE at he ⊢
        rw [hx] at he
        rw [hnow (h.take i) i (by omega) i (Nat.le_refl _), hget i (by omega), hx]
        cases hn : nowP ls s (h.take i) i i with
        | none => rfl
        | some now =>
          rw [hn] at he
          simp only at he ⊢
          rw [he, hl2]
          congr 1
          unfold badP at he ⊢
          split at he
          · omega
          · rename_i b1
            rw [if_neg b1]
            split at he
            · omega
            · rename_i b2
              rw [if_neg b2]
              rw [if_neg]
              rintro (⟨q1, q2⟩ | ⟨q1, q2⟩)
              · have := hA.on q1; omega
              · have := hA.skip q1; omega
      rw [runP, ih (by omega)]
      simp only
      rw [hst2, if_pos he]
      congr 1
      rw [List.take_add_one, hv]
      rfl
  have h1 := key ls.length (Nat.le_refl _)
  have htk : h.take ls.length = h := List.take_of_length_le (by omega)
  rw [htk] at h1
  have hno := now_no (ls := ls ++ [retI]) (s := s) (h := h) (i := ls.length) ls.length (fun k hk y hy => by
    rw [hget k hk] at hy
    have hA := right_at hr hk hy
    cases hg : goesP y k ls.length
    · rfl
    · exfalso
      obtain ⟨h11, hgo⟩ := goes_true hg
      have := hA.on h11
      rcases hgo with e | ⟨e7, ea⟩
      · omega
      · have := hA.skip e7
        omega)
  have hn1 := hr.1
  rw [if_neg (by omega)] at hno
  have hst : (stepE (ls ++ [retI]) s h ls.length).1 = 5 := by
    unfold stepE
    rw [hno, List.getElem?_append_right (Nat.le_refl _), Nat.sub_self]
    show badP (ls ++ [retI]).length s ls.length retI (-1) = 5
    unfold badP
    rw [if_pos (Or.inr (Or.inl (show (-1 : Int) < 0 by decide)))]
  have := run_stop h1 (by omega) (by omega) (by rw [hst]; decide)
  rw [this, hst]
theorem more_check {ls : List Ins} {s : Int} {h : List Int} (hr : RightC ls s h) : (checkP (ls ++ [retI]) s).2.2 ≠ 0 ∧ ((checkP (ls ++ [retI]) s).2.1 = ls.length ∨ ls.length = 32) := by
  by_cases h32 : ls.length < 32
  · have := more_no hr h32
    unfold checkP
    rw [this, if_neg (show ¬ (5 : Int) = 0 by decide)]
    exact ⟨show (5 : Int) ≠ 0 by decide, .inl rfl⟩
  · have hl : ls.length = 32 := by have := hr.2.1; omega
    have : heightP (ls ++ [retI]) s = ([], 0, 20) := by rw [heightP, if_pos (by simp; omega)]
    unfold checkP
    rw [this, if_neg (show ¬ (20 : Int) = 0 by decide)]
    exact ⟨show (20 : Int) ≠ 0 by decide, .inr hl⟩
theorem short_check {ls : List Ins} {s : Int} {h : List Int} (hr : RightC ls s h) : (checkP (ls.take (ls.length - 1)) s).2.2 ≠ 0 := by
  have := short_no hr
  unfold checkP
  rw [if_neg this]
  exact this
theorem most_ge {ls : List Ins} {s : Int} {h : List Int} : ∀ (m i : Nat) {x : Ins}, i < m → ls[i]? = some x → leftP x s (h.getD i 0) ≤ mostP ls s h m
  | 0, i, x, hi, _ => by omega
  | m + 1, i, x, hi, hx => by
    rw [mostP]
    by_cases him : i = m
    · subst him
      rw [hx]
      simp only
      omega
    · have := most_ge (ls := ls) (s := s) (h := h) m i (by omega) hx
      split
      · exact this
      · omega
/-- What an instruction that may be does to a height. -/
theorem left_op {x : Ins} {s v : Int} (hok : (shapeP x s).2.2 = true) (h11 : x.op ≠ 11) : 1 ≤ x.op ∧ x.op ≤ 10 ∧ leftP x s v = v + (if x.op = 1 ∨ x.op = 2 ∨ x.op = 3 then 1 else if x.op = 4 ∨ x.op = 5 ∨ x.op = 7 then -1 else 0) := by
  unfold leftP
  unfold shapeP at hok ⊢
  repeat' split at hok
  all_goals simp_all
  all_goals first | omega | (rename_i h; rcases h with h | h <;> simp [h] <;> omega)
end Go.Proofs.YtcoclaabainibaaDoor
