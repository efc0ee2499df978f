/-
  Heights that were met, as bits, and the plain twin's heights: what a step finds, and what it leaves.
-/
import Derived.Test.YtcoclaabainibaaDoorCkC
import Derived.Test.YtcoclaabainibaaDoorCdP
namespace Go.Proofs.YtcoclaabainibaaDoor
open Go Go.ChangeShapes Go.WideShapes Go.ChangeAt Go.RowKit

/-- The heights met at j, by what is ahead of k. -/
def maskP (ls : List Ins) (s : Int) (h : List Int) (j : Nat) : Nat → Nat
  | 0 => if j = 0 then 1 else 0
  | k + 1 => match ls[k]? with
    | some x => if goesP x k j then maskP ls s h j k ||| 2 ^ (leftP x s (h.getD k 0)).toNat else maskP ls s h j k
    | none => maskP ls s h j k
theorem or_self9 : ∀ a : Fin 9, 2 ^ a.val ||| 2 ^ a.val = 2 ^ a.val := by decide +kernel
theorem or_two : ∀ a b : Fin 9, a ≠ b → 2 ≤ Lib.onesCount (2 ^ a.val ||| 2 ^ b.val) := by decide +kernel
theorem or_more : ∀ k : Fin 9, ∀ m : Fin 512, 2 ≤ Lib.onesCount m.val → 2 ≤ Lib.onesCount (m.val ||| 2 ^ k.val) := by decide +kernel
theorem pow_lt9 : ∀ a : Fin 9, 2 ^ a.val < 512 ∧ Lib.onesCount (2 ^ a.val) = 1 ∧ Nat.log2 (2 ^ a.val) = a.val := by decide +kernel
/-- What a mask says of the one height. -/
def MN (m : Nat) : Option Int → Prop
  | some now => (now = -1 ∧ m = 0) ∨ (0 ≤ now ∧ now ≤ 8 ∧ m = 2 ^ now.toNat)
  | none => 2 ≤ Lib.onesCount m
def nextN (l : Int) : Option Int → Option Int
  | none => none
  | some now => if 0 ≤ now ∧ now ≠ l then none else some l
def onlyN : Option Int → Int × Bool
  | none => (0, false)
  | some now => if 0 ≤ now then (now, true) else (0, false)
theorem MN.or {m : Nat} {o : Option Int} {l : Int} (hm : m < 512) (h : MN m o) (h0 : 0 ≤ l) (h8 : l ≤ 8) :
    m ||| 2 ^ l.toNat < 512 ∧ MN (m ||| 2 ^ l.toNat) (nextN l o) := by
  have hl : l.toNat < 9 := by omega
  refine ⟨or_lt ⟨l.toNat, hl⟩ ⟨m, hm⟩, ?_⟩
  cases o with
  | none => exact or_more ⟨l.toNat, hl⟩ ⟨m, hm⟩ h
  | some now =>
    rcases h with ⟨rfl, rfl⟩ | ⟨h1, h2, rfl⟩
    · rw [nextN, if_neg (by omega)]
      exact .inr ⟨h0, h8, by simp⟩
    · rw [nextN]
      by_cases he : now = l
      · subst he
        rw [if_neg (by omega)]
        exact .inr ⟨h0, h8, or_self9 ⟨now.toNat, hl⟩⟩
      · rw [if_pos ⟨h1, he⟩]
        exact or_two ⟨now.toNat, by omega⟩ ⟨l.toNat, hl⟩ (fun e => he (by have := congrArg Fin.val e; simp only at this; omega))
theorem mask_now {ls : List Ins} {s : Int} {h : List Int} {i : Nat} (hr : runP ls s i = (h, none)) (hi : i ≤ ls.length) (j : Nat) : ∀ k, k ≤ i → maskP ls s h j k < 512 ∧ MN (maskP ls s h j k) (nowP ls s h j k)
  | 0, _ => by
    rw [maskP, nowP]
    by_cases hj : j = 0
    · rw [if_pos hj, if_pos hj]; exact ⟨by decide, .inr ⟨by decide, by decide, by decide⟩⟩
    · rw [if_neg hj, if_neg hj]; exact ⟨by decide, .inl ⟨rfl, rfl⟩⟩
  | k + 1, hk => by
    obtain ⟨h1, h2⟩ := mask_now hr hi j k (by omega)
    have hx : ls[k]? = some ls[k] := List.getElem?_eq_getElem (by omega)
    obtain ⟨_, _, l0, l8⟩ := (run_small i hr hi).2 k (by omega) _ hx
    by_cases hg : goesP ls[k] k j = true
    · have hm : maskP ls s h j (k + 1) = maskP ls s h j k ||| 2 ^ (leftP ls[k] s (h.getD k 0)).toNat := by
        rw [maskP, hx]; simp only; rw [if_pos hg]
      have e : nowP ls s h j (k + 1) = nextN (leftP ls[k] s (h.getD k 0)) (nowP ls s h j k) := by
        cases hn : nowP ls s h j k with
        | none => rw [nowP, hn]; rfl
        | some now =>
          rw [nextN]
          by_cases hc : 0 ≤ now ∧ now ≠ leftP ls[k] s (h.getD k 0)
          · rw [if_pos hc]; exact now_conf hn hx hg hc
          · rw [if_neg hc]; exact now_take hn hx hg hc
      rw [hm, e]
      exact h2.or h1 l0 l8
    · have hm : maskP ls s h j (k + 1) = maskP ls s h j k := by
        rw [maskP, hx]; simp only; rw [if_neg hg]
      have e : nowP ls s h j (k + 1) = nowP ls s h j k := by
        cases hn : nowP ls s h j k with
        | none => rw [nowP, hn]
        | some now => exact now_skip hn hx (by simpa using hg)
      rw [hm, e]
      exact ⟨h1, h2⟩
theorem only_now {m : Nat} {o : Option Int} (hm : MN m o) : onlyP m = onlyN o := by
  cases o with
  | none =>
    unfold onlyP
    have : 2 ≤ Lib.onesCount m := hm
    rw [if_neg (by omega)]
    rfl
  | some now =>
    rcases hm with ⟨rfl, rfl⟩ | ⟨h1, h2, rfl⟩
    · rw [onlyN, if_neg (by omega)]; rfl
    · rw [onlyN, if_pos h1]
      obtain ⟨_, q1, q2⟩ := pow_lt9 ⟨now.toNat, by omega⟩
      simp only at q1 q2
      unfold onlyP
      rw [if_pos q1, q2]
      simp; omega
theorem row_shape {r : Rw} (hr : r ∈ rowL) (x : Ins) (s : Int) (ho : x.op = r.op) : shapeP x s = (r.takes, r.lays, opP r.a x.a s && opP r.b x.b s) := by
  obtain ⟨op, a, b⟩ := x
  simp only at ho
  subst ho
  simp only [rowL, List.mem_cons, List.not_mem_nil, or_false] at hr
  rcases hr with rfl | rfl | rfl | rfl | rfl | rfl | rfl | rfl | rfl | rfl | rfl
  all_goals
    simp only [shapeP, opP]
    simp (config := { decide := true }) only [if_true, if_false]
  all_goals try rfl
  · rw [Bool.and_assoc]
  · have e : decide (b ≤ 7) = decide (b < 8) := by rw [decide_eq_decide]; omega
    rw [e]
theorem row_none {x : Ins} {s : Int} (h : ∀ r ∈ rowL, r.op ≠ x.op) : (shapeP x s).2.2 = false := by
  have h1 := h ⟨1, 1, 0, 0, 1⟩ (by simp [rowL])
  have h2 := h ⟨2, 0, 0, 0, 1⟩ (by simp [rowL])
  have h3 := h ⟨3, 0, 0, 0, 1⟩ (by simp [rowL])
  have h4 := h ⟨4, 0, 0, 1, 0⟩ (by simp [rowL])
  have h5 := h ⟨5, 0, 0, 2, 1⟩ (by simp [rowL])
  have h6 := h ⟨6, 0, 0, 1, 1⟩ (by simp [rowL])
  have h7 := h ⟨7, 2, 0, 1, 0⟩ (by simp [rowL])
  have h8 := h ⟨8, 3, 4, 1, 1⟩ (by simp [rowL])
  have h9 := h ⟨9, 3, 0, 0, 0⟩ (by simp [rowL])
  have h10 := h ⟨10, 3, 0, 0, 0⟩ (by simp [rowL])
  have h11 := h ⟨11, 0, 0, 1, 0⟩ (by simp [rowL])
  simp only at h1 h2 h3 h4 h5 h6 h7 h8 h9 h10 h11
  unfold shapeP
  rw [if_neg (by omega), if_neg (by omega), if_neg (by omega), if_neg (by omega), if_neg (by omega), if_neg (by omega), if_neg (by omega), if_neg (by omega)]
/-- A step finds what the plain twin finds. -/
theorem step_why {ls : List Ins} {s : Int} {h : List Int} {i : Nat} {x : Ins} {r : Rw} (hrun : runP ls s i = (h, none)) (hi : i < ls.length) (hx : ls[i]? = some x) (hr : r ∈ rowL) (ho : x.op = r.op) {m : Nat} (hm : m = maskP ls s h i i) :
    whyP r x s (onlyP m).2 (onlyP m).1 ((ls.length : Int) - i - 1) = (stepE ls s h i).1 ∧
    ((stepE ls s h i).1 = 0 → (onlyP m).1 = (stepE ls s h i).2 ∧ (onlyP m).1 - r.takes + r.lays = leftP x s (stepE ls s h i).2) := by
  subst hm
  have hmn := only_now (mask_now hrun (by omega) i i (Nat.le_refl _)).2
  have hsh := row_shape hr x s ho
  have hl : ∀ v, leftP x s v = v - r.takes + r.lays := fun v => by unfold leftP; rw [hsh]
  have hbool : ((opP r.a x.a s && opP r.b x.b s) = false) ↔ (opP r.a x.a s = false ∨ opP r.b x.b s = false) := by cases opP r.a x.a s <;> cases opP r.b x.b s <;> decide
  unfold stepE
  rw [hx]
  cases hn : nowP ls s h i i with
  | none =>
    rw [hn, onlyN] at hmn
    rw [hmn]
    simp only
    refine ⟨?_, fun h => by omega⟩
    unfold whyP
    split
    · rfl
    · rw [if_pos (.inl rfl)]
  | some now =>
    rw [hn, onlyN] at hmn
    simp only
    unfold badP
    rw [hsh, hl]
    simp only
    by_cases h0 : 0 ≤ now
    · rw [if_pos h0] at hmn
      rw [hmn]
      simp only
      refine ⟨?_, fun _ => by first | trivial | exact ⟨rfl, by rw [hl]⟩⟩
      unfold whyP
      by_cases q1 : opP r.a x.a s = false ∨ opP r.b x.b s = false
      · rw [if_pos q1, if_pos (.inl (hbool.2 q1))]
      · rw [if_neg q1]
        by_cases q2 : now < r.takes ∨ (x.op = 11 ∧ now ≠ 1)
        · rw [if_pos (.inr q2), if_pos (by rcases q2 with q | q; exact .inr (.inr (.inl q)); exact .inr (.inr (.inr q)))]
        · have n1 : ¬ (true = false ∨ now < r.takes ∨ (x.op = 11 ∧ now ≠ 1)) := by simp only [Bool.true_eq_false, false_or]; exact q2
          have n2 : ¬ ((opP r.a x.a s && opP r.b x.b s) = false ∨ now < 0 ∨ now < r.takes ∨ (x.op = 11 ∧ now ≠ 1)) := by
            rintro (e | e | e)
            · exact q1 (hbool.1 e)
            · omega
            · exact q2 e
          rw [if_neg n1, if_neg n2]
          by_cases q3 : 8 < now - r.takes + r.lays
          · rw [if_pos q3, if_pos q3]
          · rw [if_neg q3, if_neg q3]
            unfold passP
            have ha1 : x.op = 7 → 1 ≤ x.a := fun h7 => by
              have : r = ⟨7, 2, 0, 1, 0⟩ := by
                simp only [rowL, List.mem_cons, List.not_mem_nil, or_false] at hr
                rcases hr with rfl | rfl | rfl | rfl | rfl | rfl | rfl | rfl | rfl | rfl | rfl <;> simp_all
              subst this
              simp only [opP] at q1
              simp at q1
              exact q1.1
            by_cases q4 : x.op = 7
            · have := ha1 q4
              rw [if_pos q4]
              by_cases q5 : (ls.length : Int) - i - 1 ≤ x.a
              · rw [if_pos ⟨by omega, q5⟩, if_pos (.inr ⟨q4, by omega⟩)]
              · rw [if_neg (fun e => q5 e.2), if_neg (by rintro (e | e) <;> omega)]
            · rw [if_neg q4]
              by_cases q5 : x.op ≠ 11 ∧ (i : Int) = (ls.length : Int) - 1
              · rw [if_pos ⟨q5.1, by omega⟩, if_pos (.inl q5)]
              · rw [if_neg (fun e => q5 ⟨e.1, by omega⟩), if_neg (by rintro (e | e); exact q5 e; exact q4 e.1)]
    · rw [if_neg h0] at hmn
      rw [hmn]
      simp only
      rw [if_pos (.inr (.inl (by omega)))]
      refine ⟨?_, fun h => by omega⟩
      unfold whyP
      split
      · rfl
      · rw [if_pos (.inl rfl)]
/-- An Op without a row. -/
theorem step_none {ls : List Ins} {s : Int} {h : List Int} {i : Nat} {x : Ins} (hx : ls[i]? = some x) (hr : ∀ r ∈ rowL, r.op ≠ x.op) : (stepE ls s h i).1 = 5 := by
  unfold stepE
  rw [hx]
  cases hn : nowP ls s h i i with
  | none => rfl
  | some now =>
    simp only
    unfold badP
    rw [if_pos (.inl (row_none hr))]
end Go.Proofs.YtcoclaabainibaaDoor
