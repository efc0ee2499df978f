/-
  What is told of a row, step by step.
-/
import Derived.Test.YtcoclaabainibaaDoorCkM
namespace Go.Proofs.YtcoclaabainibaaDoor
open Go Go.ChangeShapes Go.WideShapes Go.ChangeAt Go.RowKit

theorem getD_app {h : List Int} {v : Int} {k : Nat} (hk : k < h.length) : (h ++ [v]).getD k 0 = h.getD k 0 := by
  rw [List.getD_eq_getElem?_getD, List.getD_eq_getElem?_getD, List.getElem?_append_left hk]
theorem getD_end (h : List Int) (v : Int) : (h ++ [v]).getD h.length 0 = v := by
  rw [List.getD_eq_getElem?_getD, List.getElem?_append_right (Nat.le_refl _), Nat.sub_self]; rfl
theorem mask_app {ls : List Ins} {s : Int} {h : List Int} {v : Int} {j : Nat} : ∀ {k : Nat}, k ≤ h.length → maskP ls s (h ++ [v]) j k = maskP ls s h j k
  | 0, _ => rfl
  | k + 1, hk => by
    rw [maskP, maskP, mask_app (by omega), getD_app (by omega)]
/-- Where x goes on. -/
def nextK (i : Nat) (x : Ins) : List Nat := if x.op = 11 then [] else if x.op = 7 then [i + 1, i + 1 + x.a.toNat] else [i + 1]
theorem next_k (i : Nat) (x : Ins) (ha : x.op = 7 → 1 ≤ x.a) : nextP i x = (nextK i x).map Int.ofNat := by
  unfold nextP nextK
  split
  · rfl
  · split
    · rename_i h7
      have := ha h7
      simp
      omega
    · simp
def updM (b : Nat) (f : Nat → Nat) (t : Nat) : Nat → Nat := fun j => if j = t then f j ||| 2 ^ b else f j
theorem mask_step {ls : List Ins} {s : Int} {h : List Int} {v : Int} {i : Nat} {x : Ins} (hl : h.length = i) (hx : ls[i]? = some x) (ha : x.op = 7 → 1 ≤ x.a) :
    (nextK i x).foldl (updM (leftP x s v).toNat) (fun j => maskP ls s h j i) = fun j => maskP ls s (h ++ [v]) j (i + 1) := by
  have he : ∀ j, maskP ls s (h ++ [v]) j (i + 1) = if goesP x i j then maskP ls s h j i ||| 2 ^ (leftP x s v).toNat else maskP ls s h j i := fun j => by
    rw [maskP, hx, mask_app (by omega)]
    simp only
    rw [← hl, getD_end]
  funext j
  rw [he]
  unfold nextK goesP
  by_cases h1 : x.op = 11
  · rw [if_pos h1, if_pos h1]; simp
  rw [if_neg h1, if_neg h1]
  by_cases h2 : x.op = 7
  · rw [if_pos h2]
    have := ha h2
    have d2 : (x.op == 7) = true := by simpa using h2
    rw [d2, Bool.true_and]
    simp only [List.foldl_cons, List.foldl_nil, updM]
    by_cases q1 : j = i + 1
    · subst q1
      rw [if_neg (by omega), if_pos rfl, if_pos (by simp)]
    · have d1 : (j == i + 1) = false := by simpa using q1
      rw [d1, Bool.false_or]
      by_cases q2 : j = i + 1 + x.a.toNat
      · have d3 : (x.a == (j : Int) - i - 1) = true := by simp; omega
        rw [if_pos q2, if_neg q1, d3]; simp
      · have d3 : (x.a == (j : Int) - i - 1) = false := by simp; omega
        rw [if_neg q2, if_neg q1, d3]; simp
  · rw [if_neg h2]
    have d2 : (x.op == 7) = false := by simpa using h2
    rw [d2, Bool.false_and, Bool.or_false]
    simp only [List.foldl_cons, List.foldl_nil, updM]
    by_cases q1 : j = i + 1
    · subst q1
      rw [if_pos rfl, if_pos (by simp)]
    · have d1 : (j == i + 1) = false := by simpa using q1
      rw [if_neg q1, d1]; simp
/-- A right step. -/
theorem step_right {ls : List Ins} {s : Int} {h : List Int} {i : Nat} {x : Ins} (hx : ls[i]? = some x) (h0 : (stepE ls s h i).1 = 0) : (x.op = 7 → 1 ≤ x.a ∧ x.a ≤ (ls.length : Int) - 2 - i) ∧ (x.op ≠ 11 → i + 1 < ls.length) := by
  have hi := (List.getElem?_eq_some_iff.1 hx).1
  unfold stepE at h0
  rw [hx] at h0
  cases hn : nowP ls s h i i with
  | none => rw [hn] at h0; simp at h0
  | some now =>
    rw [hn] at h0
    simp only at h0
    unfold badP at h0
    split at h0
    · omega
    · rename_i n1
      split at h0
      · omega
      · split at h0
        · omega
        · rename_i n3
          refine ⟨fun h7 => ?_, fun h11 => ?_⟩
          · have hok : (shapeP x s).2.2 ≠ false := fun e => n1 (.inl e)
            unfold shapeP at hok
            rw [if_neg (by omega), if_neg (by omega), if_neg (by omega), if_neg (by omega), if_neg (by omega), if_pos h7] at hok
            simp at hok
            refine ⟨hok.1, ?_⟩
            have := fun e => n3 (.inr ⟨h7, e⟩)
            omega
          · have := fun e => n3 (.inl ⟨h11, e⟩)
            omega
theorem next_lt {n i : Nat} {x : Ins} (h7 : x.op = 7 → 1 ≤ x.a ∧ x.a ≤ (n : Int) - 2 - i) (h1 : x.op ≠ 11 → i + 1 < n) : ∀ t ∈ nextK i x, t < n := fun t ht => by
  unfold nextK at ht
  split at ht
  · cases ht
  · rename_i h11
    have := h1 h11
    split at ht
    · rename_i hh
      have := h7 hh
      simp only [List.mem_cons, List.not_mem_nil, or_false] at ht
      rcases ht with rfl | rfl <;> omega
    · simp only [List.mem_singleton] at ht
      omega
/-- What is told: a place, its height, the one behind, why it is wrong. -/
structure Stp where
  i : Int
  h : Int
  b : Int
  e : Int
def leftA (ls : List Ins) (s : Int) (k : Nat) (v : Int) : Int := match ls[k]? with | some x => leftP x s v | none => 0
def goodL (ls : List Ins) (s : Int) (h : List Int) : List Stp := (List.range h.length).map fun (k : Nat) => ⟨(k : Int), h.getD k 0, leftA ls s k (h.getD k 0), 0⟩
theorem good_len (ls : List Ins) (s : Int) (h : List Int) : (goodL ls s h).length = h.length := by simp [goodL]
theorem good_app {ls : List Ins} {s : Int} {h : List Int} {v : Int} {x : Ins} (hx : ls[h.length]? = some x) : goodL ls s (h ++ [v]) = goodL ls s h ++ [⟨h.length, v, leftP x s v, 0⟩] := by
  unfold goodL
  rw [List.length_append, List.length_singleton, List.range_succ, List.map_append]
  congr 1
  · refine List.map_congr_left fun k hk => ?_
    rw [getD_app (by simpa using hk)]
  · simp only [List.map_cons, List.map_nil, getD_end, leftA, hx]
theorem good_e {ls : List Ins} {s : Int} {h : List Int} : ∀ x ∈ goodL ls s h, x.e = 0 := fun x hx => by
  simp only [goodL, List.mem_map] at hx
  obtain ⟨k, _, rfl⟩ := hx
  rfl
theorem good_h (ls : List Ins) (s : Int) (h : List Int) : (goodL ls s h).map Stp.h = h := by
  apply List.ext_getElem?
  intro k
  simp only [goodL, List.map_map, List.getElem?_map]
  by_cases hk : k < h.length
  · rw [List.getElem?_range hk]; simp [List.getD_eq_getElem?_getD, hk]
  · rw [List.getElem?_eq_none (by simpa using hk), List.getElem?_eq_none (by omega)]; rfl
/-- All that is told. -/
def Told (ls : List Ins) (s : Int) (ys : List Stp) : Prop :=
  ((heightP ls s).2.2 = 0 ∧ ys = goodL ls s (heightP ls s).1) ∨
  ((heightP ls s).2.2 ≠ 0 ∧ ∃ a b, ys = goodL ls s (heightP ls s).1 ++ [⟨(heightP ls s).2.1, a, b, (heightP ls s).2.2⟩])
def ToldTo (ls : List Ins) (s : Int) (pre : List Stp) : Prop := ∃ ys, Told ls s ys ∧ pre <+: ys
theorem told_done {ls : List Ins} {s : Int} {ys : List Stp} (h : Told ls s ys) (h0 : ∀ x ∈ ys, x.e = 0) : (heightP ls s).2.2 = 0 ∧ ys = goodL ls s (heightP ls s).1 := by
  rcases h with h | ⟨h1, a, b, rfl⟩
  · exact h
  · exact absurd (h0 _ (List.mem_append_right _ (List.mem_singleton_self _))) h1
theorem told_stop {ls : List Ins} {s : Int} {p : List Stp} {x : Stp} (h : ToldTo ls s (p ++ [x])) (hx : x.e ≠ 0) : (heightP ls s).2.2 ≠ 0 ∧ x.i = (heightP ls s).2.1 ∧ x.e = (heightP ls s).2.2 ∧ p = goodL ls s (heightP ls s).1 := by
  obtain ⟨ys, hy, hp⟩ := h
  rcases hy with ⟨_, rfl⟩ | ⟨h1, a, b, rfl⟩
  · exact absurd (good_e x (hp.subset (by simp))) hx
  · have hl := hp.length_le
    simp only [List.length_append, List.length_singleton] at hl
    by_cases hlt : p.length < (goodL ls s (heightP ls s).1).length
    · exfalso
      obtain ⟨t, ht⟩ := hp
      have h2 : (p ++ [x] ++ t)[p.length]? = some x := by simp
      rw [ht, List.getElem?_append_left hlt] at h2
      exact hx (good_e x (List.mem_of_getElem? h2))
    · have he := hp.eq_of_length (by simp only [List.length_append, List.length_singleton]; omega)
      obtain ⟨h3, h4⟩ := List.append_inj' he rfl
      simp only [List.cons.injEq, and_true] at h4
      exact ⟨h1, by rw [h4], by rw [h4], h3⟩
theorem told_len {ls : List Ins} {s : Int} {ys : List Stp} (h : Told ls s ys) : ys.length ≤ 33 := by
  have hh : (heightP ls s).1.length ≤ 32 := by
    unfold heightP
    split
    · simp
    · rename_i hn
      cases hr : runP ls s ls.length with
      | mk hs o =>
        have key : ∀ j hj oo, runP ls s j = (hj, oo) → hj.length ≤ j := by
          intro j
          induction j with
          | zero => intro hj oo hq; rw [runP] at hq; cases hq; exact Nat.le_refl _
          | succ j ih =>
            intro hj oo hq
            rw [runP] at hq
            cases hp : runP ls s j with
            | mk h0 o0 =>
              rw [hp] at hq
              have := ih _ _ hp
              cases o0 with
              | some e => simp only at hq; cases hq; omega
              | none =>
                simp only at hq
                split at hq <;> cases hq
                · simp; omega
                · omega
        have := key _ _ _ hr
        cases o with
        | none => simp only; omega
        | some e => obtain ⟨i, e⟩ := e; simp only; omega
  rcases h with ⟨_, rfl⟩ | ⟨_, a, b, rfl⟩
  · rw [good_len]; omega
  · rw [List.length_append, good_len, List.length_singleton]; omega
theorem told_at {ls : List Ins} {s : Int} {h : List Int} {i : Nat} {e : Int} (a b : Int) (hr : runP ls s i = (h, none)) (hi : i < ls.length) (h32 : ls.length ≤ 32) (he : e = (stepE ls s h i).1) (h0 : e ≠ 0) : Told ls s (goodL ls s h ++ [⟨(i : Int), a, b, e⟩]) := by
  subst he
  have := run_stop hr hi h32 h0
  right
  rw [this]
  exact ⟨h0, a, b, rfl⟩
theorem told_all {ls : List Ins} {s : Int} {h : List Int} (hr : runP ls s ls.length = (h, none)) (h1 : 1 ≤ ls.length) (h32 : ls.length ≤ 32) : Told ls s (goodL ls s h) := by
  left
  have : heightP ls s = (h, 0, 0) := by rw [heightP, if_neg (by omega), hr]
  rw [this]
  exact ⟨rfl, rfl⟩
theorem told_none {ls : List Ins} {s : Int} (a b : Int) (h : ls.length < 1 ∨ 32 < ls.length) : Told ls s [⟨0, a, b, 20⟩] := by
  right
  have : heightP ls s = ([], 0, 20) := by rw [heightP, if_pos (by omega)]
  rw [this]
  exact ⟨by simp, a, b, rfl⟩
theorem run_prefix {ls : List Ins} {s : Int} {h : List Int} {i : Nat} (hr : runP ls s i = (h, none)) : ∀ j, i ≤ j → h <+: (runP ls s j).1 := by
  intro j hj
  induction j with
  | zero =>
    obtain rfl : i = 0 := by omega
    rw [hr]; exact List.prefix_rfl
  | succ j ih =>
    by_cases hij : i = j + 1
    · subst hij; rw [hr]; exact List.prefix_rfl
    · have h1 := ih (by omega)
      rw [runP]
      cases hp : runP ls s j with
      | mk h0 o =>
        rw [hp] at h1
        cases o with
        | some e => exact h1
        | none =>
          simp only
          split
          · exact h1.trans (List.prefix_append _ _)
          · exact h1
theorem good_prefix {ls : List Ins} {s : Int} {h h' : List Int} (hp : h <+: h') : goodL ls s h <+: goodL ls s h' := by
  obtain ⟨t, rfl⟩ := hp
  induction t generalizing h with
  | nil => rw [List.append_nil]; exact List.prefix_rfl
  | cons v t ih =>
    have h1 := ih (h := h ++ [v])
    rw [List.append_assoc] at h1
    refine List.IsPrefix.trans ?_ h1
    refine ⟨[⟨h.length, v, leftA ls s h.length v, 0⟩], ?_⟩
    unfold goodL
    rw [List.length_append, List.length_singleton, List.range_succ, List.map_append]
    congr 1
    · refine List.map_congr_left fun k hk => ?_
      rw [getD_app (by simpa using hk)]
    · simp only [List.map_cons, List.map_nil, getD_end]
theorem told_to {ls : List Ins} {s : Int} {h : List Int} {i : Nat} (hr : runP ls s i = (h, none)) (hi : i ≤ ls.length) (h1 : 1 ≤ ls.length) (h32 : ls.length ≤ 32) : ToldTo ls s (goodL ls s h) := by
  have h2 := run_prefix hr ls.length hi
  have h3 : (heightP ls s).1 = (runP ls s ls.length).1 := by
    rw [heightP, if_neg (by omega)]
    cases runP ls s ls.length with
    | mk a o => cases o with
      | none => rfl
      | some e => rfl
  rw [← h3] at h2
  have h4 := good_prefix (ls := ls) (s := s) h2
  by_cases h0 : (heightP ls s).2.2 = 0
  · exact ⟨_, .inl ⟨h0, rfl⟩, h4⟩
  · exact ⟨_, .inr ⟨h0, 0, 0, rfl⟩, h4.trans (List.prefix_append _ _)⟩
/-- The greatest one behind. -/
def mostS (ys : List Stp) : Int := ys.foldl (fun m x => max m x.b) 0
theorem mostS_app (ys : List Stp) (x : Stp) : mostS (ys ++ [x]) = max (mostS ys) x.b := by simp [mostS]
theorem good_most {ls : List Ins} {s : Int} {h : List Int} (hl : h.length ≤ ls.length) : mostS (goodL ls s h) = mostP ls s h h.length := by
  have key : ∀ m, m ≤ h.length → mostS ((List.range m).map fun (k : Nat) => (⟨(k : Int), h.getD k 0, leftA ls s k (h.getD k 0), 0⟩ : Stp)) = mostP ls s h m := fun m => by
    induction m with
    | zero => intro _; rfl
    | succ m ih =>
      intro hm
      have hx : ls[m]? = some ls[m] := List.getElem?_eq_getElem (by omega)
      rw [List.range_succ, List.map_append, List.map_cons, List.map_nil, mostS_app, ih (by omega), mostP, hx]
      simp only [leftA, hx]
  exact key h.length (Nat.le_refl _)
end Go.Proofs.YtcoclaabainibaaDoor
