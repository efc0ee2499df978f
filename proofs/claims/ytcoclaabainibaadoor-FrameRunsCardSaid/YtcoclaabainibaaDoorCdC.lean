/-
  The heights of a row, plainly; rows of numbers of the call's own.
-/
import Derived.Test.YtcoclaabainibaaDoorCdB
import Derived.OwnWalk
namespace Go.Proofs.YtcoclaabainibaaDoor
open Go Go.ChangeShapes Go.WideShapes Go.ChangeAt Go.RowKit

def leftP (x : Ins) (s h : Int) : Int := h - (shapeP x s).1 + (shapeP x s).2.1
/-- The height of i, by what is ahead of k: -1: none yet; none: two unlike ones. -/
def nowP (ls : List Ins) (s : Int) (h : List Int) (i : Nat) : Nat → Option Int
  | 0 => some (if i = 0 then 0 else -1)
  | k + 1 => match nowP ls s h i k, ls[k]? with
    | none, _ => none
    | some now, none => some now
    | some now, some x => if goesP x k i then (if 0 ≤ now ∧ now ≠ leftP x s (h.getD k 0) then none else some (leftP x s (h.getD k 0))) else some now
def badP (n : Nat) (s : Int) (i : Nat) (x : Ins) (now : Int) : Int :=
  if (shapeP x s).2.2 = false ∨ now < 0 ∨ now < (shapeP x s).1 ∨ (x.op = 11 ∧ now ≠ 1) then 5
  else if 8 < leftP x s now then 16
  else if (x.op ≠ 11 ∧ (i : Int) = n - 1) ∨ (x.op = 7 ∧ (n : Int) - 2 - i < x.a) then 5 else 0
/-- Why i is wrong (0: it isn't), and its height. -/
def stepE (ls : List Ins) (s : Int) (h : List Int) (i : Nat) : Int × Int :=
  match nowP ls s h i i, ls[i]? with
  | some now, some x => (badP ls.length s i x now, now)
  | _, _ => (5, 0)
def runP (ls : List Ins) (s : Int) : Nat → List Int × Option (Nat × Int)
  | 0 => ([], none)
  | i + 1 => match runP ls s i with
    | (h, some e) => (h, some e)
    | (h, none) => if (stepE ls s h i).1 = 0 then (h ++ [(stepE ls s h i).2], none) else (h, some (i, (stepE ls s h i).1))
def heightP (ls : List Ins) (s : Int) : List Int × Int × Int :=
  if ls.length = 0 ∨ 32 < ls.length then ([], 0, 20)
  else match runP ls s ls.length with
    | (h, none) => (h, 0, 0)
    | (h, some (i, e)) => (h, (i : Int), e)
theorem run_stays {ls : List Ins} {s : Int} {i : Nat} {h : List Int} {e : Nat × Int} (hi : runP ls s i = (h, some e)) : ∀ j, i ≤ j → runP ls s j = (h, some e) := by
  intro j hj
  induction j with
  | zero => obtain rfl : i = 0 := by omega
            exact hi
  | succ j ih =>
    by_cases hij : i = j + 1
    · subst hij; exact hi
    · rw [runP, ih (by omega)]
theorem run_stop {ls : List Ins} {s : Int} {i : Nat} {h : List Int} (hr : runP ls s i = (h, none)) (hi : i < ls.length) (h32 : ls.length ≤ 32) (he : (stepE ls s h i).1 ≠ 0) : heightP ls s = (h, (i : Int), (stepE ls s h i).1) := by
  have h1 : runP ls s (i + 1) = (h, some (i, (stepE ls s h i).1)) := by rw [runP, hr]; simp only; rw [if_neg he]
  rw [heightP, if_neg (by omega), run_stays h1 ls.length (by omega)]
theorem run_go {ls : List Ins} {s : Int} {i : Nat} {h : List Int} (hr : runP ls s i = (h, none)) (he : (stepE ls s h i).1 = 0) : runP ls s (i + 1) = (h ++ [(stepE ls s h i).2], none) := by
  rw [runP, hr]; simp only; rw [if_pos he]
theorem step_conf {ls : List Ins} {s : Int} {i : Nat} {h : List Int} (hc : ∃ k, k ≤ i ∧ nowP ls s h i k = none) : stepE ls s h i = (5, 0) := by
  obtain ⟨k, hk, hn⟩ := hc
  have : ∀ j, k ≤ j → nowP ls s h i j = none := fun j hj => by
    induction j with
    | zero => obtain rfl : k = 0 := by omega
              exact hn
    | succ j ih =>
      by_cases hkj : k = j + 1
      · subst hkj; exact hn
      · rw [nowP, ih (by omega)]
  rw [stepE, this i hk]
/-- Heights so far, and what is left behind each, are small. -/
theorem run_small {ls : List Ins} {s : Int} : ∀ (i : Nat) {h : List Int}, runP ls s i = (h, none) → i ≤ ls.length → h.length = i ∧ ∀ k, k < i → ∀ x, ls[k]? = some x → 0 ≤ h.getD k 0 ∧ h.getD k 0 ≤ 10 ∧ 0 ≤ leftP x s (h.getD k 0) ∧ leftP x s (h.getD k 0) ≤ 8
  | 0, h, hr, _ => by
    rw [runP] at hr
    cases hr
    exact ⟨rfl, fun k hk => by omega⟩
  | i + 1, h, hr, hi => by
    rw [runP] at hr
    cases hq : runP ls s i with
    | mk h0 o =>
      rw [hq] at hr
      cases o with
      | some e => simp only at hr; cases hr
      | none =>
        simp only at hr
        split at hr
        · rename_i he
          cases hr
          obtain ⟨h1, h2⟩ := run_small i hq (by omega)
          refine ⟨by simp [h1], fun k hk x hx => ?_⟩
          by_cases hki : k < i
          · rw [List.getD_eq_getElem?_getD, List.getElem?_append_left (by omega), ← List.getD_eq_getElem?_getD]
            exact h2 k hki x hx
          · obtain rfl : k = i := by omega
            rw [List.getD_eq_getElem?_getD, List.getElem?_append_right (by omega), h1, Nat.sub_self]
            simp only [List.getElem?_cons_zero, Option.getD_some]
            unfold stepE at he ⊢
            rw [hx] at he ⊢
            cases hn : nowP ls s h0 k k with
            | none => rw [hn] at he; simp only at he; omega
            | some now =>
              rw [hn] at he
              simp only at he ⊢
              unfold badP at he
              have hs := shape_le x s
              split at he
              · omega
              · rename_i n1
                split at he
                · omega
                · rename_i n2
                  unfold leftP at n2 ⊢
                  omega
        · cases hr
def i64l (xs : List Int) : List Value := xs.map (Value.int .i64)
/-- A row of numbers of the call's own, since the world w1. -/
def EI (w1 W : World) (v : Value) (n : Nat) (xs : List Int) : Prop := W.ownsRow w1.heap.size 3 1 v n (i64l xs) ∧ Below w1.heap.size w1 W ∧ n = xs.length
theorem EI.on {w1 W W' : World} {v : Value} {n : Nat} {xs : List Int} (h : EI w1 W v n xs) (hB : Below W.heap.size W W') : EI w1 W' v n xs :=
  ⟨(Fr.of_below (fp := fun _ => False) hB).owns h.1 (fun _ _ h => h), h.2.1.trans (hB.mono h.2.1.size), h.2.2⟩
theorem i64l_len (xs : List Int) : (i64l xs).length = xs.length := by simp [i64l]
theorem i64l_one (xs : List Int) : ∀ u ∈ i64l xs, u.oneCell' = true := fun u hu => by
  simp only [i64l, List.mem_map] at hu
  obtain ⟨x, _, rfl⟩ := hu
  rfl
theorem EI.cell {w1 W : World} {g n c : Nat} {xs : List Int} (h : EI w1 W (.slice (some ⟨g, 0, none⟩) n c) n xs) {j : Nat} (hj : j < n) : W.cell? ⟨g, j, none⟩ = some (.int .i64 (xs.getD j 0)) := by
  have h1 := h.1.cellAt j (by omega)
  rw [h1]
  have hl := h.2.2
  simp [i64l, show j < xs.length by omega]
theorem EI.push {w1 W wa w5 : World} {v v5 : Value} {n m : Nat} {xs zs : List Int} (h : EI w1 W v n xs) (ha : Fr (fun _ => False) W wa) (hown : w5.ownsRow w1.heap.size 3 1 v5 m (i64l xs ++ i64l zs)) (hg : wa.grownBy w5 v.ownBlock) : EI w1 w5 v5 (n + zs.length) (xs ++ zs) := by
  have hm : m = n + zs.length := by
    have := hown.1
    simp only [List.length_append, i64l_len] at this
    have := h.2.2
    omega
  have hW := h.2.1
  have h1 : Below w1.heap.size w1 wa := ⟨ha.os.trans hW.os, ha.tape.trans hW.tape, ha.output.trans hW.output, Nat.le_trans hW.size ha.size, fun k hk => (ha.block k (Nat.lt_of_lt_of_le hk hW.size) (fun h => h)).trans (hW.block k hk)⟩
  refine ⟨?_, h1.grown hg h1.size (fun k hk => (h.1.lt k hk).1), by rw [List.length_append, h.2.2]⟩
  rw [← hm]
  have e : i64l (xs ++ zs) = i64l xs ++ i64l zs := by simp [i64l]
  rw [e]
  exact hown
theorem EI.form {w1 W : World} {a : Option Addr} {n c : Nat} {xs : List Int} (h : EI w1 W (.slice a n c) n xs) (hn : 0 < n) : ∃ g, a = some ⟨g, 0, none⟩ := by
  rcases h.1.2 with ⟨q1, q2⟩ | ⟨g, cap', _, q1, q2⟩
  · omega
  · cases q1; exact ⟨g, rfl⟩
theorem now_skip {ls : List Ins} {s : Int} {h : List Int} {i k : Nat} {now : Int} {x : Ins} (hn : nowP ls s h i k = some now) (hx : ls[k]? = some x) (hg : goesP x k i = false) : nowP ls s h i (k + 1) = some now := by
  rw [nowP, hn, hx]; simp [hg]
theorem now_take {ls : List Ins} {s : Int} {h : List Int} {i k : Nat} {now : Int} {x : Ins} (hn : nowP ls s h i k = some now) (hx : ls[k]? = some x) (hg : goesP x k i = true) (hc : ¬ (0 ≤ now ∧ now ≠ leftP x s (h.getD k 0))) : nowP ls s h i (k + 1) = some (leftP x s (h.getD k 0)) := by
  rw [nowP, hn, hx]; simp only [hg, if_true]; rw [if_neg hc]
theorem now_conf {ls : List Ins} {s : Int} {h : List Int} {i k : Nat} {now : Int} {x : Ins} (hn : nowP ls s h i k = some now) (hx : ls[k]? = some x) (hg : goesP x k i = true) (hc : 0 ≤ now ∧ now ≠ leftP x s (h.getD k 0)) : nowP ls s h i (k + 1) = none := by
  rw [nowP, hn, hx]; simp only [hg, if_true]; rw [if_pos hc]
set_option maxRecDepth 100000 in
theorem infoInt : (Tryd.prog.info? 3).map (fun i => (i.zero, i.size, i.bytes)) = some (some (.int .i64 0), 1, 8) := by kernel_rfl
end Go.Proofs.YtcoclaabainibaaDoor
