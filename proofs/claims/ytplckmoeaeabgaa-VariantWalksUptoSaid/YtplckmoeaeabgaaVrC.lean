/-
  The contracts of the plain twin's form and Check (layer 6).
-/
import Derived.Test.YtplckmoeaeabgaaVrT
import Derived.Test.YtplckmoeaeabgaaEq
namespace Go.Proofs.Ytplckmoeaeabgaa
open Go Go.ChangeShapes Go.WideShapes Go.ChangeAt Go.RowKit

set_option maxRecDepth 100000 in
theorem str_none {s : List Int} (h : s = []) : (strI s).toList = [] := by subst h; rw [strI_list]; rfl
set_option maxRecDepth 100000 in
theorem str_some {s : List Int} (h : s ≠ []) : (strI s).toList.isEmpty = false := by
  cases s with
  | nil => exact absurd rfl h
  | cons x xs => rw [strI_list]; rfl
set_option maxRecDepth 100000 in
set_option maxHeartbeats 2000000 in
theorem form_any (w : World) (v : Vr) (a : Option Addr) (c : Nat) : Calls Try.prog 28 #[.agg #[.int .i64 v.k, .int .i64 v.n, .string (strI v.s), .slice a v.l.length c]] w fun e w' => e = .returned (.bool (formV v)) ∧ Below w.heap.size w w' := by
  obtain ⟨k, n, s, l⟩ := v
  simp only [Vr.k, Vr.n, Vr.s, Vr.l]
  have HF := hid (show formV (.mk k n s l) = formK k n s l from rfl)
  rw [HF.out]
  have hl : l.isEmpty = (l.length == 0) := by cases l <;> rfl
  have HL := hid hl
  obtain ⟨L, hL⟩ : ∃ L, L = l.length := ⟨_, rfl⟩
  rw [← hL] at HL ⊢
  have HS : ((strI s).toList = [] ∧ s.isEmpty = true) ∨ ((strI s).toList.isEmpty = false ∧ s.isEmpty = false) := by
    by_cases h : s = []
    · exact .inl ⟨str_none h, by rw [h]; rfl⟩
    · exact .inr ⟨str_some h, by cases s with | nil => exact absurd rfl h | cons => rfl⟩
  generalize strI s = bs at *
  clear hl hL HF
  by_cases k0 : k = 0
  · subst k0
    have HK := hid (show formK 0 n s l = (decide (n = 0) && s.isEmpty && (L == 0)) by unfold formK; rw [if_pos rfl, HL.out])
    rcases HS with ⟨hs, hse⟩ | ⟨hs, hse⟩
    all_goals
      first | rw [hse] at HK | skip
      clear hse HL
      first | (have hs2 : ¬ bs.toList = [] := by intro e; rw [e] at hs; cases hs) | skip
      have HB := hid ((Below.refl w.heap.size w).alloc (Nat.le_refl _))
      go_enter Try.func28, Try.ntmps28
      go_wp2 <;> (go_ret; exact ⟨ret_bool (by rw [HK.out]; simp_all; try first | (intros; omega) | (cases L <;> rfl)), HB.out _⟩)
  by_cases k1 : k = 1
  · subst k1
    have HK := hid (show formK 1 n s l = ((decide (n = 0) || decide (n = 1)) && s.isEmpty && (L == 0)) by unfold formK; rw [if_neg (by decide), if_pos rfl, HL.out])
    rcases HS with ⟨hs, hse⟩ | ⟨hs, hse⟩
    all_goals
      first | rw [hse] at HK | skip
      clear hse HL
      first | (have hs2 : ¬ bs.toList = [] := by intro e; rw [e] at hs; cases hs) | skip
      have HB := hid ((Below.refl w.heap.size w).alloc (Nat.le_refl _))
      go_enter Try.func28, Try.ntmps28
      go_wp2 <;> (go_ret; exact ⟨ret_bool (by rw [HK.out]; simp_all; try first | (intros; omega) | (cases L <;> rfl)), HB.out _⟩)
  by_cases k2 : k = 2
  · subst k2
    have HK := hid (show formK 2 n s l = ((decide (-2147483648 ≤ n) && decide (n ≤ 2147483647)) && s.isEmpty && (L == 0)) by unfold formK; rw [if_neg (by decide), if_neg (by decide), if_pos rfl, HL.out])
    rcases HS with ⟨hs, hse⟩ | ⟨hs, hse⟩
    all_goals
      first | rw [hse] at HK | skip
      clear hse HL
      first | (have hs2 : ¬ bs.toList = [] := by intro e; rw [e] at hs; cases hs) | skip
      have HB := hid ((Below.refl w.heap.size w).alloc (Nat.le_refl _))
      go_enter Try.func28, Try.ntmps28
      go_wp2 <;> (go_ret; exact ⟨ret_bool (by rw [HK.out]; simp_all; try first | (intros; omega) | (cases L <;> rfl)), HB.out _⟩)
  by_cases k3 : k = 3
  · subst k3
    have HK := hid (show formK 3 n s l = (s.isEmpty && (L == 0)) by unfold formK; rw [if_neg (by decide), if_neg (by decide), if_neg (by decide), if_pos (by decide), HL.out])
    rcases HS with ⟨hs, hse⟩ | ⟨hs, hse⟩
    all_goals
      first | rw [hse] at HK | skip
      clear hse HL
      first | (have hs2 : ¬ bs.toList = [] := by intro e; rw [e] at hs; cases hs) | skip
      have HB := hid ((Below.refl w.heap.size w).alloc (Nat.le_refl _))
      go_enter Try.func28, Try.ntmps28
      go_wp2 <;> (go_ret; exact ⟨ret_bool (by rw [HK.out]; simp_all; try first | (intros; omega) | (cases L <;> rfl)), HB.out _⟩)
  by_cases k5 : k = 5
  · subst k5
    have HK := hid (show formK 5 n s l = (s.isEmpty && (L == 0)) by unfold formK; rw [if_neg (by decide), if_neg (by decide), if_neg (by decide), if_pos (by decide), HL.out])
    rcases HS with ⟨hs, hse⟩ | ⟨hs, hse⟩
    all_goals
      first | rw [hse] at HK | skip
      clear hse HL
      first | (have hs2 : ¬ bs.toList = [] := by intro e; rw [e] at hs; cases hs) | skip
      have HB := hid ((Below.refl w.heap.size w).alloc (Nat.le_refl _))
      go_enter Try.func28, Try.ntmps28
      go_wp2 <;> (go_ret; exact ⟨ret_bool (by rw [HK.out]; simp_all; try first | (intros; omega) | (cases L <;> rfl)), HB.out _⟩)
  by_cases k4 : k = 4
  · subst k4
    have HK := hid (show formK 4 n s l = (decide (n = 0) && (L == 0)) by unfold formK; rw [if_neg (by decide), if_neg (by decide), if_neg (by decide), if_neg (by decide), if_pos rfl, HL.out])
    rcases HS with ⟨hs, hse⟩ | ⟨hs, hse⟩
    all_goals
      first | rw [hse] at HK | skip
      clear hse HL
      first | (have hs2 : ¬ bs.toList = [] := by intro e; rw [e] at hs; cases hs) | skip
      have HB := hid ((Below.refl w.heap.size w).alloc (Nat.le_refl _))
      go_enter Try.func28, Try.ntmps28
      go_wp2 <;> (go_ret; exact ⟨ret_bool (by rw [HK.out]; simp_all; try first | (intros; omega) | (cases L <;> rfl)), HB.out _⟩)
  by_cases k6 : k = 6
  · subst k6
    have HK := hid (show formK 6 n s l = (decide (n = 0) && s.isEmpty) by unfold formK; rw [if_neg (by decide), if_neg (by decide), if_neg (by decide), if_neg (by decide), if_neg (by decide), if_pos rfl])
    rcases HS with ⟨hs, hse⟩ | ⟨hs, hse⟩
    all_goals
      first | rw [hse] at HK | skip
      clear hse HL
      first | (have hs2 : ¬ bs.toList = [] := by intro e; rw [e] at hs; cases hs) | skip
      have HB := hid ((Below.refl w.heap.size w).alloc (Nat.le_refl _))
      go_enter Try.func28, Try.ntmps28
      go_wp2 <;> (go_ret; exact ⟨ret_bool (by rw [HK.out]; simp_all; try first | (intros; omega) | (cases L <;> rfl)), HB.out _⟩)
  have HK := hid (show formK k n s l = false by unfold formK; rw [if_neg k0, if_neg k1, if_neg k2, if_neg (by omega), if_neg k4, if_neg k6])
  have HB := hid ((Below.refl w.heap.size w).alloc (Nat.le_refl _))
  clear HS HL
  have b0 : (k == 0) = false := by simpa using k0
  have b1 : (k == 1) = false := by simpa using k1
  have b2 : (k == 2) = false := by simpa using k2
  have b3 : (k == 3) = false := by simpa using k3
  have b5 : (k == 5) = false := by simpa using k5
  have b4 : (k == 4) = false := by simpa using k4
  have b6 : (k == 6) = false := by simpa using k6
  clear k0 k1 k2 k3 k4 k5 k6
  go_enter Try.func28, Try.ntmps28
  go_wp2
  go_ret
  exact ⟨ret_bool HK.out.symm, HB.out _⟩
end Go.Proofs.Ytplckmoeaeabgaa
