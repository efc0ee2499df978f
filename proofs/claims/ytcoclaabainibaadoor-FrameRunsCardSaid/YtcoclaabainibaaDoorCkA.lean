/-
  Heights as bits: how many, which one; with one more; what an operand may be; what is passed over.
-/
import Derived.Test.YtcoclaabainibaaDoorCdB
import Derived.Lib.BitFns
namespace Go.Proofs.YtcoclaabainibaaDoor
open Go Go.ChangeShapes Go.WideShapes Go.ChangeAt Go.RowKit

/-- The table of the lowest bits, as the library's text lays it. -/
def dbZ : List Int := [0, 1, 28, 2, 29, 14, 24, 3, 30, 22, 20, 15, 25, 17, 4, 8, 31, 27, 13, 23, 21, 19, 16, 7, 26, 12, 18, 6, 11, 5, 10, 9]
/-- .. in its variable. -/
def TabB (w : World) : Prop := ∀ j, j < 32 → w.cell? ⟨0, j, none⟩ = some (.int .u8 (dbZ.getD j 0))
theorem TabB.lt {w : World} (h : TabB w) : 0 < w.heap.size := World.block_lt_of_cell? w _ (h 0 (by decide))
theorem TabB.same {w w' : World} (h : TabB w) (hb : w'.heap[0]? = w.heap[0]?) : TabB w' := fun j hj =>
  (World.cell?_of_block (w := w) (w' := w') (a := ⟨0, j, none⟩) hb).trans (h j hj)
theorem TabB.on {w w' : World} (h : TabB w) (hb : Below w.heap.size w w') : TabB w' := h.same (hb.block _ h.lt)
theorem TabB.onB {w w' : World} {B : Nat} (h : TabB w) (hB : w.heap.size ≤ B) (hb : Below B w w') : TabB w' := h.same (hb.block _ (Nat.lt_of_lt_of_le h.lt hB))
theorem and255 : ∀ m : Fin 512, bits .and .u16 (m.val : Int) 255 = ((m.val % 256 : Nat) : Int) := by decide +kernel
theorem ones_sum : ∀ m : Fin 512, (Lib.pop8 ((m.val / 256 : Nat) : Int) + Lib.pop8 ((m.val % 256 : Nat) : Int)) % 256 = (Lib.onesCount m.val : Int) := by decide +kernel
set_option maxRecDepth 100000 in
theorem ones_any (m : Nat) (hm : m < 512) (w : World) : Calls Tryd.prog 39 #[.int .u16 m] w fun e w' => e = .returned (.int .i64 (Lib.onesCount m)) ∧ Below w.heap.size w w' := by
  have e1 : bits .and .u16 (m : Int) 255 = ((m % 256 : Nat) : Int) := and255 ⟨m, hm⟩
  have e2 : (m : Int) / 256 = ((m / 256 : Nat) : Int) := by omega
  have e3 := ones_sum ⟨m, hm⟩
  dsimp only at e3
  have hl1 : 0 ≤ ((m % 256 : Nat) : Int) ∧ ((m % 256 : Nat) : Int) ≤ 255 := by omega
  have hl2 : 0 ≤ ((m / 256 : Nat) : Int) ∧ ((m / 256 : Nat) : Int) ≤ 255 := by omega
  obtain ⟨l1, l2⟩ := hl1
  obtain ⟨l3, l4⟩ := hl2
  have E3 := hid e3
  clear e3
  go_enter Tryd.func39, Tryd.ntmps39
  go_wp2
  simp only [List.append, Lib.fold_pop8tab]
  generalize ((m % 256 : Nat) : Int) = lo at *
  generalize ((m / 256 : Nat) : Int) = hi at *
  go_quiet (fail)
  go_wp2
  go_ret
  exact ⟨by rw [E3.out]; rfl, below_drewN (Below.refl _ _) _⟩
set_option maxRecDepth 100000 in
theorem tz_core (m k idx : Nat) (w : World) (h0 : ((m : Int) == 0) = false) (key : bits .and .u16 (m : Int) (IntKind.u16.wrap (-(m : Int))) % 4294967296 * 125613361 % 4294967296 / 134217728 = (idx : Int)) (hi : idx < 32) (hk : k < 32)
    (hc : w.cell? ⟨0, idx, none⟩ = some (.int .u8 k)) : Calls Tryd.prog 40 #[.int .u16 m] w fun e w' => e = .returned (.int .i64 k) ∧ w = w' := by
  go_enter Tryd.func40, Tryd.ntmps40
  go_wp2_with (simp only [key])
  go_ret
  exact ⟨rfl, rfl⟩
theorem low_of_one : ∀ m : Fin 512, Lib.onesCount m.val = 1 → ((((m.val : Nat) : Int) == 0) = false ∧ Nat.log2 m.val < 9 ∧
    bits .and .u16 (m.val : Int) (IntKind.u16.wrap (-(m.val : Int))) % 4294967296 * 125613361 % 4294967296 / 134217728 = (((2 ^ Nat.log2 m.val * 125613361) % 4294967296 / 134217728 : Nat) : Int) ∧
    (2 ^ Nat.log2 m.val * 125613361) % 4294967296 / 134217728 < 32 ∧ dbZ.getD ((2 ^ Nat.log2 m.val * 125613361) % 4294967296 / 134217728) 0 = (Nat.log2 m.val : Int)) := by decide +kernel
theorem tz_any (m : Nat) (hm : m < 512) (h1 : Lib.onesCount m = 1) (w : World) (hT : TabB w) : Calls Tryd.prog 40 #[.int .u16 m] w fun e w' => e = .returned (.int .i64 (Nat.log2 m)) ∧ w = w' := by
  obtain ⟨q0, q1, q2, q3, q4⟩ := low_of_one ⟨m, hm⟩ h1
  have hc := hT _ q3
  rw [q4] at hc
  exact tz_core m _ _ w q0 q2 q3 (Nat.lt_of_lt_of_le q1 (by decide)) hc
/-- The one height, and whether there is just one. -/
def onlyP (m : Nat) : Int × Bool := if Lib.onesCount m = 1 then ((Nat.log2 m : Nat), true) else (0, false)
def onlyV (m : Nat) : Value := .tuple #[.int .i64 (onlyP m).1, .bool (onlyP m).2]
set_option maxRecDepth 100000 in
theorem only_any (m : Nat) (hm : m < 512) (w : World) (hT : TabB w) : Calls Tryd.prog 36 #[.int .u16 m] w fun e w' => e = .returned (onlyV m) ∧ Below w.heap.size w w' := by
  have C1 := hid (ones_any m hm w)
  by_cases h1 : Lib.onesCount m = 1
  · have hz : onlyV m = .tuple #[.int .i64 (Nat.log2 m : Nat), .bool true] := by unfold onlyV onlyP; rw [if_pos h1]
    have C2 := hid (fun W (hB : Below w.heap.size w W) => tz_any m hm h1 W (hT.on hB))
    rw [hz]
    rw [h1] at C1
    clear hz h1
    go_enter Tryd.func36, Tryd.ntmps36
    go_wp2_with fail
    refine C1.out.mono ?_
    rintro e w2 ⟨rfl, hb2⟩
    have HB2 := hid hb2
    clear hb2 C1
    go_wp2_with fail
    refine (C2.out _ HB2.out).mono ?_
    rintro e w3 ⟨rfl, rfl⟩
    go_wp2
    go_ret2
    exact ⟨rfl, HB2.out⟩
  · have hz : onlyV m = .tuple #[.int .i64 0, .bool false] := by unfold onlyV onlyP; rw [if_neg h1]
    have d1 : (((Lib.onesCount m : Nat) : Int) != 1) = true := by simp; omega
    rw [hz]
    generalize Lib.onesCount m = k at *
    clear hz h1
    go_enter Tryd.func36, Tryd.ntmps36
    go_wp2_with fail
    refine C1.out.mono ?_
    rintro e w2 ⟨rfl, hb2⟩
    have HB2 := hid hb2
    clear hb2 C1
    go_wp2
    go_ret2
    exact ⟨rfl, HB2.out⟩
theorem or_powK : ∀ k : Fin 9, ∀ m : Fin 512, bits .or .u16 (m.val : Int) ((2 ^ k.val : Nat) : Int) = ((m.val ||| 2 ^ k.val : Nat) : Int) := by decide +kernel
theorem or_lt : ∀ k : Fin 9, ∀ m : Fin 512, m.val ||| 2 ^ k.val < 512 := by decide +kernel
set_option maxRecDepth 100000 in
theorem with_any (m k : Nat) (hm : m < 512) (hk : k < 9) (w : World) : Calls Tryd.prog 31 #[.int .u16 m, .int .i64 k] w fun e w' => e = .returned (.int .u16 (m ||| 2 ^ k : Nat)) ∧ w = w' := by
  have h1 := or_powK ⟨k, hk⟩ ⟨m, hm⟩
  dsimp only at h1
  rcases (show k = 0 ∨ k = 1 ∨ k = 2 ∨ k = 3 ∨ k = 4 ∨ k = 5 ∨ k = 6 ∨ k = 7 ∨ k = 8 by omega) with rfl | rfl | rfl | rfl | rfl | rfl | rfl | rfl | rfl
  all_goals
    have H1 := hid h1
    clear h1
    go_enter Tryd.func31, Tryd.ntmps31
    go_wp2
    go_ret
    refine ⟨?_, rfl⟩
    rw [← H1.out]
    rfl
/-- What an operand may be, by its kind. -/
def opP (k n s : Int) : Bool :=
  if k = 1 then decide (-2147483648 ≤ n) && decide (n ≤ 2147483647)
  else if k = 2 then decide (1 ≤ n)
  else if k = 3 then decide (0 ≤ n) && decide (n < s)
  else if k = 4 then decide (0 ≤ n) && decide (n < 8)
  else n == 0
set_option maxRecDepth 100000 in
theorem operand_any (k n s : Int) (w : World) (hk : k = 0 ∨ k = 1 ∨ k = 2 ∨ k = 3 ∨ k = 4) : Calls Tryd.prog 37 #[.int .i64 k, .int .i64 n, .int .i64 s] w fun e w' => e = .returned (.bool (opP k n s)) ∧ w = w' := by
  rcases hk with rfl | rfl | rfl | rfl | rfl
  · go_enter Tryd.func37, Tryd.ntmps37
    go_wp2
    go_ret
    exact ⟨ret_bool rfl, rfl⟩
  · have hz : opP 1 n s = (decide (-2147483648 ≤ n) && decide (n ≤ 2147483647)) := rfl
    rw [hz]
    clear hz
    by_cases h1 : -2147483648 ≤ n
    · have d1 : decide (-2147483648 ≤ n) = true := decide_eq_true h1
      clear h1
      go_enter Tryd.func37, Tryd.ntmps37
      go_wp2
      go_ret
      exact ⟨ret_bool (by simp [d1]), rfl⟩
    · have d1 : decide (-2147483648 ≤ n) = false := decide_eq_false h1
      clear h1
      go_enter Tryd.func37, Tryd.ntmps37
      go_wp2
      go_ret
      exact ⟨ret_bool (by simp [d1]), rfl⟩
  · go_enter Tryd.func37, Tryd.ntmps37
    go_wp2
    go_ret
    exact ⟨ret_bool rfl, rfl⟩
  · have hz : opP 3 n s = (decide (0 ≤ n) && decide (n < s)) := rfl
    rw [hz]
    clear hz
    by_cases h1 : 0 ≤ n
    · have d1 : decide (0 ≤ n) = true := decide_eq_true h1
      clear h1
      go_enter Tryd.func37, Tryd.ntmps37
      go_wp2
      go_ret
      exact ⟨ret_bool (by simp [d1]), rfl⟩
    · have d1 : decide (0 ≤ n) = false := decide_eq_false h1
      clear h1
      go_enter Tryd.func37, Tryd.ntmps37
      go_wp2
      go_ret
      exact ⟨ret_bool (by simp [d1]), rfl⟩
  · have hz : opP 4 n s = (decide (0 ≤ n) && decide (n < 8)) := rfl
    rw [hz]
    clear hz
    by_cases h1 : 0 ≤ n
    · have d1 : decide (0 ≤ n) = true := decide_eq_true h1
      clear h1
      go_enter Tryd.func37, Tryd.ntmps37
      go_wp2
      go_ret
      exact ⟨ret_bool (by simp [d1]), rfl⟩
    · have d1 : decide (0 ≤ n) = false := decide_eq_false h1
      clear h1
      go_enter Tryd.func37, Tryd.ntmps37
      go_wp2
      go_ret
      exact ⟨ret_bool (by simp [d1]), rfl⟩
/-- How many are passed over. -/
def passP (x : Ins) : Int := if x.op = 7 then x.a else 0
set_option maxRecDepth 100000 in
theorem passed_any (x : Ins) (w : World) : Calls Tryd.prog 38 #[.agg (insA x)] w fun e w' => e = .returned (.int .i64 (passP x)) ∧ Below w.heap.size w w' := by
  obtain ⟨w1, hw1⟩ : ∃ w1, w1 = w.alloc (.cells (insA x) 45) := ⟨_, rfl⟩
  have ho : InI w1 w.heap.size x := by rw [hw1]; exact heap_alloc_new _ _
  have hB : Below w.heap.size w w1 := by rw [hw1]; exact (Below.refl _ _).alloc (Nat.le_refl _) _
  have c0 := ho.c0
  have c1 := ho.c1
  have HB := hid hB
  have HW := hid hw1
  obtain ⟨op, a, b⟩ := x
  simp only at c0 c1
  clear hw1 ho hB
  by_cases h1 : op = 7
  · subst h1
    have hz : passP ⟨7, a, b⟩ = a := rfl
    rw [hz]
    clear hz
    go_enter Tryd.func38, Tryd.ntmps38
    go_upto_region 1 with (fail)
    change Code.wp _ _ _ _ (w.alloc (.cells (insA ⟨7, a, b⟩) 45))
    rw [← HW.out]
    go_wp2
    go_ret
    exact ⟨rfl, HB.out⟩
  · have hz : passP ⟨op, a, b⟩ = 0 := if_neg h1
    rw [hz]
    have d1 : (op == 7) = false := by simpa using h1
    clear hz h1
    go_enter Tryd.func38, Tryd.ntmps38
    go_upto_region 1 with (fail)
    change Code.wp _ _ _ _ (w.alloc (.cells (insA ⟨op, a, b⟩) 45))
    rw [← HW.out]
    go_wp2
    go_ret
    exact ⟨rfl, HB.out⟩
end Go.Proofs.YtcoclaabainibaaDoor
