/-
  guid.Compare and its plain twin, with the type numbers as marks.
-/
import Derived.Test.YtpnjneifolffdaaChecked
import Derived.Test.YtpnjneifolffdaaLib
namespace Go.Proofs.Ytpnjneifolffdaa
open Go.ChangeShapes Go.WideShapes Go.ChangeAt Go.RowKit

set_option maxRecDepth 100000 in
theorem szB (w : World) : (sizeOf 5).run Try.prog w = .ok 1 w := by kernel_rfl
set_option maxRecDepth 100000 in
theorem agB (w : World) : (isAgg 5).run Try.prog w = .ok false w := by kernel_rfl
set_option maxRecDepth 100000 in
theorem infoG : (Try.prog.info? 25).map (·.size) = some 16 := by kernel_rfl

def cmpL : List Int → List Int → Int
  | x :: xs, y :: ys => if x < y then -1 else if y < x then 1 else cmpL xs ys
  | _, _ => 0
set_option maxRecDepth 100000 in
theorem cmpL_at (xs ys : List Int) (k : Nat) (h : k < xs.length) (h' : k < ys.length) : cmpL (xs.drop k) (ys.drop k) = if xs.getD k 0 < ys.getD k 0 then -1 else if ys.getD k 0 < xs.getD k 0 then 1 else cmpL (xs.drop (k+1)) (ys.drop (k+1)) := by
  rw [List.drop_eq_getElem_cons h, List.drop_eq_getElem_cons h', cmpL]
  simp [h, h']

set_option maxRecDepth 100000 in
/-- guid.Compare: which of two rows of sixteen bytes comes first. -/
theorem Compare_any (xs ys : List Int) (w : World) (hx : xs.length = 16) (hy : ys.length = 16) : Calls Try.prog 32 #[.agg (u8s xs), .agg (u8s ys)] w fun e w' => e = .returned (.int .i64 (cmpL xs ys)) ∧ Below w.heap.size w w' := by
  have hi : (Try.prog.info? 25).map (·.size) = some (u8s xs).size := by rw [u8s_size, hx]; exact infoG
  have Hx := hid hx
  have Hy := hid hy
  have Hi := hid hi
  clear hx hy hi
  go_enter Try.func32, Try.ntmps32
  go_wp2_with (refine wpList_load_row rfl 25 _ rfl w.heap.size rfl 25 (u8s xs) (0,0) _ (heap_alloc2_old _ _ _) Try.underlying25 rfl Hi.out ?_)
  go_loop [4,5,6,8] (fun r i b n => ∃ k : Nat, k ≤ 16 ∧ n = .int .i64 k ∧ RowKit.Hid (cmpL xs ys = cmpL (xs.drop k) (ys.drop k))) (fun _ _ _ n => 16 - (intOf n).toNat)
  case atStart => exact ⟨0, by omega, rfl, hid (by simp)⟩
  case round =>
    obtain ⟨k, hk, rfl, hrest⟩ := hrel
    by_cases hlt : k < 16
    · have hix := fun w => run_index_u8s (P := Try.prog) w 25 5 16 xs k Try.underlying25 szB agB Hx.out hlt
      have hc : ((w.alloc (.cells (u8s xs) 25)).alloc (.cells (u8s ys) 25)).cell? ⟨w.heap.size + 1, k, none⟩ = some (.int .u8 (ys.getD k 0)) := by
        rw [cell_of_row _ _ k _ 25 (0,0) (heap_alloc2_new _ _ _)]; exact u8s_get ys k (by rw [Hy.out]; exact hlt)
      have hat := cmpL_at xs ys k (by rw [Hx.out]; exact hlt) (by rw [Hy.out]; exact hlt)
      have HR := hid (hrest.out.trans hat)
      clear hat hrest
      generalize xs.getD k 0 = x at *
      generalize ys.getD k 0 = y at *
      go_wp2
      · go_ret
        have h1 : x < y := by assumption
        exact ⟨ret_int (by rw [HR.out, if_pos h1]), ((Below.refl _ _).alloc (Nat.le_refl _) _).alloc (by simp) _⟩
      · go_ret
        have h1 : y ≤ x := by assumption
        have h2 : y < x := by assumption
        exact ⟨ret_int (by rw [HR.out, if_neg (by omega), if_pos h2]), ((Below.refl _ _).alloc (Nat.le_refl _) _).alloc (by simp) _⟩
      · have h1 : y ≤ x := by assumption
        have h2 : x ≤ y := by assumption
        have h3 : cmpL xs ys = cmpL (xs.drop (k+1)) (ys.drop (k+1)) := by rw [HR.out, if_neg (by omega), if_neg (by omega)]
        have H3 := hid h3
        clear h3
        go_round
        case rel => exact ⟨k + 1, by omega, by go_num, H3⟩
        case measure => simp [intOf]; omega
    · have h0 : cmpL xs ys = 0 := by rw [hrest.out, List.drop_of_length_le (by rw [Hx.out]; omega)]; simp [cmpL]
      have H0 := hid h0
      clear hrest h0
      go_wp2
      go_ret
      exact ⟨ret_int (by rw [H0.out]), ((Below.refl _ _).alloc (Nat.le_refl _) _).alloc (by simp) _⟩
set_option maxRecDepth 100000 in
theorem cmpL_val : ∀ (a b : List Int), cmpL a b = -1 ∨ cmpL a b = 0 ∨ cmpL a b = 1
  | [], _ => by simp [cmpL]
  | _ :: _, [] => by simp [cmpL]
  | x :: a, y :: b => by
    have := cmpL_val a b
    unfold cmpL
    split
    · exact .inl rfl
    · split
      · exact .inr (.inr rfl)
      · exact this
set_option maxRecDepth 100000 in
theorem cmpL_neg : ∀ (a b : List Int), cmpL b a = - cmpL a b
  | [], [] => rfl
  | [], _ :: _ => by simp [cmpL]
  | _ :: _, [] => by simp [cmpL]
  | x :: a, y :: b => by
    have := cmpL_neg a b
    unfold cmpL
    by_cases h : x < y
    · rw [if_neg (by omega), if_pos h, if_pos h]; rfl
    · by_cases h2 : y < x
      · rw [if_pos h2, if_neg h, if_pos h2]
      · rw [if_neg h2, if_neg h, if_neg h, if_neg h2, this]
set_option maxRecDepth 100000 in
theorem cmpL_eq : ∀ (a b : List Int), a.length = b.length → (cmpL a b = 0 ↔ a = b)
  | [], [], _ => by simp [cmpL]
  | [], _ :: _, h => by simp at h
  | _ :: _, [], h => by simp at h
  | x :: a, y :: b, h => by
    have ih := cmpL_eq a b (by simpa using h)
    unfold cmpL
    by_cases c : x < y
    · rw [if_pos c]; simp; intro e; omega
    · by_cases c2 : y < x
      · rw [if_neg c, if_pos c2]; simp; intro e; omega
      · rw [if_neg c, if_neg c2, ih]
        obtain rfl : x = y := by omega
        simp
set_option maxRecDepth 100000 in
theorem cmpL_trans : ∀ (a b c : List Int), a.length = b.length → b.length = c.length → cmpL a b ≤ 0 → cmpL b c ≤ 0 → cmpL a c ≤ 0
  | [], _, _, _, _, _, _ => by simp [cmpL]
  | x :: a, [], _, h, _, _, _ => by simp at h
  | x :: a, y :: b, [], _, h, _, _ => by simp at h
  | x :: a, y :: b, z :: c, h1, h2, p, q => by
    have ih := cmpL_trans a b c (by simpa using h1) (by simpa using h2)
    unfold cmpL at p q ⊢
    by_cases d1 : x < y
    · by_cases d2 : y < z
      · rw [if_pos (by omega)]; omega
      · by_cases d3 : z < y
        · rw [if_neg d2, if_pos d3] at q; omega
        · rw [if_pos (by omega)]; omega
    · by_cases d2 : y < x
      · rw [if_neg d1, if_pos d2] at p; omega
      · rw [if_neg d1, if_neg d2] at p
        by_cases d3 : y < z
        · rw [if_pos (by omega)]; omega
        · by_cases d4 : z < y
          · rw [if_neg d3, if_pos d4] at q; omega
          · rw [if_neg d3, if_neg d4] at q
            rw [if_neg (by omega), if_neg (by omega)]
            exact ih p q
set_option maxRecDepth 100000 in
theorem refCompare_any (xs ys : List Int) (w : World) (hx : xs.length = 16) (hy : ys.length = 16) : Calls Try.prog 34 #[.agg (u8s xs), .agg (u8s ys)] w fun e w' => e = .returned (.int .i64 (cmpL xs ys)) ∧ Below w.heap.size w w' := by
  have Hx := hid hx
  have Hy := hid hy
  clear hx hy
  go_enter Try.func34, Try.ntmps34
  go_wp2
  go_loopw [5] (fun n wr => ∃ k : Nat, k ≤ 16 ∧ n = .int .i64 k ∧ RowKit.Hid (cmpL xs ys = cmpL (xs.drop k) (ys.drop k)) ∧ wr.heap[w.heap.size]? = some (.cells (u8s xs) 25 (0,0)) ∧ wr.heap[w.heap.size+1]? = some (.cells (u8s ys) 25 (0,0)) ∧ Below w.heap.size w wr) (fun n _ => 16 - (intOf n).toNat)
  case atStart => exact ⟨0, by omega, rfl, hid (by simp), heap_alloc2_old _ _ _, heap_alloc2_new _ _ _, ((Below.refl _ _).alloc (Nat.le_refl _) _).alloc (by simp) _⟩
  case round =>
    obtain ⟨k, hk, rfl, hrest, ha, hb, hB⟩ := hrel
    by_cases hlt : k < 16
    · have hc1 := cell_u8s ha k (by rw [Hx.out]; exact hlt)
      have hc2 := cell_u8s hb k (by rw [Hy.out]; exact hlt)
      have hat := cmpL_at xs ys k (by rw [Hx.out]; exact hlt) (by rw [Hy.out]; exact hlt)
      have HR := hid (hrest.out.trans hat)
      have HA := hid ha
      have HB := hid hb
      have HBB := hid hB
      have hlt' : (k : Int) < 16 := by omega
      clear hat hrest ha hb hB
      generalize xs.getD k 0 = x at *
      generalize ys.getD k 0 = y at *
      by_cases h1 : x < y
      · go_wp2
        go_quiet (fail)
        go_wp2
        go_ret
        exact ⟨ret_int (by rw [HR.out, if_pos h1]), below_drewN HBB.out _⟩
      · by_cases h2 : y < x
        · have d1 : decide (x < y) = false := by simpa using h1
          go_wp2
          go_quiet (fail)
          go_wp2
          go_quiet (fail)
          go_wp2
          go_ret
          exact ⟨ret_int (by rw [HR.out, if_neg (by omega), if_pos h2]), below_drewN (below_drewN HBB.out _) _⟩
        · have d1 : decide (x < y) = false := by simpa using h1
          have d2 : decide (y < x) = false := by simpa using h2
          have h3 : cmpL xs ys = cmpL (xs.drop (k+1)) (ys.drop (k+1)) := by rw [HR.out, if_neg h1, if_neg h2]
          have H3 := hid h3
          clear h3
          go_wp2
          go_quiet (fail)
          go_wp2
          go_quiet (fail)
          go_wp2
          go_roundw
          case rel => exact ⟨k + 1, by omega, by go_num, H3, HA.out, HB.out, below_drewN HBB.out _⟩
          case measure => simp [intOf]; omega
    · have h0 : cmpL xs ys = 0 := by rw [hrest.out, List.drop_of_length_le (by rw [Hx.out]; omega)]; simp [cmpL]
      have H0 := hid h0
      have HBB := hid hB
      clear hrest h0 ha hb hB
      go_wp2
      go_ret
      exact ⟨ret_int (by rw [H0.out]), HBB.out⟩
end Go.Proofs.Ytpnjneifolffdaa
