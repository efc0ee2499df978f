/-
  Contracts of guid.Of, guid.Number and the plain twin of Of.
-/
import Derived.Test.YtmmmjkmhlkkdkaaGuidA
namespace Go.Proofs.Ytmmmjkmhlkkdkaa
open Go.ChangeShapes Go.WideShapes Go.ChangeAt Go.RowKit

/-- The GUID of a number, of which the last k bytes are laid. -/
def ofUp (n : Int) (k : Nat) : List Int := (List.range 16).map fun j => if 15 < j + k then n / 256 ^ (15 - j) % 256 else 0
def ofL (n : Int) : List Int := ofUp n 8
set_option maxRecDepth 100000 in
theorem ofUp_len (n : Int) (k : Nat) : (ofUp n k).length = 16 := by simp [ofUp]
set_option maxRecDepth 100000 in
theorem ofUp_step (n : Int) (k : Nat) (h : k < 16) : (ofUp n k).set (15 - k) (n / 256 ^ k % 256) = ofUp n (k + 1) := by
  apply List.ext_getElem
  · simp [ofUp]
  · intro i h1 h2
    rw [List.getElem_set]
    simp only [ofUp, List.getElem_map, List.getElem_range]
    by_cases e : 15 - k = i
    · subst e
      rw [if_pos rfl, if_pos (by omega)]
      congr 3
      omega
    · rw [if_neg e]
      simp [ofUp] at h1
      by_cases g : 15 < i + k
      · rw [if_pos g, if_pos (by omega)]
      · rw [if_neg g, if_neg (by omega)]
set_option maxRecDepth 100000 in
theorem zeros16 (n : Int) : u8s (ofUp n 0) = #[.int .u8 0, .int .u8 0, .int .u8 0, .int .u8 0, .int .u8 0, .int .u8 0, .int .u8 0, .int .u8 0, .int .u8 0, .int .u8 0, .int .u8 0, .int .u8 0, .int .u8 0, .int .u8 0, .int .u8 0, .int .u8 0] := by
  have h : ofUp n 0 = List.replicate 16 0 := by
    apply List.ext_getElem
    · simp [ofUp]
    · intro i h1 h2
      rw [List.getElem_replicate]
      simp [ofUp] at h1 ⊢
      omega
  rw [h]; rfl
set_option maxRecDepth 100000 in
theorem pow_div (n : Int) (k : Nat) : n / 256 ^ k / 256 = n / 256 ^ (k + 1) := by
  rw [Int.ediv_ediv_of_nonneg (by exact Int.le_of_lt (Int.pow_pos (by decide))), Int.pow_succ]

set_option maxRecDepth 100000 in
theorem Of_any (n : Int) (w : World) (h0 : 0 ≤ n) : Calls Try.prog 27 #[.int .u64 n] w fun e w' => e = .returned (.agg (u8s (ofL n))) ∧ Below w.heap.size w w' := by
  go_enter Try.func27, Try.ntmps27
  go_wp2
  go_loopw [0,4,5] (fun x i k wr => ∃ m : Nat, m ≤ 8 ∧ k = .int .i64 m ∧ x = .int .u64 (n / 256 ^ m) ∧ wr.heap[w.heap.size]? = some (.cells (u8s (ofUp n 0)) 51 (0,0)) ∧ wr.heap[w.heap.size+1]? = some (.cells (u8s (ofUp n m)) 51 (0,0)) ∧ Below w.heap.size w wr) (fun _ _ k _ => 8 - (intOf k).toNat)
  case atStart => exact ⟨0, by omega, rfl, by simp, by rw [zeros16]; exact heap_alloc2_old _ _ _, by rw [zeros16]; exact heap_alloc2_new _ _ _, ((Below.refl _ _).alloc (Nat.le_refl _) _).alloc (by simp) _⟩
  case round =>
    obtain ⟨m, hm, rfl, rfl, ha, hb, hB⟩ := hrel
    by_cases hlt : m < 8
    · have hc := cell_u8s hb (15 - m) (by rw [ofUp_len]; omega)
      have hf := frozen_of_row wr (w.heap.size+1) (15 - m) _ 51 hb
      have hn : 0 ≤ n / 256 ^ m := Int.ediv_nonneg h0 (Int.le_of_lt (Int.pow_pos (by decide)))
      have hd := pow_div n m
      have hst := set_u8s hb (15 - m) (n / 256 ^ m % 256)
      rw [ofUp_step n m (by omega)] at hst
      have H := hid ha
      have HS := hid hst
      have HD := hid hd
      clear hb hst hd ha
      go_wp2
      go_roundw
      case rel => exact ⟨m + 1, by omega, by go_num, by rw [HD.out], by rw [heap_setCell_other _ _ _ _ (by simp)]; exact H.out, HS.out, hB.setCell (by simp) _⟩
      case measure => simp [intOf]; omega
    · obtain rfl : m = 8 := by omega
      have hi : (Try.prog.info? 51).map (·.size) = some (u8s (ofUp n 8)).size := by rw [u8s_size, ofUp_len]; exact infoG
      have Hi := hid hi
      have HA := hid ha
      have HB := hid hb
      clear ha hb hi
      go_wp2_with (first | (refine wpList_load_row rfl 51 _ rfl (w.heap.size+1) rfl 51 (u8s (ofUp n 8)) (0,0) _ HB.out Try.underlying51 rfl Hi.out ?_) | (refine wpList_store_row rfl 51 _ _ rfl w.heap.size (u8s (ofUp n 8)) rfl rfl 51 (u8s (ofUp n 0)) HA.out Hi.out (by simp [u8s_size, ofUp_len]) (u8s_one _) ?_))
      refine bodyPost_ret (v := .agg (u8s (ofUp n 8))) (results_cell_row (P := Try.prog) rfl _ _ w.heap.size 51 _ (0,0) _ rfl (setRow_heap _ _ _ _ 51 (0,0) HA.out) Try.underlying51 rfl Hi.out) rfl ⟨rfl, below_setRow hB _ _ (Nat.le_refl _)⟩
set_option maxRecDepth 100000 in
theorem ret_u64 {a b : Int} (h : a = b) : Value.int .u64 a = .int .u64 b := by rw [h]
/-- The number of the first k bytes of a row. -/
def valUp (xs : List Int) : Nat → Int
  | 0 => 0
  | k + 1 => valUp xs k * 256 + xs.getD k 0
/-- The first eight bytes are 0, as far as there are k. -/
def Zeros (xs : List Int) (k : Nat) : Prop := ∀ j, j < k → j < 8 → xs.getD j 0 = 0
set_option maxRecDepth 100000 in
theorem Zeros.step {xs : List Int} {k : Nat} (h : Zeros xs k) (h' : k < 8 → xs.getD k 0 = 0) : Zeros xs (k + 1) := fun j h1 h2 => by
  by_cases e : j = k
  · subst e; exact h' h2
  · exact h j (by omega) h2
set_option maxRecDepth 100000 in
theorem valUp_bd {xs : List Int} (hx : IsG xs) : ∀ k, Zeros xs k → 0 ≤ valUp xs k ∧ valUp xs k < 256 ^ (k - 8)
  | 0, _ => by simp [valUp]
  | k + 1, h => by
    obtain ⟨i1, i2⟩ := valUp_bd hx k (fun j h1 h2 => h j (by omega) h2)
    have b0 := hx.lo k
    have b1 := hx.hi k
    unfold valUp
    by_cases e : k < 8
    · have z := h k (by omega) e
      rw [show k - 8 = 0 from by omega] at i2
      rw [show k + 1 - 8 = 0 from by omega, z]
      omega
    · rw [show k + 1 - 8 = (k - 8) + 1 from by omega, Int.pow_succ]
      omega
set_option maxRecDepth 100000 in
theorem pow_56 (k : Nat) (h : k < 16) : (256 : Int) ^ (k - 8) ≤ 72057594037927936 := by
  have : k - 8 ≤ 7 := by omega
  generalize k - 8 = j at *
  match j, this with
  | 0, _ => decide
  | 1, _ => decide
  | 2, _ => decide
  | 3, _ => decide
  | 4, _ => decide
  | 5, _ => decide
  | 6, _ => decide
  | 7, _ => decide
instance (xs : List Int) (k : Nat) : Decidable (Zeros xs k) := inferInstanceAs (Decidable (∀ j, j < k → j < 8 → xs.getD j 0 = 0))
/-- What Number tells. -/
def numL (xs : List Int) : Int × Bool := if Zeros xs 8 then (valUp xs 16, true) else (0, false)

end Go.Proofs.Ytmmmjkmhlkkdkaa
