/-
  The plain twin's num and guid of a packet's form.
-/
import Derived.Test.YtceeipejhmnkfaaPkA
import Derived.Test.YtceeipejhmnkfaaRfR
namespace Go.Proofs.Ytceeipejhmnkfaa
open Go Go.ChangeShapes Go.WideShapes Go.ChangeAt Go.RowKit

theorem ret_u64 {a b : Int} (h : a = b) : Ending.returned (.int .u64 a) = .returned (.int .u64 b) := by rw [h]
/-- The number of the eight bytes at a place; 0: there are none. -/
def numP (b : List Int) (k : Nat) : Int := if b.length < k + 8 then 0 else valL ((b.drop k).take 8)
theorem gap8 {k : Nat} (h : k % 8 = 0) : gap k 8 = 0 := by simp [gap, h]
theorem rd_num {b : List Int} {k : Nat} (h : k % 8 = 0) : (if (rd b k 8).2.2 != 0 then 0 else (rd b k 8).1) = numP b k := by
  have hg := gap8 h
  unfold numP
  by_cases hl : b.length < k + 8
  · have := rd_short (xs := b) (a := k) (k := 8) (.inr (.inr (.inr rfl))) (by omega)
    rw [show ((8 : Nat) : Int) = 8 from rfl] at this
    rw [this, if_pos hl]; rfl
  · have := rd_yes (xs := b) (a := k) (k := 8) (.inr (.inr (.inr rfl))) (by omega) (fun j hj => by omega)
    rw [show ((8 : Nat) : Int) = 8 from rfl, hg] at this
    rw [this, if_neg hl]; rfl
theorem numP_u64 {b : List Int} (hb : Byt b) (k : Nat) : U64 (numP b k) := by
  unfold numP
  split
  · exact ⟨by decide, by decide⟩
  · have h := valL_le (hb.part k 8) 8 (by simp; omega)
    rw [show (256 : Int) ^ 8 = 18446744073709551616 by decide] at h
    exact ⟨h.1, by omega⟩
set_option maxRecDepth 100000 in
set_option maxHeartbeats 1000000 in
theorem pkNum_any (w : World) (ad : Option Addr) (cap n k : Nat) (b : List Int) (hbs : Bs w w.heap.size ad b) (hn : n = b.length) (hb : Byt b) (hl : n ≤ 140737488351232) (hk : k % 8 = 0) (ha : k ≤ 140737488351232) :
    Calls Try.prog 34 #[.slice ad n cap, .int .i64 k] w fun e w' => e = .returned (.int .u64 (numP b k)) ∧ w = w' := by
  have HR := hid (Read_far w ad cap n k b 8 hbs hn hb hl ha)
  have HN := hid (rd_num (b := b) hk)
  unfold rdV at HR
  generalize rd b k 8 = r at HR HN
  obtain ⟨r0, r1, r2⟩ := r
  by_cases h2 : r2 = 0
  · have d2 : (r2 != 0) = false := by simp [h2]
    have hz : r0 = numP b k := by have := HN.out; simpa [h2] using this
    have HZ := hid hz
    clear h2 hz HN hbs hn hb
    go_enter Try.func34, Try.ntmps34
    go_wp2_with fail
    refine HR.out.mono ?_
    rintro e w1 ⟨rfl, rfl⟩
    go_wp2_with fail
    go_ret
    exact ⟨ret_u64 HZ.out, rfl⟩
  · have d2 : (r2 != 0) = true := by simp [h2]
    have hz : 0 = numP b k := by have := HN.out; simpa [h2] using this
    have HZ := hid hz
    clear h2 hz HN hbs hn hb
    go_enter Try.func34, Try.ntmps34
    go_wp2_with fail
    refine HR.out.mono ?_
    rintro e w1 ⟨rfl, rfl⟩
    go_wp2_with fail
    go_ret
    exact ⟨ret_u64 HZ.out, rfl⟩
/-- The sixteen bytes at a place, so many of them as there are. -/
def gdP (b : List Int) (k m : Nat) : List Int := (b.drop k).take m ++ List.replicate (16 - min m (b.length - k)) 0
def guidP (b : List Int) (k : Nat) : List Int := gdP b k 16
theorem gdP_len {b : List Int} {k m : Nat} (hm : m ≤ 16) : (gdP b k m).length = 16 := by
  simp [gdP]; omega
theorem gdP_set {b : List Int} {k m : Nat} (hm : m < 16) (h : k + m < b.length) : (gdP b k m).set m (b.getD (k + m) 0) = gdP b k (m + 1) := by
  unfold gdP
  have h1 : ((b.drop k).take m).length = m := by simp; omega
  have h2 : (b.drop k)[m]? = some (b.getD (k + m) 0) := by rw [List.getElem?_drop, getD_at h]
  rw [List.set_append_right _ _ (by omega), h1, Nat.sub_self, show 16 - min m (b.length - k) = (16 - min (m + 1) (b.length - k)) + 1 by omega, List.replicate_succ, List.set_cons_zero, List.take_add_one, h2]
  simp
theorem gdP_end {b : List Int} {k m : Nat} (hm : m ≤ 16) (h : b.length ≤ k + m) : gdP b k m = guidP b k := by
  unfold guidP gdP
  rw [List.take_of_length_le (by simp; omega), List.take_of_length_le (by simp; omega), show min m (b.length - k) = min 16 (b.length - k) by omega]
theorem gdP_zero {b : List Int} {k : Nat} : gdP b k 0 = g0 := by simp [gdP, g0]
theorem gdP_isG {b : List Int} (hb : Byt b) {k m : Nat} (hm : m ≤ 16) : IsG (gdP b k m) := by
  have hby : Byt (gdP b k m) := (hb.part k m).app (fun x hx => by have := (List.mem_replicate.1 hx).2; omega)
  exact IsG.of_byt hby (gdP_len hm)
end Go.Proofs.Ytceeipejhmnkfaa
