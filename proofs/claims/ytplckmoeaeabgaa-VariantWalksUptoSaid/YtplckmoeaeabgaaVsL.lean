/-
  The contract of SameLongs, of rows that are alike.
-/
import Derived.Test.YtplckmoeaeabgaaVrT
import Derived.Test.YtplckmoeaeabgaaMixD
namespace Go.Proofs.Ytplckmoeaeabgaa
open Go Go.ChangeShapes Go.WideShapes Go.ChangeAt Go.RowKit

def ul (xs : List Int) : List Value := xs.map fun n => .int .u64 n
theorem ul_at {w : World} {B : Nat} {a : Option Addr} {k n j : Nat} {xs : List Int} {z : Int} (h : w.ownsRow B 49 1 (.slice a n k) n (ul xs)) (hz : xs[j]? = some z) : ∃ g, a = some ⟨g, 0, none⟩ ∧ w.cell? ⟨g, j, none⟩ = some (.int .u64 z) := by
  have hj := (List.getElem?_eq_some_iff.1 hz).1
  have hl := h.1
  simp [ul] at hl
  rcases h.2 with ⟨h1, h2⟩ | ⟨g, cap, cur, h1, _⟩
  · omega
  · cases h1
    refine ⟨g, rfl, ?_⟩
    have h3 := h.cellAt j (by omega)
    rw [h3]
    simp [ul, hz]
set_option maxHeartbeats 2000000 in
set_option maxRecDepth 100000 in
theorem SameLongs_same (w : World) (B : Nat) (a a' : Option Addr) (ka kb n : Nat) (xs : List Int) (ha : w.ownsRow B 49 1 (.slice a n ka) n (ul xs)) (hb : w.ownsRow B 49 1 (.slice a' n kb) n (ul xs)) (hn2 : n ≤ 9223372036854775807) :
    Calls Try.prog 23 #[.slice a n ka, .slice a' n kb] w fun e w' => e = .returned (.bool true) ∧ Below w.heap.size w w' := by
  have hlen : xs.length = n := by have := ha.1; simp [ul] at this; exact this
  have HLEN := hid hlen
  have hka := own_cap ha
  have hkb := own_cap hb
  have HA := hid (fun j z (hz : xs[j]? = some z) => ul_at ha hz)
  have HB := hid (fun j z (hz : xs[j]? = some z) => ul_at hb hz)
  have HB0 := hid (Below.refl w.heap.size w)
  clear ha hb hlen
  go_enter Try.func23, Try.ntmps23
  go_wp2
  go_loopw [5] (fun i wr => ∃ q : Nat, q ≤ n ∧ i = .int .i64 q ∧ RowKit.Hid (Below w.heap.size w wr)) (fun i _ => n - (intOf i).toNat)
  case atStart => exact ⟨0, by omega, rfl, HB0⟩
  case round =>
    obtain ⟨q, hq, rfl, HBr⟩ := hrel
    by_cases hqn : q < n
    · have hx : xs[q]? = some (xs[q]'(by rw [HLEN.out]; exact hqn)) := List.getElem?_eq_getElem _
      generalize xs[q]'(by rw [HLEN.out]; exact hqn) = z at hx
      obtain ⟨g, rfl, hc⟩ := HA.out q z hx
      obtain ⟨g', rfl, hc'⟩ := HB.out q z hx
      have e0 : wr.cell? ⟨g, q, none⟩ = some (.int .u64 z) := (World.cell?_of_block (w := w) (w' := wr) (a := ⟨g, q, none⟩) (HBr.out.block g (World.block_lt_of_cell? w _ hc))).trans hc
      have e1 : wr.cell? ⟨g', q, none⟩ = some (.int .u64 z) := (World.cell?_of_block (w := w) (w' := wr) (a := ⟨g', q, none⟩) (HBr.out.block g' (World.block_lt_of_cell? w _ hc'))).trans hc'
      have HBd := hid (HBr.out.drew)
      have hne : (z != z) = false := by simp
      clear hx hc hc'
      go_wp2
      refine D.wp_region_mix [0, 0, 0, 1, 0, 0, 0, 1, 0] (fun W => W = wr.drew) (by kernel_rfl) (by kernel_rfl) rfl ?_
      repeat (first
        | (refine' C.wpMix_value _ rfl rfl _ _; rotate_left; (solve | (intro W; go_simp) | (intro W; go_simp; with_reducible rfl)); simp only [Act.put, List.setIfInBounds_toArray, List.set_cons_zero, List.set_cons_succ])
        | (refine' C.wpMix_read _ rfl rfl _ _; rotate_left; (solve | (rintro W rfl; go_simp) | (rintro W rfl; go_simp; with_reducible rfl)); simp only [Act.put, List.setIfInBounds_toArray, List.set_cons_zero, List.set_cons_succ]))
      refine C.wpMix_end ?_
      go_wp2
      go_roundw
      case rel => exact ⟨q + 1, by omega, by go_num, HBd⟩
      case measure => simp [intOf]; omega
    · obtain rfl : q = n := by omega
      go_wp2
      go_ret
      exact ⟨rfl, HBr.out⟩
end Go.Proofs.Ytplckmoeaeabgaa
