/-
  Rows of numbers of one's own, read; SameInts at two equal rows.
-/
import Derived.Test.YtidbdmggpljlcaaDoorCdD
namespace Go.Proofs.YtidbdmggpljlcaaDoor
open Go Go.ChangeShapes Go.WideShapes Go.ChangeAt Go.RowKit

/-- A row of numbers that lies from the start of a block. -/
def LiI (W : World) (a : Option Addr) (L : List Int) : Prop := ∀ j x, L[j]? = some x → ∃ g, a = some ⟨g, 0, none⟩ ∧ W.cell? ⟨g, j, none⟩ = some (.int .i64 x)
theorem LiI.below {W W' : World} {a : Option Addr} {L : List Int} (h : LiI W a L) (hB : Below W.heap.size W W') : LiI W' a L := fun j x hx => by
  obtain ⟨g, h1, h2⟩ := h j x hx
  exact ⟨g, h1, (hB.cell (World.block_lt_of_cell? W _ h2)).trans h2⟩
theorem LiI.take {W : World} {a : Option Addr} {L : List Int} (h : LiI W a L) (k : Nat) : LiI W a (L.take k) := fun j x hx => h j x (by
  rw [List.getElem?_take] at hx
  split at hx
  · exact hx
  · cases hx)
theorem EI.lies {w1 W : World} {a : Option Addr} {n c : Nat} {xs : List Int} (h : EI w1 W (.slice a n c) n xs) : LiI W a xs := fun j x hx => by
  have hj := (List.getElem?_eq_some_iff.1 hx).1
  have hn := h.2.2
  obtain ⟨g, rfl⟩ := h.form (by omega)
  refine ⟨g, rfl, ?_⟩
  rw [h.cell (by omega), List.getD_eq_getElem?_getD, hx]
  rfl
set_option maxHeartbeats 1000000 in
set_option maxRecDepth 100000 in
/-- SameInts, at two equal rows. -/
theorem SameI_any (w : World) (a b : Option Addr) (ka kb n : Nat) (L : List Int) (hn : n = L.length) (hn2 : n ≤ 100000) (ha : LiI w a L) (hb : LiI w b L) (hka : n ≤ ka) (hkb : n ≤ kb) :
    Calls Tryd.prog 16 #[.slice a n ka, .slice b n kb] w fun e w' => e = .returned (.bool true) ∧ Below w.heap.size w w' := by
  have HA := hid ha
  have HB := hid hb
  have HN := hid hn
  clear ha hb hn
  go_enter Tryd.func16, Tryd.ntmps16
  go_wp2
  go_loopw [5] (fun i wr => ∃ q : Nat, q ≤ n ∧ i = .int .i64 q ∧ RowKit.Hid (Below w.heap.size w wr)) (fun i _ => n - (intOf i).toNat)
  case atStart => exact ⟨0, by omega, rfl, hid (Below.refl _ _)⟩
  case round =>
    obtain ⟨q, hq1, rfl, HW⟩ := hrel
    by_cases hql : q < n
    · have hqx : q < L.length := by rw [← HN.out]; exact hql
      have hx : L[q]? = some L[q] := List.getElem?_eq_getElem hqx
      generalize L[q] = x at hx
      obtain ⟨g, rfl, c1⟩ := (HA.out.below HW.out) q x hx
      obtain ⟨g', rfl, c2⟩ := (HB.out.below HW.out) q x hx
      clear hx hqx
      go_upto_region 6 with (fail)
      go_quiet (fail)
      all_goals
        go_wp2
        go_roundw
        case rel => exact ⟨q + 1, by omega, by go_num, hid ⟨HW.out.os, HW.out.tape, HW.out.output, HW.out.size, HW.out.block⟩⟩
        case measure => simp [intOf]; omega
    · obtain rfl : q = n := by omega
      go_wp2
      go_ret
      exact ⟨rfl, HW.out⟩
end Go.Proofs.YtidbdmggpljlcaaDoor
