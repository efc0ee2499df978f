/-
  The contracts of a reader's Left and End.
-/
import Derived.Test.YtceeipejhmnkfaaWrR
namespace Go.Proofs.Ytceeipejhmnkfaa
open Go Go.ChangeShapes Go.WideShapes Go.ChangeAt Go.RowKit

set_option maxRecDepth 100000 in
theorem Left_nil (w : World) : Calls Try.prog 77 #[.pointer none] w fun e w' => e = .returned (.int .i64 0) ∧ w = w' := by
  go_enter Try.func77, Try.ntmps77
  go_wp2
  go_ret
  exact ⟨rfl, rfl⟩
set_option maxRecDepth 100000 in
theorem Left_any (w : World) (p a : Nat) (v : Value) (xs : List Int) (h : RdW w p v a xs) (hl : xs.length ≤ 140737488351232) : Calls Try.prog 77 #[.pointer (some ⟨p, 0, none⟩)] w fun e w' => e = .returned (.int .i64 ((xs.length : Int) - a)) ∧ Below w.heap.size w w' := by
  have c0 := h.c0
  have c1 := h.c1
  have hle := h.le
  obtain ⟨oa, oc, hov⟩ := own_form h.row
  rw [hov] at c0
  generalize xs.length = n at *
  clear h hov
  go_enter Try.func77, Try.ntmps77
  go_wp2
  go_region
  all_goals
    go_wp2
    go_ret
    exact ⟨rfl, (Below.refl _ _).drew⟩
set_option maxRecDepth 100000 in
theorem End_nil (w : World) : Calls Try.prog 53 #[.pointer none] w fun e w' => e = .returned (.int .i64 0) ∧ w = w' := by
  go_enter Try.func53, Try.ntmps53
  go_wp2_with (go_at_call 77; refine (Left_nil _).mono ?_; rintro e w' ⟨rfl, rfl⟩)
  go_ret
  exact ⟨rfl, rfl⟩
def endC (a n : Nat) : Int := if a = n then 0 else 5
set_option maxRecDepth 100000 in
theorem End_any (w : World) (p a : Nat) (v : Value) (xs : List Int) (h : RdW w p v a xs) (hl : xs.length ≤ 140737488351232) : Calls Try.prog 53 #[.pointer (some ⟨p, 0, none⟩)] w fun e w' => e = .returned (.int .i64 (endC a xs.length)) ∧ Below w.heap.size w w' := by
  have HL := hid (Left_any w p a v xs h hl)
  have hle := h.le
  generalize xs.length = n at *
  by_cases he : a = n
  · have E := hid (show endC a n = 0 from if_pos he)
    have hd : decide (0 < (n : Int) - a) = false := by simp; omega
    have hd2 : decide (a < n) = false := by simp; omega
    clear h he
    go_enter Try.func53, Try.ntmps53
    go_wp2_with (go_at_call 77; refine HL.out.mono ?_; rintro e w1 ⟨rfl, h1⟩; have H1 := hid h1; clear h1)
    go_ret
    exact ⟨ret_int E.out.symm, H1.out⟩
  · have E := hid (show endC a n = 5 from if_neg he)
    have hd : decide (0 < (n : Int) - a) = true := by simp; omega
    have hd2 : decide (a < n) = true := by simp; omega
    clear h
    go_enter Try.func53, Try.ntmps53
    go_wp2_with (go_at_call 77; refine HL.out.mono ?_; rintro e w1 ⟨rfl, h1⟩; have H1 := hid h1; clear h1)
    go_ret
    exact ⟨ret_int E.out.symm, H1.out⟩
end Go.Proofs.Ytceeipejhmnkfaa
