/-
  The contract of a writer's Bytes.
-/
import Derived.Test.YtceeipejhmnkfaaWrW
import Derived.Test.YtceeipejhmnkfaaWrClone
namespace Go.Proofs.Ytceeipejhmnkfaa
open Go Go.ChangeShapes Go.WideShapes Go.ChangeAt Go.RowKit

set_option maxRecDepth 100000 in
theorem Bytes_nil (w : World) : Calls Try.prog 25 #[.pointer none] w fun e w' => e = .returned (.slice none 0 0) ∧ w = w' := by
  go_enter Try.func25, Try.ntmps25
  go_wp2
  go_ret
  exact ⟨rfl, rfl⟩
set_option maxRecDepth 100000 in
/-- Bytes: a copy of all of them. -/
theorem Bytes_any (w : World) (p : Nat) (v : Value) (xs : List Int) (h : WrW w p v xs) (hl : xs.length ≤ 100000000000000) :
    Calls Try.prog 25 #[.pointer (some ⟨p, 0, none⟩)] w (RowPost w xs) := by
  obtain ⟨oa, oc, hov, h0⟩ := own_form0 h.row
  have c0 := h.c0
  have hrow := h.row
  rw [hov] at c0 hrow
  have HC := hid (Clone_any w oa oc xs.length xs rfl (own_bs hrow) h0 (by omega))
  generalize xs.length = n at *
  clear h hov h0 hrow
  go_enter Try.func25, Try.ntmps25
  go_wp2_with fail
  refine HC.out.mono ?_
  rintro e w1 ⟨v1, rfl, h1, h2⟩
  have H1 := hid h1
  have H2 := hid h2
  obtain ⟨a1, k1, rfl⟩ := own_form h1
  clear h1 h2
  go_wp2
  go_ret
  exact ⟨_, rfl, H1.out, H2.out⟩
end Go.Proofs.Ytceeipejhmnkfaa
