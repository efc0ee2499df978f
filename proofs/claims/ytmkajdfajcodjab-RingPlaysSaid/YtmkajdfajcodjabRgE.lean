/-
  awake: the document's example; RingNil's walk.
-/
import Derived.Test.YtmkajdfajcodjabRgW
namespace Go.Proofs.Ytmkajdfajcodjab
open Go Go.ChangeShapes Go.WideShapes Go.ChangeAt Go.RowKit

theorem two_told (w : World) (x y : Int) : Tl iv (w.alloc (.cells #[iv x, iv y] TI)).heap.size (w.alloc (.cells #[iv x, iv y] TI)) (.slice (some ⟨w.heap.size, 0, none⟩) 2 2) [x, y] := by
  refine ⟨_, 2, rfl, by simp, by omega, fun _ => ⟨w.heap.size, 0, rfl, by simp, fun j z hz => ?_⟩⟩
  rw [cell_of_row _ _ _ _ _ _ (heap_alloc_new _ _)]
  match j, hz with
  | 0, hz => simp at hz; subst hz; rfl
  | 1, hz => simp at hz; subst hz; rfl
set_option maxRecDepth 100000 in
set_option maxHeartbeats 4000000 in
theorem awake_any (w : World) : Calls Try.prog 9 #[] w fun e w' => e = .returned (.bool true) ∧ Below w.heap.size w w' := by
  have HN := hid (Rnew_ok w 2 (by decide))
  go_enter Try.func9, Try.ntmps9
  go_wp2_with fail
  refine HN.out.mono ?_
  rintro e w1 ⟨hb1, v, rfl, h1⟩
  obtain ⟨p, rfl⟩ := h1.ptr
  have P1 : RowKit.Hid (Calls Try.prog 10 #[.pointer (some ⟨p, 0, none⟩), .int .i64 1] w1 fun e w' => e = .returned (.int .i64 0) ∧ RgB w.heap.size w' (.pointer (some ⟨p, 0, none⟩)) 2 [1] ∧ Below w.heap.size w1 w') := h1.put hb1.size 1
  have B1 := hid hb1
  clear hb1 h1 HN
  go_wp2_with (first
    | (go_at_call 10; (with_reducible refine P1.out.mono ?_); rintro e w2 ⟨rfl, h2, hb2⟩; have P2 : RowKit.Hid (Calls Try.prog 10 #[.pointer (some ⟨p, 0, none⟩), .int .i64 2] w2 fun e w' => e = .returned (.int .i64 0) ∧ RgB w.heap.size w' (.pointer (some ⟨p, 0, none⟩)) 2 [1, 2] ∧ Below w.heap.size w2 w') := h2.put (Nat.le_trans B1.out.size hb2.size) 2; have B2 := hid (B1.out.trans hb2); clear h2 hb2 P1)
    | (go_at_call 10; (with_reducible refine P2.out.mono ?_); rintro e w3 ⟨rfl, h3, hb3⟩; have P3 : RowKit.Hid (Calls Try.prog 10 #[.pointer (some ⟨p, 0, none⟩), .int .i64 3] w3 fun e w' => e = .returned (.int .i64 3) ∧ RgB w.heap.size w' (.pointer (some ⟨p, 0, none⟩)) 2 [1, 2] ∧ Below w.heap.size w3 w') := h3.put (Nat.le_trans B2.out.size hb3.size) 3; have B3 := hid (B2.out.trans hb3); clear h3 hb3 P2)
    | (go_at_call 10; (with_reducible refine P3.out.mono ?_); rintro e w4 ⟨rfl, h4, hb4⟩; have T4 : RowKit.Hid (Calls Try.prog 12 #[.pointer (some ⟨p, 0, none⟩)] w4 fun e w' => e = .returned (.tuple #[.int .i64 1, .int .i64 0]) ∧ RgB w.heap.size w' (.pointer (some ⟨p, 0, none⟩)) 2 [2] ∧ Below w.heap.size w4 w') := h4.take (Nat.le_trans B3.out.size hb4.size); have B4 := hid (B3.out.trans hb4); clear h4 hb4 P3)
    | (go_at_call 12; (with_reducible refine T4.out.mono ?_); rintro e w5 ⟨rfl, h5, hb5⟩; have P5 : RowKit.Hid (Calls Try.prog 10 #[.pointer (some ⟨p, 0, none⟩), .int .i64 3] w5 fun e w' => e = .returned (.int .i64 0) ∧ RgB w.heap.size w' (.pointer (some ⟨p, 0, none⟩)) 2 [2, 3] ∧ Below w.heap.size w5 w') := h5.put (Nat.le_trans B4.out.size hb5.size) 3; have B5 := hid (B4.out.trans hb5); clear h5 hb5 T4)
    | (go_at_call 10; (with_reducible refine P5.out.mono ?_); rintro e w6 ⟨rfl, h6, hb6⟩; have R6 : RowKit.Hid (Calls Try.prog 16 #[.pointer (some ⟨p, 0, none⟩), .int .i64 9] w6 (RowTold w6 [2, 3])) := row_told h6.rdq 9 (by omega); have B6 := hid (B5.out.trans hb6); clear h6 hb6 P5)
    | (go_at_call 16; (with_reducible refine R6.out.mono ?_); rintro e w7 ⟨hb7, u, rfl, ht7⟩; have B7 := hid (B6.out.trans (hb7.mono B6.out.size)); have S7 := hid (SameI_tl (w7.alloc (.cells #[iv 2, iv 3] TI)) _ _ [2, 3] ((ht7.below ((Below.refl _ _).alloc (Nat.le_refl _) _)).up (by simp)) (two_told w7 2 3)); obtain ⟨ua, uc, hu, -⟩ := ht7.ex; subst hu; clear hb7 ht7 R6)
    | (go_at_call 15; refine S7.out.mono ?_; rintro e w8 ⟨rfl, hb8⟩; have B8 := hid ((B7.out.alloc B7.out.size (.cells #[iv 2, iv 3] TI)).trans (hb8.mono (by have := B7.out.size; simp; omega))); clear hb8 S7)
    | fail)
  go_ret
  exact ⟨rfl, B8.out⟩
set_option maxRecDepth 100000 in
set_option maxHeartbeats 4000000 in
theorem RingNil_any (w : World) (x i : Int) : Calls Try.prog 6 #[.int .i64 x, .int .i64 i] w fun e w' => e = .returned (.bool true) ∧ Below w.heap.size w w' := by
  go_enter Try.func6, Try.ntmps6
  go_wp2_with (first
    | (go_at_call 12; refine (Take_nil _).mono ?_; rintro e w1 ⟨rfl, rfl⟩)
    | (go_at_call 20; refine (At_nil _ _).mono ?_; rintro e w1 ⟨rfl, rfl⟩)
    | (go_at_call 10; refine (Put_nil _ _).mono ?_; rintro e w2 ⟨rfl, hf2⟩; have B2 := hid (hf2.below (Nat.le_refl _) (fun _ e => e.elim)); clear hf2)
    | (go_at_call 14; refine (Len_nil _).mono ?_; rintro e w1 ⟨rfl, rfl⟩)
    | (go_at_call 16; refine (row_told (RdQ.nil _) 9 (by omega)).mono ?_; rintro e w3 ⟨hb3, u3, rfl, ht3⟩; have B3 := hid (B2.out.trans (hb3.mono B2.out.size)); obtain ⟨a3, c3, hu3, -⟩ := ht3.ex; subst hu3; simp only [List.take_nil, List.length_nil]; clear hb3 ht3)
    | (go_at_call 17; refine (back_told (RdQ.nil _) 9 (by omega)).mono ?_; rintro e w4 ⟨hb4, u4, rfl, ht4⟩; have B4 := hid (B3.out.trans (hb4.mono B3.out.size)); obtain ⟨a4, c4, hu4, -⟩ := ht4.ex; subst hu4; simp only [List.reverse_nil, List.take_nil, List.length_nil]; clear hb4 ht4)
    | (go_at_call 9; refine (awake_any _).mono ?_; rintro e w5 ⟨rfl, hb5⟩; have B5 := hid (B4.out.trans (hb5.mono B4.out.size)); clear hb5)
    | fail)
  go_ret
  exact ⟨rfl, B5.out⟩
end Go.Proofs.Ytmkajdfajcodjab
