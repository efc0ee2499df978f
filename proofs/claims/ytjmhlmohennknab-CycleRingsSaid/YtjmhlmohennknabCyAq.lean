/-
  The document's examples, as the laws ask them: awake.
-/
import Derived.Test.YtjmhlmohennknabCyAp
namespace Go.Proofs.Ytjmhlmohennknab
open Go Go.ChangeShapes Go.WideShapes Go.ChangeAt Go.RowKit

theorem lits_told (w : World) (us : List Int) (n : Nat) (hn : us.length = n) (h : n ≤ 1000) : Tl iv (w.alloc (.cells (us.map iv).toArray TI)).heap.size (w.alloc (.cells (us.map iv).toArray TI)) (.slice (some ⟨w.heap.size, 0, none⟩) n n) us := by
  subst hn
  refine ⟨some ⟨w.heap.size, 0, none⟩, us.length, rfl, Nat.le_refl _, by omega, fun _ => ⟨w.heap.size, 0, rfl, by simp, fun j z hz => ?_⟩⟩
  rw [cell_of_row _ _ _ _ _ _ (heap_alloc_new w _)]
  simp [hz]
set_option maxRecDepth 100000 in
set_option maxHeartbeats 4000000 in
theorem awake_any (w : World) : Calls Try.prog 10 #[] w fun e w' => e = .returned (.bool true) ∧ Below w.heap.size w w' := by
  have HT1 := hid (two_made w 1 1 (by omega) (by omega))
  go_enter Try.func10, Try.ntmps10
  go_upto_region 2 with fail
  obtain ⟨g1, hg1⟩ : ∃ g1, g1 = w.heap.size + 1 + 1 + 1 + 1 := ⟨_, rfl⟩
  obtain ⟨w1, hw1⟩ : ∃ w1, w1 = (((((w.alloc (.cells #[.int .u32 1, .int .u32 1] 41)).alloc (.cells #[.int .i64 1] TI)).alloc (.cells #[.int .i64 0] TI)).alloc (.cells #[.slice (some ⟨w.heap.size + 1, 0, none⟩) 1 1, .slice (some ⟨w.heap.size + 1 + 1, 0, none⟩) 1 1] 26)).alloc
      (.cells #[.slice (some ⟨w.heap.size, 0, none⟩) 2 2, .slice (some ⟨w.heap.size + 1 + 1 + 1, 0, none⟩) 2 2] TGr)) := ⟨_, rfl⟩
  rw [← hw1, ← hg1] at HT1 ⊢
  clear hw1 hg1
  have HT2 := hid (two_made w1 2 1 (by omega) (by omega))
  go_upto_region 3 with fail
  obtain ⟨g2, hg2⟩ : ∃ g2, g2 = w1.heap.size + 1 + 1 + 1 + 1 := ⟨_, rfl⟩
  obtain ⟨w2, hw2⟩ : ∃ w2, w2 = (((((w1.alloc (.cells #[.int .u32 2, .int .u32 1] 41)).alloc (.cells #[.int .i64 1] TI)).alloc (.cells #[.int .i64 0] TI)).alloc (.cells #[.slice (some ⟨w1.heap.size + 1, 0, none⟩) 1 1, .slice (some ⟨w1.heap.size + 1 + 1, 0, none⟩) 1 1] 26)).alloc
      (.cells #[.slice (some ⟨w1.heap.size, 0, none⟩) 2 2, .slice (some ⟨w1.heap.size + 1 + 1 + 1, 0, none⟩) 2 2] TGr)) := ⟨_, rfl⟩
  rw [← hw2, ← hg2] at HT2 ⊢
  clear hw2 hg2
  obtain ⟨cv1, ev1, hA1, hG1, ca1, cc1, ea1, ec1, rfl, rfl⟩ := HT1.out.at_
  obtain ⟨cv2, ev2, hA2, hG2, ca2, cc2, ea2, ec2, rfl, rfl⟩ := HT2.out.at_
  have hb02 := HT1.out.bl.trans (HT2.out.bl.mono HT1.out.bl.size)
  have hA12 := (HT2.out.bl.block _ (Array.getElem?_eq_some_iff.1 hA1).1).trans hA1
  have hat1 := hid (AtL.row hA12 : AtL w2 g1 0 _)
  have hG12 := (hG1.below HT2.out.bl).up HT2.out.bl.size
  obtain ⟨w3, hw3⟩ : ∃ w3, w3 = w2.alloc (.cells #[.int .i64 0] TI) := ⟨_, rfl⟩
  have hb3 : Below w2.heap.size w2 w3 := by rw [hw3]; exact (Below.refl _ _).alloc (Nat.le_refl _) _
  have hS3 := lits_told w2 [0] 1 rfl (by omega)
  rw [show (List.map iv [0]).toArray = #[Value.int .i64 0] from rfl, ← hw3] at hS3
  have HG3 := hid (Garbage_any w3 _ _ _ [1, 1] [[1], [0]] [0] ((hG12.below hb3).up hb3.size) hS3 (by simp) (by simp [totE]) (by decide))
  rw [garb_two] at HG3
  have HW3 := hid hw3
  have HB3 := hid (hb02.trans (hb3.mono hb02.size))
  have HG2 := hid ((hG2.below hb3).up hb3.size)
  have HA2 := hid ((hb3.block _ (Array.getElem?_eq_some_iff.1 hA2).1).trans hA2)
  clear hA1 hG1 hA2 hG2 hb02 hA12 hG12 hw3 hb3 hS3 HT1 HT2
  go_wp2_with (first
    | ((with_reducible refine at_op ⟨some 13, _, _, _, _, _⟩ ?_); go_loud (refine wpList_run rfl _ (load_cells Try.underlying25 (by rfl) (by kernel_rfl) rfl rfl hat1.out) ?_))
    | fail)
  rw [← HW3.out]
  clear HW3
  refine HG3.out.mono ?_
  rintro e w4 ⟨v1, rfl, hT4, hb4⟩
  have hB4 := HB3.out.trans (hb4.mono HB3.out.size)
  obtain ⟨w5, hw5⟩ : ∃ w5, w5 = w4.alloc (.cells #[.int .i64 0, .int .i64 1] TI) := ⟨_, rfl⟩
  have hb5 : Below w4.heap.size w4 w5 := by rw [hw5]; exact (Below.refl _ _).alloc (Nat.le_refl _) _
  have hS5 := lits_told w4 [0, 1] 2 rfl (by omega)
  rw [show (List.map iv [0, 1]).toArray = #[Value.int .i64 0, Value.int .i64 1] from rfl, ← hw5] at hS5
  have HSM := hid (SameI_tl w5 v1 _ [0, 1] ((hT4.ints.below hb5).up hb5.size) hS5)
  have HG5 := hid ((((HG2.out.below hb4).up hb4.size).below hb5).up hb5.size)
  have HA5 := hid ((hb5.block _ (Array.getElem?_eq_some_iff.1 ((hb4.block _ (Array.getElem?_eq_some_iff.1 HA2.out).1).trans HA2.out)).1).trans ((hb4.block _ (Array.getElem?_eq_some_iff.1 HA2.out).1).trans HA2.out))
  have HB5 := hid (hB4.trans (hb5.mono hB4.size))
  have HW5 := hid hw5
  clear hT4 hb4 hB4 hw5 hb5 hS5 HG3 HB3 HG2 HA2 hat1
  go_wp2_with fail
  rw [← HW5.out]
  clear HW5
  refine HSM.out.mono ?_
  rintro e w6 ⟨rfl, hb6⟩
  have hA6 := (hb6.block _ (Array.getElem?_eq_some_iff.1 HA5.out).1).trans HA5.out
  have hat6 := hid (AtL.row hA6 : AtL w6 g2 0 _)
  have hG6 := (HG5.out.below hb6).up hb6.size
  have hB6 := HB5.out.trans (hb6.mono HB5.out.size)
  obtain ⟨w7, hw7⟩ : ∃ w7, w7 = w6.alloc (.cells #[.int .i64 0] TI) := ⟨_, rfl⟩
  have hb7 : Below w6.heap.size w6 w7 := by rw [hw7]; exact (Below.refl _ _).alloc (Nat.le_refl _) _
  have hS7 := lits_told w6 [0] 1 rfl (by omega)
  rw [show (List.map iv [0]).toArray = #[Value.int .i64 0] from rfl, ← hw7] at hS7
  have hg7 := Garbage_any w7 _ _ _ [2, 1] [[1], [0]] [0] ((hG6.below hb7).up hb7.size) hS7 (by simp) (by simp [totE]) (by decide)
  rw [garb_held] at hg7
  have HG7 := hid hg7
  have HW7 := hid hw7
  have HB7 := hid (hB6.trans (hb7.mono hB6.size))
  clear hA6 hG6 hB6 hw7 hb7 hS7 hg7 hb6 HSM HG5 HA5 HB5
  go_wp2_with (first
    | ((with_reducible refine at_op ⟨some 19, _, _, _, _, _⟩ ?_); go_loud (refine wpList_runW rfl _ (load_cells Try.underlying25 (by rfl) (by kernel_rfl) rfl rfl hat6.out) ?_))
    | (go_at_call 11; rw [← HW7.out]; refine HG7.out.mono ?_; rintro e w8 ⟨v2, rfl, hT8, hb8⟩; have HT8 := hid hT8; have HB8 := hid (HB7.out.trans (hb8.mono HB7.out.size)); obtain ⟨a8, c8, rfl, _⟩ := hT8.ex; clear hT8 hb8)
    | fail)
  go_ret
  exact ⟨rfl, HB8.out⟩
end Go.Proofs.Ytjmhlmohennknab
