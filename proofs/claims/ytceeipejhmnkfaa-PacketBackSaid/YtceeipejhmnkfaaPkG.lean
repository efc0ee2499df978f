/-
  The plain twin's guid of a packet's form.
-/
import Derived.Test.YtceeipejhmnkfaaPkN
namespace Go.Proofs.Ytceeipejhmnkfaa
open Go Go.ChangeShapes Go.WideShapes Go.ChangeAt Go.RowKit

set_option maxRecDepth 100000 in
set_option maxHeartbeats 2000000 in
theorem pkGuid_any (w : World) (ad : Option Addr) (cap n k : Nat) (b : List Int) (hbs : Bs w w.heap.size ad b) (hn : n = b.length) (hb : Byt b) (hl : n ≤ 140737488351232) (hk : k ≤ 140737488351232) :
    Calls Try.prog 35 #[.slice ad n cap, .int .i64 k] w fun e w' => e = .returned (.agg (u8s (guidP b k))) ∧ Below w.heap.size w w' := by
  obtain ⟨w1, hw1⟩ : ∃ w1, w1 = (w.alloc (.cells (u8s g0) 24)).alloc (.cells (u8s g0) 24) := ⟨_, rfl⟩
  have hr : w1.heap[w.heap.size]? = some (.cells (u8s g0) 24 (0, 0)) := by rw [hw1]; exact heap_alloc2_old _ _ _
  have hg : w1.heap[w.heap.size + 1]? = some (.cells (u8s (gdP b k 0)) 24 (0, 0)) := by rw [hw1, gdP_zero]; exact heap_alloc2_new _ _ _
  have hB : Below w.heap.size w w1 := by rw [hw1]; exact ((Below.refl _ _).alloc (Nat.le_refl _) _).alloc (by simp) _
  have HW1 := hid hw1
  have HBS := hid hbs
  have HN := hid hn
  have HB := hid hb
  have HST : RowKit.Hid (Below w.heap.size w w1 ∧ w1.heap[w.heap.size]? = some (.cells (u8s g0) 24 (0, 0)) ∧ w1.heap[w.heap.size + 1]? = some (.cells (u8s (gdP b k 0)) 24 (0, 0))) := hid ⟨hB, hr, hg⟩
  clear hw1 hr hg hB hbs hn hb
  go_enter Try.func35, Try.ntmps35
  go_upto_region 2 with (fail)
  change Code.wp _ _ _ _ ((w.alloc (.cells (u8s g0) 24)).alloc (.cells (u8s g0) 24))
  rw [← HW1.out]
  clear HW1
  go_wp2_with fail
  go_loopw [6] (fun m wr => ∃ q : Nat, q ≤ 16 ∧ m = .int .i64 q ∧ RowKit.Hid (Below w.heap.size w wr ∧ wr.heap[w.heap.size]? = some (.cells (u8s g0) 24 (0, 0)) ∧ wr.heap[w.heap.size + 1]? = some (.cells (u8s (gdP b k q)) 24 (0, 0)))) (fun m _ => 16 - (intOf m).toNat)
  case atStart => exact ⟨0, by omega, rfl, HST⟩
  case round =>
    clear HST
    obtain ⟨q, hq, rfl, HR⟩ := hrel
    by_cases hlt : q < 16 ∧ k + q < n
    · obtain ⟨bb, oo, rfl, hbb⟩ := HBS.out.some (by have := HN.out; omega)
      have hq16 : ((q : Int) < 16) := by omega
      have hkq : ((k : Int) + (q : Int) < (n : Int)) := by omega
      have dq : decide ((q : Int) < 16) = true := by simp; omega
      have dk : decide ((k : Int) + (q : Int) < (n : Int)) = true := by simp; omega
      have c1 := (HBS.out.below HR.out.1).cell (j := k + q) (by have := HN.out; omega)
      have HP := hid (gdP_set (b := b) (k := k) (m := q) hlt.1 (by have := HN.out; omega))
      have c0 := cell_u8s HR.out.2.2 q (by rw [gdP_len (by omega)]; exact hlt.1)
      have z0 := frozen_of_row wr (w.heap.size + 1) q _ 24 HR.out.2.2
      generalize b.getD (k + q) 0 = x at *
      go_wp2_with fail
      refine ⟨⟨q + 1, by omega, by go_num, hid ⟨?_, ?_, ?_⟩⟩, by simp [intOf]; omega⟩
      · exact HR.out.1.setCell (by simp) _
      · rw [Below.heap_setCell _ _ _ _ (by simp)]; exact HR.out.2.1
      · rw [set_u8s HR.out.2.2, HP.out]
    · have hz : gdP b k q = guidP b k := by
        by_cases h16 : q = 16
        · subst h16; rfl
        · exact gdP_end (by omega) (by have := HN.out; omega)
      have hr := HR.out
      rw [hz] at hr
      have hl16 : (guidP b k).length = 16 := gdP_len (by omega)
      have HR2 := hid hr
      have HL := hid hl16
      clear HR hr hz hl16 HB HBS
      by_cases h16 : q < 16
      · have dq : decide ((q : Int) < 16) = true := by simp; omega
        have dk : decide ((k : Int) + (q : Int) < (n : Int)) = false := by simp; omega
        clear HN hlt
        go_wp2_with (first
          | ((with_reducible refine at_op ⟨some 27, _, _, _, _, _⟩ ?_); refine wpList_load_row rfl 24 _ rfl (w.heap.size + 1) rfl 24 (u8s (guidP b k)) (0, 0) _ HR2.out.2.2 Try.underlying24 rfl (by rw [u8s_size, HL.out]; exact infoG) ?_)
          | ((with_reducible refine at_op ⟨none, .store 24 (.tmp 4) (.tmp 27), _, _, _, _⟩ ?_); refine wpList_store_row rfl 24 _ _ rfl w.heap.size (u8s (guidP b k)) rfl rfl 24 (u8s g0) HR2.out.2.1 (by rw [u8s_size, HL.out]; exact infoG) (by rw [u8s_size, u8s_size, HL.out]; rfl) (u8s_one _) ?_))
        have hZ5 : (wr.setRow w.heap.size (u8s (guidP b k))).heap[w.heap.size]? = some (.cells (u8s (guidP b k)) 24 (0, 0)) := setRow_heap _ _ _ _ _ _ HR2.out.2.1
        refine bodyPost_ret (v := .agg (u8s (guidP b k))) ?_ rfl ⟨rfl, below_setRow HR2.out.1 _ _ (Nat.le_refl _)⟩
        rw [results_cell1 (fn := Try.f35) rfl]
        simp only [Act.put, List.setIfInBounds_toArray, List.set_cons_zero, List.set_cons_succ]
        have hl := run_loadVar_row (P := Try.prog) _ w.heap.size 24 24 (u8s (guidP b k)) (0, 0) _ hZ5 Try.underlying24 rfl (by rw [u8s_size, HL.out]; exact infoG)
        simp [asAddr, hl, Result.andThen]
      · have dq : decide ((q : Int) < 16) = false := by simp; omega
        clear HN hlt
        go_wp2_with (first
          | ((with_reducible refine at_op ⟨some 27, _, _, _, _, _⟩ ?_); refine wpList_load_row rfl 24 _ rfl (w.heap.size + 1) rfl 24 (u8s (guidP b k)) (0, 0) _ HR2.out.2.2 Try.underlying24 rfl (by rw [u8s_size, HL.out]; exact infoG) ?_)
          | ((with_reducible refine at_op ⟨none, .store 24 (.tmp 4) (.tmp 27), _, _, _, _⟩ ?_); refine wpList_store_row rfl 24 _ _ rfl w.heap.size (u8s (guidP b k)) rfl rfl 24 (u8s g0) HR2.out.2.1 (by rw [u8s_size, HL.out]; exact infoG) (by rw [u8s_size, u8s_size, HL.out]; rfl) (u8s_one _) ?_))
        have hZ5 : (wr.setRow w.heap.size (u8s (guidP b k))).heap[w.heap.size]? = some (.cells (u8s (guidP b k)) 24 (0, 0)) := setRow_heap _ _ _ _ _ _ HR2.out.2.1
        refine bodyPost_ret (v := .agg (u8s (guidP b k))) ?_ rfl ⟨rfl, below_setRow HR2.out.1 _ _ (Nat.le_refl _)⟩
        rw [results_cell1 (fn := Try.f35) rfl]
        simp only [Act.put, List.setIfInBounds_toArray, List.set_cons_zero, List.set_cons_succ]
        have hl := run_loadVar_row (P := Try.prog) _ w.heap.size 24 24 (u8s (guidP b k)) (0, 0) _ hZ5 Try.underlying24 rfl (by rw [u8s_size, HL.out]; exact infoG)
        simp [asAddr, hl, Result.andThen]
end Go.Proofs.Ytceeipejhmnkfaa
