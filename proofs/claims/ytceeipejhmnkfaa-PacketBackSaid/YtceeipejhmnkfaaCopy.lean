/-
  The contract of the plain helper Copy.
-/
import Derived.Test.YtceeipejhmnkfaaObF
namespace Go.Proofs.Ytceeipejhmnkfaa
open Go Go.ChangeShapes Go.WideShapes Go.ChangeAt Go.RowKit

set_option maxRecDepth 100000 in
set_option maxHeartbeats 2000000 in
theorem Copy_any (w : World) (ad : Option Addr) (ka n : Nat) (xs : List Int) (ha : Bs w w.heap.size ad xs) (hn : n = xs.length) (hn2 : n ≤ 1000000) :
    Calls Try.prog 19 #[.slice ad n ka] w (RowPost w xs) := by
  obtain ⟨i0, hi, hz0, hz1, hz2⟩ := info_parts info5
  have hi' := hid hi
  have hz0' := hid hz0
  have hz1' := hid hz1
  have hz2' := hid hz2
  have HA := hid ha
  have HN := hid hn
  have h0 : ES w w (.slice none 0 0) 0 (xs.take 0) := ⟨World.ownsRow_nil _ _ _ _, Below.refl _ _, by simp⟩
  have H0 := hid h0
  clear ha hn hi hz0 hz1 hz2 h0
  go_enter Try.func19, Try.ntmps19
  go_wp2_with fail
  go_loopw [3, 4] (fun ov i wr => ∃ (q k : Nat) (a : Option Addr), q ≤ n ∧ i = .int .i64 q ∧ ov = .slice a q k ∧ RowKit.Hid (ES w wr (.slice a q k) q (xs.take q))) (fun _ i _ => n - (intOf i).toNat)
  case atStart => exact ⟨0, 0, none, by omega, rfl, rfl, H0⟩
  case round =>
    obtain ⟨q, k, a, hq, rfl, rfl, HR⟩ := hrel
    by_cases hqn : q < n
    · obtain ⟨b, o, rfl, _⟩ := HA.out.some (by have := HN.out; omega)
      have hla : q < xs.length := by rw [← HN.out]; exact hqn
      have cq := (HA.out.below HR.out.2.1).cell hla
      have hx := getD_at hla
      generalize xs.getD q 0 = x at *
      have HX := hid hx
      clear hx hla
      go_wp2_with (at_builtin; refine wpList_append_own_at _ (o := ⟨some 17, _, _, _, _, _⟩) rfl (.tmp 11) (.tmp 16) 30 rfl w.heap.size 5 i0 (.int .u8 0) 1 1 Try.underlying30 hi'.out hz0'.out hz1'.out hz2'.out rfl (by decide) (.slice a q k) q _ rfl (HR.out.1.alloc _) ⟨wr.heap.size, 0, none⟩ 1 1 (u8l [x]) rfl rfl (World.news_of_block (heap_alloc_new wr _)) (u8l_one _) (by unfold maxLen; omega) (by omega) (by have := HR.out.2.1.size; simp; omega) ?_; intro v5 w5 hown5 hgrow5 hnil5 hat5; have HO5 := hid hown5; have HG5 := hid hgrow5; clear hown5 hgrow5 hnil5 hat5; obtain ⟨a5, d5, rfl⟩ := own_form HO5.out)
      have h5 : ES w w5 (.slice a5 (q + 1) d5) (q + 1) (xs.take q ++ [x]) := HR.out.push (zs := [x]) (frA wr _) HO5.out HG5.out
      have htk : xs.take q ++ [x] = xs.take (q + 1) := by rw [List.take_add_one, HX.out]; rfl
      rw [htk] at h5
      have HE5 := hid h5
      clear h5 htk
      go_roundw
      case rel => exact ⟨q + 1, d5, a5, by omega, by go_num, rfl, HE5⟩
      case measure => simp [intOf]; omega
    · obtain rfl : q = n := by omega
      have hr := HR.out
      rw [List.take_of_length_le (by rw [HN.out]; omega)] at hr
      have HR2 := hid hr
      clear hr HR
      go_wp2
      go_ret
      exact ⟨_, rfl, by rw [← HN.out]; exact HR2.out.1, HR2.out.2.1⟩
end Go.Proofs.Ytceeipejhmnkfaa
