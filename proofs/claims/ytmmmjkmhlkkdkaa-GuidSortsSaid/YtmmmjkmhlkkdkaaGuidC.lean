/-
  Contracts of guid.Print and its plain twin.
-/
import Derived.Test.YtmmmjkmhlkkdkaaGuidA
import Derived.Test.YtmmmjkmhlkkdkaaGuidM
namespace Go.Proofs.Ytmmmjkmhlkkdkaa
open Go.ChangeShapes Go.WideShapes Go.ChangeAt Go.RowKit

set_option maxRecDepth 100000 in
theorem begins_any (i : Int) (w : World) : Calls Try.prog 34 #[.int .i64 i] w fun e w' => e = .returned (.bool (isD i)) ∧ w = w' := by
  unfold isD
  go_enter Try.func34, Try.ntmps34
  go_wp2
  all_goals (go_ret; refine ⟨ret_bool ?_, rfl⟩; simp_all)
set_option maxRecDepth 100000 in
theorem info5 : (Try.prog.info? 5).map (fun i => (i.zero, i.size, i.bytes)) = some (some (.int .u8 0), 1, 1) := by kernel_rfl

set_option maxRecDepth 100000 in
/-- The constant text of digits, read at a place. -/
theorem hex_at (t : TypeId) (ht : Try.prog.underlying t = some .string) (n : Int) (h0 : 0 ≤ n) (h1 : n < 16) (k : IntKind) (w : World) :
    (Instr.index t (.string { data := #[48, 49, 50, 51, 52, 53, 54, 55, 56, 57, 97, 98, 99, 100, 101, 102] }) (.int k n)).run Try.prog w = .ok (.int .u8 (dg n)) w := by
  rw [run_index_string _ t _ k n ht]
  have h : n = 0 ∨ n = 1 ∨ n = 2 ∨ n = 3 ∨ n = 4 ∨ n = 5 ∨ n = 6 ∨ n = 7 ∨ n = 8 ∨ n = 9 ∨ n = 10 ∨ n = 11 ∨ n = 12 ∨ n = 13 ∨ n = 14 ∨ n = 15 := by omega
  rcases h with rfl | rfl | rfl | rfl | rfl | rfl | rfl | rfl | rfl | rfl | rfl | rfl | rfl | rfl | rfl | rfl <;> rfl

set_option maxRecDepth 100000 in
theorem Print_any (xs : List Int) (w : World) (hx : IsG xs) : Calls Try.prog 28 #[.agg (u8s xs)] w fun e w' => e = .returned (.string (strI (prL xs))) ∧ Below w.heap.size w w' := by
  have hi : (Try.prog.info? 51).map (·.size) = some (u8s xs).size := by rw [u8s_size, hx.len]; exact infoG
  have Hi := hid hi
  clear hi
  have hmk : ∀ w, (Instr.makeSlice 79 (.int .i64 0) (.int .i64 38)).run Try.prog w = .ok (.slice (some ⟨w.heap.size, 0, none⟩) 0 38) (w.alloc (.cells (Array.replicate 38 (.int .u8 0)) 5)) := fun _ => by kernel_rfl
  go_enter Try.func28, Try.ntmps28
  go_wp2_with (refine wpList_load_row (o := ⟨some 10, _, _, _, _, _⟩) rfl 51 _ rfl w.heap.size rfl 51 (u8s xs) (0,0) _ (heap_alloc3_old _ _ _ _) Try.underlying51 rfl Hi.out ?_)
  obtain ⟨i0, hi, hz0, hz1, hz2⟩ := info_parts info5
  have hi' := hid hi
  have hz0' := hid hz0
  have hz1' := hid hz1
  have hz2' := hid hz2
  clear hi hz0 hz1 hz2
  go_loopw [3,4,5,11] (fun v _ _ k wr => ∃ (m : Nat) (g cap : Nat), m ≤ 16 ∧ k = .int .i64 m ∧ v = .slice (some ⟨g, 0, none⟩) (prUp xs m).length cap ∧ OwnB wr w.heap.size 5 (.slice (some ⟨g, 0, none⟩) (prUp xs m).length cap) (prUp xs m) ∧ Below w.heap.size w wr) (fun _ _ _ k _ => 16 - (intOf k).toNat)
  case atStart =>
    refine ⟨0, w.heap.size + 1, 38, by omega, rfl, rfl, ⟨rfl, .inr ⟨_, _, _, rfl, by omega, heap_alloc3_mid _ _ _ _, by simp [prUp], by decide, by simp, by simp [prUp]⟩⟩, ?_⟩
    exact (((Below.refl _ _).alloc (Nat.le_refl _) _).alloc (by simp) _).alloc (by simp; omega) _
  case round =>
    obtain ⟨m, g, cap, hm, rfl, rfl, hown, hB⟩ := hrel
    by_cases hlt : m < 16
    · have hix := fun w => run_index_u8s (P := Try.prog) w 51 5 16 xs m Try.underlying51 szB agB hx.len hlt
      have h0 := hx.lo m
      have h1 := hx.hi m
      have ht : RowKit.Hid (prUp xs (m + 1) = (if isD m then prUp xs m ++ [45] else prUp xs m) ++ [dg (xs.getD m 0 / 16), dg (xs.getD m 0 % 16)]) := hid rfl
      have hl := prUp_len xs m
      generalize xs.getD m 0 = x at *
      generalize prUp xs m = us at *
      have HO := hid hown
      have HBB := hid hB
      have hsz := hB.size
      clear hown hB
      have hm1 : us.length + 3 ≤ 140737488355328 := by omega
      have hm2 : us.length + 1 ≤ maxLen := by unfold maxLen; omega
      have hm3 : us.length + 1 + 2 ≤ maxLen := by unfold maxLen; omega
      have hm4 : us.length + 2 ≤ maxLen := by unfold maxLen; omega
      clear hl
      cases hd : isD m with
      | true =>
        have HD := hid hd
        clear hd
        go_wp2_with (first | (go_at_call 34; refine (begins_any _ _).mono ?_; rintro e w' ⟨rfl, rfl⟩; rw [HD.out]) | (at_builtin; go_must (refine wpList_append_lies _ (o := ⟨some 19, _, _, _, _, _⟩) rfl (.tmp 17) (.tmp 18) 79 rfl w.heap.size 5 i0 (.int .u8 0) 1 1 Try.underlying79 hi'.out hz0'.out hz1'.out hz2'.out rfl (by decide) _ us.length (us.map (.int .u8)) rfl (HO.out.alloc _) ⟨wr.heap.size, 0, none⟩ 1 1 [.int .u8 45] rfl rfl (one_news _ _ _ _ rfl) (by simp [Value.oneCell']) (by decide) hm2 (by omega) (by simp; omega) _ rfl ?_); intro g2 cap2 w2 hown2 hgrow2 hat2 hlt2))
        have hd1 := hex_at 9 Try.underlying9 (x / 16) (by omega) (by omega) .u8
        have hd2 := hex_at 9 Try.underlying9 (x % 16) (by omega) (by omega) .u8
        have ha := and15 h0 h1
        have hs2 := hgrow2.size
        simp only [World.size_alloc] at hs2
        have hB2 := hid (below_append (HBB.out.alloc (by omega) _) (HO.out.alloc _) hgrow2 (by simp; omega))
        go_region_law (refine step_append_lies _ (o := ⟨some 28, _, _, _, _, _⟩) rfl (.tmp 20) (.tmp 27) 79 rfl w.heap.size 5 i0 (.int .u8 0) 1 1 Try.underlying79 hi'.out hz0'.out hz1'.out hz2'.out rfl (by decide) _ (us.length + 1) _ rfl (hown2.alloc _) ⟨w2.heap.size, 0, none⟩ 2 2 [.int .u8 (dg (x / 16)), .int .u8 (dg (x % 16))] rfl rfl (two_news _ _ _ _ _ rfl) (by simp [Value.oneCell']) (by decide) hm3 (by omega) (by simp; omega) _ rfl ?_; intro g3 cap3 w3 hown3 hgrow3 hat3 hlt3)
        all_goals
          have hB3 := hid (below_append ((hB2.out.alloc (by omega) _).drew) (hown2.alloc _) hgrow3 (by simp; omega))
          have e3 : prUp xs (m + 1) = us ++ [45] ++ [dg (x / 16), dg (x % 16)] := by rw [ht.out, HD.out]; rfl
          have E3 := hid e3
          clear e3 hgrow3 hat3
          go_wp2
          go_roundw
          case rel => exact ⟨m + 1, g3, cap3, by omega, by go_num, by rw [E3.out]; simp, OwnB.of hown3 (by rw [E3.out]; simp) (by rw [E3.out]; simp), hB3.out⟩
          case measure => simp [intOf]; omega
      | false =>
        have HD := hid hd
        have hd1 := hex_at 9 Try.underlying9 (x / 16) (by omega) (by omega) .u8
        have hd2 := hex_at 9 Try.underlying9 (x % 16) (by omega) (by omega) .u8
        have ha := and15 h0 h1
        clear hd
        go_wp2_with (first | (go_at_call 34; refine (begins_any _ _).mono ?_; rintro e w' ⟨rfl, rfl⟩; rw [HD.out]))
        go_region_law (refine step_append_lies _ (o := ⟨some 28, _, _, _, _, _⟩) rfl (.tmp 20) (.tmp 27) 79 rfl w.heap.size 5 i0 (.int .u8 0) 1 1 Try.underlying79 hi'.out hz0'.out hz1'.out hz2'.out rfl (by decide) _ us.length _ rfl (HO.out.alloc _) ⟨wr.heap.size, 0, none⟩ 2 2 [.int .u8 (dg (x / 16)), .int .u8 (dg (x % 16))] rfl rfl (two_news _ _ _ _ _ rfl) (by simp [Value.oneCell']) (by decide) hm4 (by omega) (by simp; omega) _ rfl ?_; intro g3 cap3 w3 hown3 hgrow3 hat3 hlt3)
        all_goals
          have hB3 := hid (below_append ((HBB.out.alloc (by omega) _).drew) (HO.out.alloc _) hgrow3 (by simp; omega))
          have e3 : prUp xs (m + 1) = us ++ [dg (x / 16), dg (x % 16)] := by rw [ht.out, HD.out]; rfl
          have E3 := hid e3
          clear e3 hgrow3 hat3
          go_wp2
          go_roundw
          case rel => exact ⟨m + 1, g3, cap3, by omega, by go_num, by rw [E3.out]; simp, OwnB.of hown3 (by rw [E3.out]; simp) (by rw [E3.out]; simp), hB3.out⟩
          case measure => simp [intOf]; omega
    · obtain rfl : m = 16 := by omega
      have hl := prUp_len xs 16
      have hbd := prUp_bd hx 16
      have hpr : RowKit.Hid (prL xs = prUp xs 16 ++ [125]) := hid rfl
      generalize prUp xs 16 = us at *
      have HO := hid hown
      have HBB := hid hB
      have hsz := hB.size
      have hm2 : us.length + 1 ≤ maxLen := by unfold maxLen; omega
      have Hbd := hid hbd
      clear hown hB hbd
      go_wp2_with (at_builtin; refine wpList_append_lies _ (o := ⟨some 32, _, _, _, _, _⟩) rfl (.tmp 30) (.tmp 31) 79 rfl w.heap.size 5 i0 (.int .u8 0) 1 1 Try.underlying79 hi'.out hz0'.out hz1'.out hz2'.out rfl (by decide) _ us.length (us.map (.int .u8)) rfl (HO.out.alloc _) ⟨wr.heap.size, 0, none⟩ 1 1 [.int .u8 125] rfl rfl (one_news _ _ _ _ rfl) (by simp [Value.oneCell']) (by decide) hm2 (by omega) (by simp; omega) _ rfl ?_; intro g4 cap4 w4 hown4 hgrow4 hat4 hlt4; have hcv := str_of_own w4 79 9 5 Try.underlying79 Try.underlying5 Try.underlying9 hown4 Hbd.out (x := 125) (by decide))
      go_ret
      exact ⟨ret_str (by rw [hpr.out]), below_append (HBB.out.alloc (by omega) _) (HO.out.alloc _) hgrow4 (by simp; omega)⟩
end Go.Proofs.Ytmmmjkmhlkkdkaa
