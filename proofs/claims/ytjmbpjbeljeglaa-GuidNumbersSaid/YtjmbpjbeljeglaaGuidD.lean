/-
  The contract of the plain twin of guid.Print.
-/
import Derived.Test.YtjmbpjbeljeglaaGuidC
namespace Go.Proofs.Ytjmbpjbeljeglaa
open Go.ChangeShapes Go.WideShapes Go.ChangeAt Go.RowKit

theorem sign_still (n : Int) (w : World) (h0 : 0 ≤ n) (h1 : n < 16) : Calls Try.prog 21 #[.int .u8 n] w fun e w' => e = .returned (.int .u8 (dg n)) ∧ w' = w :=
  (sign_any n w h0 h1).mono fun _ _ ⟨a, b⟩ => ⟨a, b.symm⟩

set_option maxHeartbeats 2000000 in
theorem refPrint_any (xs : List Int) (w : World) (hx : IsG xs) : Calls Try.prog 10 #[.agg (u8s xs)] w fun e w' => e = .returned (.string (strI (prL xs))) ∧ Below w.heap.size w w' := by
  obtain ⟨i0, hi, hz0, hz1, hz2⟩ := info_parts info5
  have hi' := hid hi
  have hz0' := hid hz0
  have hz1' := hid hz1
  have hz2' := hid hz2
  clear hi hz0 hz1 hz2
  go_enter Try.func10, Try.ntmps10
  go_wp2_with (at_builtin; refine wpList_append_lies _ (o := ⟨some 7, _, _, _, _, _⟩) rfl (.tmp 5) (.tmp 6) 44 rfl (w.heap.size + 1) 5 i0 (.int .u8 0) 1 1 Try.underlying44 hi'.out hz0'.out hz1'.out hz2'.out rfl (by decide) _ 0 [] rfl (World.ownsRow_nil _ _ _ _) ⟨w.heap.size + 1, 0, none⟩ 1 1 [.int .u8 123] rfl rfl (one_news _ _ _ _ (by simp)) (by simp [Value.oneCell']) (by decide) (by decide) (by decide) (by simp) _ rfl ?_; intro g2 cap2 w2 hown2 hgrow2 hat2 hlt2)
  have hB0 : Below w.heap.size w w2 := below_append (((Below.refl _ _).alloc (Nat.le_refl _) _).alloc (by simp) _) (World.ownsRow_nil _ (w.heap.size + 1) 5 1) hgrow2 (by simp; omega)
  have hK0 : w2.heap[w.heap.size]? = some (.cells (u8s xs) 23 (0, 0)) := keep_append (heap_alloc2_old _ _ _) (by simp; omega) (World.ownsRow_nil _ (w.heap.size + 1) 5 1) hgrow2 (by omega)
  have HB0 := hid hB0
  have HK0 := hid hK0
  have hs2 := hB0.size
  have hs3 := hgrow2.size
  simp only [World.size_alloc] at hs3
  clear hB0 hK0 hgrow2 hat2
  go_loopw [3,4] (fun v k wr => ∃ (m : Nat) (g cap : Nat), m ≤ 16 ∧ k = .int .i64 m ∧ v = .slice (some ⟨g, 0, none⟩) (prUp xs m).length cap ∧ OwnB wr (w.heap.size + 1) 5 (.slice (some ⟨g, 0, none⟩) (prUp xs m).length cap) (prUp xs m) ∧ Below w.heap.size w wr ∧ wr.heap[w.heap.size]? = some (.cells (u8s xs) 23 (0, 0))) (fun _ k _ => 16 - (intOf k).toNat)
  case atStart => exact ⟨0, g2, cap2, by omega, rfl, rfl, hown2, HB0.out, HK0.out⟩
  case round =>
    obtain ⟨m, g, cap, hm, rfl, rfl, hown, hB, hK⟩ := hrel
    clear hown2 hs2 hs3 hlt2
    by_cases hlt : m < 16
    · have hc := cell_u8s hK m (by rw [hx.len]; exact hlt)
      have h0 := hx.lo m
      have h1 := hx.hi m
      have ht : RowKit.Hid (prUp xs (m + 1) = (if isD m then prUp xs m ++ [45] else prUp xs m) ++ [dg (xs.getD m 0 / 16), dg (xs.getD m 0 % 16)]) := hid rfl
      have hl := prUp_len xs m
      generalize hxm : xs.getD m 0 = x at *
      have HC := hid (And.intro hxm (show m < xs.length by rw [hx.len]; exact hlt))
      clear hxm
      generalize prUp xs m = us at *
      have HO := hid hown
      have HBB := hid hB
      have HK := hid hK
      have hsz := lt_of_heap hK
      have hm1 : us.length + 3 ≤ 140737488355328 := by omega
      have hm2 : us.length + 1 ≤ maxLen := by unfold maxLen; omega
      have hm3 : us.length + 1 + 2 ≤ maxLen := by unfold maxLen; omega
      have hm4 : us.length + 2 ≤ maxLen := by unfold maxLen; omega
      clear hown hB hK hl
      by_cases hd : isD m = true
      · have hd4 : m = 4 ∨ m = 6 ∨ m = 8 ∨ m = 10 := by unfold isD at hd; simp at hd; omega
        have HD := hid hd
        clear hd
        rcases hd4 with h4 | h4 | h4 | h4
        all_goals
          first | have b4 : ((m : Int) == 4) = true := (by simp; omega) | have b4 : ((m : Int) == 4) = false := (by simp; omega)
          first | have b6 : ((m : Int) == 6) = true := (by simp; omega) | have b6 : ((m : Int) == 6) = false := (by simp; omega)
          first | have b8 : ((m : Int) == 8) = true := (by simp; omega) | have b8 : ((m : Int) == 8) = false := (by simp; omega)
          first | have b10 : ((m : Int) == 10) = true := (by simp; omega) | have b10 : ((m : Int) == 10) = false := (by simp; omega)
          clear h4
          go_wp2_with (at_builtin; refine wpList_append_lies _ (o := ⟨some 28, _, _, _, _, _⟩) rfl (.tmp 26) (.tmp 27) 44 rfl (w.heap.size + 1) 5 i0 (.int .u8 0) 1 1 Try.underlying44 hi'.out hz0'.out hz1'.out hz2'.out rfl (by decide) _ us.length (us.map (.int .u8)) rfl (HO.out.alloc _) ⟨wr.heap.size, 0, none⟩ 1 1 [.int .u8 45] rfl rfl (one_news _ _ _ _ rfl) (by simp [Value.oneCell']) (by decide) hm2 (by omega) (by simp; omega) _ rfl ?_; intro g2 cap2 w2 hown2 hgrow2 hat2 hlt2)
          have hs2 := hgrow2.size
          simp only [World.size_alloc] at hs2
          have hB2 := hid (below_append (HBB.out.alloc (by omega) _) (HO.out.alloc _) hgrow2 (by simp; omega))
          have hK2 : w2.heap[w.heap.size]? = some (.cells (u8s xs) 23 (0, 0)) := keep_append (by rw [heap_alloc_old _ _ hsz]; exact HK.out) (by simp; omega) (HO.out.alloc _) hgrow2 (by omega)
          have HK2 := hid hK2
          have hc2 := cell_u8s_at hK2 m x HC.out
          clear hK2 hgrow2 hat2 hc
          have hq : IntKind.u8.wrap (x.tdiv 16) = x / 16 := IntWalk.u8_quo x 16 ⟨h0, h1, by decide⟩
          have hr : x.tmod 16 = x % 16 := IntWalk.rem_in x 16 h0
          have hWl2 := lt_of_heap HK2.out
          go_region_law (first | (refine step_append_lies _ (o := ⟨some 41, _, _, _, _, _⟩) rfl (.tmp 29) (.tmp 40) 44 rfl (w.heap.size + 1) 5 i0 (.int .u8 0) 1 1 Try.underlying44 hi'.out hz0'.out hz1'.out hz2'.out rfl (by decide) _ (us.length + 1) _ rfl (hown2.alloc _) ⟨w2.heap.size, 0, none⟩ 2 2 [.int .u8 (dg (x / 16)), .int .u8 (dg (x % 16))] rfl rfl (two_news _ _ _ _ _ rfl) (by simp [Value.oneCell']) (by decide) hm3 (by omega) (by simp; omega) _ rfl ?_; intro g3 cap3 w3 hown3 hgrow3 hat3 hlt3) | (go_simp; go_at_call 21; refine (sign_any _ _ (by omega) (by omega)).mono ?_; rintro e w' ⟨rfl, rfl⟩))
          all_goals
            have hB3 := hid (below_append ((hB2.out.alloc (by omega) _).drew) (hown2.alloc _) hgrow3 (by simp; omega))
            have hK3 : RowKit.Hid (w3.heap[w.heap.size]? = some (.cells (u8s xs) 23 (0, 0))) := hid (keep_alloc_drew HK2.out hWl2 hown2 hgrow3 (by omega))
            have e3 : prUp xs (m + 1) = us ++ [45] ++ [dg (x / 16), dg (x % 16)] := by rw [ht.out, HD.out]; rfl
            have E3 := hid e3
            clear e3 hgrow3 hat3
            go_wp2
            go_roundw
            case rel => exact ⟨m + 1, g3, cap3, by omega, by go_num, by rw [E3.out]; simp, OwnB.of hown3 (by rw [E3.out]; simp) (by rw [E3.out]; simp), hB3.out, hK3.out⟩
            case measure => simp [intOf]; omega
      · have hd4 : ¬ m = 4 ∧ ¬ m = 6 ∧ ¬ m = 8 ∧ ¬ m = 10 := by unfold isD at hd; simp at hd; omega
        have HD := hid hd
        clear hd
        have b4 : ((m : Int) == 4) = false := (by simp; omega)
        have b6 : ((m : Int) == 6) = false := (by simp; omega)
        have b8 : ((m : Int) == 8) = false := (by simp; omega)
        have b10 : ((m : Int) == 10) = false := (by simp; omega)
        clear hd4
        go_wp2_with fail
        have hq : IntKind.u8.wrap (x.tdiv 16) = x / 16 := IntWalk.u8_quo x 16 ⟨h0, h1, by decide⟩
        have hr : x.tmod 16 = x % 16 := IntWalk.rem_in x 16 h0
        have hWl2 := lt_of_heap HK.out
        go_region_law (first | (refine step_append_lies _ (o := ⟨some 41, _, _, _, _, _⟩) rfl (.tmp 29) (.tmp 40) 44 rfl (w.heap.size + 1) 5 i0 (.int .u8 0) 1 1 Try.underlying44 hi'.out hz0'.out hz1'.out hz2'.out rfl (by decide) _ us.length _ rfl (HO.out.alloc _) ⟨wr.heap.size, 0, none⟩ 2 2 [.int .u8 (dg (x / 16)), .int .u8 (dg (x % 16))] rfl rfl (two_news _ _ _ _ _ rfl) (by simp [Value.oneCell']) (by decide) hm4 (by omega) (by simp; omega) _ rfl ?_; intro g3 cap3 w3 hown3 hgrow3 hat3 hlt3) | (go_simp; go_at_call 21; refine (sign_any _ _ (by omega) (by omega)).mono ?_; rintro e w' ⟨rfl, rfl⟩))
        all_goals
          have hB3 := hid (below_append ((HBB.out.alloc (by omega) _).drew) (HO.out.alloc _) hgrow3 (by simp; omega))
          have hK3 : RowKit.Hid (w3.heap[w.heap.size]? = some (.cells (u8s xs) 23 (0, 0))) := hid (keep_alloc_drew HK.out hWl2 HO.out hgrow3 (by omega))
          have e3 : prUp xs (m + 1) = us ++ [dg (x / 16), dg (x % 16)] := by rw [ht.out, if_neg HD.out]
          have E3 := hid e3
          clear e3 hgrow3 hat3
          go_wp2
          go_roundw
          case rel => exact ⟨m + 1, g3, cap3, by omega, by go_num, by rw [E3.out]; simp, OwnB.of hown3 (by rw [E3.out]; simp) (by rw [E3.out]; simp), hB3.out, hK3.out⟩
          case measure => simp [intOf]; omega
    · obtain rfl : m = 16 := by omega
      have hl := prUp_len xs 16
      have hbd := prUp_bd hx 16
      have hpr : RowKit.Hid (prL xs = prUp xs 16 ++ [125]) := hid rfl
      generalize prUp xs 16 = us at *
      have HO := hid hown
      have HBB := hid hB
      have hsz := hB.size
      have hsz2 := lt_of_heap hK
      have hm2 : us.length + 1 ≤ maxLen := by unfold maxLen; omega
      have Hbd := hid hbd
      clear hown hB hbd hK
      go_wp2_with (at_builtin; refine wpList_append_lies _ (o := ⟨some 44, _, _, _, _, _⟩) rfl (.tmp 42) (.tmp 43) 44 rfl (w.heap.size + 1) 5 i0 (.int .u8 0) 1 1 Try.underlying44 hi'.out hz0'.out hz1'.out hz2'.out rfl (by decide) _ us.length (us.map (.int .u8)) rfl (HO.out.alloc _) ⟨wr.heap.size, 0, none⟩ 1 1 [.int .u8 125] rfl rfl (one_news _ _ _ _ rfl) (by simp [Value.oneCell']) (by decide) hm2 (by omega) (by simp; omega) _ rfl ?_; intro g4 cap4 w4 hown4 hgrow4 hat4 hlt4; have hcv := str_of_own w4 44 9 5 Try.underlying44 Try.underlying5 Try.underlying9 hown4 Hbd.out (x := 125) (by decide))
      go_ret
      exact ⟨ret_str (by rw [hpr.out]), below_append (HBB.out.alloc (by omega) _) (HO.out.alloc _) hgrow4 (by simp; omega)⟩
end Go.Proofs.Ytjmbpjbeljeglaa
