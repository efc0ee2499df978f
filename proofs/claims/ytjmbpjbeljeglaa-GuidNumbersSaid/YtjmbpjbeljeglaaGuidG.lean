/-
  The contract of the plain twin of Parse.
-/
import Derived.Test.YtjmbpjbeljeglaaGuidD
import Derived.Test.YtjmbpjbeljeglaaGuidF
import Derived.Test.YtjmbpjbeljeglaaLibB
namespace Go.Proofs.Ytjmbpjbeljeglaa
open Go.ChangeShapes Go.WideShapes Go.ChangeAt Go.RowKit

/-- What the plain twin of Parse answers. -/
def refV (sl : List Int) : Value := .tuple #[.agg (u8s ((pars sl).getD g0)), .bool (pars sl).isSome]
theorem refV_none {sl : List Int} (h : pars sl = none) : refV sl = .tuple #[.agg (u8s g0), .bool false] := by unfold refV; rw [h]; rfl
theorem refV_some {sl g : List Int} (h : pars sl = some g) : refV sl = .tuple #[.agg (u8s g), .bool true] := by unfold refV; rw [h]; rfl
theorem beq_false_of {a b : Int} (h : a = b) : (a != b) = false := by subst h; simp
theorem bne_true_of {a b : Int} (h : ¬ a = b) : (a != b) = true := by simpa using h
theorem wrap_step (x v : Int) : IntKind.u8.wrap (IntKind.u8.wrap (x * 16) + v) = (x * 16 + v) % 256 := by
  rw [IntKind.wrap_u8, IntKind.wrap_u8]; omega
theorem refStep_some {st : List Int × Nat} {c v : Int} (h : dgv c = some v) : refStep st c = (if st.2 < 32 then st.1.set (st.2 / 2) ((st.1.getD (st.2 / 2) 0 * 16 + v) % 256) else st.1, st.2 + 1) := by unfold refStep; rw [h]
theorem refStep_lo {g : List Int} {n : Nat} {c v : Int} (h : dgv c = some v) (hn : n < 32) : refStep (g, n) c = (g.set (n / 2) ((g.getD (n / 2) 0 * 16 + v) % 256), n + 1) := by rw [refStep_some h]; simp only []; rw [if_pos hn]
theorem refStep_hi {g : List Int} {n : Nat} {c v : Int} (h : dgv c = some v) (hn : ¬ n < 32) : refStep (g, n) c = (g, n + 1) := by rw [refStep_some h]; simp only []; rw [if_neg hn]
theorem refStep_none {st : List Int × Nat} {c : Int} (h : dgv c = none) : refStep st c = st := by unfold refStep; rw [h]

set_option maxHeartbeats 1500000 in
theorem refParse_any (s : ByteArray) (w : World) (hsz : s.size ≤ maxLen) : Calls Try.prog 13 #[.string s] w fun e w' => e = .returned (refV (sI s)) ∧ Below w.heap.size w w' := by
  replace hsz : s.size ≤ 9223372036854775807 := by unfold maxLen at hsz; omega
  have hi : (Try.prog.info? 23).map (·.size) = some (u8s g0).size := infoG
  have Hi := hid hi
  have Hl := hid (sI_len s)
  clear hi
  go_enter Try.func13, Try.ntmps13
  go_wp2
  go_loopw [5,6] (fun n i wr => ∃ m : Nat, m ≤ s.size ∧ i = .int .i64 m ∧ n = .int .i64 (refFold ((sI s).take m)).2 ∧ wr.heap[w.heap.size]? = some (.cells (u8s g0) 23 (0,0)) ∧ wr.heap[w.heap.size+1]? = some (.cells (u8s (refFold ((sI s).take m)).1) 23 (0,0)) ∧ Below w.heap.size w wr) (fun _ i _ => s.size - (intOf i).toNat)
  case atStart => exact ⟨0, by omega, rfl, rfl, heap_alloc2_old _ _ _, heap_alloc2_new _ _ _, ((Below.refl _ _).alloc (Nat.le_refl _) _).alloc (by simp) _⟩
  case round =>
    obtain ⟨m, hm, rfl, rfl, ha, hb, hB⟩ := hrel
    by_cases hlt : m < s.size
    · have hix := fun w => run_index_sI (P := Try.prog) w 9 s .i64 m Try.underlying9 hlt
      have hc := sI_bd s m
      have hn := refFold_le ((sI s).take m)
      have hst := take_step (sI s) m (by rw [Hl.out]; exact hlt)
      have hG : IsG (refFold ((sI s).take m)).1 := refG_isG _
      have Hst := hid hst
      rw [List.length_take, Hl.out] at hn
      have hn2 : (refFold ((sI s).take m)).2 ≤ m := by omega
      clear hst hn
      generalize (sI s).getD m 0 = c at *
      generalize refFold ((sI s).take m) = st at *
      obtain ⟨g, n⟩ := st
      simp only at ha hb hn2 hG
      have hk : (48 ≤ c ∧ c ≤ 57 ∧ RowKit.Hid (dgv c = some (c - 48))) ∨ (¬ c ≤ 57 ∧ 97 ≤ c ∧ c ≤ 102 ∧ RowKit.Hid (dgv c = some (c - 97 + 10))) ∨ (¬ c ≤ 57 ∧ ¬ 97 ≤ c ∧ 65 ≤ c ∧ c ≤ 70 ∧ RowKit.Hid (dgv c = some (c - 65 + 10))) ∨ ((¬ (48 ≤ c ∧ c ≤ 57) ∧ ¬ (97 ≤ c ∧ c ≤ 102) ∧ ¬ (65 ≤ c ∧ c ≤ 70)) ∧ RowKit.Hid (dgv c = none)) := by
        by_cases a : 48 ≤ c ∧ c ≤ 57
        · exact .inl ⟨a.1, a.2, by unfold RowKit.Hid dgv; rw [if_pos a]⟩
        · by_cases b : 97 ≤ c ∧ c ≤ 102
          · exact .inr (.inl ⟨by omega, b.1, b.2, by unfold RowKit.Hid dgv; rw [if_neg a, if_pos b]; congr 1; omega⟩)
          · by_cases d : 65 ≤ c ∧ c ≤ 70
            · exact .inr (.inr (.inl ⟨by omega, by omega, d.1, d.2, by unfold RowKit.Hid dgv; rw [if_neg a, if_neg b, if_pos d]; congr 1; omega⟩))
            · exact .inr (.inr (.inr ⟨⟨a, b, d⟩, by unfold RowKit.Hid dgv; rw [if_neg a, if_neg b, if_neg d]⟩))
      have HA := hid ha
      have HBB := hid hB
      obtain ⟨hc0, hc1⟩ := hc
      rcases hk with ⟨k1, k2, kd⟩ | ⟨k1, k2, k3, kd⟩ | ⟨k1, k2, k3, k4, kd⟩ | ⟨kn, kd⟩
      · skip
        by_cases h32 : n < 32
        · have hcell := cell_u8s hb (n / 2) (by rw [hG.len]; omega)
          have hfz := frozen_of_row wr (w.heap.size + 1) (n / 2) _ 23 hb
          have HE := hid (Hst.out.trans (refStep_lo kd.out h32))
          have Hb := hid hb
          have hx0 := hG.lo (n / 2)
          have hx1 := hG.hi (n / 2)
          clear hb ha hB hG
          generalize hgx : g.getD (n / 2) 0 = x at *
          have Hgx := hid hgx
          clear hgx
          go_wp2
          go_roundw
          case rel => exact ⟨m + 1, by omega, by go_num, by rw [HE.out]; go_num, by rw [heap_setCell_other _ _ _ _ (by simp)]; exact HA.out, by rw [HE.out, show x * 16 % 256 + (c - 48) = (x * 16 + (c - 48)) % 256 by omega]; exact set_u8s Hb.out _ _, HBB.out.setCell (by simp) _⟩
          case measure => simp [intOf]; omega
        · have HE := hid (Hst.out.trans (refStep_hi kd.out h32))
          have Hb := hid hb
          clear hb ha hB hG
          go_wp2
          go_roundw
          case rel => exact ⟨m + 1, by omega, by go_num, by rw [HE.out]; go_num, HA.out, by rw [HE.out]; exact Hb.out, HBB.out⟩
          case measure => simp [intOf]; omega
      · have k0 : 48 ≤ c := by omega
        by_cases h32 : n < 32
        · have hcell := cell_u8s hb (n / 2) (by rw [hG.len]; omega)
          have hfz := frozen_of_row wr (w.heap.size + 1) (n / 2) _ 23 hb
          have HE := hid (Hst.out.trans (refStep_lo kd.out h32))
          have Hb := hid hb
          have hx0 := hG.lo (n / 2)
          have hx1 := hG.hi (n / 2)
          clear hb ha hB hG
          generalize hgx : g.getD (n / 2) 0 = x at *
          have Hgx := hid hgx
          clear hgx
          go_wp2
          go_roundw
          case rel => exact ⟨m + 1, by omega, by go_num, by rw [HE.out]; go_num, by rw [heap_setCell_other _ _ _ _ (by simp)]; exact HA.out, by rw [HE.out, show x * 16 % 256 + (c - 97 + 10) = (x * 16 + (c - 97 + 10)) % 256 by omega]; exact set_u8s Hb.out _ _, HBB.out.setCell (by simp) _⟩
          case measure => simp [intOf]; omega
        · have HE := hid (Hst.out.trans (refStep_hi kd.out h32))
          have Hb := hid hb
          clear hb ha hB hG
          go_wp2
          go_roundw
          case rel => exact ⟨m + 1, by omega, by go_num, by rw [HE.out]; go_num, HA.out, by rw [HE.out]; exact Hb.out, HBB.out⟩
          case measure => simp [intOf]; omega
      · have k0 : 48 ≤ c := by omega
        by_cases h32 : n < 32
        · have hcell := cell_u8s hb (n / 2) (by rw [hG.len]; omega)
          have hfz := frozen_of_row wr (w.heap.size + 1) (n / 2) _ 23 hb
          have HE := hid (Hst.out.trans (refStep_lo kd.out h32))
          have Hb := hid hb
          have hx0 := hG.lo (n / 2)
          have hx1 := hG.hi (n / 2)
          clear hb ha hB hG
          generalize hgx : g.getD (n / 2) 0 = x at *
          have Hgx := hid hgx
          clear hgx
          go_wp2
          go_roundw
          case rel => exact ⟨m + 1, by omega, by go_num, by rw [HE.out]; go_num, by rw [heap_setCell_other _ _ _ _ (by simp)]; exact HA.out, by rw [HE.out, show x * 16 % 256 + (c - 65 + 10) = (x * 16 + (c - 65 + 10)) % 256 by omega]; exact set_u8s Hb.out _ _, HBB.out.setCell (by simp) _⟩
          case measure => simp [intOf]; omega
        · have HE := hid (Hst.out.trans (refStep_hi kd.out h32))
          have Hb := hid hb
          clear hb ha hB hG
          go_wp2
          go_roundw
          case rel => exact ⟨m + 1, by omega, by go_num, by rw [HE.out]; go_num, HA.out, by rw [HE.out]; exact Hb.out, HBB.out⟩
          case measure => simp [intOf]; omega
      · have HE := hid (Hst.out.trans (refStep_none kd.out))
        have Hb := hid hb
        clear hb ha hB hG
        go_wp2
        all_goals first | (exfalso; omega) | skip
        all_goals
          go_roundw
          case rel => exact ⟨m + 1, by omega, by go_num, by rw [HE.out], HA.out, by rw [HE.out]; exact Hb.out, HBB.out⟩
          case measure => simp [intOf]; omega
    · obtain rfl : m = s.size := by omega
      have htk : (sI s).take s.size = sI s := List.take_of_length_le (by rw [Hl.out]; exact Nat.le_refl _)
      rw [htk] at hb
      have hRG : (refFold (sI s)).1 = refG (sI s) := rfl
      rw [hRG] at hb
      have hG := refG_isG (sI s)
      have Hno := fun h => hid (refV_none (pars_no (sl := sI s) h))
      have Hyes := fun h => hid (refV_some (pars_yes (sl := sI s) h))
      clear htk hRG
      generalize refG (sI s) = g at *
      have hbd := prL_bd hG
      have hsz2 : (strI (prL g)).size = 38 := by rw [strI_size, prL_len]
      have HA := hid ha
      have HBB := hid hB
      have Hb := hid hb
      have Hi2 := hid (show (Try.prog.info? 23).map (·.size) = some (u8s g).size by rw [u8s_size, hG.len]; exact infoG)
      have HG := hid hG
      clear ha hb hB hG
      go_wp2_with (first | ((with_reducible refine at_op ⟨some 68, _, _, _, _, _⟩ ?_); refine wpList_load_row rfl 23 _ rfl (w.heap.size+1) rfl 23 (u8s g) (0,0) _ Hb.out Try.underlying23 rfl Hi2.out ?_) | fail)
      refine (refPrint_any g _ HG.out).mono ?_
      rintro e w1 ⟨rfl, hb1⟩
      have hwA := lt_of_heap HA.out
      have hwb := lt_of_heap Hb.out
      have HA1 := hid ((hb1.block _ hwA).trans HA.out)
      have Hb1 := hid ((hb1.block _ hwb).trans Hb.out)
      have HB1 := hid (HBB.out.trans (hb1.mono (by omega)))
      clear hb1 hwA hwb HA Hb HBB
      have hat : ∀ j : Nat, j < 38 → ∀ w, (Instr.index 9 (.string (strI (prL g))) (.int .i64 (j : Int))).run Try.prog w = .ok (.int .u8 ((prL g).getD j 0)) w := fun j hj w => by
        have := run_index_sI (P := Try.prog) w 9 (strI (prL g)) .i64 j Try.underlying9 (by rw [strI_size, prL_len]; exact hj)
        rwa [sI_strI _ hbd] at this
      have Hat := hid hat
      have Hbd := hid hbd
      clear hat hbd
      by_cases h38 : s.size = 38
      · have H38 := hid h38
        have hne : ((s.size : Int) != 38) = false := by simp; omega
        clear h38
        go_wp2
        go_loop [10, 11] (fun i _ => ∃ j : Nat, j ≤ 38 ∧ i = .int .i64 j ∧ RowKit.Hid (∀ k, k < j → low ((sI s).getD k 0) = (prL g).getD k 0)) (fun i _ => 38 - (intOf i).toNat)
        case atStart => exact ⟨0, by omega, rfl, fun k h => by omega⟩
        case round =>
          obtain ⟨j, hj, rfl, hall⟩ := hrel
          by_cases hlt2 : j < 38
          · have hlt3 : j < s.size := by rw [H38.out]; exact hlt2
            have hx1 := fun w => run_index_sI (P := Try.prog) w 9 s .i64 j Try.underlying9 hlt3
            have hx2 := Hat.out j hlt2
            have hc := sI_bd s j
            have hd : 0 ≤ (prL g).getD j 0 ∧ (prL g).getD j 0 ≤ 255 := Hbd.out _ (by rw [← getElem_getD _ j (by rw [prL_len]; exact hlt2)]; exact List.getElem_mem _)
            have hyes := hid (fun (h : low ((sI s).getD j 0) = (prL g).getD j 0) k (hk : k < j + 1) => show low ((sI s).getD k 0) = (prL g).getD k 0 from by
              by_cases e : k = j
              · subst e; exact h
              · exact hall.out k (by omega))
            have hno := hid (fun (h : ¬ low ((sI s).getD j 0) = (prL g).getD j 0) => Hno (low_bad (by rw [Hl.out]; exact hlt3) h))
            clear hall
            generalize (sI s).getD j 0 = c at *
            generalize (prL g).getD j 0 = d at *
            obtain ⟨hc0, hc1⟩ := hc
            obtain ⟨hd0, hd1⟩ := hd
            have hk : (65 ≤ c ∧ c ≤ 70 ∧ RowKit.Hid (low c = c - 65 + 97)) ∨ (65 ≤ c ∧ ¬ c ≤ 70 ∧ RowKit.Hid (low c = c)) ∨ (¬ 65 ≤ c ∧ RowKit.Hid (low c = c)) := by
              by_cases a : 65 ≤ c
              · by_cases b : c ≤ 70
                · exact .inl ⟨a, b, by unfold RowKit.Hid low; rw [if_pos ⟨a, b⟩]; omega⟩
                · exact .inr (.inl ⟨a, b, by unfold RowKit.Hid low; rw [if_neg (by omega)]⟩)
              · exact .inr (.inr ⟨a, by unfold RowKit.Hid low; rw [if_neg (by omega)]⟩)
            rcases hk with ⟨k1, k2, kl⟩ | ⟨k1, k2, kl⟩ | ⟨k1, kl⟩
            all_goals
              by_cases he : low c = d
              · have HY := hid (hyes.out he)
                rw [kl.out] at he
                have ht := beq_false_of he
                clear hyes hno he
                go_wp2
                go_round
                case rel => exact ⟨j + 1, by omega, by go_num, HY⟩
                case measure => simp [intOf]; omega
              · have HN := hno.out he
                rw [kl.out] at he
                have ht := bne_true_of he
                clear hyes hno he
                go_wp2_with ((with_reducible refine at_op ⟨none, .store 23 (.tmp 2) (.tmp 99), _, _, _, _⟩ ?_); refine wpList_store_row rfl 23 _ _ rfl w.heap.size (u8s g0) rfl rfl 23 (u8s g0) HA1.out Hi.out rfl (u8s_one _) ?_)
                refine bodyPost_ret (v := .tuple #[.agg (u8s g0), .bool false]) (results_cell_tmp (P := Try.prog) (fn := Try.f13) (p := 2) (q := 3) (ty := 23) rfl _ _ w.heap.size 23 _ (0, 0) _ rfl (setRow_heap _ _ _ _ 23 (0, 0) HA1.out) Try.underlying23 rfl Hi.out) rfl ⟨by rw [HN.out], below_setRow HB1.out _ _ (Nat.le_refl _)⟩
          · obtain rfl : j = 38 := by omega
            have hall2 := Hyes (low_all (by rw [Hl.out, H38.out, prL_len]) (fun k hk => hall.out k (by rw [Hl.out, H38.out] at hk; exact hk)))
            have hslt : (s.size : Int) ≤ ((38 : Nat) : Int) := by rw [H38.out]; omega
            clear hall hj hlt2 hsz hm hlt hne hsz2
            go_wp2_with (first | ((with_reducible refine at_op ⟨some 100, _, _, _, _, _⟩ ?_); refine wpList_load_row rfl 23 _ rfl (w.heap.size+1) rfl 23 (u8s g) (0,0) _ Hb1.out Try.underlying23 rfl Hi2.out ?_) | ((with_reducible refine at_op ⟨none, .store 23 (.tmp 2) (.tmp 100), _, _, _, _⟩ ?_); refine wpList_store_row rfl 23 _ _ rfl w.heap.size (u8s g) rfl rfl 23 (u8s g0) HA1.out Hi2.out (by rw [u8s_size, u8s_size, HG.out.len]; rfl) (u8s_one _) ?_))
            refine bodyPost_ret (v := .tuple #[.agg (u8s g), .bool true]) (results_cell_tmp (P := Try.prog) (fn := Try.f13) (p := 2) (q := 3) (ty := 23) rfl _ _ w.heap.size 23 _ (0, 0) _ rfl (setRow_heap _ _ _ _ 23 (0, 0) HA1.out) Try.underlying23 rfl Hi2.out) rfl ⟨by rw [hall2.out], below_setRow HB1.out _ _ (Nat.le_refl _)⟩
      · have hne : ((s.size : Int) != 38) = true := by simp; omega
        have HN := Hno (fun e => h38 (by have := congrArg List.length e; rw [List.length_map, Hl.out, prL_len] at this; exact this))
        clear h38
        go_wp2_with ((with_reducible refine at_op ⟨none, .store 23 (.tmp 2) (.tmp 75), _, _, _, _⟩ ?_); refine wpList_store_row rfl 23 _ _ rfl w.heap.size (u8s g0) rfl rfl 23 (u8s g0) HA1.out Hi.out rfl (u8s_one _) ?_)
        refine bodyPost_ret (v := .tuple #[.agg (u8s g0), .bool false]) (results_cell_tmp (P := Try.prog) (fn := Try.f13) (p := 2) (q := 3) (ty := 23) rfl _ _ w.heap.size 23 _ (0, 0) _ rfl (setRow_heap _ _ _ _ 23 (0, 0) HA1.out) Try.underlying23 rfl Hi.out) rfl ⟨by rw [HN.out], below_setRow HB1.out _ _ (Nat.le_refl _)⟩
end Go.Proofs.Ytjmbpjbeljeglaa
