/-
  The contract of guid.Parse.
-/
import Derived.Test.YtmmmjkmhlkkdkaaGuidB
import Derived.Test.YtmmmjkmhlkkdkaaGuidC
import Derived.Test.YtmmmjkmhlkkdkaaGuidN
namespace Go.Proofs.Ytmmmjkmhlkkdkaa
open Go.ChangeShapes Go.WideShapes Go.ChangeAt Go.RowKit

set_option maxRecDepth 100000 in
theorem digit_any (c : Int) (w : World) (h0 : 0 ≤ c) (h1 : c ≤ 255) : Calls Try.prog 35 #[.int .u8 c] w fun e w' => e = .returned (.tuple #[.int .u8 ((dgv c).getD 0), .bool (dgv c).isSome]) ∧ w = w' := by
  have hs : (48 ≤ c ∧ c ≤ 57 ∧ RowKit.Hid (dgv c = some (c - 48))) ∨ (¬ (48 ≤ c ∧ c ≤ 57) ∧ 97 ≤ c ∧ c ≤ 102 ∧ RowKit.Hid (dgv c = some (c - 87))) ∨ (¬ (48 ≤ c ∧ c ≤ 57) ∧ ¬ (97 ≤ c ∧ c ≤ 102) ∧ 65 ≤ c ∧ c ≤ 70 ∧ RowKit.Hid (dgv c = some (c - 55))) ∨ (¬ (48 ≤ c ∧ c ≤ 57) ∧ ¬ (97 ≤ c ∧ c ≤ 102) ∧ ¬ (65 ≤ c ∧ c ≤ 70) ∧ RowKit.Hid (dgv c = none)) := by
    by_cases a : 48 ≤ c ∧ c ≤ 57
    · exact .inl ⟨a.1, a.2, by unfold RowKit.Hid dgv; rw [if_pos a]⟩
    · by_cases b : 97 ≤ c ∧ c ≤ 102
      · exact .inr (.inl ⟨a, b.1, b.2, by unfold RowKit.Hid dgv; rw [if_neg a, if_pos b]⟩)
      · by_cases d : 65 ≤ c ∧ c ≤ 70
        · exact .inr (.inr (.inl ⟨a, b, d.1, d.2, by unfold RowKit.Hid dgv; rw [if_neg a, if_neg b, if_pos d]⟩))
        · exact .inr (.inr (.inr ⟨a, b, d, by unfold RowKit.Hid dgv; rw [if_neg a, if_neg b, if_neg d]⟩))
  rcases hs with ⟨a, b, h⟩ | ⟨a, b, d, h⟩ | ⟨a, b, d, e, h⟩ | ⟨a, b, d, h⟩
  · go_enter Try.func35, Try.ntmps35
    go_wp2
    go_ret2
    exact ⟨by rw [h.out]; rfl, rfl⟩
  · rcases Int.lt_or_le c 48 with g | g
    · omega
    · have g2 : ¬ c ≤ 57 := by omega
      clear a
      go_enter Try.func35, Try.ntmps35
      go_wp2
      go_ret2
      exact ⟨by rw [h.out, show c - 87 = c - 97 + 10 by omega]; rfl, rfl⟩
  · have g : 48 ≤ c := by omega
    have g2 : ¬ c ≤ 57 := by omega
    have g3 : ¬ 97 ≤ c := by omega
    clear a b
    go_enter Try.func35, Try.ntmps35
    go_wp2
    go_ret2
    exact ⟨by rw [h.out, show c - 55 = c - 65 + 10 by omega]; rfl, rfl⟩
  · go_enter Try.func35, Try.ntmps35
    go_wp2
    all_goals first | (exfalso; omega) | skip
    all_goals (go_ret2; exact ⟨by rw [h.out]; rfl, rfl⟩)

/-- What Parse answers. -/
def parsV (sl : List Int) : Value := .tuple #[.agg (u8s ((pars sl).getD g0)), .int .i64 (if (pars sl).isSome then 0 else 5)]
set_option maxRecDepth 100000 in
theorem parsV_none {sl : List Int} (h : pars sl = none) : parsV sl = .tuple #[.agg (u8s g0), .int .i64 5] := by unfold parsV; rw [h]; rfl
set_option maxRecDepth 100000 in
theorem parsV_some {sl g : List Int} (h : pars sl = some g) : parsV sl = .tuple #[.agg (u8s g), .int .i64 0] := by unfold parsV; rw [h]; rfl
set_option maxRecDepth 100000 in
theorem pars_stop {sl : List Int} {k : Nat} (hk : k < 16) (h : rnd sl k = none) : pars sl = none := by
  unfold pars
  rw [if_neg]
  intro c
  have := c.2 k hk
  rw [h] at this; cases this

set_option maxRecDepth 100000 in
set_option maxHeartbeats 4000000 in
theorem Parse_any (s : ByteArray) (w : World) : Calls Try.prog 26 #[.string s] w fun e w' => e = .returned (parsV (sI s)) ∧ Below w.heap.size w w' := by
  have hi : (Try.prog.info? 51).map (·.size) = some (u8s g0).size := infoG
  have Hi := hid hi
  clear hi
  by_cases hl : s.size = 38
  · have hl1 : ((s.size : Int) != 38) = false := by simp; omega
    have hx0 := fun w => run_index_sI (P := Try.prog) w 9 s .i64 0 Try.underlying9 (by omega)
    have hx37 := fun w => run_index_sI (P := Try.prog) w 9 s .i64 37 Try.underlying9 (by omega)
    simp only [Int.cast_ofNat_Int] at hx0 hx37
    have Hl := hid hl
    clear hl
    by_cases h1 : (sI s).getD 0 0 = 123
    · have b0 : ((sI s).getD 0 0 != 123) = false := by rw [h1]; rfl
      by_cases h2 : (sI s).getD 37 0 = 125
      · have b37 : ((sI s).getD 37 0 != 125) = false := by rw [h2]; rfl
        have hF := hid (show Framed (sI s) from ⟨by rw [sI_len]; exact Hl.out, h1, h2⟩)
        clear h1 h2
        have hpars : RowKit.Hid (∀ g, AllRnd (sI s) 16 → gUp (sI s) 16 = g → pars (sI s) = some g) := hid (fun g a b => by unfold pars; rw [if_pos ⟨hF.out, a⟩, b])
        generalize (sI s).getD 0 0 = c0 at *
        generalize (sI s).getD 37 0 = c37 at *
        go_enter Try.func26, Try.ntmps26
        go_wp2
        clear hx0 hx37 b0 b37 hl1
        go_loopw [5,25] (fun a k wr => ∃ m : Nat, m ≤ 16 ∧ k = .int .i64 m ∧ a = .int .i64 (posn m) ∧ wr.heap[w.heap.size]? = some (.cells (u8s g0) 51 (0,0)) ∧ wr.heap[w.heap.size+1]? = some (.cells (u8s (gUp (sI s) m)) 51 (0,0)) ∧ Below w.heap.size w wr ∧ RowKit.Hid (AllRnd (sI s) m)) (fun _ k _ => 16 - (intOf k).toNat)
        case atStart => exact ⟨0, by omega, rfl, rfl, heap_alloc2_old _ _ _, by rw [gUp_zero]; exact heap_alloc2_new _ _ _, ((Below.refl _ _).alloc (Nat.le_refl _) _).alloc (by simp) _, fun j h => by omega⟩
        case round =>
          obtain ⟨m, hm, rfl, rfl, ha, hb, hB, hA⟩ := hrel
          have HA := hid ha
          have HB := hid hB
          by_cases hlt : m < 16
          · skip
            cases hd : isD m with
            | true =>
              have HD := hid hd
              clear hd
              have hx0 := fun w => run_index_sI (P := Try.prog) w 9 s .i64 (posn m) Try.underlying9 (by rw [Hl.out]; have := posn_le m (by omega); omega)
              by_cases hc : (sI s).getD (posn m) 0 = 45
              · have HC := hid hc
                have bc : ((sI s).getD (posn m) 0 != 45) = false := by rw [hc]; rfl
                clear hc
                generalize hcc : (sI s).getD (posn m) 0 = c at *
                have hq : pdig m = (posn m + 1) := by unfold pdig; rw [if_pos HD.out]
                have hpn : RowKit.Hid (posn (m + 1) = (posn m + 1) + 2) := hid (by show (if isD m then posn m + 1 else posn m) + 2 = _; rw [if_pos HD.out])
                have hple := pdig_le m hlt
                rw [hq] at hple
                have hxa := fun w => run_index_sI (P := Try.prog) w 9 s .i64 (posn m + 1) Try.underlying9 (by rw [Hl.out]; omega)
                have hxb := fun w => run_index_sI (P := Try.prog) w 9 s .i64 (posn m + 2) Try.underlying9 (by rw [Hl.out]; omega)
                have hab := sI_bd s (posn m + 1)
                have hbb := sI_bd s (posn m + 2)
                have hrn : RowKit.Hid (rnd (sI s) m = match dgv ((sI s).getD (posn m + 1) 0), dgv ((sI s).getD (posn m + 2) 0) with | some h, some l => some (h * 16 + l) | _, _ => none) := hid (by unfold rnd; rw [if_neg (fun c => c.2 (hcc.trans HC.out)), hq]; rfl)
                have hpb := posn_le m (by omega)
                clear hq hcc
                generalize (sI s).getD (posn m + 1) 0 = a at *
                generalize (sI s).getD (posn m + 2) 0 = b at *
                obtain ⟨ha0, ha1⟩ := hab
                obtain ⟨hb0, hb1⟩ := hbb
                simp only [Int.natCast_add, Int.cast_ofNat_Int] at hxa hxb
                have hxc : ∀ w, (Instr.index 9 (.string s) (.int .i64 ((posn m : Int) + 1 + 1))).run Try.prog w = .ok (.int .u8 b) w := fun w => by rw [show (posn m : Int) + 1 + 1 = (posn m : Int) + 2 by omega]; exact hxb w
                have hst : ∀ x, rnd (sI s) m = some x → (wr.setCell ⟨w.heap.size + 1, m, none⟩ (.int .u8 x)).heap[w.heap.size + 1]? = some (.cells (u8s (gUp (sI s) (m + 1))) 51 (0, 0)) := fun x h => by rw [set_u8s hb, gUp_step _ _ _ h]
                have Hst := hid hst
                have hcell := cell_u8s hb m (by rw [gUp_len]; exact hlt)
                have hfz := frozen_of_row wr (w.heap.size + 1) m _ 51 hb
                clear hst hb ha hB
                cases hda : dgv a with
                | none =>
                  have hp := parsV_none (pars_stop hlt (hrn.out.trans (by rw [hda])))
                  have Hp := hid hp
                  have DA := hid hda
                  clear hp hda
                  cases hdb : dgv b with
                  | none =>
                    have DB := hid hdb
                    clear hdb
                    go_wp2_with (first | (go_at_call 34; refine (begins_any _ _).mono ?_; rintro e w' ⟨rfl, rfl⟩; rw [HD.out]) | (go_at_call_of 35 (Value.int IntKind.u8 a); refine (digit_any _ _ ha0 ha1).mono ?_; rintro e w' ⟨rfl, rfl⟩; rw [DA.out]) | (go_at_call_of 35 (Value.int IntKind.u8 b); refine (digit_any _ _ hb0 hb1).mono ?_; rintro e w' ⟨rfl, rfl⟩; rw [DB.out]) | (refine wpList_store_row (o := ⟨none, .store 51 (.tmp 2) (.tmp 58), _, _, _, _⟩) rfl 51 _ _ rfl w.heap.size (u8s g0) rfl rfl 51 (u8s g0) HA.out Hi.out rfl (u8s_one _) ?_))
                    refine bodyPost_ret (v := .tuple #[.agg (u8s g0), .int .i64 5]) (results_cell_tmp (P := Try.prog) (fn := Try.f26) (p := 2) (q := 3) (ty := 51) rfl _ _ w.heap.size 51 _ (0, 0) _ rfl (setRow_heap _ _ _ _ 51 (0, 0) HA.out) Try.underlying51 rfl Hi.out) rfl ⟨by rw [Hp.out], below_setRow HB.out _ _ (Nat.le_refl _)⟩
                  | some l =>
                    have DB := hid hdb
                    clear hdb
                    go_wp2_with (first | (go_at_call 34; refine (begins_any _ _).mono ?_; rintro e w' ⟨rfl, rfl⟩; rw [HD.out]) | (go_at_call_of 35 (Value.int IntKind.u8 a); refine (digit_any _ _ ha0 ha1).mono ?_; rintro e w' ⟨rfl, rfl⟩; rw [DA.out]) | (go_at_call_of 35 (Value.int IntKind.u8 b); refine (digit_any _ _ hb0 hb1).mono ?_; rintro e w' ⟨rfl, rfl⟩; rw [DB.out]) | (refine wpList_store_row (o := ⟨none, .store 51 (.tmp 2) (.tmp 58), _, _, _, _⟩) rfl 51 _ _ rfl w.heap.size (u8s g0) rfl rfl 51 (u8s g0) HA.out Hi.out rfl (u8s_one _) ?_))
                    refine bodyPost_ret (v := .tuple #[.agg (u8s g0), .int .i64 5]) (results_cell_tmp (P := Try.prog) (fn := Try.f26) (p := 2) (q := 3) (ty := 51) rfl _ _ w.heap.size 51 _ (0, 0) _ rfl (setRow_heap _ _ _ _ 51 (0, 0) HA.out) Try.underlying51 rfl Hi.out) rfl ⟨by rw [Hp.out], below_setRow HB.out _ _ (Nat.le_refl _)⟩
                | some u =>
                  have DA := hid hda
                  have hub := dgv_bd hda
                  cases hdb : dgv b with
                  | none =>
                    have hp := parsV_none (pars_stop hlt (hrn.out.trans (by rw [hda, hdb])))
                    have Hp := hid hp
                    have DB := hid hdb
                    clear hp hda hdb
                    go_wp2_with (first | (go_at_call 34; refine (begins_any _ _).mono ?_; rintro e w' ⟨rfl, rfl⟩; rw [HD.out]) | (go_at_call_of 35 (Value.int IntKind.u8 a); refine (digit_any _ _ ha0 ha1).mono ?_; rintro e w' ⟨rfl, rfl⟩; rw [DA.out]) | (go_at_call_of 35 (Value.int IntKind.u8 b); refine (digit_any _ _ hb0 hb1).mono ?_; rintro e w' ⟨rfl, rfl⟩; rw [DB.out]) | (refine wpList_store_row (o := ⟨none, .store 51 (.tmp 2) (.tmp 58), _, _, _, _⟩) rfl 51 _ _ rfl w.heap.size (u8s g0) rfl rfl 51 (u8s g0) HA.out Hi.out rfl (u8s_one _) ?_))
                    refine bodyPost_ret (v := .tuple #[.agg (u8s g0), .int .i64 5]) (results_cell_tmp (P := Try.prog) (fn := Try.f26) (p := 2) (q := 3) (ty := 51) rfl _ _ w.heap.size 51 _ (0, 0) _ rfl (setRow_heap _ _ _ _ 51 (0, 0) HA.out) Try.underlying51 rfl Hi.out) rfl ⟨by rw [Hp.out], below_setRow HB.out _ _ (Nat.le_refl _)⟩
                  | some l =>
                    have DB := hid hdb
                    have hlb := dgv_bd hdb
                    have hr : rnd (sI s) m = some (u * 16 + l) := hrn.out.trans (by rw [hda, hdb])
                    have hbit := or16' hub.1 hub.2 hlb.1 hlb.2
                    have HS := hid (Hst.out _ hr)
                    have HR := hid (show AllRnd (sI s) (m + 1) from fun j hj => by
                      by_cases e : j = m
                      · subst e; rw [hr]; rfl
                      · exact hA.out j (by omega))
                    clear hda hdb hr
                    go_wp2_with (first | (go_at_call 34; refine (begins_any _ _).mono ?_; rintro e w' ⟨rfl, rfl⟩; rw [HD.out]) | (go_at_call_of 35 (Value.int IntKind.u8 a); refine (digit_any _ _ ha0 ha1).mono ?_; rintro e w' ⟨rfl, rfl⟩; rw [DA.out]) | (go_at_call_of 35 (Value.int IntKind.u8 b); refine (digit_any _ _ hb0 hb1).mono ?_; rintro e w' ⟨rfl, rfl⟩; rw [DB.out]))
                    go_roundw
                    case rel => exact ⟨m + 1, by omega, by go_num, by rw [hpn.out]; go_num, by rw [heap_setCell_other _ _ _ _ (by simp)]; exact HA.out, HS.out, HB.out.setCell (by simp) _, HR⟩
                    case measure => simp [intOf]; omega
              · have bc : ((sI s).getD (posn m) 0 != 45) = true := by simpa using hc
                have hp := parsV_none (pars_stop hlt (show rnd (sI s) m = none by unfold rnd; rw [if_pos ⟨HD.out, hc⟩]))
                have Hp := hid hp
                clear hp hc hb ha hB
                generalize (sI s).getD (posn m) 0 = c at *
                go_wp2_with (first | (go_at_call 34; refine (begins_any _ _).mono ?_; rintro e w' ⟨rfl, rfl⟩; rw [HD.out]) | (refine wpList_store_row (o := ⟨none, .store 51 (.tmp 2) (.tmp 34), _, _, _, _⟩) rfl 51 _ _ rfl w.heap.size (u8s g0) rfl rfl 51 (u8s g0) HA.out Hi.out rfl (u8s_one _) ?_))
                refine bodyPost_ret (v := .tuple #[.agg (u8s g0), .int .i64 5]) (results_cell_tmp (P := Try.prog) (fn := Try.f26) (p := 2) (q := 3) (ty := 51) rfl _ _ w.heap.size 51 _ (0, 0) _ rfl (setRow_heap _ _ _ _ 51 (0, 0) HA.out) Try.underlying51 rfl Hi.out) rfl ⟨by rw [Hp.out], below_setRow HB.out _ _ (Nat.le_refl _)⟩
            | false =>
              have HD := hid (show ¬ isD m = true by rw [hd]; decide)
              have HD2 := hid hd
              clear hd
              have hq : pdig m = (posn m) := by unfold pdig; rw [if_neg HD.out]
              have hpn : RowKit.Hid (posn (m + 1) = (posn m) + 2) := hid (by show (if isD m then posn m + 1 else posn m) + 2 = _; rw [if_neg HD.out])
              have hple := pdig_le m hlt
              rw [hq] at hple
              have hxa := fun w => run_index_sI (P := Try.prog) w 9 s .i64 (posn m) Try.underlying9 (by rw [Hl.out]; omega)
              have hxb := fun w => run_index_sI (P := Try.prog) w 9 s .i64 (posn m + 1) Try.underlying9 (by rw [Hl.out]; omega)
              have hab := sI_bd s (posn m)
              have hbb := sI_bd s (posn m + 1)
              have hrn : RowKit.Hid (rnd (sI s) m = match dgv ((sI s).getD (posn m) 0), dgv ((sI s).getD (posn m + 1) 0) with | some h, some l => some (h * 16 + l) | _, _ => none) := hid (by unfold rnd; rw [if_neg (fun c => HD.out c.1), hq]; rfl)
              have hpb := posn_le m (by omega)
              clear hq
              generalize (sI s).getD (posn m) 0 = a at *
              generalize (sI s).getD (posn m + 1) 0 = b at *
              obtain ⟨ha0, ha1⟩ := hab
              obtain ⟨hb0, hb1⟩ := hbb
              simp only [Int.natCast_add, Int.cast_ofNat_Int] at hxa hxb
              have hst : ∀ x, rnd (sI s) m = some x → (wr.setCell ⟨w.heap.size + 1, m, none⟩ (.int .u8 x)).heap[w.heap.size + 1]? = some (.cells (u8s (gUp (sI s) (m + 1))) 51 (0, 0)) := fun x h => by rw [set_u8s hb, gUp_step _ _ _ h]
              have Hst := hid hst
              have hcell := cell_u8s hb m (by rw [gUp_len]; exact hlt)
              have hfz := frozen_of_row wr (w.heap.size + 1) m _ 51 hb
              clear hst hb ha hB
              cases hda : dgv a with
              | none =>
                have hp := parsV_none (pars_stop hlt (hrn.out.trans (by rw [hda])))
                have Hp := hid hp
                have DA := hid hda
                clear hp hda
                cases hdb : dgv b with
                | none =>
                  have DB := hid hdb
                  clear hdb
                  go_wp2_with (first | (go_at_call 34; refine (begins_any _ _).mono ?_; rintro e w' ⟨rfl, rfl⟩; rw [HD2.out]) | (go_at_call_of 35 (Value.int IntKind.u8 a); refine (digit_any _ _ ha0 ha1).mono ?_; rintro e w' ⟨rfl, rfl⟩; rw [DA.out]) | (go_at_call_of 35 (Value.int IntKind.u8 b); refine (digit_any _ _ hb0 hb1).mono ?_; rintro e w' ⟨rfl, rfl⟩; rw [DB.out]) | (refine wpList_store_row (o := ⟨none, .store 51 (.tmp 2) (.tmp 58), _, _, _, _⟩) rfl 51 _ _ rfl w.heap.size (u8s g0) rfl rfl 51 (u8s g0) HA.out Hi.out rfl (u8s_one _) ?_))
                  refine bodyPost_ret (v := .tuple #[.agg (u8s g0), .int .i64 5]) (results_cell_tmp (P := Try.prog) (fn := Try.f26) (p := 2) (q := 3) (ty := 51) rfl _ _ w.heap.size 51 _ (0, 0) _ rfl (setRow_heap _ _ _ _ 51 (0, 0) HA.out) Try.underlying51 rfl Hi.out) rfl ⟨by rw [Hp.out], below_setRow HB.out _ _ (Nat.le_refl _)⟩
                | some l =>
                  have DB := hid hdb
                  clear hdb
                  go_wp2_with (first | (go_at_call 34; refine (begins_any _ _).mono ?_; rintro e w' ⟨rfl, rfl⟩; rw [HD2.out]) | (go_at_call_of 35 (Value.int IntKind.u8 a); refine (digit_any _ _ ha0 ha1).mono ?_; rintro e w' ⟨rfl, rfl⟩; rw [DA.out]) | (go_at_call_of 35 (Value.int IntKind.u8 b); refine (digit_any _ _ hb0 hb1).mono ?_; rintro e w' ⟨rfl, rfl⟩; rw [DB.out]) | (refine wpList_store_row (o := ⟨none, .store 51 (.tmp 2) (.tmp 58), _, _, _, _⟩) rfl 51 _ _ rfl w.heap.size (u8s g0) rfl rfl 51 (u8s g0) HA.out Hi.out rfl (u8s_one _) ?_))
                  refine bodyPost_ret (v := .tuple #[.agg (u8s g0), .int .i64 5]) (results_cell_tmp (P := Try.prog) (fn := Try.f26) (p := 2) (q := 3) (ty := 51) rfl _ _ w.heap.size 51 _ (0, 0) _ rfl (setRow_heap _ _ _ _ 51 (0, 0) HA.out) Try.underlying51 rfl Hi.out) rfl ⟨by rw [Hp.out], below_setRow HB.out _ _ (Nat.le_refl _)⟩
              | some u =>
                have DA := hid hda
                have hub := dgv_bd hda
                cases hdb : dgv b with
                | none =>
                  have hp := parsV_none (pars_stop hlt (hrn.out.trans (by rw [hda, hdb])))
                  have Hp := hid hp
                  have DB := hid hdb
                  clear hp hda hdb
                  go_wp2_with (first | (go_at_call 34; refine (begins_any _ _).mono ?_; rintro e w' ⟨rfl, rfl⟩; rw [HD2.out]) | (go_at_call_of 35 (Value.int IntKind.u8 a); refine (digit_any _ _ ha0 ha1).mono ?_; rintro e w' ⟨rfl, rfl⟩; rw [DA.out]) | (go_at_call_of 35 (Value.int IntKind.u8 b); refine (digit_any _ _ hb0 hb1).mono ?_; rintro e w' ⟨rfl, rfl⟩; rw [DB.out]) | (refine wpList_store_row (o := ⟨none, .store 51 (.tmp 2) (.tmp 58), _, _, _, _⟩) rfl 51 _ _ rfl w.heap.size (u8s g0) rfl rfl 51 (u8s g0) HA.out Hi.out rfl (u8s_one _) ?_))
                  refine bodyPost_ret (v := .tuple #[.agg (u8s g0), .int .i64 5]) (results_cell_tmp (P := Try.prog) (fn := Try.f26) (p := 2) (q := 3) (ty := 51) rfl _ _ w.heap.size 51 _ (0, 0) _ rfl (setRow_heap _ _ _ _ 51 (0, 0) HA.out) Try.underlying51 rfl Hi.out) rfl ⟨by rw [Hp.out], below_setRow HB.out _ _ (Nat.le_refl _)⟩
                | some l =>
                  have DB := hid hdb
                  have hlb := dgv_bd hdb
                  have hr : rnd (sI s) m = some (u * 16 + l) := hrn.out.trans (by rw [hda, hdb])
                  have hbit := or16' hub.1 hub.2 hlb.1 hlb.2
                  have HS := hid (Hst.out _ hr)
                  have HR := hid (show AllRnd (sI s) (m + 1) from fun j hj => by
                    by_cases e : j = m
                    · subst e; rw [hr]; rfl
                    · exact hA.out j (by omega))
                  clear hda hdb hr
                  go_wp2_with (first | (go_at_call 34; refine (begins_any _ _).mono ?_; rintro e w' ⟨rfl, rfl⟩; rw [HD2.out]) | (go_at_call_of 35 (Value.int IntKind.u8 a); refine (digit_any _ _ ha0 ha1).mono ?_; rintro e w' ⟨rfl, rfl⟩; rw [DA.out]) | (go_at_call_of 35 (Value.int IntKind.u8 b); refine (digit_any _ _ hb0 hb1).mono ?_; rintro e w' ⟨rfl, rfl⟩; rw [DB.out]))
                  go_roundw
                  case rel => exact ⟨m + 1, by omega, by go_num, by rw [hpn.out]; go_num, by rw [heap_setCell_other _ _ _ _ (by simp)]; exact HA.out, HS.out, HB.out.setCell (by simp) _, HR⟩
                  case measure => simp [intOf]; omega
          · obtain rfl : m = 16 := by omega
            have hp := parsV_some (hpars.out _ hA.out rfl)
            have Hp := hid hp
            have Hb := hid hb
            have Hi2 : RowKit.Hid ((Try.prog.info? 51).map (·.size) = some (u8s (gUp (sI s) 16)).size) := hid (by rw [u8s_size, gUp_len]; exact infoG)
            clear hp hb ha hB
            go_wp2_with (first | (refine wpList_load_row (o := ⟨some 68, _, _, _, _, _⟩) rfl 51 _ rfl (w.heap.size+1) rfl 51 (u8s (gUp (sI s) 16)) (0,0) _ Hb.out Try.underlying51 rfl Hi2.out ?_) | (refine wpList_store_row (o := ⟨none, .store 51 (.tmp 2) (.tmp 68), _, _, _, _⟩) rfl 51 _ _ rfl w.heap.size (u8s (gUp (sI s) 16)) rfl rfl 51 (u8s g0) HA.out Hi2.out (by rw [u8s_size, u8s_size, gUp_len]; rfl) (u8s_one _) ?_))
            refine bodyPost_ret (v := .tuple #[.agg (u8s (gUp (sI s) 16)), .int .i64 0]) (results_cell_tmp (P := Try.prog) (fn := Try.f26) (p := 2) (q := 3) (ty := 51) rfl _ _ w.heap.size 51 _ (0, 0) _ rfl (setRow_heap _ _ _ _ 51 (0, 0) HA.out) Try.underlying51 rfl Hi2.out) rfl ⟨by rw [Hp.out], below_setRow HB.out _ _ (Nat.le_refl _)⟩
      · have b37 : ((sI s).getD 37 0 != 125) = true := by simpa using h2
        have hp : pars (sI s) = none := pars_bad fun c => h2 c.2.2
        have Hp := hid (parsV_none hp)
        clear hp h1 h2
        generalize (sI s).getD 0 0 = c0 at *
        generalize (sI s).getD 37 0 = c37 at *
        go_enter Try.func26, Try.ntmps26
        go_wp2_with (refine wpList_store_row (o := ⟨none, .store 51 (.tmp 2) (.tmp 24), _, _, _, _⟩) rfl 51 _ _ rfl w.heap.size (u8s g0) rfl rfl 51 (u8s g0) (heap_alloc_new _ _) Hi.out rfl (u8s_one _) ?_)
        refine bodyPost_ret (v := .tuple #[.agg (u8s g0), .int .i64 5]) (results_cell_tmp (P := Try.prog) (fn := Try.f26) (p := 2) (q := 3) (ty := 51) rfl _ _ w.heap.size 51 _ (0, 0) _ rfl (setRow_heap _ _ _ _ 51 (0, 0) (heap_alloc_new _ _)) Try.underlying51 rfl Hi.out) rfl ⟨by rw [Hp.out], below_setRow ((Below.refl _ _).alloc (Nat.le_refl _) _) _ _ (Nat.le_refl _)⟩
    · have b0 : ((sI s).getD 0 0 != 123) = true := by simpa using h1
      have hp : pars (sI s) = none := pars_bad fun c => h1 c.2.1
      have Hp := hid (parsV_none hp)
      clear hp h1
      generalize (sI s).getD 0 0 = c0 at *
      generalize (sI s).getD 37 0 = c37 at *
      go_enter Try.func26, Try.ntmps26
      go_wp2_with (refine wpList_store_row (o := ⟨none, .store 51 (.tmp 2) (.tmp 24), _, _, _, _⟩) rfl 51 _ _ rfl w.heap.size (u8s g0) rfl rfl 51 (u8s g0) (heap_alloc_new _ _) Hi.out rfl (u8s_one _) ?_)
      refine bodyPost_ret (v := .tuple #[.agg (u8s g0), .int .i64 5]) (results_cell_tmp (P := Try.prog) (fn := Try.f26) (p := 2) (q := 3) (ty := 51) rfl _ _ w.heap.size 51 _ (0, 0) _ rfl (setRow_heap _ _ _ _ 51 (0, 0) (heap_alloc_new _ _)) Try.underlying51 rfl Hi.out) rfl ⟨by rw [Hp.out], below_setRow ((Below.refl _ _).alloc (Nat.le_refl _) _) _ _ (Nat.le_refl _)⟩
  · have hp : pars (sI s) = none := pars_bad fun c => hl (by rw [← sI_len]; exact c.1)
    have Hp := hid (parsV_none hp)
    have hl' : ((s.size : Int) != 38) = true := by simp; omega
    clear hp hl
    go_enter Try.func26, Try.ntmps26
    go_wp2_with (refine wpList_store_row (o := ⟨none, .store 51 (.tmp 2) (.tmp 24), _, _, _, _⟩) rfl 51 _ _ rfl w.heap.size (u8s g0) rfl rfl 51 (u8s g0) (heap_alloc_new _ _) Hi.out rfl (u8s_one _) ?_)
    refine bodyPost_ret (v := .tuple #[.agg (u8s g0), .int .i64 5]) (results_cell_tmp (P := Try.prog) (fn := Try.f26) (p := 2) (q := 3) (ty := 51) rfl _ _ w.heap.size 51 _ (0, 0) _ rfl (setRow_heap _ _ _ _ 51 (0, 0) (heap_alloc_new _ _)) Try.underlying51 rfl Hi.out) rfl ⟨by rw [Hp.out], below_setRow ((Below.refl _ _).alloc (Nat.le_refl _) _) _ _ (Nat.le_refl _)⟩
end Go.Proofs.Ytmmmjkmhlkkdkaa
