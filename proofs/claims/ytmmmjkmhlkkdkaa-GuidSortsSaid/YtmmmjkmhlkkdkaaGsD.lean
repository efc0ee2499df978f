/-
  GuidSorts' walk. (Written by gengs.py.)
-/
import Derived.Test.YtmmmjkmhlkkdkaaGsC
namespace Go.Proofs.Ytmmmjkmhlkkdkaa
open Go Go.ChangeShapes Go.WideShapes Go.ChangeAt Go.RowKit

theorem own_form {w : World} {B : Nat} {e : TypeId} {k n : Nat} {v : Value} {xs : List Value} (h : w.ownsRow B e k v n xs) : ∃ a' k', v = .slice a' n k' := by
  rcases h.2 with ⟨q1, q2⟩ | ⟨g, cap', _, q1, _⟩
  · exact ⟨none, 0, by rw [q1, q2]⟩
  · exact ⟨_, cap', q1⟩
theorem below_fr {w w1 w2 : World} (h : Below w.heap.size w w1) (hf : Fr (fun _ => False) w1 w2) : Below w.heap.size w w2 :=
  ⟨hf.os.trans h.os, hf.tape.trans h.tape, hf.output.trans h.output, Nat.le_trans h.size hf.size, fun k hk => (hf.block k (Nat.lt_of_lt_of_le hk h.size) (fun h => h)).trans (h.block k hk)⟩
theorem fr_below {w w1 w2 : World} (h : Fr (fun _ => False) w w1) (hb : Below w1.heap.size w1 w2) : Fr (fun _ => False) w w2 := h.trans (Fr.of_below (fp := fun _ => False) hb) (fun _ h _ => h)
/-- Neighbours of a list in order. -/
theorem order_next {ys : List (List Int)} (h : InOrder ys) {q : Nat} {y0 y1 : List Int} (h0 : ys[q]? = some y0) (h1 : ys[q + 1]? = some y1) (l0 : y0.length = 16) (l1 : y1.length = 16) : cmpL y0 y1 ≤ 0 := by
  obtain ⟨p0, e0⟩ := List.getElem?_eq_some_iff.1 h0
  obtain ⟨p1, e1⟩ := List.getElem?_eq_some_iff.1 h1
  have h2 := List.pairwise_iff_getElem.1 h q (q + 1) p0 p1 (by omega)
  rw [e0, e1] at h2
  unfold cf16 at h2
  rw [norm16_id l0, norm16_id l1] at h2
  rw [cmpL_anti y0 y1 (by omega)]
  omega
set_option maxHeartbeats 4000000 in
set_option maxRecDepth 100000 in
theorem Sorts_any (w : World) (ad : Option Addr) (cap : Nat) (l : List (List Int)) (hl : GRow w w.heap.size ad l) (hc : ad = none → cap = 0) (hll : l.length ≤ 9223372036854775807) :
    Calls Try.prog 7 #[.slice ad l.length cap] w fun e w' => e = .returned (.bool true) ∧ Below w.heap.size w w' := by
  have HL := hid hl
  have HLL := hid hll
  by_cases hn : l.length ≤ 200
  · obtain ⟨v1, w1, hr, hown1, hB1⟩ := app_any w ad cap l hl hn hc
    obtain ⟨ia, ik, rfl⟩ := own_form hown1
    have HR := hid hr
    have HO1 := hid hown1
    have HB1 := hid hB1
    have HS := hid (Sort_any w1 w.heap.size _ l hown1 (by omega))
    clear hl hc hll hr hown1 hB1
    go_enter Try.func7, Try.ntmps7
    go_wp2_with ((with_reducible refine at_op ⟨some 15, _, _, _, _, _⟩ ?_); refine wpList_appendR rfl (.tmp 13) (.tmp 14) 48 rfl _ _ _ w1 rfl rfl HR.out ?_)
    refine HS.out.mono ?_
    rintro e w2 ⟨ys, v2, rfl, hp, ho, hown2, hf2⟩
    obtain ⟨oa, ok, rfl⟩ := own_form hown2
    have hyl : ys.length = l.length := hp.length_eq
    rw [hyl] at hown2 ⊢
    have HP := hid hp
    have HO := hid ho
    have HOU := hid hown2
    have HIN := hid (hf2.owns HO1.out (fun _ _ h => h))
    have HYL := hid hyl
    have HB2 := hid (below_fr HB1.out hf2)
    clear HR HS HO1 HB1 hp ho hown2 hf2 hyl
    go_wp2
    go_loopw [5] (fun i wr => ∃ k : Nat, k ≤ l.length ∧ i = .int .i64 k ∧ RowKit.Hid (Fr (fun _ => False) w2 wr)) (fun i _ => l.length - (intOf i).toNat)
    case atStart => exact ⟨0, by omega, rfl, hid (Fr.refl _ _)⟩
    case round =>
      obtain ⟨k, hk, rfl, HF⟩ := hrel
      by_cases hlt : k < l.length
      · have hx : l[k]? = some l[k] := List.getElem?_eq_getElem hlt
        have h16 := HL.out.len l[k] (List.getElem_mem hlt)
        generalize l[k] = x at hx h16
        obtain ⟨a, rfl, hab⟩ := HL.out.some (by omega)
        obtain ⟨g1, k1, hf1, _⟩ := HIN.out.form (by omega)
        obtain ⟨g2, k2, hf2, _⟩ := HOU.out.form (by omega)
        simp only [Value.slice.injEq, true_and] at hf1 hf2
        obtain ⟨rfl, rfl⟩ := hf1
        obtain ⟨rfl, rfl⟩ := hf2
        have HX := hid hx
        have H16 := hid h16
        have HLA := hid (show ∀ (q : Nat) (y : List Int), l[q]? = some y → ∀ W, Fr (fun _ => False) w2 W → At16 W (a.add (q * 16)) y from fun q y hq W hW => (HL.out.below (below_fr HB2.out hW)).at' q a y rfl hq)
        have HI := hid (show ∀ W, Fr (fun _ => False) w2 W → At16 W ⟨g1, k * 16, none⟩ x from fun W hW => (At16.of_owns HIN.out rfl HX.out H16.out).fr hW)
        have HOO := hid (show ∀ (q : Nat) (y : List Int), ys[q]? = some y → y.length = 16 → ∀ W, Fr (fun _ => False) w2 W → At16 W ⟨g2, q * 16, none⟩ y from fun q y hq h W hW => (At16.of_owns HOU.out HYL.out.symm hq h).fr hW)
        have HY := hid (show ∀ q, q < l.length → ∃ y, ys[q]? = some y ∧ y.length = 16 from fun q hq => ⟨_, List.getElem?_eq_getElem (by rw [HYL.out]; exact hq), HL.out.len _ (HP.out.mem_iff.1 (List.getElem_mem _))⟩)
        clear hx h16
        have he : ∀ W, (Op.equalIn 10000 51 (.agg (u8s x)) (.agg (u8s x))).run Try.prog W = .ok true W := fun W => by rw [eq51 x x H16.out H16.out W]; simp
        have hg := guard51
        by_cases hk0 : k = 0
        · have hd0 : decide (0 < k) = false := by simp [hk0]
          clear hk0
          go_wp2
          refine D.wp_region_mix [0, 0, 0, 1, 0, 0, 0, 1, 0, 0, 0, 0, 0, 0, 0, 0, 0, 1, 0, 0, 0, 1, 0, 0, 0, 0] (fun W => Fr (fun _ => False) w2 W) (by kernel_rfl) (by kernel_rfl) HF.out.drew ?_
          repeat (first
            | (refine C.wpMix_not (by decide) rfl ?_; simp only [Act.put, List.setIfInBounds_toArray, List.set_cons_zero, List.set_cons_succ])
            | (refine C.wpMix_read _ rfl rfl (fun W hS => load16 rfl rfl (HI.out W hS) H16.out) ?_; simp only [Act.put, List.setIfInBounds_toArray, List.set_cons_zero, List.set_cons_succ])
            | (refine C.wpMix_read _ rfl rfl (fun W hS => load16 rfl rfl (HLA.out _ _ HX.out W hS) H16.out) ?_; simp only [Act.put, List.setIfInBounds_toArray, List.set_cons_zero, List.set_cons_succ])
            | (refine' C.wpMix_value _ rfl rfl _ _; rotate_left; (solve | (intro W; go_simp) | (intro W; go_simp; with_reducible rfl)); simp only [Act.put, List.setIfInBounds_toArray, List.set_cons_zero, List.set_cons_succ]))
          refine C.wpMix_end ?_
          have HF4 := hid HF.out.drew
          clear hd0
          go_wp2
          go_loopw [6, 7, 8] (fun n m j wx => ∃ (j' c1 c2 : Nat), j' ≤ l.length ∧ c1 ≤ j' ∧ c2 ≤ j' ∧ j = .int .i64 j' ∧ n = .int .i64 c1 ∧ m = .int .i64 c2 ∧ RowKit.Hid (c1 = cntL (l.take j') x ∧ c2 = cntL (ys.take j') x ∧ Fr (fun _ => False) w2 wx)) (fun _ _ j _ => l.length - (intOf j).toNat)
          case atStart => exact ⟨0, 0, 0, by omega, by omega, by omega, rfl, rfl, rfl, hid ⟨rfl, rfl, HF4.out⟩⟩
          case round =>
            obtain ⟨j, c1, c2, hj, hc1, hc2, rfl, rfl, rfl, HC⟩ := hrel
            by_cases hjl : j < l.length
            · have hz : l[j]? = some l[j] := List.getElem?_eq_getElem hjl
              have hz16 := HL.out.len l[j] (List.getElem_mem hjl)
              generalize l[j] = z at hz hz16
              obtain ⟨y, hy, hy16⟩ := HY.out j hjl
              have HZ := hid hz
              have HZ16 := hid hz16
              have HYY := hid hy
              have HY16 := hid hy16
              have he1 := fun W => eq51 z x HZ16.out H16.out W
              have he2 := fun W => eq51 y x HY16.out H16.out W
              clear hz hz16 hy hy16 he
              by_cases hzx : z = x
              · have q1 : (z == x) = true := by simpa using hzx
                have t1 := cntL_take HZ.out x
                rw [if_pos hzx] at t1
                have T1 := hid t1
                rw [q1] at he1
                clear hzx q1 t1
                by_cases hyx : y = x
                · have q2 : (y == x) = true := by simpa using hyx
                  have t2 := cntL_take HYY.out x
                  rw [if_pos hyx] at t2
                  have T2 := hid t2
                  rw [q2] at he2
                  clear hyx q2 t2
                  go_wp2
                  refine D.wp_region_mix [0, 0, 0, 1, 0, 0, 0, 1, 0] (fun W => Fr (fun _ => False) w2 W) (by kernel_rfl) (by kernel_rfl) HC.out.2.2.drew ?_
                  repeat (first
                    | (refine C.wpMix_read _ rfl rfl (fun W hS => load16 rfl rfl (HLA.out _ _ HZ.out W hS) HZ16.out) ?_; simp only [Act.put, List.setIfInBounds_toArray, List.set_cons_zero, List.set_cons_succ])
                    | (refine C.wpMix_read _ rfl rfl (fun W hS => load16 rfl rfl (HLA.out _ _ HX.out W hS) H16.out) ?_; simp only [Act.put, List.setIfInBounds_toArray, List.set_cons_zero, List.set_cons_succ])
                    | (refine' C.wpMix_value _ rfl rfl _ _; rotate_left; (solve | (intro W; go_simp) | (intro W; go_simp; with_reducible rfl)); simp only [Act.put, List.setIfInBounds_toArray, List.set_cons_zero, List.set_cons_succ]))
                  refine C.wpMix_end ?_
                  go_wp2
                  refine D.wp_region_mix [0, 0, 0, 1, 0, 0, 0, 1, 0] (fun W => Fr (fun _ => False) w2 W) (by kernel_rfl) (by kernel_rfl) HC.out.2.2.drew.drew ?_
                  repeat (first
                    | (refine C.wpMix_read _ rfl rfl (fun W hS => load16 rfl rfl (HOO.out _ _ HYY.out HY16.out W hS) HY16.out) ?_; simp only [Act.put, List.setIfInBounds_toArray, List.set_cons_zero, List.set_cons_succ])
                    | (refine C.wpMix_read _ rfl rfl (fun W hS => load16 rfl rfl (HLA.out _ _ HX.out W hS) H16.out) ?_; simp only [Act.put, List.setIfInBounds_toArray, List.set_cons_zero, List.set_cons_succ])
                    | (refine' C.wpMix_value _ rfl rfl _ _; rotate_left; (solve | (intro W; go_simp) | (intro W; go_simp; with_reducible rfl)); simp only [Act.put, List.setIfInBounds_toArray, List.set_cons_zero, List.set_cons_succ]))
                  refine C.wpMix_end ?_
                  go_wp2
                  go_roundw
                  case rel => exact ⟨j + 1, c1 + 1, c2 + 1, by omega, by omega, by omega, by go_num, by go_num, by go_num, hid ⟨by have := T1.out; have := HC.out.1; omega, by have := T2.out; have := HC.out.2.1; omega, HC.out.2.2.drew.drew⟩⟩
                  case measure => simp [intOf]; omega
                · have q2 : (y == x) = false := by simpa using hyx
                  have t2 := cntL_take HYY.out x
                  rw [if_neg hyx] at t2
                  have T2 := hid t2
                  rw [q2] at he2
                  clear hyx q2 t2
                  go_wp2
                  refine D.wp_region_mix [0, 0, 0, 1, 0, 0, 0, 1, 0] (fun W => Fr (fun _ => False) w2 W) (by kernel_rfl) (by kernel_rfl) HC.out.2.2.drew ?_
                  repeat (first
                    | (refine C.wpMix_read _ rfl rfl (fun W hS => load16 rfl rfl (HLA.out _ _ HZ.out W hS) HZ16.out) ?_; simp only [Act.put, List.setIfInBounds_toArray, List.set_cons_zero, List.set_cons_succ])
                    | (refine C.wpMix_read _ rfl rfl (fun W hS => load16 rfl rfl (HLA.out _ _ HX.out W hS) H16.out) ?_; simp only [Act.put, List.setIfInBounds_toArray, List.set_cons_zero, List.set_cons_succ])
                    | (refine' C.wpMix_value _ rfl rfl _ _; rotate_left; (solve | (intro W; go_simp) | (intro W; go_simp; with_reducible rfl)); simp only [Act.put, List.setIfInBounds_toArray, List.set_cons_zero, List.set_cons_succ]))
                  refine C.wpMix_end ?_
                  go_wp2
                  refine D.wp_region_mix [0, 0, 0, 1, 0, 0, 0, 1, 0] (fun W => Fr (fun _ => False) w2 W) (by kernel_rfl) (by kernel_rfl) HC.out.2.2.drew.drew ?_
                  repeat (first
                    | (refine C.wpMix_read _ rfl rfl (fun W hS => load16 rfl rfl (HOO.out _ _ HYY.out HY16.out W hS) HY16.out) ?_; simp only [Act.put, List.setIfInBounds_toArray, List.set_cons_zero, List.set_cons_succ])
                    | (refine C.wpMix_read _ rfl rfl (fun W hS => load16 rfl rfl (HLA.out _ _ HX.out W hS) H16.out) ?_; simp only [Act.put, List.setIfInBounds_toArray, List.set_cons_zero, List.set_cons_succ])
                    | (refine' C.wpMix_value _ rfl rfl _ _; rotate_left; (solve | (intro W; go_simp) | (intro W; go_simp; with_reducible rfl)); simp only [Act.put, List.setIfInBounds_toArray, List.set_cons_zero, List.set_cons_succ]))
                  refine C.wpMix_end ?_
                  go_wp2
                  go_roundw
                  case rel => exact ⟨j + 1, c1 + 1, c2, by omega, by omega, by omega, by go_num, by go_num, by go_num, hid ⟨by have := T1.out; have := HC.out.1; omega, by have := T2.out; have := HC.out.2.1; omega, HC.out.2.2.drew.drew⟩⟩
                  case measure => simp [intOf]; omega
              · have q1 : (z == x) = false := by simpa using hzx
                have t1 := cntL_take HZ.out x
                rw [if_neg hzx] at t1
                have T1 := hid t1
                rw [q1] at he1
                clear hzx q1 t1
                by_cases hyx : y = x
                · have q2 : (y == x) = true := by simpa using hyx
                  have t2 := cntL_take HYY.out x
                  rw [if_pos hyx] at t2
                  have T2 := hid t2
                  rw [q2] at he2
                  clear hyx q2 t2
                  go_wp2
                  refine D.wp_region_mix [0, 0, 0, 1, 0, 0, 0, 1, 0] (fun W => Fr (fun _ => False) w2 W) (by kernel_rfl) (by kernel_rfl) HC.out.2.2.drew ?_
                  repeat (first
                    | (refine C.wpMix_read _ rfl rfl (fun W hS => load16 rfl rfl (HLA.out _ _ HZ.out W hS) HZ16.out) ?_; simp only [Act.put, List.setIfInBounds_toArray, List.set_cons_zero, List.set_cons_succ])
                    | (refine C.wpMix_read _ rfl rfl (fun W hS => load16 rfl rfl (HLA.out _ _ HX.out W hS) H16.out) ?_; simp only [Act.put, List.setIfInBounds_toArray, List.set_cons_zero, List.set_cons_succ])
                    | (refine' C.wpMix_value _ rfl rfl _ _; rotate_left; (solve | (intro W; go_simp) | (intro W; go_simp; with_reducible rfl)); simp only [Act.put, List.setIfInBounds_toArray, List.set_cons_zero, List.set_cons_succ]))
                  refine C.wpMix_end ?_
                  go_wp2
                  refine D.wp_region_mix [0, 0, 0, 1, 0, 0, 0, 1, 0] (fun W => Fr (fun _ => False) w2 W) (by kernel_rfl) (by kernel_rfl) HC.out.2.2.drew.drew ?_
                  repeat (first
                    | (refine C.wpMix_read _ rfl rfl (fun W hS => load16 rfl rfl (HOO.out _ _ HYY.out HY16.out W hS) HY16.out) ?_; simp only [Act.put, List.setIfInBounds_toArray, List.set_cons_zero, List.set_cons_succ])
                    | (refine C.wpMix_read _ rfl rfl (fun W hS => load16 rfl rfl (HLA.out _ _ HX.out W hS) H16.out) ?_; simp only [Act.put, List.setIfInBounds_toArray, List.set_cons_zero, List.set_cons_succ])
                    | (refine' C.wpMix_value _ rfl rfl _ _; rotate_left; (solve | (intro W; go_simp) | (intro W; go_simp; with_reducible rfl)); simp only [Act.put, List.setIfInBounds_toArray, List.set_cons_zero, List.set_cons_succ]))
                  refine C.wpMix_end ?_
                  go_wp2
                  go_roundw
                  case rel => exact ⟨j + 1, c1, c2 + 1, by omega, by omega, by omega, by go_num, by go_num, by go_num, hid ⟨by have := T1.out; have := HC.out.1; omega, by have := T2.out; have := HC.out.2.1; omega, HC.out.2.2.drew.drew⟩⟩
                  case measure => simp [intOf]; omega
                · have q2 : (y == x) = false := by simpa using hyx
                  have t2 := cntL_take HYY.out x
                  rw [if_neg hyx] at t2
                  have T2 := hid t2
                  rw [q2] at he2
                  clear hyx q2 t2
                  go_wp2
                  refine D.wp_region_mix [0, 0, 0, 1, 0, 0, 0, 1, 0] (fun W => Fr (fun _ => False) w2 W) (by kernel_rfl) (by kernel_rfl) HC.out.2.2.drew ?_
                  repeat (first
                    | (refine C.wpMix_read _ rfl rfl (fun W hS => load16 rfl rfl (HLA.out _ _ HZ.out W hS) HZ16.out) ?_; simp only [Act.put, List.setIfInBounds_toArray, List.set_cons_zero, List.set_cons_succ])
                    | (refine C.wpMix_read _ rfl rfl (fun W hS => load16 rfl rfl (HLA.out _ _ HX.out W hS) H16.out) ?_; simp only [Act.put, List.setIfInBounds_toArray, List.set_cons_zero, List.set_cons_succ])
                    | (refine' C.wpMix_value _ rfl rfl _ _; rotate_left; (solve | (intro W; go_simp) | (intro W; go_simp; with_reducible rfl)); simp only [Act.put, List.setIfInBounds_toArray, List.set_cons_zero, List.set_cons_succ]))
                  refine C.wpMix_end ?_
                  go_wp2
                  refine D.wp_region_mix [0, 0, 0, 1, 0, 0, 0, 1, 0] (fun W => Fr (fun _ => False) w2 W) (by kernel_rfl) (by kernel_rfl) HC.out.2.2.drew.drew ?_
                  repeat (first
                    | (refine C.wpMix_read _ rfl rfl (fun W hS => load16 rfl rfl (HOO.out _ _ HYY.out HY16.out W hS) HY16.out) ?_; simp only [Act.put, List.setIfInBounds_toArray, List.set_cons_zero, List.set_cons_succ])
                    | (refine C.wpMix_read _ rfl rfl (fun W hS => load16 rfl rfl (HLA.out _ _ HX.out W hS) H16.out) ?_; simp only [Act.put, List.setIfInBounds_toArray, List.set_cons_zero, List.set_cons_succ])
                    | (refine' C.wpMix_value _ rfl rfl _ _; rotate_left; (solve | (intro W; go_simp) | (intro W; go_simp; with_reducible rfl)); simp only [Act.put, List.setIfInBounds_toArray, List.set_cons_zero, List.set_cons_succ]))
                  refine C.wpMix_end ?_
                  go_wp2
                  go_roundw
                  case rel => exact ⟨j + 1, c1, c2, by omega, by omega, by omega, by go_num, by go_num, by go_num, hid ⟨by have := T1.out; have := HC.out.1; omega, by have := T2.out; have := HC.out.2.1; omega, HC.out.2.2.drew.drew⟩⟩
                  case measure => simp [intOf]; omega
            · obtain rfl : j = l.length := by omega
              have hcc : c1 = c2 := by
                have h1 := HC.out.1
                have h2 := HC.out.2.1
                rw [List.take_length] at h1
                rw [← HYL.out, List.take_length, cntL_perm HP.out x] at h2
                omega
              subst hcc
              go_wp2
              go_roundw
              case rel => exact ⟨k + 1, by omega, by go_num, hid HC.out.2.2⟩
              case measure => simp [intOf]; omega
        · have hd0 : decide (0 < k) = true := by simp; omega
          obtain ⟨q, hq⟩ : ∃ q : Nat, k = q + 1 := ⟨k - 1, by omega⟩
          obtain ⟨y0, hy0, l0⟩ := HY.out q (by omega)
          obtain ⟨y1, hy1, l1⟩ := HY.out k hlt
          have hle := order_next HO.out hy0 (by rw [← hq]; exact hy1) l0 l1
          have hdc : decide (0 < cmpL y0 y1) = false := by simp; omega
          have hsub : (k : Int) - 1 = (q : Int) := by omega
          have hw : IntKind.i64.wrap (q : Int) = (q : Int) := by unfold IntKind.wrap; simp [IntKind.bits, IntKind.signed]; omega
          have hql : q < l.length := by omega
          have HQ := hid hq
          have HY0 := hid hy0
          have HY1 := hid hy1
          have HL0 := hid l0
          have HL1 := hid l1
          clear hk0 hq hy0 hy1 l0 l1 hle
          go_wp2
          refine D.wp_region_mix [0, 0, 0, 1, 0, 0, 0, 1, 0, 0, 0, 0, 0, 0, 0, 0, 0, 1, 0, 0, 0, 1, 2, 0, 0, 0] (fun W => Fr (fun _ => False) w2 W) (by kernel_rfl) (by kernel_rfl) HF.out.drew ?_
          repeat (first
            | (refine C.wpMix_read _ rfl rfl (fun W hS => load16 rfl rfl (HI.out W hS) H16.out) ?_; simp only [Act.put, List.setIfInBounds_toArray, List.set_cons_zero, List.set_cons_succ])
            | (refine C.wpMix_read _ rfl rfl (fun W hS => load16 rfl rfl (HLA.out _ _ HX.out W hS) H16.out) ?_; simp only [Act.put, List.setIfInBounds_toArray, List.set_cons_zero, List.set_cons_succ])
            | (refine C.wpMix_read _ rfl rfl (fun W hS => load16 rfl rfl (HOO.out _ _ HY0.out HL0.out W hS) HL0.out) ?_; simp only [Act.put, List.setIfInBounds_toArray, List.set_cons_zero, List.set_cons_succ])
            | (refine C.wpMix_read _ rfl rfl (fun W hS => load16 rfl rfl (HOO.out _ _ HY1.out HL1.out W hS) HL1.out) ?_; simp only [Act.put, List.setIfInBounds_toArray, List.set_cons_zero, List.set_cons_succ])
            | (refine' C.wpMix_value _ rfl rfl _ _; rotate_left; (solve | (intro W; go_simp) | (intro W; go_simp; with_reducible rfl)); simp only [Act.put, List.setIfInBounds_toArray, List.set_cons_zero, List.set_cons_succ]))
          refine C.wpMix_call 21 #[.agg (u8s y0), .agg (u8s y1)] (by decide) rfl (by go_simp) ?_
          refine (refCompare_any y0 y1 wr.drew HL0.out HL1.out).mono ?_
          rintro e w4 ⟨rfl, hb4⟩
          have HF4 := hid (fr_below HF.out.drew hb4)
          refine ⟨_, rfl, (fun _ => HF4.out), ?_⟩
          simp only [Act.put, List.setIfInBounds_toArray, List.set_cons_zero, List.set_cons_succ]
          repeat (first
            | (refine' C.wpMix_value _ rfl rfl _ _; rotate_left; (solve | (intro W; go_simp) | (intro W; go_simp; with_reducible rfl)); simp only [Act.put, List.setIfInBounds_toArray, List.set_cons_zero, List.set_cons_succ]))
          refine C.wpMix_end ?_
          clear hd0 hdc hsub hw hb4
          go_wp2
          go_loopw [6, 7, 8] (fun n m j wx => ∃ (j' c1 c2 : Nat), j' ≤ l.length ∧ c1 ≤ j' ∧ c2 ≤ j' ∧ j = .int .i64 j' ∧ n = .int .i64 c1 ∧ m = .int .i64 c2 ∧ RowKit.Hid (c1 = cntL (l.take j') x ∧ c2 = cntL (ys.take j') x ∧ Fr (fun _ => False) w2 wx)) (fun _ _ j _ => l.length - (intOf j).toNat)
          case atStart => exact ⟨0, 0, 0, by omega, by omega, by omega, rfl, rfl, rfl, hid ⟨rfl, rfl, HF4.out⟩⟩
          case round =>
            obtain ⟨j, c1, c2, hj, hc1, hc2, rfl, rfl, rfl, HC⟩ := hrel
            by_cases hjl : j < l.length
            · have hz : l[j]? = some l[j] := List.getElem?_eq_getElem hjl
              have hz16 := HL.out.len l[j] (List.getElem_mem hjl)
              generalize l[j] = z at hz hz16
              obtain ⟨y, hy, hy16⟩ := HY.out j hjl
              have HZ := hid hz
              have HZ16 := hid hz16
              have HYY := hid hy
              have HY16 := hid hy16
              have he1 := fun W => eq51 z x HZ16.out H16.out W
              have he2 := fun W => eq51 y x HY16.out H16.out W
              clear hz hz16 hy hy16 he
              by_cases hzx : z = x
              · have q1 : (z == x) = true := by simpa using hzx
                have t1 := cntL_take HZ.out x
                rw [if_pos hzx] at t1
                have T1 := hid t1
                rw [q1] at he1
                clear hzx q1 t1
                by_cases hyx : y = x
                · have q2 : (y == x) = true := by simpa using hyx
                  have t2 := cntL_take HYY.out x
                  rw [if_pos hyx] at t2
                  have T2 := hid t2
                  rw [q2] at he2
                  clear hyx q2 t2
                  go_wp2
                  refine D.wp_region_mix [0, 0, 0, 1, 0, 0, 0, 1, 0] (fun W => Fr (fun _ => False) w2 W) (by kernel_rfl) (by kernel_rfl) HC.out.2.2.drew ?_
                  repeat (first
                    | (refine C.wpMix_read _ rfl rfl (fun W hS => load16 rfl rfl (HLA.out _ _ HZ.out W hS) HZ16.out) ?_; simp only [Act.put, List.setIfInBounds_toArray, List.set_cons_zero, List.set_cons_succ])
                    | (refine C.wpMix_read _ rfl rfl (fun W hS => load16 rfl rfl (HLA.out _ _ HX.out W hS) H16.out) ?_; simp only [Act.put, List.setIfInBounds_toArray, List.set_cons_zero, List.set_cons_succ])
                    | (refine' C.wpMix_value _ rfl rfl _ _; rotate_left; (solve | (intro W; go_simp) | (intro W; go_simp; with_reducible rfl)); simp only [Act.put, List.setIfInBounds_toArray, List.set_cons_zero, List.set_cons_succ]))
                  refine C.wpMix_end ?_
                  go_wp2
                  refine D.wp_region_mix [0, 0, 0, 1, 0, 0, 0, 1, 0] (fun W => Fr (fun _ => False) w2 W) (by kernel_rfl) (by kernel_rfl) HC.out.2.2.drew.drew ?_
                  repeat (first
                    | (refine C.wpMix_read _ rfl rfl (fun W hS => load16 rfl rfl (HOO.out _ _ HYY.out HY16.out W hS) HY16.out) ?_; simp only [Act.put, List.setIfInBounds_toArray, List.set_cons_zero, List.set_cons_succ])
                    | (refine C.wpMix_read _ rfl rfl (fun W hS => load16 rfl rfl (HLA.out _ _ HX.out W hS) H16.out) ?_; simp only [Act.put, List.setIfInBounds_toArray, List.set_cons_zero, List.set_cons_succ])
                    | (refine' C.wpMix_value _ rfl rfl _ _; rotate_left; (solve | (intro W; go_simp) | (intro W; go_simp; with_reducible rfl)); simp only [Act.put, List.setIfInBounds_toArray, List.set_cons_zero, List.set_cons_succ]))
                  refine C.wpMix_end ?_
                  go_wp2
                  go_roundw
                  case rel => exact ⟨j + 1, c1 + 1, c2 + 1, by omega, by omega, by omega, by go_num, by go_num, by go_num, hid ⟨by have := T1.out; have := HC.out.1; omega, by have := T2.out; have := HC.out.2.1; omega, HC.out.2.2.drew.drew⟩⟩
                  case measure => simp [intOf]; omega
                · have q2 : (y == x) = false := by simpa using hyx
                  have t2 := cntL_take HYY.out x
                  rw [if_neg hyx] at t2
                  have T2 := hid t2
                  rw [q2] at he2
                  clear hyx q2 t2
                  go_wp2
                  refine D.wp_region_mix [0, 0, 0, 1, 0, 0, 0, 1, 0] (fun W => Fr (fun _ => False) w2 W) (by kernel_rfl) (by kernel_rfl) HC.out.2.2.drew ?_
                  repeat (first
                    | (refine C.wpMix_read _ rfl rfl (fun W hS => load16 rfl rfl (HLA.out _ _ HZ.out W hS) HZ16.out) ?_; simp only [Act.put, List.setIfInBounds_toArray, List.set_cons_zero, List.set_cons_succ])
                    | (refine C.wpMix_read _ rfl rfl (fun W hS => load16 rfl rfl (HLA.out _ _ HX.out W hS) H16.out) ?_; simp only [Act.put, List.setIfInBounds_toArray, List.set_cons_zero, List.set_cons_succ])
                    | (refine' C.wpMix_value _ rfl rfl _ _; rotate_left; (solve | (intro W; go_simp) | (intro W; go_simp; with_reducible rfl)); simp only [Act.put, List.setIfInBounds_toArray, List.set_cons_zero, List.set_cons_succ]))
                  refine C.wpMix_end ?_
                  go_wp2
                  refine D.wp_region_mix [0, 0, 0, 1, 0, 0, 0, 1, 0] (fun W => Fr (fun _ => False) w2 W) (by kernel_rfl) (by kernel_rfl) HC.out.2.2.drew.drew ?_
                  repeat (first
                    | (refine C.wpMix_read _ rfl rfl (fun W hS => load16 rfl rfl (HOO.out _ _ HYY.out HY16.out W hS) HY16.out) ?_; simp only [Act.put, List.setIfInBounds_toArray, List.set_cons_zero, List.set_cons_succ])
                    | (refine C.wpMix_read _ rfl rfl (fun W hS => load16 rfl rfl (HLA.out _ _ HX.out W hS) H16.out) ?_; simp only [Act.put, List.setIfInBounds_toArray, List.set_cons_zero, List.set_cons_succ])
                    | (refine' C.wpMix_value _ rfl rfl _ _; rotate_left; (solve | (intro W; go_simp) | (intro W; go_simp; with_reducible rfl)); simp only [Act.put, List.setIfInBounds_toArray, List.set_cons_zero, List.set_cons_succ]))
                  refine C.wpMix_end ?_
                  go_wp2
                  go_roundw
                  case rel => exact ⟨j + 1, c1 + 1, c2, by omega, by omega, by omega, by go_num, by go_num, by go_num, hid ⟨by have := T1.out; have := HC.out.1; omega, by have := T2.out; have := HC.out.2.1; omega, HC.out.2.2.drew.drew⟩⟩
                  case measure => simp [intOf]; omega
              · have q1 : (z == x) = false := by simpa using hzx
                have t1 := cntL_take HZ.out x
                rw [if_neg hzx] at t1
                have T1 := hid t1
                rw [q1] at he1
                clear hzx q1 t1
                by_cases hyx : y = x
                · have q2 : (y == x) = true := by simpa using hyx
                  have t2 := cntL_take HYY.out x
                  rw [if_pos hyx] at t2
                  have T2 := hid t2
                  rw [q2] at he2
                  clear hyx q2 t2
                  go_wp2
                  refine D.wp_region_mix [0, 0, 0, 1, 0, 0, 0, 1, 0] (fun W => Fr (fun _ => False) w2 W) (by kernel_rfl) (by kernel_rfl) HC.out.2.2.drew ?_
                  repeat (first
                    | (refine C.wpMix_read _ rfl rfl (fun W hS => load16 rfl rfl (HLA.out _ _ HZ.out W hS) HZ16.out) ?_; simp only [Act.put, List.setIfInBounds_toArray, List.set_cons_zero, List.set_cons_succ])
                    | (refine C.wpMix_read _ rfl rfl (fun W hS => load16 rfl rfl (HLA.out _ _ HX.out W hS) H16.out) ?_; simp only [Act.put, List.setIfInBounds_toArray, List.set_cons_zero, List.set_cons_succ])
                    | (refine' C.wpMix_value _ rfl rfl _ _; rotate_left; (solve | (intro W; go_simp) | (intro W; go_simp; with_reducible rfl)); simp only [Act.put, List.setIfInBounds_toArray, List.set_cons_zero, List.set_cons_succ]))
                  refine C.wpMix_end ?_
                  go_wp2
                  refine D.wp_region_mix [0, 0, 0, 1, 0, 0, 0, 1, 0] (fun W => Fr (fun _ => False) w2 W) (by kernel_rfl) (by kernel_rfl) HC.out.2.2.drew.drew ?_
                  repeat (first
                    | (refine C.wpMix_read _ rfl rfl (fun W hS => load16 rfl rfl (HOO.out _ _ HYY.out HY16.out W hS) HY16.out) ?_; simp only [Act.put, List.setIfInBounds_toArray, List.set_cons_zero, List.set_cons_succ])
                    | (refine C.wpMix_read _ rfl rfl (fun W hS => load16 rfl rfl (HLA.out _ _ HX.out W hS) H16.out) ?_; simp only [Act.put, List.setIfInBounds_toArray, List.set_cons_zero, List.set_cons_succ])
                    | (refine' C.wpMix_value _ rfl rfl _ _; rotate_left; (solve | (intro W; go_simp) | (intro W; go_simp; with_reducible rfl)); simp only [Act.put, List.setIfInBounds_toArray, List.set_cons_zero, List.set_cons_succ]))
                  refine C.wpMix_end ?_
                  go_wp2
                  go_roundw
                  case rel => exact ⟨j + 1, c1, c2 + 1, by omega, by omega, by omega, by go_num, by go_num, by go_num, hid ⟨by have := T1.out; have := HC.out.1; omega, by have := T2.out; have := HC.out.2.1; omega, HC.out.2.2.drew.drew⟩⟩
                  case measure => simp [intOf]; omega
                · have q2 : (y == x) = false := by simpa using hyx
                  have t2 := cntL_take HYY.out x
                  rw [if_neg hyx] at t2
                  have T2 := hid t2
                  rw [q2] at he2
                  clear hyx q2 t2
                  go_wp2
                  refine D.wp_region_mix [0, 0, 0, 1, 0, 0, 0, 1, 0] (fun W => Fr (fun _ => False) w2 W) (by kernel_rfl) (by kernel_rfl) HC.out.2.2.drew ?_
                  repeat (first
                    | (refine C.wpMix_read _ rfl rfl (fun W hS => load16 rfl rfl (HLA.out _ _ HZ.out W hS) HZ16.out) ?_; simp only [Act.put, List.setIfInBounds_toArray, List.set_cons_zero, List.set_cons_succ])
                    | (refine C.wpMix_read _ rfl rfl (fun W hS => load16 rfl rfl (HLA.out _ _ HX.out W hS) H16.out) ?_; simp only [Act.put, List.setIfInBounds_toArray, List.set_cons_zero, List.set_cons_succ])
                    | (refine' C.wpMix_value _ rfl rfl _ _; rotate_left; (solve | (intro W; go_simp) | (intro W; go_simp; with_reducible rfl)); simp only [Act.put, List.setIfInBounds_toArray, List.set_cons_zero, List.set_cons_succ]))
                  refine C.wpMix_end ?_
                  go_wp2
                  refine D.wp_region_mix [0, 0, 0, 1, 0, 0, 0, 1, 0] (fun W => Fr (fun _ => False) w2 W) (by kernel_rfl) (by kernel_rfl) HC.out.2.2.drew.drew ?_
                  repeat (first
                    | (refine C.wpMix_read _ rfl rfl (fun W hS => load16 rfl rfl (HOO.out _ _ HYY.out HY16.out W hS) HY16.out) ?_; simp only [Act.put, List.setIfInBounds_toArray, List.set_cons_zero, List.set_cons_succ])
                    | (refine C.wpMix_read _ rfl rfl (fun W hS => load16 rfl rfl (HLA.out _ _ HX.out W hS) H16.out) ?_; simp only [Act.put, List.setIfInBounds_toArray, List.set_cons_zero, List.set_cons_succ])
                    | (refine' C.wpMix_value _ rfl rfl _ _; rotate_left; (solve | (intro W; go_simp) | (intro W; go_simp; with_reducible rfl)); simp only [Act.put, List.setIfInBounds_toArray, List.set_cons_zero, List.set_cons_succ]))
                  refine C.wpMix_end ?_
                  go_wp2
                  go_roundw
                  case rel => exact ⟨j + 1, c1, c2, by omega, by omega, by omega, by go_num, by go_num, by go_num, hid ⟨by have := T1.out; have := HC.out.1; omega, by have := T2.out; have := HC.out.2.1; omega, HC.out.2.2.drew.drew⟩⟩
                  case measure => simp [intOf]; omega
            · obtain rfl : j = l.length := by omega
              have hcc : c1 = c2 := by
                have h1 := HC.out.1
                have h2 := HC.out.2.1
                rw [List.take_length] at h1
                rw [← HYL.out, List.take_length, cntL_perm HP.out x] at h2
                omega
              subst hcc
              go_wp2
              go_roundw
              case rel => exact ⟨k + 1, by omega, by go_num, hid HC.out.2.2⟩
              case measure => simp [intOf]; omega
      · obtain rfl : k = l.length := by omega
        go_wp2_with fail
        refine (awakeG_any _).mono ?_
        rintro e w3 ⟨rfl, hb3⟩
        have HB3 := hid (below_fr HB2.out HF.out)
        go_wp2
        go_ret
        exact ⟨rfl, HB3.out.trans (hb3.mono HB3.out.size)⟩
  · clear hl hc hll
    go_enter Try.func7, Try.ntmps7
    go_wp2_with fail
    refine (awakeG_any _).mono ?_
    rintro e w3 ⟨rfl, hb3⟩
    have HB3 := hid hb3
    clear hb3
    go_wp2
    go_ret
    exact ⟨rfl, HB3.out⟩
end Go.Proofs.Ytmmmjkmhlkkdkaa
