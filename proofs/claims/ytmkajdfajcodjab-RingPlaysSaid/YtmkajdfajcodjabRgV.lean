/-
  RingPlays' walk.
-/
import Derived.Test.YtmkajdfajcodjabRgS
namespace Go.Proofs.Ytmkajdfajcodjab
open Go Go.ChangeShapes Go.WideShapes Go.ChangeAt Go.RowKit

set_option maxRecDepth 100000 in
set_option maxHeartbeats 16000000 in
theorem RingPlays_any (w : World) (most : Int) (sv : Value) (l : List Int) (hS : Tl iv w.heap.size w sv l) :
    Calls Try.prog 3 #[.int .i64 most, sv] w fun e w' => e = .returned (.bool true) ∧ Below w.heap.size w w' := by
  obtain ⟨sa, sc, rfl, hsc, hsc2, hat⟩ := hS.ex
  have HNW := hid (Rnew_any w most)
  have HNF := hid (fun W => RfNew_any W most)
  obtain ⟨n, hn⟩ : ∃ n, n = l.length := ⟨_, rfl⟩
  rw [← hn] at hsc hat ⊢
  have HN := hid hn
  have HAT := hid hat
  have hcl : ∀ k : Nat, k ≤ 200 → IntKind.i64.wrap ((k : Int) + 1) = (k : Int) + 1 := fun k hk => IntWalk.i64_in _ (by omega)
  have HW := hid hcl
  clear hS hat hn hcl
  go_enter Try.func3, Try.ntmps3
  go_wp2_with fail
  refine HNW.out.mono ?_
  rintro e w1 ⟨hb1, h1⟩
  by_cases hmo : 1 ≤ most ∧ most ≤ 65536
  · rw [if_pos hmo] at h1
    obtain ⟨v, S1, rfl, hS1, h1⟩ := h1
    have H1 := hid (show RgB w.heap.size w1 v most.toNat [] from ⟨S1, hS1, h1⟩)
    have HB1 := hid hb1
    have HMO := hid hmo
    clear h1 hS1 hb1 hmo HNW
    go_wp2_with fail
    refine (HNF.out w1).mono ?_
    rintro e w2 ⟨hb2, h2⟩
    rw [if_pos HMO.out] at h2
    obtain ⟨vx, S, rfl, hS2, hx⟩ := h2
    have hP0 := pair_new HMO.out H1.out HB1.out hb2 hS2 hx
    obtain ⟨p, rfl⟩ := H1.out.ptr
    obtain ⟨px, lv, rfl, hx1⟩ := hx
    obtain ⟨mo, hmo⟩ : ∃ mo, mo = most.toNat := ⟨_, rfl⟩
    rw [← hmo] at hP0
    have HP := hid (show PrI w w2 (.pointer (some ⟨p, 0, none⟩)) (.pointer (some ⟨px, 0, none⟩)) mo [] [] from hP0)
    clear hb2 hS2 hP0 H1 HB1 HNF hx1 hmo HMO
    go_wp2_with fail
    go_loopw [8] (fun i wr => ∃ (k : Nat) (q : List Int), k ≤ n ∧ k ≤ 200 ∧ i = .int .i64 k ∧ q.length ≤ k ∧ RowKit.Hid (PrI w wr (.pointer (some ⟨p, 0, none⟩)) (.pointer (some ⟨px, 0, none⟩)) mo q q)) (fun i _ => 200 - (intOf i).toNat)
    case atStart => exact ⟨0, [], by omega, by omega, rfl, by simp, HP⟩
    case round =>
      obtain ⟨k, q, hkn, hk2, rfl, hql, HI⟩ := hrel
      by_cases hgo : k < n ∧ k < 200
      · obtain ⟨hg1, hg2⟩ := hgo
        have hx : l[k]? = some (l[k]'(by rw [← HN.out]; exact hg1)) := List.getElem?_eq_getElem _
        generalize l[k]'(by rw [← HN.out]; exact hg1) = x at hx
        obtain ⟨b, o, rfl, hbl, hcs⟩ := HAT.out (by omega)
        have cx : wr.cell? ⟨b, o + k, none⟩ = some (iv x) := (World.cell?_of_block (w := w) (w' := wr) (a := ⟨b, o + k, none⟩) (HI.out.bel.block b hbl)).trans (hcs k x hx)
        have hwk := HW.out k (by omega)
        have HBL := hid hbl
        have HCX := hid (hcs k x hx)
        clear hx hcs hbl
        by_cases h0 : 0 ≤ x
        · have d0 : decide (0 ≤ x) = true := by simpa using h0
          clear h0
          by_cases hq : q.length < mo
          · have HP1 : RowKit.Hid (Calls Try.prog 10 #[.pointer (some ⟨p, 0, none⟩), .int .i64 x] wr fun e w' => e = .returned (.int .i64 0) ∧ PrI w w' (.pointer (some ⟨p, 0, none⟩)) (.pointer (some ⟨px, 0, none⟩)) mo (q ++ [x]) q) := (HI.out.put1 x).mono (fun e w' h => by simpa only [if_pos hq] using h)
            have HP2 : RowKit.Hid (∀ W, PrI w W (.pointer (some ⟨p, 0, none⟩)) (.pointer (some ⟨px, 0, none⟩)) mo (q ++ [x]) q → Calls Try.prog 11 #[.pointer (some ⟨px, 0, none⟩), .int .i64 x] W fun e w' => e = .returned (.bool true) ∧ PrI w w' (.pointer (some ⟨p, 0, none⟩)) (.pointer (some ⟨px, 0, none⟩)) mo (q ++ [x]) (q ++ [x])) := fun W h => (h.put2 x).mono (fun e w' h => by simpa only [if_pos hq, decide_eq_true hq] using h)
            clear HI hq
            go_upto_region 16 with (first
              | (go_at_call 10; refine HP1.out.mono ?_; rintro e w5 ⟨rfl, h5⟩; have cx5 : w5.cell? ⟨b, o + k, none⟩ = some (iv x) := (World.cell?_of_block (w := w) (w' := w5) (a := ⟨b, o + k, none⟩) (h5.bel.block b HBL.out)).trans (HCX.out); have HP3 := hid (HP2.out w5 h5); clear h5 HP1 cx)
              | (go_at_call 11; refine HP3.out.mono ?_; rintro e w6 ⟨rfl, h6⟩; have H6 := hid h6; clear h6 HP3 cx5)
              | fail)
            have hQl : (q ++ [x]).length ≤ k + 1 := by rw [List.length_append, List.length_singleton]; omega
            generalize q ++ [x] = Q at H6 hQl
            clear HP2 hql
            obtain ⟨px', la, lc, hpx, hla, hlc, hTW⟩ := H6.out.tw
            cases hpx
            have c6 := (hTW w6.drew ((Fr.refl _ _).drew)).1
            have HL := hid ((H6.out.no ((Fr.refl _ _).drew)).len (w := w6.drew))
            obtain ⟨N, hNe⟩ : ∃ N, N = Q.length := ⟨_, rfl⟩
            rw [← hNe] at hla hlc hTW c6 HL
            have hN2 : N ≤ 200 := by omega
            have HNE := hid hNe
            have HTW := hid hTW
            clear hTW hNe hla
            by_cases h5 : k % 5 = 0
            · have ht : (k : Int).tmod 5 = 0 := by have := Int.ofNat_tmod k 5; rw [h5] at this; exact this.symm
              clear h5
              refine D.wp_region_mix [0, 2, 0, 0, 0, 1, 0, 0, 0, 0, 0, 0, 0, 0, 2, 0, 0, 0, 1, 2, 0, 0, 0] (fun W => W.cell? ⟨px, 1, none⟩ = some (.slice la N lc)) (by kernel_rfl) (by kernel_rfl) c6 ?_
              repeat (first
                | (refine' C.wpMix_not (by decide) rfl _; simp only [Act.put, List.setIfInBounds_toArray, List.set_cons_zero, List.set_cons_succ])
                | (refine' C.wpMix_value _ rfl rfl _ _; rotate_left; (solve | (intro W; go_simp) | (intro W; go_simp; with_reducible rfl)); simp only [Act.put, List.setIfInBounds_toArray, List.set_cons_zero, List.set_cons_succ])
                | (refine' C.wpMix_read _ rfl rfl _ _; rotate_left; (solve | (rintro W h1; go_simp) | (rintro W h1; go_simp; with_reducible rfl)); simp only [Act.put, List.setIfInBounds_toArray, List.set_cons_zero, List.set_cons_succ]))
              refine C.wpMix_call 14 #[.pointer (some ⟨p, 0, none⟩)] (by decide) rfl (by go_simp) ?_
              refine HL.out.mono ?_
              rintro e w' ⟨rfl, rfl⟩
              refine ⟨_, rfl, fun _ => c6, ?_⟩
              simp only [Act.put, List.setIfInBounds_toArray, List.set_cons_zero, List.set_cons_succ]
              repeat (first
                | (refine' C.wpMix_not (by decide) rfl _; simp only [Act.put, List.setIfInBounds_toArray, List.set_cons_zero, List.set_cons_succ])
                | (refine' C.wpMix_value _ rfl rfl _ _; rotate_left; (solve | (intro W; go_simp) | (intro W; go_simp; with_reducible rfl)); simp only [Act.put, List.setIfInBounds_toArray, List.set_cons_zero, List.set_cons_succ])
                | (refine' C.wpMix_read _ rfl rfl _ _; rotate_left; (solve | (rintro W h1; go_simp) | (rintro W h1; go_simp; with_reducible rfl)); simp only [Act.put, List.setIfInBounds_toArray, List.set_cons_zero, List.set_cons_succ]))
              have R1 := hid (row_told (H6.out.rdq.no ((Fr.refl _ _).drew)) 999 (by omega))
              refine C.wpMix_call 16 #[.pointer (some ⟨p, 0, none⟩), .int .i64 999] (by decide) rfl (by go_simp) ?_
              refine R1.out.mono ?_
              rintro e W2 ⟨hb2, u2, rfl, t2⟩
              rw [List.take_of_length_le (by rw [← HNE.out]; omega)] at t2
              have hf2 : Fr (fun _ => False) w6 W2 := ((Fr.refl _ _).drew).trans (Fr.of_below hb2) (fun _ e _ => e)
              obtain ⟨c2, tl2⟩ := HTW.out W2 hf2
              refine ⟨_, rfl, fun _ => c2, ?_⟩
              simp only [Act.put, List.setIfInBounds_toArray, List.set_cons_zero, List.set_cons_succ]
              have S2 := hid (SameI_tl W2 _ _ Q t2 tl2)
              have HF2 := hid hf2
              clear hb2 t2 tl2 c2 hf2 R1
              repeat (first
                | (refine' C.wpMix_not (by decide) rfl _; simp only [Act.put, List.setIfInBounds_toArray, List.set_cons_zero, List.set_cons_succ])
                | (refine' C.wpMix_value _ rfl rfl _ _; rotate_left; (solve | (intro W; go_simp) | (intro W; go_simp; with_reducible rfl)); simp only [Act.put, List.setIfInBounds_toArray, List.set_cons_zero, List.set_cons_succ])
                | (refine' C.wpMix_read _ rfl rfl _ _; rotate_left; (solve | (rintro W h1; go_simp) | (rintro W h1; go_simp; with_reducible rfl)); simp only [Act.put, List.setIfInBounds_toArray, List.set_cons_zero, List.set_cons_succ]))
              refine C.wpMix_call 15 #[u2, .slice la N lc] (by decide) rfl (by go_simp) ?_
              refine S2.out.mono ?_
              rintro e W3 ⟨rfl, hb3⟩
              have hf3 : Fr (fun _ => False) w6 W3 := HF2.out.trans (Fr.of_below hb3) (fun _ e _ => e)
              refine ⟨_, rfl, fun _ => (HTW.out W3 hf3).1, ?_⟩
              simp only [Act.put, List.setIfInBounds_toArray, List.set_cons_zero, List.set_cons_succ]
              have H7 := hid (H6.out.no hf3)
              clear hb3 hf3 S2 HF2 H6
              repeat (first
                | (refine' C.wpMix_not (by decide) rfl _; simp only [Act.put, List.setIfInBounds_toArray, List.set_cons_zero, List.set_cons_succ])
                | (refine' C.wpMix_value _ rfl rfl _ _; rotate_left; (solve | (intro W; go_simp) | (intro W; go_simp; with_reducible rfl)); simp only [Act.put, List.setIfInBounds_toArray, List.set_cons_zero, List.set_cons_succ])
                | (refine' C.wpMix_read _ rfl rfl _ _; rotate_left; (solve | (rintro W h1; go_simp) | (rintro W h1; go_simp; with_reducible rfl)); simp only [Act.put, List.setIfInBounds_toArray, List.set_cons_zero, List.set_cons_succ]))
              refine C.wpMix_end ?_
              clear c6 ht
              go_wp2_with fail
              go_roundw
              case rel => exact ⟨k + 1, Q, by omega, by omega, by go_num, hQl, H7⟩
              case measure => simp [intOf]; omega
            · obtain ⟨r, hr⟩ : ∃ r, r = k % 5 := ⟨_, rfl⟩
              have ht : (k : Int).tmod 5 = (r : Int) := by have := Int.ofNat_tmod k 5; rw [← hr] at this; exact this.symm
              have hr0 : ¬ r = 0 := by rw [hr]; exact h5
              have hr5 : r < 5 := by rw [hr]; exact Nat.mod_lt _ (by decide)
              have hwr := IntWalk.i64_in (r : Int) (by omega)
              have hr0b : ((r : Int) == 0) = false := by simpa using hr0
              clear h5 hr hr5
              refine D.wp_region_mix [0, 2, 0, 0, 0, 1, 0, 0, 0, 0, 0, 0, 0, 0, 0, 0, 0, 0, 0, 0, 0, 0, 0] (fun W => W.cell? ⟨px, 1, none⟩ = some (.slice la N lc)) (by kernel_rfl) (by kernel_rfl) c6 ?_
              repeat (first
                | (refine' C.wpMix_not (by decide) rfl _; simp only [Act.put, List.setIfInBounds_toArray, List.set_cons_zero, List.set_cons_succ])
                | (refine' C.wpMix_value _ rfl rfl _ _; rotate_left; (solve | (intro W; go_simp) | (intro W; go_simp; with_reducible rfl)); simp only [Act.put, List.setIfInBounds_toArray, List.set_cons_zero, List.set_cons_succ])
                | (refine' C.wpMix_read _ rfl rfl _ _; rotate_left; (solve | (rintro W h1; go_simp) | (rintro W h1; go_simp; with_reducible rfl)); simp only [Act.put, List.setIfInBounds_toArray, List.set_cons_zero, List.set_cons_succ]))
              refine C.wpMix_call 14 #[.pointer (some ⟨p, 0, none⟩)] (by decide) rfl (by go_simp) ?_
              refine HL.out.mono ?_
              rintro e w' ⟨rfl, rfl⟩
              refine ⟨_, rfl, fun _ => c6, ?_⟩
              simp only [Act.put, List.setIfInBounds_toArray, List.set_cons_zero, List.set_cons_succ]
              repeat (first
                | (refine' C.wpMix_not (by decide) rfl _; simp only [Act.put, List.setIfInBounds_toArray, List.set_cons_zero, List.set_cons_succ])
                | (refine' C.wpMix_value _ rfl rfl _ _; rotate_left; (solve | (intro W; go_simp) | (intro W; go_simp; with_reducible rfl)); simp only [Act.put, List.setIfInBounds_toArray, List.set_cons_zero, List.set_cons_succ])
                | (refine' C.wpMix_read _ rfl rfl _ _; rotate_left; (solve | (rintro W h1; go_simp) | (rintro W h1; go_simp; with_reducible rfl)); simp only [Act.put, List.setIfInBounds_toArray, List.set_cons_zero, List.set_cons_succ]))
              refine C.wpMix_end ?_
              have H7 := hid (H6.out.no ((Fr.refl _ _).drew))
              clear c6 ht hwr H6
              go_wp2_with fail
              go_roundw
              case rel => exact ⟨k + 1, Q, by omega, by omega, by go_num, hQl, H7⟩
              case measure => simp [intOf]; omega
          · have HP1 : RowKit.Hid (Calls Try.prog 10 #[.pointer (some ⟨p, 0, none⟩), .int .i64 x] wr fun e w' => e = .returned (.int .i64 3) ∧ PrI w w' (.pointer (some ⟨p, 0, none⟩)) (.pointer (some ⟨px, 0, none⟩)) mo q q) := (HI.out.put1 x).mono (fun e w' h => by simpa only [if_neg hq] using h)
            have HP2 : RowKit.Hid (∀ W, PrI w W (.pointer (some ⟨p, 0, none⟩)) (.pointer (some ⟨px, 0, none⟩)) mo q q → Calls Try.prog 11 #[.pointer (some ⟨px, 0, none⟩), .int .i64 x] W fun e w' => e = .returned (.bool false) ∧ PrI w w' (.pointer (some ⟨p, 0, none⟩)) (.pointer (some ⟨px, 0, none⟩)) mo q q) := fun W h => (h.put2 x).mono (fun e w' h => by simpa only [if_neg hq, decide_eq_false hq] using h)
            clear HI hq
            go_upto_region 16 with (first
              | (go_at_call 10; refine HP1.out.mono ?_; rintro e w5 ⟨rfl, h5⟩; have cx5 : w5.cell? ⟨b, o + k, none⟩ = some (iv x) := (World.cell?_of_block (w := w) (w' := w5) (a := ⟨b, o + k, none⟩) (h5.bel.block b HBL.out)).trans (HCX.out); have HP3 := hid (HP2.out w5 h5); clear h5 HP1 cx)
              | (go_at_call 11; refine HP3.out.mono ?_; rintro e w6 ⟨rfl, h6⟩; have H6 := hid h6; clear h6 HP3 cx5)
              | fail)
            have hQl : q.length ≤ k + 1 := by omega
            obtain ⟨Q, hQ⟩ : ∃ Q, Q = q := ⟨_, rfl⟩
            rw [← hQ] at H6 hQl
            clear HP2 hql hQ
            obtain ⟨px', la, lc, hpx, hla, hlc, hTW⟩ := H6.out.tw
            cases hpx
            have c6 := (hTW w6.drew ((Fr.refl _ _).drew)).1
            have HL := hid ((H6.out.no ((Fr.refl _ _).drew)).len (w := w6.drew))
            obtain ⟨N, hNe⟩ : ∃ N, N = Q.length := ⟨_, rfl⟩
            rw [← hNe] at hla hlc hTW c6 HL
            have hN2 : N ≤ 200 := by omega
            have HNE := hid hNe
            have HTW := hid hTW
            clear hTW hNe hla
            by_cases h5 : k % 5 = 0
            · have ht : (k : Int).tmod 5 = 0 := by have := Int.ofNat_tmod k 5; rw [h5] at this; exact this.symm
              clear h5
              refine D.wp_region_mix [0, 2, 0, 0, 0, 1, 0, 0, 0, 0, 0, 0, 0, 0, 2, 0, 0, 0, 1, 2, 0, 0, 0] (fun W => W.cell? ⟨px, 1, none⟩ = some (.slice la N lc)) (by kernel_rfl) (by kernel_rfl) c6 ?_
              repeat (first
                | (refine' C.wpMix_not (by decide) rfl _; simp only [Act.put, List.setIfInBounds_toArray, List.set_cons_zero, List.set_cons_succ])
                | (refine' C.wpMix_value _ rfl rfl _ _; rotate_left; (solve | (intro W; go_simp) | (intro W; go_simp; with_reducible rfl)); simp only [Act.put, List.setIfInBounds_toArray, List.set_cons_zero, List.set_cons_succ])
                | (refine' C.wpMix_read _ rfl rfl _ _; rotate_left; (solve | (rintro W h1; go_simp) | (rintro W h1; go_simp; with_reducible rfl)); simp only [Act.put, List.setIfInBounds_toArray, List.set_cons_zero, List.set_cons_succ]))
              refine C.wpMix_call 14 #[.pointer (some ⟨p, 0, none⟩)] (by decide) rfl (by go_simp) ?_
              refine HL.out.mono ?_
              rintro e w' ⟨rfl, rfl⟩
              refine ⟨_, rfl, fun _ => c6, ?_⟩
              simp only [Act.put, List.setIfInBounds_toArray, List.set_cons_zero, List.set_cons_succ]
              repeat (first
                | (refine' C.wpMix_not (by decide) rfl _; simp only [Act.put, List.setIfInBounds_toArray, List.set_cons_zero, List.set_cons_succ])
                | (refine' C.wpMix_value _ rfl rfl _ _; rotate_left; (solve | (intro W; go_simp) | (intro W; go_simp; with_reducible rfl)); simp only [Act.put, List.setIfInBounds_toArray, List.set_cons_zero, List.set_cons_succ])
                | (refine' C.wpMix_read _ rfl rfl _ _; rotate_left; (solve | (rintro W h1; go_simp) | (rintro W h1; go_simp; with_reducible rfl)); simp only [Act.put, List.setIfInBounds_toArray, List.set_cons_zero, List.set_cons_succ]))
              have R1 := hid (row_told (H6.out.rdq.no ((Fr.refl _ _).drew)) 999 (by omega))
              refine C.wpMix_call 16 #[.pointer (some ⟨p, 0, none⟩), .int .i64 999] (by decide) rfl (by go_simp) ?_
              refine R1.out.mono ?_
              rintro e W2 ⟨hb2, u2, rfl, t2⟩
              rw [List.take_of_length_le (by rw [← HNE.out]; omega)] at t2
              have hf2 : Fr (fun _ => False) w6 W2 := ((Fr.refl _ _).drew).trans (Fr.of_below hb2) (fun _ e _ => e)
              obtain ⟨c2, tl2⟩ := HTW.out W2 hf2
              refine ⟨_, rfl, fun _ => c2, ?_⟩
              simp only [Act.put, List.setIfInBounds_toArray, List.set_cons_zero, List.set_cons_succ]
              have S2 := hid (SameI_tl W2 _ _ Q t2 tl2)
              have HF2 := hid hf2
              clear hb2 t2 tl2 c2 hf2 R1
              repeat (first
                | (refine' C.wpMix_not (by decide) rfl _; simp only [Act.put, List.setIfInBounds_toArray, List.set_cons_zero, List.set_cons_succ])
                | (refine' C.wpMix_value _ rfl rfl _ _; rotate_left; (solve | (intro W; go_simp) | (intro W; go_simp; with_reducible rfl)); simp only [Act.put, List.setIfInBounds_toArray, List.set_cons_zero, List.set_cons_succ])
                | (refine' C.wpMix_read _ rfl rfl _ _; rotate_left; (solve | (rintro W h1; go_simp) | (rintro W h1; go_simp; with_reducible rfl)); simp only [Act.put, List.setIfInBounds_toArray, List.set_cons_zero, List.set_cons_succ]))
              refine C.wpMix_call 15 #[u2, .slice la N lc] (by decide) rfl (by go_simp) ?_
              refine S2.out.mono ?_
              rintro e W3 ⟨rfl, hb3⟩
              have hf3 : Fr (fun _ => False) w6 W3 := HF2.out.trans (Fr.of_below hb3) (fun _ e _ => e)
              refine ⟨_, rfl, fun _ => (HTW.out W3 hf3).1, ?_⟩
              simp only [Act.put, List.setIfInBounds_toArray, List.set_cons_zero, List.set_cons_succ]
              have H7 := hid (H6.out.no hf3)
              clear hb3 hf3 S2 HF2 H6
              repeat (first
                | (refine' C.wpMix_not (by decide) rfl _; simp only [Act.put, List.setIfInBounds_toArray, List.set_cons_zero, List.set_cons_succ])
                | (refine' C.wpMix_value _ rfl rfl _ _; rotate_left; (solve | (intro W; go_simp) | (intro W; go_simp; with_reducible rfl)); simp only [Act.put, List.setIfInBounds_toArray, List.set_cons_zero, List.set_cons_succ])
                | (refine' C.wpMix_read _ rfl rfl _ _; rotate_left; (solve | (rintro W h1; go_simp) | (rintro W h1; go_simp; with_reducible rfl)); simp only [Act.put, List.setIfInBounds_toArray, List.set_cons_zero, List.set_cons_succ]))
              refine C.wpMix_end ?_
              clear c6 ht
              go_wp2_with fail
              go_roundw
              case rel => exact ⟨k + 1, Q, by omega, by omega, by go_num, hQl, H7⟩
              case measure => simp [intOf]; omega
            · obtain ⟨r, hr⟩ : ∃ r, r = k % 5 := ⟨_, rfl⟩
              have ht : (k : Int).tmod 5 = (r : Int) := by have := Int.ofNat_tmod k 5; rw [← hr] at this; exact this.symm
              have hr0 : ¬ r = 0 := by rw [hr]; exact h5
              have hr5 : r < 5 := by rw [hr]; exact Nat.mod_lt _ (by decide)
              have hwr := IntWalk.i64_in (r : Int) (by omega)
              have hr0b : ((r : Int) == 0) = false := by simpa using hr0
              clear h5 hr hr5
              refine D.wp_region_mix [0, 2, 0, 0, 0, 1, 0, 0, 0, 0, 0, 0, 0, 0, 0, 0, 0, 0, 0, 0, 0, 0, 0] (fun W => W.cell? ⟨px, 1, none⟩ = some (.slice la N lc)) (by kernel_rfl) (by kernel_rfl) c6 ?_
              repeat (first
                | (refine' C.wpMix_not (by decide) rfl _; simp only [Act.put, List.setIfInBounds_toArray, List.set_cons_zero, List.set_cons_succ])
                | (refine' C.wpMix_value _ rfl rfl _ _; rotate_left; (solve | (intro W; go_simp) | (intro W; go_simp; with_reducible rfl)); simp only [Act.put, List.setIfInBounds_toArray, List.set_cons_zero, List.set_cons_succ])
                | (refine' C.wpMix_read _ rfl rfl _ _; rotate_left; (solve | (rintro W h1; go_simp) | (rintro W h1; go_simp; with_reducible rfl)); simp only [Act.put, List.setIfInBounds_toArray, List.set_cons_zero, List.set_cons_succ]))
              refine C.wpMix_call 14 #[.pointer (some ⟨p, 0, none⟩)] (by decide) rfl (by go_simp) ?_
              refine HL.out.mono ?_
              rintro e w' ⟨rfl, rfl⟩
              refine ⟨_, rfl, fun _ => c6, ?_⟩
              simp only [Act.put, List.setIfInBounds_toArray, List.set_cons_zero, List.set_cons_succ]
              repeat (first
                | (refine' C.wpMix_not (by decide) rfl _; simp only [Act.put, List.setIfInBounds_toArray, List.set_cons_zero, List.set_cons_succ])
                | (refine' C.wpMix_value _ rfl rfl _ _; rotate_left; (solve | (intro W; go_simp) | (intro W; go_simp; with_reducible rfl)); simp only [Act.put, List.setIfInBounds_toArray, List.set_cons_zero, List.set_cons_succ])
                | (refine' C.wpMix_read _ rfl rfl _ _; rotate_left; (solve | (rintro W h1; go_simp) | (rintro W h1; go_simp; with_reducible rfl)); simp only [Act.put, List.setIfInBounds_toArray, List.set_cons_zero, List.set_cons_succ]))
              refine C.wpMix_end ?_
              have H7 := hid (H6.out.no ((Fr.refl _ _).drew))
              clear c6 ht hwr H6
              go_wp2_with fail
              go_roundw
              case rel => exact ⟨k + 1, Q, by omega, by omega, by go_num, hQl, H7⟩
              case measure => simp [intOf]; omega
        · have d0 : decide (0 ≤ x) = false := by simpa using h0
          clear h0
          cases q with
          | nil =>
            have HP1 : RowKit.Hid (Calls Try.prog 12 #[.pointer (some ⟨p, 0, none⟩)] wr fun e w' => e = .returned (.tuple #[.int .i64 0, .int .i64 12]) ∧ PrI w w' (.pointer (some ⟨p, 0, none⟩)) (.pointer (some ⟨px, 0, none⟩)) mo [] []) := HI.out.take1
            have HP2 : RowKit.Hid (∀ W, PrI w W (.pointer (some ⟨p, 0, none⟩)) (.pointer (some ⟨px, 0, none⟩)) mo [] [] → Calls Try.prog 13 #[.pointer (some ⟨px, 0, none⟩)] W fun e w' => e = .returned (.tuple #[.int .i64 0, .bool false]) ∧ PrI w w' (.pointer (some ⟨p, 0, none⟩)) (.pointer (some ⟨px, 0, none⟩)) mo [] []) := fun W h => (h.take2).mono (fun e w' h => by simpa using h)
            clear HI
            go_upto_region 16 with (first
              | (go_at_call 12; refine HP1.out.mono ?_; rintro e w5 ⟨rfl, h5⟩; have HP3 := hid (HP2.out w5 h5); clear h5 HP1 cx)
              | (go_at_call 13; refine HP3.out.mono ?_; rintro e w6 ⟨rfl, h6⟩; have H6 := hid h6; clear h6 HP3)
              | fail)
            have hQl : ([] : List Int).length ≤ k + 1 := by simp
            generalize ([] : List Int) = Q at H6 hQl
            clear HP2 hql
            obtain ⟨px', la, lc, hpx, hla, hlc, hTW⟩ := H6.out.tw
            cases hpx
            have c6 := (hTW w6.drew ((Fr.refl _ _).drew)).1
            have HL := hid ((H6.out.no ((Fr.refl _ _).drew)).len (w := w6.drew))
            obtain ⟨N, hNe⟩ : ∃ N, N = Q.length := ⟨_, rfl⟩
            rw [← hNe] at hla hlc hTW c6 HL
            have hN2 : N ≤ 200 := by omega
            have HNE := hid hNe
            have HTW := hid hTW
            clear hTW hNe hla
            by_cases h5 : k % 5 = 0
            · have ht : (k : Int).tmod 5 = 0 := by have := Int.ofNat_tmod k 5; rw [h5] at this; exact this.symm
              clear h5
              refine D.wp_region_mix [0, 2, 0, 0, 0, 1, 0, 0, 0, 0, 0, 0, 0, 0, 2, 0, 0, 0, 1, 2, 0, 0, 0] (fun W => W.cell? ⟨px, 1, none⟩ = some (.slice la N lc)) (by kernel_rfl) (by kernel_rfl) c6 ?_
              repeat (first
                | (refine' C.wpMix_not (by decide) rfl _; simp only [Act.put, List.setIfInBounds_toArray, List.set_cons_zero, List.set_cons_succ])
                | (refine' C.wpMix_value _ rfl rfl _ _; rotate_left; (solve | (intro W; go_simp) | (intro W; go_simp; with_reducible rfl)); simp only [Act.put, List.setIfInBounds_toArray, List.set_cons_zero, List.set_cons_succ])
                | (refine' C.wpMix_read _ rfl rfl _ _; rotate_left; (solve | (rintro W h1; go_simp) | (rintro W h1; go_simp; with_reducible rfl)); simp only [Act.put, List.setIfInBounds_toArray, List.set_cons_zero, List.set_cons_succ]))
              refine C.wpMix_call 14 #[.pointer (some ⟨p, 0, none⟩)] (by decide) rfl (by go_simp) ?_
              refine HL.out.mono ?_
              rintro e w' ⟨rfl, rfl⟩
              refine ⟨_, rfl, fun _ => c6, ?_⟩
              simp only [Act.put, List.setIfInBounds_toArray, List.set_cons_zero, List.set_cons_succ]
              repeat (first
                | (refine' C.wpMix_not (by decide) rfl _; simp only [Act.put, List.setIfInBounds_toArray, List.set_cons_zero, List.set_cons_succ])
                | (refine' C.wpMix_value _ rfl rfl _ _; rotate_left; (solve | (intro W; go_simp) | (intro W; go_simp; with_reducible rfl)); simp only [Act.put, List.setIfInBounds_toArray, List.set_cons_zero, List.set_cons_succ])
                | (refine' C.wpMix_read _ rfl rfl _ _; rotate_left; (solve | (rintro W h1; go_simp) | (rintro W h1; go_simp; with_reducible rfl)); simp only [Act.put, List.setIfInBounds_toArray, List.set_cons_zero, List.set_cons_succ]))
              have R1 := hid (row_told (H6.out.rdq.no ((Fr.refl _ _).drew)) 999 (by omega))
              refine C.wpMix_call 16 #[.pointer (some ⟨p, 0, none⟩), .int .i64 999] (by decide) rfl (by go_simp) ?_
              refine R1.out.mono ?_
              rintro e W2 ⟨hb2, u2, rfl, t2⟩
              rw [List.take_of_length_le (by rw [← HNE.out]; omega)] at t2
              have hf2 : Fr (fun _ => False) w6 W2 := ((Fr.refl _ _).drew).trans (Fr.of_below hb2) (fun _ e _ => e)
              obtain ⟨c2, tl2⟩ := HTW.out W2 hf2
              refine ⟨_, rfl, fun _ => c2, ?_⟩
              simp only [Act.put, List.setIfInBounds_toArray, List.set_cons_zero, List.set_cons_succ]
              have S2 := hid (SameI_tl W2 _ _ Q t2 tl2)
              have HF2 := hid hf2
              clear hb2 t2 tl2 c2 hf2 R1
              repeat (first
                | (refine' C.wpMix_not (by decide) rfl _; simp only [Act.put, List.setIfInBounds_toArray, List.set_cons_zero, List.set_cons_succ])
                | (refine' C.wpMix_value _ rfl rfl _ _; rotate_left; (solve | (intro W; go_simp) | (intro W; go_simp; with_reducible rfl)); simp only [Act.put, List.setIfInBounds_toArray, List.set_cons_zero, List.set_cons_succ])
                | (refine' C.wpMix_read _ rfl rfl _ _; rotate_left; (solve | (rintro W h1; go_simp) | (rintro W h1; go_simp; with_reducible rfl)); simp only [Act.put, List.setIfInBounds_toArray, List.set_cons_zero, List.set_cons_succ]))
              refine C.wpMix_call 15 #[u2, .slice la N lc] (by decide) rfl (by go_simp) ?_
              refine S2.out.mono ?_
              rintro e W3 ⟨rfl, hb3⟩
              have hf3 : Fr (fun _ => False) w6 W3 := HF2.out.trans (Fr.of_below hb3) (fun _ e _ => e)
              refine ⟨_, rfl, fun _ => (HTW.out W3 hf3).1, ?_⟩
              simp only [Act.put, List.setIfInBounds_toArray, List.set_cons_zero, List.set_cons_succ]
              have H7 := hid (H6.out.no hf3)
              clear hb3 hf3 S2 HF2 H6
              repeat (first
                | (refine' C.wpMix_not (by decide) rfl _; simp only [Act.put, List.setIfInBounds_toArray, List.set_cons_zero, List.set_cons_succ])
                | (refine' C.wpMix_value _ rfl rfl _ _; rotate_left; (solve | (intro W; go_simp) | (intro W; go_simp; with_reducible rfl)); simp only [Act.put, List.setIfInBounds_toArray, List.set_cons_zero, List.set_cons_succ])
                | (refine' C.wpMix_read _ rfl rfl _ _; rotate_left; (solve | (rintro W h1; go_simp) | (rintro W h1; go_simp; with_reducible rfl)); simp only [Act.put, List.setIfInBounds_toArray, List.set_cons_zero, List.set_cons_succ]))
              refine C.wpMix_end ?_
              clear c6 ht
              go_wp2_with fail
              go_roundw
              case rel => exact ⟨k + 1, Q, by omega, by omega, by go_num, hQl, H7⟩
              case measure => simp [intOf]; omega
            · obtain ⟨r, hr⟩ : ∃ r, r = k % 5 := ⟨_, rfl⟩
              have ht : (k : Int).tmod 5 = (r : Int) := by have := Int.ofNat_tmod k 5; rw [← hr] at this; exact this.symm
              have hr0 : ¬ r = 0 := by rw [hr]; exact h5
              have hr5 : r < 5 := by rw [hr]; exact Nat.mod_lt _ (by decide)
              have hwr := IntWalk.i64_in (r : Int) (by omega)
              have hr0b : ((r : Int) == 0) = false := by simpa using hr0
              clear h5 hr hr5
              refine D.wp_region_mix [0, 2, 0, 0, 0, 1, 0, 0, 0, 0, 0, 0, 0, 0, 0, 0, 0, 0, 0, 0, 0, 0, 0] (fun W => W.cell? ⟨px, 1, none⟩ = some (.slice la N lc)) (by kernel_rfl) (by kernel_rfl) c6 ?_
              repeat (first
                | (refine' C.wpMix_not (by decide) rfl _; simp only [Act.put, List.setIfInBounds_toArray, List.set_cons_zero, List.set_cons_succ])
                | (refine' C.wpMix_value _ rfl rfl _ _; rotate_left; (solve | (intro W; go_simp) | (intro W; go_simp; with_reducible rfl)); simp only [Act.put, List.setIfInBounds_toArray, List.set_cons_zero, List.set_cons_succ])
                | (refine' C.wpMix_read _ rfl rfl _ _; rotate_left; (solve | (rintro W h1; go_simp) | (rintro W h1; go_simp; with_reducible rfl)); simp only [Act.put, List.setIfInBounds_toArray, List.set_cons_zero, List.set_cons_succ]))
              refine C.wpMix_call 14 #[.pointer (some ⟨p, 0, none⟩)] (by decide) rfl (by go_simp) ?_
              refine HL.out.mono ?_
              rintro e w' ⟨rfl, rfl⟩
              refine ⟨_, rfl, fun _ => c6, ?_⟩
              simp only [Act.put, List.setIfInBounds_toArray, List.set_cons_zero, List.set_cons_succ]
              repeat (first
                | (refine' C.wpMix_not (by decide) rfl _; simp only [Act.put, List.setIfInBounds_toArray, List.set_cons_zero, List.set_cons_succ])
                | (refine' C.wpMix_value _ rfl rfl _ _; rotate_left; (solve | (intro W; go_simp) | (intro W; go_simp; with_reducible rfl)); simp only [Act.put, List.setIfInBounds_toArray, List.set_cons_zero, List.set_cons_succ])
                | (refine' C.wpMix_read _ rfl rfl _ _; rotate_left; (solve | (rintro W h1; go_simp) | (rintro W h1; go_simp; with_reducible rfl)); simp only [Act.put, List.setIfInBounds_toArray, List.set_cons_zero, List.set_cons_succ]))
              refine C.wpMix_end ?_
              have H7 := hid (H6.out.no ((Fr.refl _ _).drew))
              clear c6 ht hwr H6
              go_wp2_with fail
              go_roundw
              case rel => exact ⟨k + 1, Q, by omega, by omega, by go_num, hQl, H7⟩
              case measure => simp [intOf]; omega
          | cons y q =>
            have HP1 : RowKit.Hid (Calls Try.prog 12 #[.pointer (some ⟨p, 0, none⟩)] wr fun e w' => e = .returned (.tuple #[.int .i64 y, .int .i64 0]) ∧ PrI w w' (.pointer (some ⟨p, 0, none⟩)) (.pointer (some ⟨px, 0, none⟩)) mo q (y :: q)) := (HI.out.take1).mono (fun e w' h => by simpa using h)
            have HP2 : RowKit.Hid (∀ W, PrI w W (.pointer (some ⟨p, 0, none⟩)) (.pointer (some ⟨px, 0, none⟩)) mo q (y :: q) → Calls Try.prog 13 #[.pointer (some ⟨px, 0, none⟩)] W fun e w' => e = .returned (.tuple #[.int .i64 y, .bool true]) ∧ PrI w w' (.pointer (some ⟨p, 0, none⟩)) (.pointer (some ⟨px, 0, none⟩)) mo q q) := fun W h => (h.take2).mono (fun e w' h => by simpa using h)
            clear HI
            go_upto_region 16 with (first
              | (go_at_call 12; refine HP1.out.mono ?_; rintro e w5 ⟨rfl, h5⟩; have HP3 := hid (HP2.out w5 h5); clear h5 HP1 cx)
              | (go_at_call 13; refine HP3.out.mono ?_; rintro e w6 ⟨rfl, h6⟩; have H6 := hid h6; clear h6 HP3)
              | fail)
            have hQl : q.length ≤ k + 1 := by rw [List.length_cons] at hql; omega
            obtain ⟨Q, hQ⟩ : ∃ Q, Q = q := ⟨_, rfl⟩
            rw [← hQ] at H6 hQl
            clear HP2 hql hQ
            obtain ⟨px', la, lc, hpx, hla, hlc, hTW⟩ := H6.out.tw
            cases hpx
            have c6 := (hTW w6.drew ((Fr.refl _ _).drew)).1
            have HL := hid ((H6.out.no ((Fr.refl _ _).drew)).len (w := w6.drew))
            obtain ⟨N, hNe⟩ : ∃ N, N = Q.length := ⟨_, rfl⟩
            rw [← hNe] at hla hlc hTW c6 HL
            have hN2 : N ≤ 200 := by omega
            have HNE := hid hNe
            have HTW := hid hTW
            clear hTW hNe hla
            by_cases h5 : k % 5 = 0
            · have ht : (k : Int).tmod 5 = 0 := by have := Int.ofNat_tmod k 5; rw [h5] at this; exact this.symm
              clear h5
              refine D.wp_region_mix [0, 2, 0, 0, 0, 1, 0, 0, 0, 0, 0, 0, 0, 0, 2, 0, 0, 0, 1, 2, 0, 0, 0] (fun W => W.cell? ⟨px, 1, none⟩ = some (.slice la N lc)) (by kernel_rfl) (by kernel_rfl) c6 ?_
              repeat (first
                | (refine' C.wpMix_not (by decide) rfl _; simp only [Act.put, List.setIfInBounds_toArray, List.set_cons_zero, List.set_cons_succ])
                | (refine' C.wpMix_value _ rfl rfl _ _; rotate_left; (solve | (intro W; go_simp) | (intro W; go_simp; with_reducible rfl)); simp only [Act.put, List.setIfInBounds_toArray, List.set_cons_zero, List.set_cons_succ])
                | (refine' C.wpMix_read _ rfl rfl _ _; rotate_left; (solve | (rintro W h1; go_simp) | (rintro W h1; go_simp; with_reducible rfl)); simp only [Act.put, List.setIfInBounds_toArray, List.set_cons_zero, List.set_cons_succ]))
              refine C.wpMix_call 14 #[.pointer (some ⟨p, 0, none⟩)] (by decide) rfl (by go_simp) ?_
              refine HL.out.mono ?_
              rintro e w' ⟨rfl, rfl⟩
              refine ⟨_, rfl, fun _ => c6, ?_⟩
              simp only [Act.put, List.setIfInBounds_toArray, List.set_cons_zero, List.set_cons_succ]
              repeat (first
                | (refine' C.wpMix_not (by decide) rfl _; simp only [Act.put, List.setIfInBounds_toArray, List.set_cons_zero, List.set_cons_succ])
                | (refine' C.wpMix_value _ rfl rfl _ _; rotate_left; (solve | (intro W; go_simp) | (intro W; go_simp; with_reducible rfl)); simp only [Act.put, List.setIfInBounds_toArray, List.set_cons_zero, List.set_cons_succ])
                | (refine' C.wpMix_read _ rfl rfl _ _; rotate_left; (solve | (rintro W h1; go_simp) | (rintro W h1; go_simp; with_reducible rfl)); simp only [Act.put, List.setIfInBounds_toArray, List.set_cons_zero, List.set_cons_succ]))
              have R1 := hid (row_told (H6.out.rdq.no ((Fr.refl _ _).drew)) 999 (by omega))
              refine C.wpMix_call 16 #[.pointer (some ⟨p, 0, none⟩), .int .i64 999] (by decide) rfl (by go_simp) ?_
              refine R1.out.mono ?_
              rintro e W2 ⟨hb2, u2, rfl, t2⟩
              rw [List.take_of_length_le (by rw [← HNE.out]; omega)] at t2
              have hf2 : Fr (fun _ => False) w6 W2 := ((Fr.refl _ _).drew).trans (Fr.of_below hb2) (fun _ e _ => e)
              obtain ⟨c2, tl2⟩ := HTW.out W2 hf2
              refine ⟨_, rfl, fun _ => c2, ?_⟩
              simp only [Act.put, List.setIfInBounds_toArray, List.set_cons_zero, List.set_cons_succ]
              have S2 := hid (SameI_tl W2 _ _ Q t2 tl2)
              have HF2 := hid hf2
              clear hb2 t2 tl2 c2 hf2 R1
              repeat (first
                | (refine' C.wpMix_not (by decide) rfl _; simp only [Act.put, List.setIfInBounds_toArray, List.set_cons_zero, List.set_cons_succ])
                | (refine' C.wpMix_value _ rfl rfl _ _; rotate_left; (solve | (intro W; go_simp) | (intro W; go_simp; with_reducible rfl)); simp only [Act.put, List.setIfInBounds_toArray, List.set_cons_zero, List.set_cons_succ])
                | (refine' C.wpMix_read _ rfl rfl _ _; rotate_left; (solve | (rintro W h1; go_simp) | (rintro W h1; go_simp; with_reducible rfl)); simp only [Act.put, List.setIfInBounds_toArray, List.set_cons_zero, List.set_cons_succ]))
              refine C.wpMix_call 15 #[u2, .slice la N lc] (by decide) rfl (by go_simp) ?_
              refine S2.out.mono ?_
              rintro e W3 ⟨rfl, hb3⟩
              have hf3 : Fr (fun _ => False) w6 W3 := HF2.out.trans (Fr.of_below hb3) (fun _ e _ => e)
              refine ⟨_, rfl, fun _ => (HTW.out W3 hf3).1, ?_⟩
              simp only [Act.put, List.setIfInBounds_toArray, List.set_cons_zero, List.set_cons_succ]
              have H7 := hid (H6.out.no hf3)
              clear hb3 hf3 S2 HF2 H6
              repeat (first
                | (refine' C.wpMix_not (by decide) rfl _; simp only [Act.put, List.setIfInBounds_toArray, List.set_cons_zero, List.set_cons_succ])
                | (refine' C.wpMix_value _ rfl rfl _ _; rotate_left; (solve | (intro W; go_simp) | (intro W; go_simp; with_reducible rfl)); simp only [Act.put, List.setIfInBounds_toArray, List.set_cons_zero, List.set_cons_succ])
                | (refine' C.wpMix_read _ rfl rfl _ _; rotate_left; (solve | (rintro W h1; go_simp) | (rintro W h1; go_simp; with_reducible rfl)); simp only [Act.put, List.setIfInBounds_toArray, List.set_cons_zero, List.set_cons_succ]))
              refine C.wpMix_end ?_
              clear c6 ht
              go_wp2_with fail
              go_roundw
              case rel => exact ⟨k + 1, Q, by omega, by omega, by go_num, hQl, H7⟩
              case measure => simp [intOf]; omega
            · obtain ⟨r, hr⟩ : ∃ r, r = k % 5 := ⟨_, rfl⟩
              have ht : (k : Int).tmod 5 = (r : Int) := by have := Int.ofNat_tmod k 5; rw [← hr] at this; exact this.symm
              have hr0 : ¬ r = 0 := by rw [hr]; exact h5
              have hr5 : r < 5 := by rw [hr]; exact Nat.mod_lt _ (by decide)
              have hwr := IntWalk.i64_in (r : Int) (by omega)
              have hr0b : ((r : Int) == 0) = false := by simpa using hr0
              clear h5 hr hr5
              refine D.wp_region_mix [0, 2, 0, 0, 0, 1, 0, 0, 0, 0, 0, 0, 0, 0, 0, 0, 0, 0, 0, 0, 0, 0, 0] (fun W => W.cell? ⟨px, 1, none⟩ = some (.slice la N lc)) (by kernel_rfl) (by kernel_rfl) c6 ?_
              repeat (first
                | (refine' C.wpMix_not (by decide) rfl _; simp only [Act.put, List.setIfInBounds_toArray, List.set_cons_zero, List.set_cons_succ])
                | (refine' C.wpMix_value _ rfl rfl _ _; rotate_left; (solve | (intro W; go_simp) | (intro W; go_simp; with_reducible rfl)); simp only [Act.put, List.setIfInBounds_toArray, List.set_cons_zero, List.set_cons_succ])
                | (refine' C.wpMix_read _ rfl rfl _ _; rotate_left; (solve | (rintro W h1; go_simp) | (rintro W h1; go_simp; with_reducible rfl)); simp only [Act.put, List.setIfInBounds_toArray, List.set_cons_zero, List.set_cons_succ]))
              refine C.wpMix_call 14 #[.pointer (some ⟨p, 0, none⟩)] (by decide) rfl (by go_simp) ?_
              refine HL.out.mono ?_
              rintro e w' ⟨rfl, rfl⟩
              refine ⟨_, rfl, fun _ => c6, ?_⟩
              simp only [Act.put, List.setIfInBounds_toArray, List.set_cons_zero, List.set_cons_succ]
              repeat (first
                | (refine' C.wpMix_not (by decide) rfl _; simp only [Act.put, List.setIfInBounds_toArray, List.set_cons_zero, List.set_cons_succ])
                | (refine' C.wpMix_value _ rfl rfl _ _; rotate_left; (solve | (intro W; go_simp) | (intro W; go_simp; with_reducible rfl)); simp only [Act.put, List.setIfInBounds_toArray, List.set_cons_zero, List.set_cons_succ])
                | (refine' C.wpMix_read _ rfl rfl _ _; rotate_left; (solve | (rintro W h1; go_simp) | (rintro W h1; go_simp; with_reducible rfl)); simp only [Act.put, List.setIfInBounds_toArray, List.set_cons_zero, List.set_cons_succ]))
              refine C.wpMix_end ?_
              have H7 := hid (H6.out.no ((Fr.refl _ _).drew))
              clear c6 ht hwr H6
              go_wp2_with fail
              go_roundw
              case rel => exact ⟨k + 1, Q, by omega, by omega, by go_num, hQl, H7⟩
              case measure => simp [intOf]; omega
      · by_cases hkl : k < n
        · have h200 : ¬ ((k : Int) < 200) := by omega
          have hn4 := hkn
          clear hgo
          obtain ⟨wA, hwA⟩ : ∃ x, x = wr := ⟨_, rfl⟩
          subst hwA
          obtain ⟨px', la, lc, hpx, hla, hlc, hTW⟩ := HI.out.tw
          cases hpx
          have hfd : Fr (fun _ => False) wA wA.drew := (Fr.refl _ _).drew
          have c6 := (hTW wA.drew hfd).1
          obtain ⟨N, hNe⟩ : ∃ N, N = q.length := ⟨_, rfl⟩
          rw [← hNe] at hla hlc hTW c6
          have hN2 : N ≤ 200 := by omega
          have HNE := hid hNe
          have HTW := hid hTW
          clear hTW hNe hla
          go_wp2_with fail
          have R1 := hid (row_told (HI.out.rdq.no hfd) 999 (by omega))
          refine D.wp_region_mix [0, 0, 0, 0, 2, 0, 0, 0, 1, 2, 0, 0, 0, 2, 0, 0, 0, 1, 2, 2, 0, 0, 2, 0, 0] (fun W => W.cell? ⟨px, 1, none⟩ = some (.slice la N lc)) (by kernel_rfl) (by kernel_rfl) c6 ?_
          repeat (first
            | (refine' C.wpMix_not (by decide) rfl _; simp only [Act.put, List.setIfInBounds_toArray, List.set_cons_zero, List.set_cons_succ])
            | (refine' C.wpMix_value _ rfl rfl _ _; rotate_left; (solve | (intro W; go_simp) | (intro W; go_simp; with_reducible rfl)); simp only [Act.put, List.setIfInBounds_toArray, List.set_cons_zero, List.set_cons_succ])
            | (refine' C.wpMix_read _ rfl rfl _ _; rotate_left; (solve | (rintro W h1; go_simp) | (rintro W h1; go_simp; with_reducible rfl)); simp only [Act.put, List.setIfInBounds_toArray, List.set_cons_zero, List.set_cons_succ]))
          refine C.wpMix_call 16 #[.pointer (some ⟨p, 0, none⟩), .int .i64 999] (by decide) rfl (by go_simp) ?_
          refine R1.out.mono ?_
          rintro e W2 ⟨hb2, u2, rfl, t2⟩
          rw [List.take_of_length_le (by rw [← HNE.out]; omega)] at t2
          have hf2 : Fr (fun _ => False) wA W2 := hfd.trans (Fr.of_below hb2) (fun _ e _ => e)
          obtain ⟨c2, tl2⟩ := HTW.out W2 hf2
          refine ⟨_, rfl, fun _ => c2, ?_⟩
          simp only [Act.put, List.setIfInBounds_toArray, List.set_cons_zero, List.set_cons_succ]
          have S2 := hid (SameI_tl W2 _ _ q t2 tl2)
          have HF2 := hid hf2
          clear hb2 t2 tl2 c2 hf2 R1
          repeat (first
            | (refine' C.wpMix_not (by decide) rfl _; simp only [Act.put, List.setIfInBounds_toArray, List.set_cons_zero, List.set_cons_succ])
            | (refine' C.wpMix_value _ rfl rfl _ _; rotate_left; (solve | (intro W; go_simp) | (intro W; go_simp; with_reducible rfl)); simp only [Act.put, List.setIfInBounds_toArray, List.set_cons_zero, List.set_cons_succ])
            | (refine' C.wpMix_read _ rfl rfl _ _; rotate_left; (solve | (rintro W h1; go_simp) | (rintro W h1; go_simp; with_reducible rfl)); simp only [Act.put, List.setIfInBounds_toArray, List.set_cons_zero, List.set_cons_succ]))
          refine C.wpMix_call 15 #[u2, .slice la N lc] (by decide) rfl (by go_simp) ?_
          refine S2.out.mono ?_
          rintro e W3 ⟨rfl, hb3⟩
          have hf3 : Fr (fun _ => False) wA W3 := HF2.out.trans (Fr.of_below hb3) (fun _ e _ => e)
          refine ⟨_, rfl, fun _ => (HTW.out W3 hf3).1, ?_⟩
          simp only [Act.put, List.setIfInBounds_toArray, List.set_cons_zero, List.set_cons_succ]
          have R3 := hid (back_told (HI.out.rdq.no hf3) 999 (by omega))
          have HF3 := hid hf3
          clear hb3 hf3 S2 HF2
          repeat (first
            | (refine' C.wpMix_not (by decide) rfl _; simp only [Act.put, List.setIfInBounds_toArray, List.set_cons_zero, List.set_cons_succ])
            | (refine' C.wpMix_value _ rfl rfl _ _; rotate_left; (solve | (intro W; go_simp) | (intro W; go_simp; with_reducible rfl)); simp only [Act.put, List.setIfInBounds_toArray, List.set_cons_zero, List.set_cons_succ])
            | (refine' C.wpMix_read _ rfl rfl _ _; rotate_left; (solve | (rintro W h1; go_simp) | (rintro W h1; go_simp; with_reducible rfl)); simp only [Act.put, List.setIfInBounds_toArray, List.set_cons_zero, List.set_cons_succ]))
          refine C.wpMix_call 17 #[.pointer (some ⟨p, 0, none⟩), .int .i64 999] (by decide) rfl (by go_simp) ?_
          refine R3.out.mono ?_
          rintro e W4 ⟨hb4, u4, rfl, t4⟩
          rw [List.take_of_length_le (by rw [List.length_reverse, ← HNE.out]; omega)] at t4
          have hf4 : Fr (fun _ => False) wA W4 := HF3.out.trans (Fr.of_below hb4) (fun _ e _ => e)
          obtain ⟨c4, tl4⟩ := HTW.out W4 hf4
          refine ⟨_, rfl, fun _ => c4, ?_⟩
          simp only [Act.put, List.setIfInBounds_toArray, List.set_cons_zero, List.set_cons_succ]
          have T4 := hid (turned_any tl4 (by rw [← HNE.out]; omega))
          have HT4 := hid t4
          have HF4 := hid hf4
          clear hb4 t4 tl4 c4 hf4 R3 HF3
          repeat (first
            | (refine' C.wpMix_not (by decide) rfl _; simp only [Act.put, List.setIfInBounds_toArray, List.set_cons_zero, List.set_cons_succ])
            | (refine' C.wpMix_value _ rfl rfl _ _; rotate_left; (solve | (intro W; go_simp) | (intro W; go_simp; with_reducible rfl)); simp only [Act.put, List.setIfInBounds_toArray, List.set_cons_zero, List.set_cons_succ])
            | (refine' C.wpMix_read _ rfl rfl _ _; rotate_left; (solve | (rintro W h1; go_simp) | (rintro W h1; go_simp; with_reducible rfl)); simp only [Act.put, List.setIfInBounds_toArray, List.set_cons_zero, List.set_cons_succ]))
          refine C.wpMix_call 18 #[.slice la N lc] (by decide) rfl (by go_simp) ?_
          refine T4.out.mono ?_
          rintro e W5 ⟨hb5, u5, rfl, t5⟩
          have hf5 : Fr (fun _ => False) wA W5 := HF4.out.trans (Fr.of_below hb5) (fun _ e _ => e)
          refine ⟨_, rfl, fun _ => (HTW.out W5 hf5).1, ?_⟩
          simp only [Act.put, List.setIfInBounds_toArray, List.set_cons_zero, List.set_cons_succ]
          have S5 := hid (SameI_tl W5 _ _ q.reverse ((HT4.out.below hb5).up hb5.size) t5)
          have HF5 := hid hf5
          clear hb5 t5 hf5 HT4 HF4 T4
          repeat (first
            | (refine' C.wpMix_not (by decide) rfl _; simp only [Act.put, List.setIfInBounds_toArray, List.set_cons_zero, List.set_cons_succ])
            | (refine' C.wpMix_value _ rfl rfl _ _; rotate_left; (solve | (intro W; go_simp) | (intro W; go_simp; with_reducible rfl)); simp only [Act.put, List.setIfInBounds_toArray, List.set_cons_zero, List.set_cons_succ])
            | (refine' C.wpMix_read _ rfl rfl _ _; rotate_left; (solve | (rintro W h1; go_simp) | (rintro W h1; go_simp; with_reducible rfl)); simp only [Act.put, List.setIfInBounds_toArray, List.set_cons_zero, List.set_cons_succ]))
          refine C.wpMix_call 15 #[u4, u5] (by decide) rfl (by go_simp) ?_
          refine S5.out.mono ?_
          rintro e W6 ⟨rfl, hb6⟩
          have hf6 : Fr (fun _ => False) wA W6 := HF5.out.trans (Fr.of_below hb6) (fun _ e _ => e)
          refine ⟨_, rfl, fun _ => (HTW.out W6 hf6).1, ?_⟩
          simp only [Act.put, List.setIfInBounds_toArray, List.set_cons_zero, List.set_cons_succ]
          have HF6 := hid hf6
          have HI6 := hid (HI.out.no hf6).bel
          clear hb6 S5 HF5 HI
          repeat (first
            | (refine' C.wpMix_not (by decide) rfl _; simp only [Act.put, List.setIfInBounds_toArray, List.set_cons_zero, List.set_cons_succ])
            | (refine' C.wpMix_value _ rfl rfl _ _; rotate_left; (solve | (intro W; go_simp) | (intro W; go_simp; with_reducible rfl)); simp only [Act.put, List.setIfInBounds_toArray, List.set_cons_zero, List.set_cons_succ])
            | (refine' C.wpMix_read _ rfl rfl _ _; rotate_left; (solve | (rintro W h1; go_simp) | (rintro W h1; go_simp; with_reducible rfl)); simp only [Act.put, List.setIfInBounds_toArray, List.set_cons_zero, List.set_cons_succ]))
          refine C.wpMix_call 9 #[] (by decide) rfl (by go_simp) ?_
          refine (awake_any W6).mono ?_
          rintro e W7 ⟨rfl, hb7⟩
          refine ⟨_, rfl, fun _ => (HTW.out W7 (HF6.out.trans (Fr.of_below hb7) (fun _ e _ => e))).1, ?_⟩
          simp only [Act.put, List.setIfInBounds_toArray, List.set_cons_zero, List.set_cons_succ]
          have HB7 := hid (HI6.out.trans (hb7.mono HI6.out.size))
          clear hb7 hf6
          repeat (first
            | (refine' C.wpMix_not (by decide) rfl _; simp only [Act.put, List.setIfInBounds_toArray, List.set_cons_zero, List.set_cons_succ])
            | (refine' C.wpMix_value _ rfl rfl _ _; rotate_left; (solve | (intro W; go_simp) | (intro W; go_simp; with_reducible rfl)); simp only [Act.put, List.setIfInBounds_toArray, List.set_cons_zero, List.set_cons_succ])
            | (refine' C.wpMix_read _ rfl rfl _ _; rotate_left; (solve | (rintro W h1; go_simp) | (rintro W h1; go_simp; with_reducible rfl)); simp only [Act.put, List.setIfInBounds_toArray, List.set_cons_zero, List.set_cons_succ]))
          refine C.wpMix_end ?_
          clear c6
          go_wp2_with fail
          go_ret
          exact ⟨rfl, HB7.out⟩
        · have hn1 : ¬ (k < n) := hkl
          have hn4 := hkn
          clear hgo
          obtain ⟨wA, hwA⟩ : ∃ x, x = wr := ⟨_, rfl⟩
          subst hwA
          obtain ⟨px', la, lc, hpx, hla, hlc, hTW⟩ := HI.out.tw
          cases hpx
          have hfd : Fr (fun _ => False) wA wA.drew := (Fr.refl _ _).drew
          have c6 := (hTW wA.drew hfd).1
          obtain ⟨N, hNe⟩ : ∃ N, N = q.length := ⟨_, rfl⟩
          rw [← hNe] at hla hlc hTW c6
          have hN2 : N ≤ 200 := by omega
          have HNE := hid hNe
          have HTW := hid hTW
          clear hTW hNe hla
          go_wp2_with fail
          have R1 := hid (row_told (HI.out.rdq.no hfd) 999 (by omega))
          refine D.wp_region_mix [0, 0, 0, 0, 2, 0, 0, 0, 1, 2, 0, 0, 0, 2, 0, 0, 0, 1, 2, 2, 0, 0, 2, 0, 0] (fun W => W.cell? ⟨px, 1, none⟩ = some (.slice la N lc)) (by kernel_rfl) (by kernel_rfl) c6 ?_
          repeat (first
            | (refine' C.wpMix_not (by decide) rfl _; simp only [Act.put, List.setIfInBounds_toArray, List.set_cons_zero, List.set_cons_succ])
            | (refine' C.wpMix_value _ rfl rfl _ _; rotate_left; (solve | (intro W; go_simp) | (intro W; go_simp; with_reducible rfl)); simp only [Act.put, List.setIfInBounds_toArray, List.set_cons_zero, List.set_cons_succ])
            | (refine' C.wpMix_read _ rfl rfl _ _; rotate_left; (solve | (rintro W h1; go_simp) | (rintro W h1; go_simp; with_reducible rfl)); simp only [Act.put, List.setIfInBounds_toArray, List.set_cons_zero, List.set_cons_succ]))
          refine C.wpMix_call 16 #[.pointer (some ⟨p, 0, none⟩), .int .i64 999] (by decide) rfl (by go_simp) ?_
          refine R1.out.mono ?_
          rintro e W2 ⟨hb2, u2, rfl, t2⟩
          rw [List.take_of_length_le (by rw [← HNE.out]; omega)] at t2
          have hf2 : Fr (fun _ => False) wA W2 := hfd.trans (Fr.of_below hb2) (fun _ e _ => e)
          obtain ⟨c2, tl2⟩ := HTW.out W2 hf2
          refine ⟨_, rfl, fun _ => c2, ?_⟩
          simp only [Act.put, List.setIfInBounds_toArray, List.set_cons_zero, List.set_cons_succ]
          have S2 := hid (SameI_tl W2 _ _ q t2 tl2)
          have HF2 := hid hf2
          clear hb2 t2 tl2 c2 hf2 R1
          repeat (first
            | (refine' C.wpMix_not (by decide) rfl _; simp only [Act.put, List.setIfInBounds_toArray, List.set_cons_zero, List.set_cons_succ])
            | (refine' C.wpMix_value _ rfl rfl _ _; rotate_left; (solve | (intro W; go_simp) | (intro W; go_simp; with_reducible rfl)); simp only [Act.put, List.setIfInBounds_toArray, List.set_cons_zero, List.set_cons_succ])
            | (refine' C.wpMix_read _ rfl rfl _ _; rotate_left; (solve | (rintro W h1; go_simp) | (rintro W h1; go_simp; with_reducible rfl)); simp only [Act.put, List.setIfInBounds_toArray, List.set_cons_zero, List.set_cons_succ]))
          refine C.wpMix_call 15 #[u2, .slice la N lc] (by decide) rfl (by go_simp) ?_
          refine S2.out.mono ?_
          rintro e W3 ⟨rfl, hb3⟩
          have hf3 : Fr (fun _ => False) wA W3 := HF2.out.trans (Fr.of_below hb3) (fun _ e _ => e)
          refine ⟨_, rfl, fun _ => (HTW.out W3 hf3).1, ?_⟩
          simp only [Act.put, List.setIfInBounds_toArray, List.set_cons_zero, List.set_cons_succ]
          have R3 := hid (back_told (HI.out.rdq.no hf3) 999 (by omega))
          have HF3 := hid hf3
          clear hb3 hf3 S2 HF2
          repeat (first
            | (refine' C.wpMix_not (by decide) rfl _; simp only [Act.put, List.setIfInBounds_toArray, List.set_cons_zero, List.set_cons_succ])
            | (refine' C.wpMix_value _ rfl rfl _ _; rotate_left; (solve | (intro W; go_simp) | (intro W; go_simp; with_reducible rfl)); simp only [Act.put, List.setIfInBounds_toArray, List.set_cons_zero, List.set_cons_succ])
            | (refine' C.wpMix_read _ rfl rfl _ _; rotate_left; (solve | (rintro W h1; go_simp) | (rintro W h1; go_simp; with_reducible rfl)); simp only [Act.put, List.setIfInBounds_toArray, List.set_cons_zero, List.set_cons_succ]))
          refine C.wpMix_call 17 #[.pointer (some ⟨p, 0, none⟩), .int .i64 999] (by decide) rfl (by go_simp) ?_
          refine R3.out.mono ?_
          rintro e W4 ⟨hb4, u4, rfl, t4⟩
          rw [List.take_of_length_le (by rw [List.length_reverse, ← HNE.out]; omega)] at t4
          have hf4 : Fr (fun _ => False) wA W4 := HF3.out.trans (Fr.of_below hb4) (fun _ e _ => e)
          obtain ⟨c4, tl4⟩ := HTW.out W4 hf4
          refine ⟨_, rfl, fun _ => c4, ?_⟩
          simp only [Act.put, List.setIfInBounds_toArray, List.set_cons_zero, List.set_cons_succ]
          have T4 := hid (turned_any tl4 (by rw [← HNE.out]; omega))
          have HT4 := hid t4
          have HF4 := hid hf4
          clear hb4 t4 tl4 c4 hf4 R3 HF3
          repeat (first
            | (refine' C.wpMix_not (by decide) rfl _; simp only [Act.put, List.setIfInBounds_toArray, List.set_cons_zero, List.set_cons_succ])
            | (refine' C.wpMix_value _ rfl rfl _ _; rotate_left; (solve | (intro W; go_simp) | (intro W; go_simp; with_reducible rfl)); simp only [Act.put, List.setIfInBounds_toArray, List.set_cons_zero, List.set_cons_succ])
            | (refine' C.wpMix_read _ rfl rfl _ _; rotate_left; (solve | (rintro W h1; go_simp) | (rintro W h1; go_simp; with_reducible rfl)); simp only [Act.put, List.setIfInBounds_toArray, List.set_cons_zero, List.set_cons_succ]))
          refine C.wpMix_call 18 #[.slice la N lc] (by decide) rfl (by go_simp) ?_
          refine T4.out.mono ?_
          rintro e W5 ⟨hb5, u5, rfl, t5⟩
          have hf5 : Fr (fun _ => False) wA W5 := HF4.out.trans (Fr.of_below hb5) (fun _ e _ => e)
          refine ⟨_, rfl, fun _ => (HTW.out W5 hf5).1, ?_⟩
          simp only [Act.put, List.setIfInBounds_toArray, List.set_cons_zero, List.set_cons_succ]
          have S5 := hid (SameI_tl W5 _ _ q.reverse ((HT4.out.below hb5).up hb5.size) t5)
          have HF5 := hid hf5
          clear hb5 t5 hf5 HT4 HF4 T4
          repeat (first
            | (refine' C.wpMix_not (by decide) rfl _; simp only [Act.put, List.setIfInBounds_toArray, List.set_cons_zero, List.set_cons_succ])
            | (refine' C.wpMix_value _ rfl rfl _ _; rotate_left; (solve | (intro W; go_simp) | (intro W; go_simp; with_reducible rfl)); simp only [Act.put, List.setIfInBounds_toArray, List.set_cons_zero, List.set_cons_succ])
            | (refine' C.wpMix_read _ rfl rfl _ _; rotate_left; (solve | (rintro W h1; go_simp) | (rintro W h1; go_simp; with_reducible rfl)); simp only [Act.put, List.setIfInBounds_toArray, List.set_cons_zero, List.set_cons_succ]))
          refine C.wpMix_call 15 #[u4, u5] (by decide) rfl (by go_simp) ?_
          refine S5.out.mono ?_
          rintro e W6 ⟨rfl, hb6⟩
          have hf6 : Fr (fun _ => False) wA W6 := HF5.out.trans (Fr.of_below hb6) (fun _ e _ => e)
          refine ⟨_, rfl, fun _ => (HTW.out W6 hf6).1, ?_⟩
          simp only [Act.put, List.setIfInBounds_toArray, List.set_cons_zero, List.set_cons_succ]
          have HF6 := hid hf6
          have HI6 := hid (HI.out.no hf6).bel
          clear hb6 S5 HF5 HI
          repeat (first
            | (refine' C.wpMix_not (by decide) rfl _; simp only [Act.put, List.setIfInBounds_toArray, List.set_cons_zero, List.set_cons_succ])
            | (refine' C.wpMix_value _ rfl rfl _ _; rotate_left; (solve | (intro W; go_simp) | (intro W; go_simp; with_reducible rfl)); simp only [Act.put, List.setIfInBounds_toArray, List.set_cons_zero, List.set_cons_succ])
            | (refine' C.wpMix_read _ rfl rfl _ _; rotate_left; (solve | (rintro W h1; go_simp) | (rintro W h1; go_simp; with_reducible rfl)); simp only [Act.put, List.setIfInBounds_toArray, List.set_cons_zero, List.set_cons_succ]))
          refine C.wpMix_call 9 #[] (by decide) rfl (by go_simp) ?_
          refine (awake_any W6).mono ?_
          rintro e W7 ⟨rfl, hb7⟩
          refine ⟨_, rfl, fun _ => (HTW.out W7 (HF6.out.trans (Fr.of_below hb7) (fun _ e _ => e))).1, ?_⟩
          simp only [Act.put, List.setIfInBounds_toArray, List.set_cons_zero, List.set_cons_succ]
          have HB7 := hid (HI6.out.trans (hb7.mono HI6.out.size))
          clear hb7 hf6
          repeat (first
            | (refine' C.wpMix_not (by decide) rfl _; simp only [Act.put, List.setIfInBounds_toArray, List.set_cons_zero, List.set_cons_succ])
            | (refine' C.wpMix_value _ rfl rfl _ _; rotate_left; (solve | (intro W; go_simp) | (intro W; go_simp; with_reducible rfl)); simp only [Act.put, List.setIfInBounds_toArray, List.set_cons_zero, List.set_cons_succ])
            | (refine' C.wpMix_read _ rfl rfl _ _; rotate_left; (solve | (rintro W h1; go_simp) | (rintro W h1; go_simp; with_reducible rfl)); simp only [Act.put, List.setIfInBounds_toArray, List.set_cons_zero, List.set_cons_succ]))
          refine C.wpMix_end ?_
          clear c6
          go_wp2_with fail
          go_ret
          exact ⟨rfl, HB7.out⟩
  · rw [if_neg hmo] at h1
    subst h1
    have HB1 := hid hb1
    have HMO := hid hmo
    clear hb1 hmo HNW
    go_wp2_with (first
      | (go_at_call 8; refine (HNF.out w1).mono ?_; rintro e w2 ⟨hb2, h2⟩; rw [if_neg HMO.out] at h2; subst h2; have HB2 := hid (HB1.out.trans (hb2.mono HB1.out.size)); clear hb2)
      | (go_at_call 9; refine (awake_any _).mono ?_; rintro e w3 ⟨rfl, hb3⟩; have HB3 := hid (HB2.out.trans (hb3.mono HB2.out.size)); clear hb3)
      | fail)
    go_ret
    exact ⟨rfl, HB3.out⟩
end Go.Proofs.Ytmkajdfajcodjab
