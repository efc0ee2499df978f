/-
  FacesRight's walk.
-/
import Derived.Test.YtpcgplcpfbgcfaaFcLp
namespace Go.Proofs.Ytpcgplcpfbgcfaa
open Go Go.ChangeShapes Go.WideShapes Go.ChangeAt Go.RowKit

set_option maxHeartbeats 2000000 in
set_option maxRecDepth 100000 in
theorem Rights_any (w : World) (ad : Option Addr) (cap N : Nat) (l : List Face) (i j k : Int) (hF : FRow w w.heap.size ad l) (hi : -9223372036854775808 ≤ i ∧ i ≤ 9223372036854775807) (hj : -9223372036854775808 ≤ j ∧ j ≤ 9223372036854775807) (hk : -9223372036854775808 ≤ k ∧ k ≤ 9223372036854775807) (hN : N = l.length) (hcap : N ≤ cap) (hcap2 : cap ≤ 9223372036854775807) :
    Calls Try.prog 7 #[.slice ad N cap, .int .i64 i, .int .i64 j, .int .i64 k] w fun e w' => e = .returned (.bool true) ∧ Below w.heap.size w w' := by
  have HN := hid hN
  by_cases hgr : 60 < N
  · have hd : decide ((60 : Int) < N) = true := by simp; omega
    clear hgr hF hN hi hj hk hcap2
    go_enter Try.func7, Try.ntmps7
    go_wp2_with (first | (go_at_call 9; refine (great_any _ _ _ _).mono ?_; rintro e w' ⟨rfl, rfl⟩) | fail)
    refine (awake_any _).mono ?_
    rintro e w3 ⟨rfl, hb3⟩
    have HB3 := hid hb3
    clear hb3
    go_wp2
    go_ret
    exact ⟨rfl, HB3.out⟩
  · have hd : decide ((60 : Int) < N) = false := by simp; omega
    have hn60 : N ≤ 60 := by omega
    have HF := hid hF
    have HCK := hid (Check_any w ad N cap l hF hN (by omega) hcap hcap2)
    clear hcap2
    by_cases hck : checkL l = 0
    · have hr := right_of hck
      have hlo : 1 ≤ N := by have := hr.lo; omega
      have HR := hid hr
      have HCC := hid hck
      have HP1 := hid (fun (W : World) => Pick_nat i N W hi hlo (by omega))
      have HP2 := hid (fun (W : World) => Pick_nat j N W hj hlo (by omega))
      have HP3 := hid (fun (W : World) => Pick_nat k N W hk hlo (by omega))
      clear hgr hF hN hi hj hk hck hr
      go_enter Try.func7, Try.ntmps7
      go_wp2_with (first | (go_at_call 9; refine (great_any _ _ _ _).mono ?_; rintro e w' ⟨rfl, rfl⟩) | fail)
      refine HCK.out.mono ?_
      rintro e w2 ⟨rfl, hb2⟩
      rw [HCC.out]
      have HF2 := hid (HF.out.on hb2)
      have HB2 := hid hb2
      obtain ⟨i', hi', hp1⟩ := HP1.out w2
      obtain ⟨j', hj', hp2⟩ := HP2.out w2
      obtain ⟨k', hk', hp3⟩ := HP3.out w2
      have HPa := hid hp1
      have HPb := hid hp2
      have HPc := hid hp3
      clear hb2 hp1 hp2 hp3 HP1 HP2 HP3 HCK HF
      go_wp2_with fail
      refine HPa.out.mono ?_
      rintro e w' ⟨rfl, rfl⟩
      go_wp2_with fail
      refine HPb.out.mono ?_
      rintro e w' ⟨rfl, rfl⟩
      go_wp2_with fail
      refine HPc.out.mono ?_
      rintro e w' ⟨rfl, rfl⟩
      clear HPa HPb HPc
      go_wp2_with fail
      refine (told_any w2 ad N cap l (i' : Int) 99 HF2.out HN.out (by omega) (by decide) (by decide)).mono ?_
      rintro e w3 ⟨lv, rfl, hrow, hb3⟩
      have e99 : (lineL l (i' : Int)).take (99 : Int).toNat = lineL l (i' : Int) := List.take_of_length_le (by have := lineL_len l (i' : Int); have := HN.out; show _ ≤ 99; omega)
      rw [e99] at hrow
      obtain ⟨a3, k3, rfl⟩ := own_form hrow
      have HL3 := hid (lies_of_owns hrow)
      have HF3 := hid (HF2.out.on hb3)
      have HB3 := hid (HB2.out.trans (hb3.mono HB2.out.size))
      have hpos : 0 < (lineL l (i' : Int)).length := List.length_pos_of_mem (lineL_self (by have := HN.out; omega))
      obtain ⟨M, hM⟩ : ∃ M, M = (lineL l (i' : Int)).length := ⟨_, rfl⟩
      obtain ⟨p, hp⟩ : ∃ p, M = p + 1 := ⟨M - 1, by omega⟩
      have hM60 : M ≤ 60 := by have := lineL_len l (i' : Int); have := HN.out; omega
      have HM := hid hM
      have HP := hid hp
      rw [← hM]
      have h0 := lineL_head (l := l) (i := (i' : Int)) (by have := HN.out; omega)
      have hlast : (lineL l (i' : Int))[p]? = some 0 := by
        have hq : (lineL l (i' : Int))[p]? = some ((lineL l (i' : Int))[p]'(by omega)) := List.getElem?_eq_getElem (by omega)
        have := HR.out.last hq (by omega)
        rw [this] at hq
        exact hq
      obtain ⟨g3, rfl, c0⟩ := HL3.out 0 _ h0
      obtain ⟨g3', hg3, cp⟩ := HL3.out p _ hlast
      cases hg3
      rw [Int.toNat_natCast] at c0
      have hw1 : IntKind.i64.wrap ((M : Int) - 1) = (p : Int) := by
        rw [IntWalk.i64_in _ (by omega)]; omega
      have hM0 : ((M : Int) == 0) = false := by simp; omega
      have hM1 : 0 < M := by omega
      have hpM : p < M := by omega
      clear hrow hb3 HF2 HB2 e99 hpos hp h0 hlast hM
      go_wp2
      clear hw1 c0 cp hM0 hpM
      go_loopw [10] (fun v wr => ∃ r : Nat, 1 ≤ r ∧ r ≤ M ∧ v = .int .i64 (r : Int) ∧ RowKit.Hid (Fr (fun _ => False) w3 wr)) (fun v _ => M - (intOf v).toNat)
      case atStart => exact ⟨1, by omega, by omega, rfl, hid (Fr.refl _ _)⟩
      case round =>
        obtain ⟨r, hr1, hrM, rfl, HX⟩ := hrel
        by_cases hqp : r < M
        · obtain ⟨q, hq⟩ : ∃ q, r = q + 1 := ⟨r - 1, by omega⟩
          have hy1 : (lineL l (i' : Int))[r]? = some ((lineL l (i' : Int))[r]'(by have := HM.out; omega)) := List.getElem?_eq_getElem (by have := HM.out; omega)
          have hy0 : (lineL l (i' : Int))[q]? = some ((lineL l (i' : Int))[q]'(by have := HM.out; omega)) := List.getElem?_eq_getElem (by have := HM.out; omega)
          have hlt := List.pairwise_iff_getElem.1 (lineL_fall l (i' : Int)) q r (by have := HM.out; omega) (by have := HM.out; omega) (by omega)
          generalize ((lineL l (i' : Int))[r]'(by have := HM.out; omega)) = y1 at hy1 hlt
          generalize ((lineL l (i' : Int))[q]'(by have := HM.out; omega)) = y0 at hy0 hlt
          have cellF : ∀ (n y : Nat), (lineL l (i' : Int))[n]? = some y → ∀ W, Fr (fun _ => False) w3 W → W.cell? ⟨g3, n, none⟩ = some (.int .i64 (y : Int)) := fun n y hn W hW => by
            obtain ⟨g', hg, cg⟩ := HL3.out n y hn
            cases hg
            exact (World.cell?_of_block (w := w3) (w' := W) (a := ⟨g3, n, none⟩) (hW.block g3 (World.block_lt_of_cell? w3 _ cg) (fun h => h))).trans cg
          have HC1 := hid (cellF r y1 hy1)
          have HC0 := hid (cellF q y0 hy0)
          have hge : decide ((y0 : Int) ≤ (y1 : Int)) = false := by simp; omega
          have hge2 : decide (y0 ≤ y1) = false := by simp; omega
          have hw1 : IntKind.i64.wrap ((r : Int) - 1) = (q : Int) := by rw [IntWalk.i64_in _ (by omega)]; omega
          have hqM : q < M := by omega
          have HQ := hid hq
          clear cellF hy1 hy0 hlt hq
          go_wp2
          refine D.wp_region_mix [0, 0, 0, 1, 0, 0, 0, 0, 1, 0] (fun W => Fr (fun _ => False) w3 W) (by kernel_rfl) (by kernel_rfl) HX.out.drew ?_
          repeat (first
            | (refine C.wpMix_read _ rfl rfl (fun W hS => load_int rfl rfl (HC1.out W hS)) ?_; simp only [Act.put, List.setIfInBounds_toArray, List.set_cons_zero, List.set_cons_succ])
            | (refine C.wpMix_read _ rfl rfl (fun W hS => load_int rfl rfl (HC0.out W hS)) ?_; simp only [Act.put, List.setIfInBounds_toArray, List.set_cons_zero, List.set_cons_succ])
            | (refine' C.wpMix_value _ rfl rfl _ _; rotate_left; (solve | (intro W; go_simp) | (intro W; go_simp; with_reducible rfl)); simp only [Act.put, List.setIfInBounds_toArray, List.set_cons_zero, List.set_cons_succ]))
          refine C.wpMix_end ?_
          go_wp2
          go_roundw
          case rel => exact ⟨r + 1, by omega, by omega, by go_num, hid HX.out.drew⟩
          case measure => simp [intOf]; omega
        · obtain rfl : r = M := by omega
          obtain ⟨w4, hw4⟩ : ∃ w4, w4 = wr := ⟨_, rfl⟩
          rw [← hw4] at HX ⊢
          have HB4 := hid (show Below w.heap.size w w4 from HB3.out.trans (HX.out.below HB3.out.size (fun _ h => h.elim)))
          have HF4 := hid (HF3.out.on (HX.out.below (Nat.le_refl _) (fun _ h => h.elim)))
          clear hw4 HX HL3 HF3 HB3
          have HII := hid (is_self (l := l) (i := (i' : Int)) (by have := HN.out; omega))
          obtain ⟨c, hc1, hc2, hc3, hc4⟩ := HR.out.common (i := (i' : Int)) (j := (j' : Int)) (by have := HN.out; omega) (by have := HN.out; omega)
          have HCc := hid hc1
          have HCd := hid hc2
          have HIc := hid hc3
          have HJc := hid hc4
          clear hc1 hc2 hc3 hc4
          go_wp2_with fail
          cases hij : isL l (i' : Int) (j' : Int) with
          | false =>
            have HIJ := hid hij
            clear hij
            refine (Is_any w4 ad N cap l (i' : Int) (i' : Int) HF4.out HN.out).mono ?_
            rintro e w5 ⟨rfl, hb5⟩
            rw [HII.out]
            have HF5 := hid (HF4.out.on hb5)
            have HB5 := hid (HB4.out.trans (hb5.mono HB4.out.size))
            clear hb5
            go_wp2_with fail
            refine (Is_any w5 ad N cap l (i' : Int) (j' : Int) HF5.out HN.out).mono ?_
            rintro e w6 ⟨rfl, hb6⟩
            rw [HIJ.out]
            have HF6 := hid (HF5.out.on hb6)
            have HB6 := hid (HB5.out.trans (hb6.mono HB5.out.size))
            clear hb6
            go_wp2_with fail
            refine (Is_any w6 ad N cap l (i' : Int) (j' : Int) HF6.out HN.out).mono ?_
            rintro e w7 ⟨rfl, hb7⟩
            rw [HIJ.out]
            have HF7 := hid (HF6.out.on hb7)
            have HB7 := hid (HB6.out.trans (hb7.mono HB6.out.size))
            clear hb7
            go_wp2_with fail
            refine (Common_any w7 ad N cap l (i' : Int) (j' : Int) HF7.out HN.out).mono ?_
            rintro e w8 ⟨rfl, hb8⟩
            rw [HCc.out]
            have HF8 := hid (HF7.out.on hb8)
            have HB8 := hid (HB7.out.trans (hb8.mono HB7.out.size))
            clear hb8
            go_wp2_with fail
            refine (Common_any w8 ad N cap l (j' : Int) (i' : Int) HF8.out HN.out).mono ?_
            rintro e w9 ⟨rfl, hb9⟩
            rw [HCd.out]
            have HF9 := hid (HF8.out.on hb9)
            have HB9 := hid (HB8.out.trans (hb9.mono HB8.out.size))
            have e1 : cmV (some c) = (c : Int) := rfl
            have e2 : cmE (some c) = 0 := rfl
            rw [e1, e2]
            clear hb9 e1 e2
            go_wp2_with fail
            refine (Is_any w9 ad N cap l (i' : Int) (c : Int) HF9.out HN.out).mono ?_
            rintro e w10 ⟨rfl, hb10⟩
            rw [HIc.out]
            have HF10 := hid (HF9.out.on hb10)
            have HB10 := hid (HB9.out.trans (hb10.mono HB9.out.size))
            clear hb10
            go_wp2_with fail
            refine (Is_any w10 ad N cap l (j' : Int) (c : Int) HF10.out HN.out).mono ?_
            rintro e w11 ⟨rfl, hb11⟩
            rw [HJc.out]
            have HF11 := hid (HF10.out.on hb11)
            have HB11 := hid (HB10.out.trans (hb11.mono HB10.out.size))
            clear hb11
            go_wp2_with fail
            refine (awake_any w11).mono ?_
            rintro e w12 ⟨rfl, hb12⟩
            have HB12 := hid (HB11.out.trans (hb12.mono HB11.out.size))
            clear hb12
            go_wp2
            go_ret
            exact ⟨rfl, HB12.out⟩
          | true =>
            have HIJ := hid hij
            cases hjk : isL l (j' : Int) (k' : Int) with
            | false =>
              have HJK := hid hjk
              clear hjk
              cases hji : isL l (j' : Int) (i' : Int) with
              | false =>
                have HJI := hid hji
                clear hij hji
                refine (Is_any w4 ad N cap l (i' : Int) (i' : Int) HF4.out HN.out).mono ?_
                rintro e w5 ⟨rfl, hb5⟩
                rw [HII.out]
                have HF5 := hid (HF4.out.on hb5)
                have HB5 := hid (HB4.out.trans (hb5.mono HB4.out.size))
                clear hb5
                go_wp2_with fail
                refine (Is_any w5 ad N cap l (i' : Int) (j' : Int) HF5.out HN.out).mono ?_
                rintro e w6 ⟨rfl, hb6⟩
                rw [HIJ.out]
                have HF6 := hid (HF5.out.on hb6)
                have HB6 := hid (HB5.out.trans (hb6.mono HB5.out.size))
                clear hb6
                go_wp2_with fail
                refine (Is_any w6 ad N cap l (j' : Int) (i' : Int) HF6.out HN.out).mono ?_
                rintro e w7 ⟨rfl, hb7⟩
                rw [HJI.out]
                have HF7 := hid (HF6.out.on hb7)
                have HB7 := hid (HB6.out.trans (hb7.mono HB6.out.size))
                clear hb7
                go_wp2_with fail
                refine (Is_any w7 ad N cap l (i' : Int) (j' : Int) HF7.out HN.out).mono ?_
                rintro e w8 ⟨rfl, hb8⟩
                rw [HIJ.out]
                have HF8 := hid (HF7.out.on hb8)
                have HB8 := hid (HB7.out.trans (hb8.mono HB7.out.size))
                clear hb8
                go_wp2_with fail
                refine (Is_any w8 ad N cap l (j' : Int) (k' : Int) HF8.out HN.out).mono ?_
                rintro e w9 ⟨rfl, hb9⟩
                rw [HJK.out]
                have HF9 := hid (HF8.out.on hb9)
                have HB9 := hid (HB8.out.trans (hb9.mono HB8.out.size))
                clear hb9
                go_wp2_with fail
                refine (Common_any w9 ad N cap l (i' : Int) (j' : Int) HF9.out HN.out).mono ?_
                rintro e w10 ⟨rfl, hb10⟩
                rw [HCc.out]
                have HF10 := hid (HF9.out.on hb10)
                have HB10 := hid (HB9.out.trans (hb10.mono HB9.out.size))
                clear hb10
                go_wp2_with fail
                refine (Common_any w10 ad N cap l (j' : Int) (i' : Int) HF10.out HN.out).mono ?_
                rintro e w11 ⟨rfl, hb11⟩
                rw [HCd.out]
                have HF11 := hid (HF10.out.on hb11)
                have HB11 := hid (HB10.out.trans (hb11.mono HB10.out.size))
                have e1 : cmV (some c) = (c : Int) := rfl
                have e2 : cmE (some c) = 0 := rfl
                rw [e1, e2]
                clear hb11 e1 e2
                go_wp2_with fail
                refine (Is_any w11 ad N cap l (i' : Int) (c : Int) HF11.out HN.out).mono ?_
                rintro e w12 ⟨rfl, hb12⟩
                rw [HIc.out]
                have HF12 := hid (HF11.out.on hb12)
                have HB12 := hid (HB11.out.trans (hb12.mono HB11.out.size))
                clear hb12
                go_wp2_with fail
                refine (Is_any w12 ad N cap l (j' : Int) (c : Int) HF12.out HN.out).mono ?_
                rintro e w13 ⟨rfl, hb13⟩
                rw [HJc.out]
                have HF13 := hid (HF12.out.on hb13)
                have HB13 := hid (HB12.out.trans (hb13.mono HB12.out.size))
                clear hb13
                go_wp2_with fail
                refine (awake_any w13).mono ?_
                rintro e w14 ⟨rfl, hb14⟩
                have HB14 := hid (HB13.out.trans (hb14.mono HB13.out.size))
                clear hb14
                go_wp2
                go_ret
                exact ⟨rfl, HB14.out⟩
              | true =>
                have HJI := hid hji
                have hee : (((i' : Int) : Int) != ((j' : Int) : Int)) = false := by have := is_anti hij hji; simp; omega
                have hee2 : (i' != j') = false := by have := is_anti hij hji; simp; omega
                clear hij hji
                refine (Is_any w4 ad N cap l (i' : Int) (i' : Int) HF4.out HN.out).mono ?_
                rintro e w5 ⟨rfl, hb5⟩
                rw [HII.out]
                have HF5 := hid (HF4.out.on hb5)
                have HB5 := hid (HB4.out.trans (hb5.mono HB4.out.size))
                clear hb5
                go_wp2_with fail
                refine (Is_any w5 ad N cap l (i' : Int) (j' : Int) HF5.out HN.out).mono ?_
                rintro e w6 ⟨rfl, hb6⟩
                rw [HIJ.out]
                have HF6 := hid (HF5.out.on hb6)
                have HB6 := hid (HB5.out.trans (hb6.mono HB5.out.size))
                clear hb6
                go_wp2_with fail
                refine (Is_any w6 ad N cap l (j' : Int) (i' : Int) HF6.out HN.out).mono ?_
                rintro e w7 ⟨rfl, hb7⟩
                rw [HJI.out]
                have HF7 := hid (HF6.out.on hb7)
                have HB7 := hid (HB6.out.trans (hb7.mono HB6.out.size))
                clear hb7
                go_wp2_with fail
                refine (Is_any w7 ad N cap l (i' : Int) (j' : Int) HF7.out HN.out).mono ?_
                rintro e w8 ⟨rfl, hb8⟩
                rw [HIJ.out]
                have HF8 := hid (HF7.out.on hb8)
                have HB8 := hid (HB7.out.trans (hb8.mono HB7.out.size))
                clear hb8
                go_wp2_with fail
                refine (Is_any w8 ad N cap l (j' : Int) (k' : Int) HF8.out HN.out).mono ?_
                rintro e w9 ⟨rfl, hb9⟩
                rw [HJK.out]
                have HF9 := hid (HF8.out.on hb9)
                have HB9 := hid (HB8.out.trans (hb9.mono HB8.out.size))
                clear hb9
                go_wp2_with fail
                refine (Common_any w9 ad N cap l (i' : Int) (j' : Int) HF9.out HN.out).mono ?_
                rintro e w10 ⟨rfl, hb10⟩
                rw [HCc.out]
                have HF10 := hid (HF9.out.on hb10)
                have HB10 := hid (HB9.out.trans (hb10.mono HB9.out.size))
                clear hb10
                go_wp2_with fail
                refine (Common_any w10 ad N cap l (j' : Int) (i' : Int) HF10.out HN.out).mono ?_
                rintro e w11 ⟨rfl, hb11⟩
                rw [HCd.out]
                have HF11 := hid (HF10.out.on hb11)
                have HB11 := hid (HB10.out.trans (hb11.mono HB10.out.size))
                have e1 : cmV (some c) = (c : Int) := rfl
                have e2 : cmE (some c) = 0 := rfl
                rw [e1, e2]
                clear hb11 e1 e2
                go_wp2_with fail
                refine (Is_any w11 ad N cap l (i' : Int) (c : Int) HF11.out HN.out).mono ?_
                rintro e w12 ⟨rfl, hb12⟩
                rw [HIc.out]
                have HF12 := hid (HF11.out.on hb12)
                have HB12 := hid (HB11.out.trans (hb12.mono HB11.out.size))
                clear hb12
                go_wp2_with fail
                refine (Is_any w12 ad N cap l (j' : Int) (c : Int) HF12.out HN.out).mono ?_
                rintro e w13 ⟨rfl, hb13⟩
                rw [HJc.out]
                have HF13 := hid (HF12.out.on hb13)
                have HB13 := hid (HB12.out.trans (hb13.mono HB12.out.size))
                clear hb13
                go_wp2_with fail
                refine (awake_any w13).mono ?_
                rintro e w14 ⟨rfl, hb14⟩
                have HB14 := hid (HB13.out.trans (hb14.mono HB13.out.size))
                clear hb14
                go_wp2
                go_ret
                exact ⟨rfl, HB14.out⟩
            | true =>
              have HJK := hid hjk
              have HIK := hid (is_trans hij hjk)
              clear hjk
              cases hji : isL l (j' : Int) (i' : Int) with
              | false =>
                have HJI := hid hji
                clear hij hji
                refine (Is_any w4 ad N cap l (i' : Int) (i' : Int) HF4.out HN.out).mono ?_
                rintro e w5 ⟨rfl, hb5⟩
                rw [HII.out]
                have HF5 := hid (HF4.out.on hb5)
                have HB5 := hid (HB4.out.trans (hb5.mono HB4.out.size))
                clear hb5
                go_wp2_with fail
                refine (Is_any w5 ad N cap l (i' : Int) (j' : Int) HF5.out HN.out).mono ?_
                rintro e w6 ⟨rfl, hb6⟩
                rw [HIJ.out]
                have HF6 := hid (HF5.out.on hb6)
                have HB6 := hid (HB5.out.trans (hb6.mono HB5.out.size))
                clear hb6
                go_wp2_with fail
                refine (Is_any w6 ad N cap l (j' : Int) (i' : Int) HF6.out HN.out).mono ?_
                rintro e w7 ⟨rfl, hb7⟩
                rw [HJI.out]
                have HF7 := hid (HF6.out.on hb7)
                have HB7 := hid (HB6.out.trans (hb7.mono HB6.out.size))
                clear hb7
                go_wp2_with fail
                refine (Is_any w7 ad N cap l (i' : Int) (j' : Int) HF7.out HN.out).mono ?_
                rintro e w8 ⟨rfl, hb8⟩
                rw [HIJ.out]
                have HF8 := hid (HF7.out.on hb8)
                have HB8 := hid (HB7.out.trans (hb8.mono HB7.out.size))
                clear hb8
                go_wp2_with fail
                refine (Is_any w8 ad N cap l (j' : Int) (k' : Int) HF8.out HN.out).mono ?_
                rintro e w9 ⟨rfl, hb9⟩
                rw [HJK.out]
                have HF9 := hid (HF8.out.on hb9)
                have HB9 := hid (HB8.out.trans (hb9.mono HB8.out.size))
                clear hb9
                go_wp2_with fail
                refine (Is_any w9 ad N cap l (i' : Int) (k' : Int) HF9.out HN.out).mono ?_
                rintro e w10 ⟨rfl, hb10⟩
                rw [HIK.out]
                have HF10 := hid (HF9.out.on hb10)
                have HB10 := hid (HB9.out.trans (hb10.mono HB9.out.size))
                clear hb10
                go_wp2_with fail
                refine (Common_any w10 ad N cap l (i' : Int) (j' : Int) HF10.out HN.out).mono ?_
                rintro e w11 ⟨rfl, hb11⟩
                rw [HCc.out]
                have HF11 := hid (HF10.out.on hb11)
                have HB11 := hid (HB10.out.trans (hb11.mono HB10.out.size))
                clear hb11
                go_wp2_with fail
                refine (Common_any w11 ad N cap l (j' : Int) (i' : Int) HF11.out HN.out).mono ?_
                rintro e w12 ⟨rfl, hb12⟩
                rw [HCd.out]
                have HF12 := hid (HF11.out.on hb12)
                have HB12 := hid (HB11.out.trans (hb12.mono HB11.out.size))
                have e1 : cmV (some c) = (c : Int) := rfl
                have e2 : cmE (some c) = 0 := rfl
                rw [e1, e2]
                clear hb12 e1 e2
                go_wp2_with fail
                refine (Is_any w12 ad N cap l (i' : Int) (c : Int) HF12.out HN.out).mono ?_
                rintro e w13 ⟨rfl, hb13⟩
                rw [HIc.out]
                have HF13 := hid (HF12.out.on hb13)
                have HB13 := hid (HB12.out.trans (hb13.mono HB12.out.size))
                clear hb13
                go_wp2_with fail
                refine (Is_any w13 ad N cap l (j' : Int) (c : Int) HF13.out HN.out).mono ?_
                rintro e w14 ⟨rfl, hb14⟩
                rw [HJc.out]
                have HF14 := hid (HF13.out.on hb14)
                have HB14 := hid (HB13.out.trans (hb14.mono HB13.out.size))
                clear hb14
                go_wp2_with fail
                refine (awake_any w14).mono ?_
                rintro e w15 ⟨rfl, hb15⟩
                have HB15 := hid (HB14.out.trans (hb15.mono HB14.out.size))
                clear hb15
                go_wp2
                go_ret
                exact ⟨rfl, HB15.out⟩
              | true =>
                have HJI := hid hji
                have hee : (((i' : Int) : Int) != ((j' : Int) : Int)) = false := by have := is_anti hij hji; simp; omega
                have hee2 : (i' != j') = false := by have := is_anti hij hji; simp; omega
                clear hij hji
                refine (Is_any w4 ad N cap l (i' : Int) (i' : Int) HF4.out HN.out).mono ?_
                rintro e w5 ⟨rfl, hb5⟩
                rw [HII.out]
                have HF5 := hid (HF4.out.on hb5)
                have HB5 := hid (HB4.out.trans (hb5.mono HB4.out.size))
                clear hb5
                go_wp2_with fail
                refine (Is_any w5 ad N cap l (i' : Int) (j' : Int) HF5.out HN.out).mono ?_
                rintro e w6 ⟨rfl, hb6⟩
                rw [HIJ.out]
                have HF6 := hid (HF5.out.on hb6)
                have HB6 := hid (HB5.out.trans (hb6.mono HB5.out.size))
                clear hb6
                go_wp2_with fail
                refine (Is_any w6 ad N cap l (j' : Int) (i' : Int) HF6.out HN.out).mono ?_
                rintro e w7 ⟨rfl, hb7⟩
                rw [HJI.out]
                have HF7 := hid (HF6.out.on hb7)
                have HB7 := hid (HB6.out.trans (hb7.mono HB6.out.size))
                clear hb7
                go_wp2_with fail
                refine (Is_any w7 ad N cap l (i' : Int) (j' : Int) HF7.out HN.out).mono ?_
                rintro e w8 ⟨rfl, hb8⟩
                rw [HIJ.out]
                have HF8 := hid (HF7.out.on hb8)
                have HB8 := hid (HB7.out.trans (hb8.mono HB7.out.size))
                clear hb8
                go_wp2_with fail
                refine (Is_any w8 ad N cap l (j' : Int) (k' : Int) HF8.out HN.out).mono ?_
                rintro e w9 ⟨rfl, hb9⟩
                rw [HJK.out]
                have HF9 := hid (HF8.out.on hb9)
                have HB9 := hid (HB8.out.trans (hb9.mono HB8.out.size))
                clear hb9
                go_wp2_with fail
                refine (Is_any w9 ad N cap l (i' : Int) (k' : Int) HF9.out HN.out).mono ?_
                rintro e w10 ⟨rfl, hb10⟩
                rw [HIK.out]
                have HF10 := hid (HF9.out.on hb10)
                have HB10 := hid (HB9.out.trans (hb10.mono HB9.out.size))
                clear hb10
                go_wp2_with fail
                refine (Common_any w10 ad N cap l (i' : Int) (j' : Int) HF10.out HN.out).mono ?_
                rintro e w11 ⟨rfl, hb11⟩
                rw [HCc.out]
                have HF11 := hid (HF10.out.on hb11)
                have HB11 := hid (HB10.out.trans (hb11.mono HB10.out.size))
                clear hb11
                go_wp2_with fail
                refine (Common_any w11 ad N cap l (j' : Int) (i' : Int) HF11.out HN.out).mono ?_
                rintro e w12 ⟨rfl, hb12⟩
                rw [HCd.out]
                have HF12 := hid (HF11.out.on hb12)
                have HB12 := hid (HB11.out.trans (hb12.mono HB11.out.size))
                have e1 : cmV (some c) = (c : Int) := rfl
                have e2 : cmE (some c) = 0 := rfl
                rw [e1, e2]
                clear hb12 e1 e2
                go_wp2_with fail
                refine (Is_any w12 ad N cap l (i' : Int) (c : Int) HF12.out HN.out).mono ?_
                rintro e w13 ⟨rfl, hb13⟩
                rw [HIc.out]
                have HF13 := hid (HF12.out.on hb13)
                have HB13 := hid (HB12.out.trans (hb13.mono HB12.out.size))
                clear hb13
                go_wp2_with fail
                refine (Is_any w13 ad N cap l (j' : Int) (c : Int) HF13.out HN.out).mono ?_
                rintro e w14 ⟨rfl, hb14⟩
                rw [HJc.out]
                have HF14 := hid (HF13.out.on hb14)
                have HB14 := hid (HB13.out.trans (hb14.mono HB13.out.size))
                clear hb14
                go_wp2_with fail
                refine (awake_any w14).mono ?_
                rintro e w15 ⟨rfl, hb15⟩
                have HB15 := hid (HB14.out.trans (hb15.mono HB14.out.size))
                clear hb15
                go_wp2
                go_ret
                exact ⟨rfl, HB15.out⟩
    · have hne : (checkL l != 0) = true := by simpa using hck
      obtain ⟨c, hcc⟩ : ∃ c, c = checkL l := ⟨_, rfl⟩
      rw [← hcc] at hne
      have HCC := hid hcc
      clear hgr hF hN hi hj hk hck hcc
      go_enter Try.func7, Try.ntmps7
      go_wp2_with (first | (go_at_call 9; refine (great_any _ _ _ _).mono ?_; rintro e w' ⟨rfl, rfl⟩) | fail)
      refine HCK.out.mono ?_
      rintro e w2 ⟨rfl, hb2⟩
      rw [← HCC.out]
      have HB2 := hid hb2
      clear hb2 HCK HF
      go_wp2_with fail
      refine (awake_any _).mono ?_
      rintro e w3 ⟨rfl, hb3⟩
      have HB3 := hid hb3
      clear hb3
      go_wp2
      go_ret
      exact ⟨rfl, HB2.out.trans (HB3.out.mono HB2.out.size)⟩
end Go.Proofs.Ytpcgplcpfbgcfaa
