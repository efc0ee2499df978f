/-
  LeaseTells' walk.
-/
import Derived.Test.YtbdhjkdojgdhbaaLsP
namespace Go.Proofs.Ytbdhjkdojgdhbaa
open Go Go.ChangeShapes Go.WideShapes Go.ChangeAt Go.RowKit

theorem TwE.cut {w : World} {a : Option Addr} {n c k : Nat} {l : List On} (h : TwE w (.slice a n c) n l) (hk : k ≤ n) : TwE w (.slice a k c) k (l.take k) := by
  refine ⟨by rw [List.length_take, ← h.len]; omega, ?_⟩
  rcases h.ex with ⟨e, hn⟩ | ⟨g, c', e, hc, hg, hat⟩
  · cases e
    exact .inl ⟨by obtain rfl : k = 0 := by omega
                   rfl, by omega⟩
  · cases e
    refine .inr ⟨g, c, rfl, by omega, hg, fun j y hy => hat j y ?_⟩
    rw [List.getElem?_take] at hy
    split at hy
    · exact hy
    · cases hy
section
variable {Rp : World → (Nat → Prop) → Value → Lz → Prop} {w W W' : World} {v : Value} {p k : Nat} {z : Lz}
set_option maxRecDepth 100000 in
set_option maxHeartbeats 16000000 in
theorem LeaseTells_any (HC : LsC Rp) (w : World) (ad : Option Addr) (c : Nat) (l : List OAct) (st : Int) (hl : RwA w w.heap.size ad l) (hll : l.length ≤ 9223372036854775807) (hst : Nm st) :
    Calls Try.prog 4 #[.slice ad l.length c, iv st] w fun e w' => e = .returned (.bool true) ∧ Below w.heap.size w w' := by
  have HN := hid (HC.new w 3 3)
  have HX := hid (fun W => RNewL_any W 3 3)
  have HAW := hid (fun W => awakeO_any HC W)
  have HCC := hid HC
  have HL := hid hl
  have HST := hid hst
  clear HC hl hst
  simp only [if_pos (show (1 : Int) ≤ 3 ∧ (3 : Int) ≤ 1000 ∧ (1 : Int) ≤ 3 ∧ (3 : Int) ≤ 1000 by decide)] at HN HX
  obtain ⟨n, hn⟩ : ∃ n, n = l.length := ⟨_, rfl⟩
  rw [← hn] at hll ⊢
  have HNN := hid hn
  clear hn
  go_enter Try.func4, Try.ntmps4
  go_upto_region 2 with (first
    | (go_at_call 7; refine HN.out.mono ?_; rintro e w1 ⟨hb1, v, S1, rfl, hS1, hR1⟩)
    | fail)
  obtain ⟨pv, rfl⟩ := HCC.out.ptr hR1
  have HR1 := hid hR1
  have HS1 := hid hS1
  have HB1 := hid hb1
  clear HN hR1 hS1 hb1
  go_upto_region 3 with (first
    | (go_at_call 8; refine (HX.out w1).mono ?_; rintro e w2 ⟨hb2, p, S2, lv, rfl, hS2, hR2⟩)
    | fail)
  have hP : PlI Rp w (.pointer (some ⟨pv, 0, none⟩)) p ⟨3 * 3, 0, []⟩ 0 w2 := by
    refine ⟨⟨S1, S2, lv, HCC.out.fr HR1.out (Fr.of_below (fp := fun _ => False) hb2) (fun _ _ e => e), hR2, HS1.out, fun k hk => Nat.le_trans HB1.out.size (hS2 k hk), fun k h1 h2 => ?_, fun k hk => hk.elim⟩, HB1.out.trans (hb2.mono HB1.out.size), ⟨by simp [Rise], by simp, Int.le_refl _, by simp, by decide, fun x hx => by simp at hx⟩⟩
    have := HCC.out.lt HR1.out k h1
    have := hS2 k h2
    omega
  obtain ⟨z, hz⟩ : ∃ z : Lz, z = ⟨3 * 3, 0, []⟩ := ⟨_, rfl⟩
  rw [← hz] at hP
  have HP := hid hP
  clear HX HR1 HS1 HB1 hP hb2 hS2 hR2 hz
  go_wp2_with fail
  go_loopw [8] (fun i wr => ∃ (k : Nat) (z : Lz), k ≤ n ∧ k ≤ 100 ∧ i = .int .i64 k ∧ RowKit.Hid (PlI Rp w (.pointer (some ⟨pv, 0, none⟩)) p z k wr)) (fun i _ => 100 - (intOf i).toNat)
  case atStart => exact ⟨0, z, by omega, by omega, rfl, HP⟩
  case round =>
    clear HP
    obtain ⟨k, z, hkn, hk3, rfl, HI⟩ := hrel
    by_cases hgo : k < n ∧ k < 100
    · obtain ⟨hg1, hg2⟩ := hgo
      have hx : l[k]? = some (l[k]'(by rw [← HNN.out]; exact hg1)) := List.getElem?_eq_getElem _
      generalize l[k]'(by rw [← HNN.out]; exact hg1) = x at hx
      obtain ⟨ab, ao, rfl, hab⟩ := HL.out.at_ (by rw [← HNN.out]; omega)
      have HAT := hid ((HL.out.below HI.out.bel).rows ab ao rfl k x hx)
      have HDO := hid (HI.out.do HCC.out (by omega) (HL.out.ok x (List.mem_of_getElem? hx)))
      clear hx HI
      go_wp2_with (first
        | ((with_reducible refine at_op ⟨some 30, _, _, _, _, _⟩ ?_); refine wpList_run rfl _ (load_cells Try.underlying33 rfl (by kernel_rfl) rfl rfl HAT.out) ?_)
        | fail)
      refine HDO.out.mono ?_
      rintro e w5 ⟨rfl, h5⟩
      have H5 := hid h5
      clear h5 HDO HAT
      go_wp2
      go_roundw
      case rel => exact ⟨k + 1, _, by omega, by omega, by go_num, H5⟩
      case measure => simp [intOf]; omega
    · have hlt2 : k = n ∨ (k = 100 ∧ 100 < n) := by omega
      obtain ⟨S, lv2, hR, hSx⟩ := HI.out.pr.tw
      obtain ⟨la, lc, hlv⟩ := own_form hR.row
      have hqc := own_cap (by have := hR.row; rw [hlv] at this; exact this)
      obtain ⟨q, hq⟩ : ∃ q, q = z.l.length := ⟨_, rfl⟩
      rw [← hq] at hlv hqc
      have hq1 : q ≤ 100 := by have := HI.out.ok.len; omega
      have hTw : ∀ W, Below wr.heap.size wr W → W.cell? ⟨p, 2, none⟩ = some (.slice la q lc) ∧ TwE W (.slice la q lc) q z.l := fun W hW => by
        have h2 := hR.no (Fr.of_below hW)
        have h3 := TwE.of h2.row
        have h4 := h2.c2
        rw [hlv] at h3 h4
        rw [hq] at h3 h4 ⊢
        exact ⟨h4, h3⟩
      have c2 := (hTw wr (Below.refl _ _)).1
      have hd0 : Below wr.heap.size wr wr.drew := (Below.refl _ _).drew
      have c2d := (hTw wr.drew hd0).1
      have hTw2 : ∀ W, Below wr.drew.heap.size wr.drew W → W.cell? ⟨p, 2, none⟩ = some (.slice la q lc) ∧ TwE W (.slice la q lc) q z.l := fun W hW => hTw W (hd0.trans (hW.mono hd0.size))
      have HTW := hid hTw2
      have hwq := IntWalk.i64_in ((q : Int) + 1) (by omega)
      obtain ⟨m, hm⟩ : ∃ m : Nat, st % ((q : Int) + 1) = (m : Int) := ⟨(st % ((q : Int) + 1)).toNat, by have := Int.emod_nonneg st (b := (q : Int) + 1) (by omega); omega⟩
      have hmq : m ≤ q := by have := Int.emod_lt_of_pos st (b := (q : Int) + 1) (by omega); omega
      have HPK := hid (Pick_any st ((q : Int) + 1) wr HST.out (by omega) (by omega))
      rw [hm] at HPK
      have HD := hid (HI.out.no HCC.out hd0)
      have HTD := hid (HD.out.told HCC.out (by omega) m (by omega))
      clear hgo HI hR hSx hTw hTw2 hm hd0 hlv hq
      rcases hlt2 with rfl | ⟨rfl, hn3⟩
      · go_upto_region 7 with fail
        go_upto_region 8 with (first
          | (go_at_call 16; refine HPK.out.mono ?_; rintro e w3 ⟨rfl, hw⟩; subst hw)
          | fail)
        clear HPK hwq
        refine D.wp_region_mix [0, 0, 0, 0, 0, 2, 0, 0, 0, 1, 0, 0, 2, 0, 0, 3, 0, 0] (fun W => W.cell? ⟨p, 2, none⟩ = some (.slice la q lc)) (by kernel_rfl) (by kernel_rfl) c2d ?_
        repeat (first
          | (refine' C.wpMix_not (by decide) rfl _; simp only [Act.put, List.setIfInBounds_toArray, List.set_cons_zero, List.set_cons_succ])
          | (refine C.wpMix_value (.slice la m lc) rfl rfl (fun W => exec_upto rfl rfl rfl (Nat.le_trans hmq hqc)) ?_; simp only [Act.put, List.setIfInBounds_toArray, List.set_cons_zero, List.set_cons_succ])
          | (refine' C.wpMix_value _ rfl rfl _ _; rotate_left; (solve | (intro W; go_simp) | (intro W; go_simp; with_reducible rfl)); simp only [Act.put, List.setIfInBounds_toArray, List.set_cons_zero, List.set_cons_succ])
          | (refine' C.wpMix_read _ rfl rfl _ _; rotate_left; (solve | (rintro W h1; go_simp) | (rintro W h1; go_simp; with_reducible rfl)); simp only [Act.put, List.setIfInBounds_toArray, List.set_cons_zero, List.set_cons_succ]))
        refine C.wpMix_call 15 #[.pointer (some ⟨pv, 0, none⟩), .int .i64 m] (by decide) rfl (by go_simp) ?_
        refine HTD.out.mono ?_
        rintro e w4 ⟨h4, hb4, u, rfl, ht4⟩
        obtain ⟨k4, t4⟩ := HTW.out w4 hb4
        have hc4 := t4.cut hmq
        have hl4 : (z.l.take m).length = m := hc4.len.symm
        rw [hl4] at ht4
        have HSM := hid (sameO_any w4 u (.slice la m lc) m _ ht4 hc4 (by omega))
        have HB4 := hid hb4
        have HBW := hid h4.bel
        clear h4 hb4 ht4 t4 HTD hc4 hl4
        refine ⟨_, rfl, fun _ => k4, ?_⟩
        simp only [Act.put, List.setIfInBounds_toArray, List.set_cons_zero, List.set_cons_succ]
        repeat (first
          | (refine' C.wpMix_not (by decide) rfl _; simp only [Act.put, List.setIfInBounds_toArray, List.set_cons_zero, List.set_cons_succ])
          | (refine C.wpMix_value (.slice la m lc) rfl rfl (fun W => exec_upto rfl rfl rfl (Nat.le_trans hmq hqc)) ?_; simp only [Act.put, List.setIfInBounds_toArray, List.set_cons_zero, List.set_cons_succ])
          | (refine' C.wpMix_value _ rfl rfl _ _; rotate_left; (solve | (intro W; go_simp) | (intro W; go_simp; with_reducible rfl)); simp only [Act.put, List.setIfInBounds_toArray, List.set_cons_zero, List.set_cons_succ])
          | (refine' C.wpMix_read _ rfl rfl _ _; rotate_left; (solve | (rintro W h1; go_simp) | (rintro W h1; go_simp; with_reducible rfl)); simp only [Act.put, List.setIfInBounds_toArray, List.set_cons_zero, List.set_cons_succ]))
        refine C.wpMix_call 14 #[u, .slice la m lc] (by decide) rfl (by go_simp) ?_
        refine HSM.out.mono ?_
        rintro e w5 ⟨rfl, hb5⟩
        have k5 := (HTW.out w5 (HB4.out.trans (hb5.mono HB4.out.size))).1
        have HB5 := hid (HBW.out.trans (hb5.mono HBW.out.size))
        have HA5 := hid (HAW.out w5)
        clear hb5 HSM k4
        refine ⟨_, rfl, fun _ => k5, ?_⟩
        simp only [Act.put, List.setIfInBounds_toArray, List.set_cons_zero, List.set_cons_succ]
        repeat (first
          | (refine' C.wpMix_not (by decide) rfl _; simp only [Act.put, List.setIfInBounds_toArray, List.set_cons_zero, List.set_cons_succ])
          | (refine C.wpMix_value (.slice la m lc) rfl rfl (fun W => exec_upto rfl rfl rfl (Nat.le_trans hmq hqc)) ?_; simp only [Act.put, List.setIfInBounds_toArray, List.set_cons_zero, List.set_cons_succ])
          | (refine' C.wpMix_value _ rfl rfl _ _; rotate_left; (solve | (intro W; go_simp) | (intro W; go_simp; with_reducible rfl)); simp only [Act.put, List.setIfInBounds_toArray, List.set_cons_zero, List.set_cons_succ])
          | (refine' C.wpMix_read _ rfl rfl _ _; rotate_left; (solve | (rintro W h1; go_simp) | (rintro W h1; go_simp; with_reducible rfl)); simp only [Act.put, List.setIfInBounds_toArray, List.set_cons_zero, List.set_cons_succ]))
        refine C.wpMix_call 9 #[] (by decide) rfl (by go_simp) ?_
        refine HA5.out.mono ?_
        rintro e w6 ⟨rfl, hb6⟩
        have HB6 := hid (HB5.out.trans (hb6.mono HB5.out.size))
        clear hb6 HA5
        refine ⟨_, rfl, (fun h => by cases h), ?_⟩
        simp only [Act.put, List.setIfInBounds_toArray, List.set_cons_zero, List.set_cons_succ]
        repeat (first
          | (refine' C.wpMix_not (by decide) rfl _; simp only [Act.put, List.setIfInBounds_toArray, List.set_cons_zero, List.set_cons_succ])
          | (refine C.wpMix_value (.slice la m lc) rfl rfl (fun W => exec_upto rfl rfl rfl (Nat.le_trans hmq hqc)) ?_; simp only [Act.put, List.setIfInBounds_toArray, List.set_cons_zero, List.set_cons_succ])
          | (refine' C.wpMix_value _ rfl rfl _ _; rotate_left; (solve | (intro W; go_simp) | (intro W; go_simp; with_reducible rfl)); simp only [Act.put, List.setIfInBounds_toArray, List.set_cons_zero, List.set_cons_succ])
          | (refine' C.wpMix_read _ rfl rfl _ _; rotate_left; (solve | (rintro W h1; go_simp) | (rintro W h1; go_simp; with_reducible rfl)); simp only [Act.put, List.setIfInBounds_toArray, List.set_cons_zero, List.set_cons_succ]))
        refine C.wpMix_end ?_
        go_wp2_with fail
        go_ret
        exact ⟨rfl, HB6.out⟩
      · have d3 : decide ((100 : Int) < (n : Int)) = true := decide_eq_true (by omega)
        go_upto_region 7 with fail
        go_upto_region 8 with (first
          | (go_at_call 16; refine HPK.out.mono ?_; rintro e w3 ⟨rfl, hw⟩; subst hw)
          | fail)
        clear HPK hwq
        refine D.wp_region_mix [0, 0, 0, 0, 0, 2, 0, 0, 0, 1, 0, 0, 2, 0, 0, 3, 0, 0] (fun W => W.cell? ⟨p, 2, none⟩ = some (.slice la q lc)) (by kernel_rfl) (by kernel_rfl) c2d ?_
        repeat (first
          | (refine' C.wpMix_not (by decide) rfl _; simp only [Act.put, List.setIfInBounds_toArray, List.set_cons_zero, List.set_cons_succ])
          | (refine C.wpMix_value (.slice la m lc) rfl rfl (fun W => exec_upto rfl rfl rfl (Nat.le_trans hmq hqc)) ?_; simp only [Act.put, List.setIfInBounds_toArray, List.set_cons_zero, List.set_cons_succ])
          | (refine' C.wpMix_value _ rfl rfl _ _; rotate_left; (solve | (intro W; go_simp) | (intro W; go_simp; with_reducible rfl)); simp only [Act.put, List.setIfInBounds_toArray, List.set_cons_zero, List.set_cons_succ])
          | (refine' C.wpMix_read _ rfl rfl _ _; rotate_left; (solve | (rintro W h1; go_simp) | (rintro W h1; go_simp; with_reducible rfl)); simp only [Act.put, List.setIfInBounds_toArray, List.set_cons_zero, List.set_cons_succ]))
        refine C.wpMix_call 15 #[.pointer (some ⟨pv, 0, none⟩), .int .i64 m] (by decide) rfl (by go_simp) ?_
        refine HTD.out.mono ?_
        rintro e w4 ⟨h4, hb4, u, rfl, ht4⟩
        obtain ⟨k4, t4⟩ := HTW.out w4 hb4
        have hc4 := t4.cut hmq
        have hl4 : (z.l.take m).length = m := hc4.len.symm
        rw [hl4] at ht4
        have HSM := hid (sameO_any w4 u (.slice la m lc) m _ ht4 hc4 (by omega))
        have HB4 := hid hb4
        have HBW := hid h4.bel
        clear h4 hb4 ht4 t4 HTD hc4 hl4
        refine ⟨_, rfl, fun _ => k4, ?_⟩
        simp only [Act.put, List.setIfInBounds_toArray, List.set_cons_zero, List.set_cons_succ]
        repeat (first
          | (refine' C.wpMix_not (by decide) rfl _; simp only [Act.put, List.setIfInBounds_toArray, List.set_cons_zero, List.set_cons_succ])
          | (refine C.wpMix_value (.slice la m lc) rfl rfl (fun W => exec_upto rfl rfl rfl (Nat.le_trans hmq hqc)) ?_; simp only [Act.put, List.setIfInBounds_toArray, List.set_cons_zero, List.set_cons_succ])
          | (refine' C.wpMix_value _ rfl rfl _ _; rotate_left; (solve | (intro W; go_simp) | (intro W; go_simp; with_reducible rfl)); simp only [Act.put, List.setIfInBounds_toArray, List.set_cons_zero, List.set_cons_succ])
          | (refine' C.wpMix_read _ rfl rfl _ _; rotate_left; (solve | (rintro W h1; go_simp) | (rintro W h1; go_simp; with_reducible rfl)); simp only [Act.put, List.setIfInBounds_toArray, List.set_cons_zero, List.set_cons_succ]))
        refine C.wpMix_call 14 #[u, .slice la m lc] (by decide) rfl (by go_simp) ?_
        refine HSM.out.mono ?_
        rintro e w5 ⟨rfl, hb5⟩
        have k5 := (HTW.out w5 (HB4.out.trans (hb5.mono HB4.out.size))).1
        have HB5 := hid (HBW.out.trans (hb5.mono HBW.out.size))
        have HA5 := hid (HAW.out w5)
        clear hb5 HSM k4
        refine ⟨_, rfl, fun _ => k5, ?_⟩
        simp only [Act.put, List.setIfInBounds_toArray, List.set_cons_zero, List.set_cons_succ]
        repeat (first
          | (refine' C.wpMix_not (by decide) rfl _; simp only [Act.put, List.setIfInBounds_toArray, List.set_cons_zero, List.set_cons_succ])
          | (refine C.wpMix_value (.slice la m lc) rfl rfl (fun W => exec_upto rfl rfl rfl (Nat.le_trans hmq hqc)) ?_; simp only [Act.put, List.setIfInBounds_toArray, List.set_cons_zero, List.set_cons_succ])
          | (refine' C.wpMix_value _ rfl rfl _ _; rotate_left; (solve | (intro W; go_simp) | (intro W; go_simp; with_reducible rfl)); simp only [Act.put, List.setIfInBounds_toArray, List.set_cons_zero, List.set_cons_succ])
          | (refine' C.wpMix_read _ rfl rfl _ _; rotate_left; (solve | (rintro W h1; go_simp) | (rintro W h1; go_simp; with_reducible rfl)); simp only [Act.put, List.setIfInBounds_toArray, List.set_cons_zero, List.set_cons_succ]))
        refine C.wpMix_call 9 #[] (by decide) rfl (by go_simp) ?_
        refine HA5.out.mono ?_
        rintro e w6 ⟨rfl, hb6⟩
        have HB6 := hid (HB5.out.trans (hb6.mono HB5.out.size))
        clear hb6 HA5
        refine ⟨_, rfl, (fun h => by cases h), ?_⟩
        simp only [Act.put, List.setIfInBounds_toArray, List.set_cons_zero, List.set_cons_succ]
        repeat (first
          | (refine' C.wpMix_not (by decide) rfl _; simp only [Act.put, List.setIfInBounds_toArray, List.set_cons_zero, List.set_cons_succ])
          | (refine C.wpMix_value (.slice la m lc) rfl rfl (fun W => exec_upto rfl rfl rfl (Nat.le_trans hmq hqc)) ?_; simp only [Act.put, List.setIfInBounds_toArray, List.set_cons_zero, List.set_cons_succ])
          | (refine' C.wpMix_value _ rfl rfl _ _; rotate_left; (solve | (intro W; go_simp) | (intro W; go_simp; with_reducible rfl)); simp only [Act.put, List.setIfInBounds_toArray, List.set_cons_zero, List.set_cons_succ])
          | (refine' C.wpMix_read _ rfl rfl _ _; rotate_left; (solve | (rintro W h1; go_simp) | (rintro W h1; go_simp; with_reducible rfl)); simp only [Act.put, List.setIfInBounds_toArray, List.set_cons_zero, List.set_cons_succ]))
        refine C.wpMix_end ?_
        go_wp2_with fail
        go_ret
        exact ⟨rfl, HB6.out⟩
end
end Go.Proofs.Ytbdhjkdojgdhbaa
