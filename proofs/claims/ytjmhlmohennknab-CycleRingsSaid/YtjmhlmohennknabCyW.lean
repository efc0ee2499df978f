/-
  The contract of Step.
-/
import Derived.Test.YtjmhlmohennknabCyV
import Derived.Deep.LoopGhost
import Derived.Test.YtjmhlmohennknabMixD
namespace Go.Proofs.Ytjmhlmohennknab
open Go Go.ChangeShapes Go.WideShapes Go.ChangeAt Go.RowKit

/-- Between two units. -/
structure StI (w : World) (p B0 B1 : Nat) (g : Gr) (s0 : CyS) (n0 b : Int) (s : CyS) (W : World) : Prop where
  r : Rn W p B0 B1 g s
  j : CyJ g s
  bl : Below B0 w W
  ph : (Phi g s : Int) + max n0 0 ≤ Phi g s0 + max b 0
  b1 : b ≤ n0
  b0 : 0 ≤ b ∨ b = n0
  sm : s0.sw ≤ s.sw
def StepPost (w : World) (p B0 B1 : Nat) (g : Gr) (s0 : CyS) (n0 : Int) (e : Ending) (w' : World) : Prop :=
  ∃ s, e = .returned (.bool (decide (s.sw = 3))) ∧ Rn w' p B0 B1 g s ∧ CyJ g s ∧ Below B0 w w' ∧ (s.sw < 3 → (Phi g s : Int) + max n0 0 ≤ Phi g s0) ∧ s0.sw ≤ s.sw
theorem Step_nil (w : World) (n : Int) : Calls Try.prog 18 #[.pointer none, .int .i64 n] w fun e w' => e = .returned (.bool true) ∧ w = w' := by
  go_enter Try.func18, Try.ntmps18
  go_wp2
  refine wp_scope_straight ?_
  go_wp2
  dsimp only [Exit.noGoto]
  go_ret
  exact ⟨rfl, rfl⟩
section
variable {w w' : World} {p B0 B1 : Nat} {g : Gr} {s : CyS} {nv wv fv : Value}
theorem RunW.lenN (h : RunW w p B0 B1 g s nv wv fv) (hs : s.sw < 3) : ∃ q, nv = .slice (some ⟨q, 0, none⟩) g.n g.n := by
  obtain ⟨q, hq⟩ := h.nd hs
  exact ⟨q, hq.nv⟩
/-- A run that is over lets go of its nodes, and of who waits. -/
theorem RunW.over (h : RunW w p B0 B1 g s nv wv fv) (hs : s.sw = 3) : RunW ((w.setCell ⟨p, 0, none⟩ (.slice none 0 0)).setCell ⟨p, 3, none⟩ (.slice none 0 0)) p B0 B1 g s (.slice none 0 0) (.slice none 0 0) fv ∧
    Below B0 w ((w.setCell ⟨p, 0, none⟩ (.slice none 0 0)).setCell ⟨p, 3, none⟩ (.slice none 0 0)) := by
  have h1 : Fr (fun b => b = p) w (w.setCell ⟨p, 0, none⟩ (.slice none 0 0)) := (Fr.refl _ _).setCell _ _ (fun _ => rfl)
  have h2 : Fr (fun b => b = p) w ((w.setCell ⟨p, 0, none⟩ (.slice none 0 0)).setCell ⟨p, 3, none⟩ (.slice none 0 0)) := h1.setCell _ _ (fun _ => rfl)
  have hp1 := h.p1
  refine ⟨⟨?_, h.p0, h.p1, Nat.le_trans h.b1 h2.size, fun k => by omega, fun k => by omega, fun k => by omega, h.fo.fr h2 (fun k hk e => by have := (World.ownsRow.lt h.fo k hk).1; omega), fun k => by omega⟩, h2.below (by have := h.p0; have := h.lt; omega) (fun k hk => by rw [hk]; exact h.p0)⟩
  rw [heap_setCell_same _ _ _ _ _ _ (heap_setCell_same _ _ _ _ _ _ h.hp)]
  rfl
set_option maxRecDepth 100000 in
set_option maxHeartbeats 4000000 in
theorem Step_any (hr : Rn w p B0 B1 g s) (hJ : CyJ g s) (hg : GrOk g) (hz : GrSz g) (n : Int) (hn : -9223372036854775808 ≤ n ∧ n ≤ 9223372036854775807) :
    Calls Try.prog 18 #[.pointer (some ⟨p, 0, none⟩), .int .i64 n] w (StepPost w p B0 B1 g s n) := by
  have HI0 := hid (show StI w p B0 B1 g s n n s w from ⟨hr, hJ, Below.refl _ _, Int.le_refl _, Int.le_refl _, .inr rfl, Nat.le_refl _⟩)
  have HSW0 := hid hJ.sw
  have HG := hid hg
  have HZ := hid hz
  have HNB := hid hn
  clear hr hJ hg hz hn
  go_enter Try.func18, Try.ntmps18
  go_wp2_with fail
  refine wp_scope_straight ?_
  go_wp2_with fail
  refine wp_label ?_
  go_wp2_with fail
  go_loopg [1] (4 - s.sw) (fun k b wr => ∃ (bi : Int) (s' : CyS), b = .int .i64 bi ∧ RowKit.Hid (StI w p B0 B1 g s n bi s' wr) ∧ k + s'.sw = 4)
  case atStart => exact ⟨n, s, rfl, HI0, by have := HSW0.out; omega⟩
  case round =>
    obtain ⟨bi, s1, rfl, HI, hk⟩ := hrel
    obtain ⟨nv, wv, fv, hR⟩ := HI.out.r
    have c1 := hR.c1
    have hb := HI.out.b1
    have hb0 := HI.out.b0
    have hsw := HI.out.j.sw
    have HR := hid hR
    clear hR
    by_cases hs : s1.sw < 3
    · go_wp2_with fail
      rw [show decide ((s1.sw : Int) < 3) = true from decide_eq_true (by omega)]
      go_loopg [1] (bi.toNat) (fun k b wx => ∃ (b2 : Int) (s2 : CyS), b = .int .i64 b2 ∧ RowKit.Hid (StI w p B0 B1 g s n b2 s2 wx) ∧ s2.sw = s1.sw ∧ k = b2.toNat)
      case atStart => exact ⟨bi, s1, rfl, HI, rfl, rfl⟩
      case round =>
        obtain ⟨b2, s2, rfl, HI2, hs2, hk2⟩ := hrel
        obtain ⟨nv2, wv2, fv2, hR2⟩ := HI2.out.r
        obtain ⟨q2, rfl⟩ := hR2.lenN (by omega)
        obtain ⟨a2, k2, rfl, _⟩ := (hR2.wq (by omega)).form
        have c0 := hR2.c0
        have c2 := hR2.c2
        have c3 := hR2.c3
        have HR2 := hid hR2
        have hb2 := HI2.out.b1
        have hb20 := HI2.out.b0
        have hnx := HI2.out.j.nx
        obtain ⟨m, hm⟩ : ∃ m, m = s2.q.length := ⟨_, rfl⟩
        rw [← hm] at c3
        have HM := hid hm
        clear hR2 c1 hm
        by_cases hx : s2.next < g.n
        · have HMQ := hid (show s2.next < g.n ∨ s2.q ≠ [] from .inl hx)
          go_upto_region 4 with fail
          refine D.wp_region_mix [0, 0, 0, 1, 0, 0, 0, 1, 0, 0, 0, 0, 0, 0, 1, 0, 0, 0] (fun W => W = wr.drew) (by kernel_rfl) (by kernel_rfl) rfl ?_
          repeat (first
                          | (refine' C.wpMix_value _ rfl rfl _ _; rotate_left; (solve | (intro W; go_simp) | (intro W; go_simp; with_reducible rfl)); simp only [Act.put, List.setIfInBounds_toArray, List.set_cons_zero, List.set_cons_succ])
                          | (refine' C.wpMix_read _ rfl rfl _ _; rotate_left; (solve | (rintro W rfl; go_simp) | (rintro W rfl; go_simp; with_reducible rfl)); simp only [Act.put, List.setIfInBounds_toArray, List.set_cons_zero, List.set_cons_succ])
                          | (refine' C.wpMix_not (by decide) rfl _; simp only [Act.put, List.setIfInBounds_toArray, List.set_cons_zero, List.set_cons_succ]))
          refine C.wpMix_end ?_
          have hbd : Below wr.heap.size wr wr.drew := ⟨rfl, rfl, rfl, Nat.le_refl _, fun _ _ => rfl⟩
          obtain ⟨w1, hw1⟩ : ∃ w1, w1 = wr.drew := ⟨_, rfl⟩
          rw [← hw1] at hbd ⊢
          have h1 := HR2.out.no (Fr.of_below hbd)
          have hbd0 := HI2.out.bl.trans (hbd.mono (Nat.le_trans (Nat.le_of_lt (Nat.lt_of_le_of_lt h1.p0 h1.p1)) HR2.out.b1))
          have HBD := hid hbd0
          have H1 := hid h1
          clear c0 c2 c3 hw1 hbd hbd0
          have d1 := h1.c1
          clear h1
          by_cases hb1 : b2 < 1
          · go_wp2_with fail
            dsimp only [Exit.noGoto]
            go_ret
            exact ⟨s2, by rw [show decide (s2.sw = 3) = false from decide_eq_false (by omega)]; rfl, ⟨_, _, _, H1.out⟩, HI2.out.j, HBD.out, fun _ => (by have := HI2.out.ph; omega), HI2.out.sm⟩
          · obtain ⟨y, rfl⟩ := Int.eq_ofNat_of_zero_le (show 0 ≤ b2 by omega)
            have hwb : IntKind.i64.wrap ((y : Int) - 1) = (y : Int) - 1 := IntWalk.i64_in _ ⟨by omega, by have := HNB.out; omega⟩
            have HU := hid (unit_any H1.out HI2.out.j HG.out HZ.out (by omega) HMQ.out)
            have HJU := hid (HI2.out.j.unit HG.out (by omega) HMQ.out)
            clear d1
            go_wp2_with fail
            refine HU.out.mono ?_
            rintro e w3 ⟨⟨v, rfl⟩, ⟨wv3, fv3, k1⟩, k2⟩
            have HI3 := hid (show StI w p B0 B1 g s n ((y : Int) - 1) (s2.unit g.e) w3 from ⟨⟨_, _, _, k1⟩, HJU.out.1, HBD.out.trans k2, by have := HI2.out.ph; have := HJU.out.2; omega, by omega, .inl (by omega), by rw [unit_sw]; exact HI2.out.sm⟩)
            clear k1 k2
            go_wp2
            go_roundg (y - 1)
            case measure => omega
            case rel => exact ⟨(y : Int) - 1, s2.unit g.e, rfl, HI3, by rw [unit_sw]; exact hs2, by omega⟩
        · by_cases hm0 : 0 < m
          · have HMQ := hid (show s2.next < g.n ∨ s2.q ≠ [] from .inr (fun e => by have := HM.out; rw [e] at this; simp at this; omega))
            go_upto_region 4 with fail
            refine D.wp_region_mix [0, 0, 0, 1, 0, 0, 0, 1, 0, 0, 0, 0, 0, 0, 1, 0, 0, 0] (fun W => W = wr.drew) (by kernel_rfl) (by kernel_rfl) rfl ?_
            repeat (first
                            | (refine' C.wpMix_value _ rfl rfl _ _; rotate_left; (solve | (intro W; go_simp) | (intro W; go_simp; with_reducible rfl)); simp only [Act.put, List.setIfInBounds_toArray, List.set_cons_zero, List.set_cons_succ])
                            | (refine' C.wpMix_read _ rfl rfl _ _; rotate_left; (solve | (rintro W rfl; go_simp) | (rintro W rfl; go_simp; with_reducible rfl)); simp only [Act.put, List.setIfInBounds_toArray, List.set_cons_zero, List.set_cons_succ])
                            | (refine' C.wpMix_not (by decide) rfl _; simp only [Act.put, List.setIfInBounds_toArray, List.set_cons_zero, List.set_cons_succ]))
            refine C.wpMix_end ?_
            have hbd : Below wr.heap.size wr wr.drew := ⟨rfl, rfl, rfl, Nat.le_refl _, fun _ _ => rfl⟩
            obtain ⟨w1, hw1⟩ : ∃ w1, w1 = wr.drew := ⟨_, rfl⟩
            rw [← hw1] at hbd ⊢
            have h1 := HR2.out.no (Fr.of_below hbd)
            have hbd0 := HI2.out.bl.trans (hbd.mono (Nat.le_trans (Nat.le_of_lt (Nat.lt_of_le_of_lt h1.p0 h1.p1)) HR2.out.b1))
            have HBD := hid hbd0
            have H1 := hid h1
            clear c0 c2 c3 hw1 hbd hbd0
            have d1 := h1.c1
            clear h1
            by_cases hb1 : b2 < 1
            · go_wp2_with fail
              dsimp only [Exit.noGoto]
              go_ret
              exact ⟨s2, by rw [show decide (s2.sw = 3) = false from decide_eq_false (by omega)]; rfl, ⟨_, _, _, H1.out⟩, HI2.out.j, HBD.out, fun _ => (by have := HI2.out.ph; omega), HI2.out.sm⟩
            · obtain ⟨y, rfl⟩ := Int.eq_ofNat_of_zero_le (show 0 ≤ b2 by omega)
              have hwb : IntKind.i64.wrap ((y : Int) - 1) = (y : Int) - 1 := IntWalk.i64_in _ ⟨by omega, by have := HNB.out; omega⟩
              have HU := hid (unit_any H1.out HI2.out.j HG.out HZ.out (by omega) HMQ.out)
              have HJU := hid (HI2.out.j.unit HG.out (by omega) HMQ.out)
              clear d1
              go_wp2_with fail
              refine HU.out.mono ?_
              rintro e w3 ⟨⟨v, rfl⟩, ⟨wv3, fv3, k1⟩, k2⟩
              have HI3 := hid (show StI w p B0 B1 g s n ((y : Int) - 1) (s2.unit g.e) w3 from ⟨⟨_, _, _, k1⟩, HJU.out.1, HBD.out.trans k2, by have := HI2.out.ph; have := HJU.out.2; omega, by omega, .inl (by omega), by rw [unit_sw]; exact HI2.out.sm⟩)
              clear k1 k2
              go_wp2
              go_roundg (y - 1)
              case measure => omega
              case rel => exact ⟨(y : Int) - 1, s2.unit g.e, rfl, HI3, by rw [unit_sw]; exact hs2, by omega⟩
          · have hq0 : s2.q = [] := List.length_eq_zero_iff.1 (by have := HM.out; omega)
            have HQ0 := hid hq0
            clear hq0
            go_upto_region 4 with fail
            refine D.wp_region_mix [0, 0, 0, 1, 0, 0, 0, 1, 0, 0, 0, 0, 0, 0, 1, 0, 0, 0] (fun W => W = wr.drew) (by kernel_rfl) (by kernel_rfl) rfl ?_
            repeat (first
                            | (refine' C.wpMix_value _ rfl rfl _ _; rotate_left; (solve | (intro W; go_simp) | (intro W; go_simp; with_reducible rfl)); simp only [Act.put, List.setIfInBounds_toArray, List.set_cons_zero, List.set_cons_succ])
                            | (refine' C.wpMix_read _ rfl rfl _ _; rotate_left; (solve | (rintro W rfl; go_simp) | (rintro W rfl; go_simp; with_reducible rfl)); simp only [Act.put, List.setIfInBounds_toArray, List.set_cons_zero, List.set_cons_succ])
                            | (refine' C.wpMix_not (by decide) rfl _; simp only [Act.put, List.setIfInBounds_toArray, List.set_cons_zero, List.set_cons_succ]))
            refine C.wpMix_end ?_
            have hbd : Below wr.heap.size wr wr.drew := ⟨rfl, rfl, rfl, Nat.le_refl _, fun _ _ => rfl⟩
            obtain ⟨w1, hw1⟩ : ∃ w1, w1 = wr.drew := ⟨_, rfl⟩
            rw [← hw1] at hbd ⊢
            have h1 := HR2.out.no (Fr.of_below hbd)
            have hbd0 := HI2.out.bl.trans (hbd.mono (Nat.le_trans (Nat.le_of_lt (Nat.lt_of_le_of_lt h1.p0 h1.p1)) HR2.out.b1))
            clear c0 c2 c3 hw1 hbd
            have d1 := h1.c1
            have d2 := h1.c2
            have e1 := h1.fz 1
            have e2 := h1.fz 2
            obtain ⟨h2, hb21⟩ := h1.setP 1 (.int .i64 ((s2.sw : Int) + 1)) { s2 with sw := s2.sw + 1 } (.slice a2 s2.q.length k2) fv2 rfl (fun _ => ⟨by omega, rfl, rfl⟩) (fun _ => ⟨h1.wq (by omega), h1.wb (by omega)⟩) h1.fo (fun _ => h1.df (by omega))
            obtain ⟨h3, hb31⟩ := h2.setP 2 (.int .i64 0) s2.turn (.slice a2 s2.q.length k2) fv2 rfl (fun k => ⟨k, rfl, rfl⟩) (fun k => ⟨h2.wq k, h2.wb k⟩) h2.fo (fun k => h2.df k)
            have HJT := hid (HI2.out.j.turn HG.out (by omega) (by omega) HQ0.out)
            have HI3 := hid (show StI w p B0 B1 g s n b2 s2.turn _ from ⟨⟨_, _, _, h3⟩, HJT.out.1, hbd0.trans (hb21.trans hb31), by have := HI2.out.ph; have := HJT.out.2; omega, by omega, hb20, Nat.le_succ_of_le HI2.out.sm⟩)
            have hwe : IntKind.i64.wrap ((s2.sw : Int) + 1) = (s2.sw : Int) + 1 := IntWalk.i64_in _ ⟨by omega, by omega⟩
            have HS2 := hid hs2
            clear h1 h2 h3 hb21 hb31 hbd0 hs2
            go_wp2_with fail
            go_roundg (3 - s1.sw)
            case measure => omega
            case rel => exact ⟨b2, s2.turn, rfl, HI3, by have := HS2.out; show 3 - s1.sw + (s2.sw + 1) = 4; omega⟩
    · have hs3 : s1.sw = 3 := by omega
      rw [hs3] at c1
      have c0 := HR.out.c0
      have c3 := HR.out.c3
      have z0 := HR.out.fz 0
      have z3 := HR.out.fz 3
      obtain ⟨h3, hb3⟩ := HR.out.over hs3
      have H3 := hid h3
      have HB3 := hid hb3
      clear h3 hb3
      go_wp2_with fail
      dsimp only [Exit.noGoto]
      go_ret
      exact ⟨s1, by rw [hs3]; rfl, ⟨_, _, _, H3.out⟩, HI.out.j, HI.out.bl.trans HB3.out, fun k => absurd k hs, HI.out.sm⟩
end
end Go.Proofs.Ytjmhlmohennknab
