/- ClSm ClAw in one -/
import Derived.Test.YtgfimkeopohjaaaDoorClLd
namespace Go.Proofs.YtgfimkeopohjaaaDoor
open Go Go.ChangeShapes Go.WideShapes Go.ChangeAt Go.RowKit

def z16 : List Int := List.replicate 16 0
def smallL : List Cls := [⟨z16, [⟨z16, -1⟩], 0, [[⟨2, 0, 0⟩, ⟨11, 0, 0⟩]]⟩]
theorem small_chk : (chkM smallL).2 = 0 := by decide +kernel
theorem small_form : formM smallL = [1] ++ z16 ++ [1] ++ z16 ++ [0, 0, 1, 2, 2, 0, 0, 0, 0, 0, 11, 0, 0, 0, 0, 0] := by decide +kernel
theorem five (w : World) (o0 o1 o2 o3 o4 : Obj) (W : World) (hW : W = ((((w.alloc o0).alloc o1).alloc o2).alloc o3).alloc o4) :
    W.heap[w.heap.size]? = some o0 ∧ W.heap[w.heap.size + 1]? = some o1 ∧ W.heap[w.heap.size + 2]? = some o2 ∧ W.heap[w.heap.size + 3]? = some o3 ∧ W.heap[w.heap.size + 4]? = some o4 ∧ Below w.heap.size w W ∧ W.heap.size = w.heap.size + 5 := by
  have e1 : (w.alloc o0).heap.size = w.heap.size + 1 := by simp
  have e2 : ((w.alloc o0).alloc o1).heap.size = w.heap.size + 2 := by simp
  have e3 : (((w.alloc o0).alloc o1).alloc o2).heap.size = w.heap.size + 3 := by simp
  have e4 : ((((w.alloc o0).alloc o1).alloc o2).alloc o3).heap.size = w.heap.size + 4 := by simp
  have b1 := (Below.refl (w.alloc o0).heap.size (w.alloc o0)).alloc (Nat.le_refl _) o1
  have b2 := (Below.refl ((w.alloc o0).alloc o1).heap.size ((w.alloc o0).alloc o1)).alloc (Nat.le_refl _) o2
  have b3 := (Below.refl (((w.alloc o0).alloc o1).alloc o2).heap.size (((w.alloc o0).alloc o1).alloc o2)).alloc (Nat.le_refl _) o3
  have b4 := (Below.refl ((((w.alloc o0).alloc o1).alloc o2).alloc o3).heap.size ((((w.alloc o0).alloc o1).alloc o2).alloc o3)).alloc (Nat.le_refl _) o4
  rw [← hW] at b4
  have n0 := heap_alloc_new w o0
  have n1 := heap_alloc_new (w.alloc o0) o1
  have n2 := heap_alloc_new ((w.alloc o0).alloc o1) o2
  have n3 := heap_alloc_new (((w.alloc o0).alloc o1).alloc o2) o3
  have n4 := heap_alloc_new ((((w.alloc o0).alloc o1).alloc o2).alloc o3) o4
  rw [e1] at n1
  rw [e2] at n2
  rw [e3] at n3
  rw [e4, ← hW] at n4
  refine ⟨?_, ?_, ?_, ?_, n4, ?_, ?_⟩
  · rw [b4.block _ (by omega), b3.block _ (by omega), b2.block _ (by omega), b1.block _ (by omega)]; exact n0
  · rw [b4.block _ (by omega), b3.block _ (by omega), b2.block _ (by omega)]; exact n1
  · rw [b4.block _ (by omega), b3.block _ (by omega)]; exact n2
  · rw [b4.block _ (by omega)]; exact n3
  · exact ((((((Below.refl _ _).alloc (Nat.le_refl _) o0).trans (b1.mono (by omega))).trans (b2.mono (by omega))).trans (b3.mono (by omega)))).trans (b4.mono (by omega))
  · rw [hW]; simp
set_option maxRecDepth 100000 in
set_option maxHeartbeats 4000000 in
theorem small_any (w : World) : Calls Tryd.prog 28 #[] w fun e w' => ∃ a c, e = .returned (.agg #[.slice a 1 c]) ∧ RwC w' w'.heap.size a smallL ∧ 1 ≤ c ∧ c ≤ 9223372036854775807 ∧ Below w.heap.size w w' := by
  go_enter Tryd.func28, Tryd.ntmps28
  go_wp2
  obtain ⟨h0, h1, h2, h3, h4, hB, hs⟩ := five w _ _ _ _ _ _ rfl
  refine bodyPost_ret (v := .agg #[.slice (some ⟨w.heap.size + 1 + 1 + 1 + 1, 0, none⟩) 1 1]) ?_ rfl ⟨_, 1, rfl, ?_, by omega, by omega, hB⟩
  · rw [results_cell1 (fn := Tryd.f28) rfl]
    simp [asAddr, run_loadVar_row _ w.heap.size 24 24 _ _ _ h0 Tryd.underlying24 rfl (by kernel_rfl)]
  · generalize (((((w.alloc _).alloc _).alloc _).alloc _).alloc _) = W at h0 h1 h2 h3 h4 hB hs ⊢
    have r1 : SlF W W.heap.size (.slice (some ⟨w.heap.size + 1, 0, none⟩) 1 1) [⟨z16, -1⟩] := by
      refine ⟨_, 1, rfl, ⟨fun _ => ⟨_, 0, rfl, by omega⟩, fun b o he i x hx => ?_, fun x hx => ?_, fun x hx => ?_⟩, Nat.le_refl _, by omega⟩
      · cases he
        obtain rfl : i = 0 := by
          have := (List.getElem?_eq_some_iff.1 hx).1
          simp at this; omega
        simp at hx
        subst hx
        exact AtL.row (cs := fcl ⟨z16, -1⟩) h1
      · simp at hx; subst hx; rfl
      · simp at hx; subst hx; exact ⟨by decide, by decide⟩
    have r2 : SlI W W.heap.size (.slice (some ⟨w.heap.size + 2, 0, none⟩) 2 2) [⟨2, 0, 0⟩, ⟨11, 0, 0⟩] := by
      refine ⟨_, 2, rfl, ⟨fun _ => ⟨_, 0, rfl, by omega⟩, fun b o he i x hx => ?_⟩, Nat.le_refl _, by omega, fun x hx => ?_⟩
      · cases he
        have hall := AtL.row (W := W) (b := w.heap.size + 2) (cs := ([⟨2, 0, 0⟩, ⟨11, 0, 0⟩] : List Ins).flatMap insc) h2
        intro j u hu
        have hj : j < 3 := (List.getElem?_eq_some_iff.1 hu).1
        have h5 := hall (i * 3 + j) u (by rw [flatK_get hj (insc_k _) hx]; exact hu)
        rwa [← Nat.add_assoc] at h5
      · simp at hx
        rcases hx with rfl | rfl <;> exact ⟨⟨by decide, by decide⟩, ⟨by decide, by decide⟩, ⟨by decide, by decide⟩⟩
    have r3 : SlM W W.heap.size (.slice (some ⟨w.heap.size + 3, 0, none⟩) 1 1) [[⟨2, 0, 0⟩, ⟨11, 0, 0⟩]] := by
      refine ⟨_, 1, rfl, ⟨fun _ => ⟨_, 0, rfl, by omega⟩, fun b o he i x hx => ?_⟩, Nat.le_refl _, by omega⟩
      cases he
      obtain rfl : i = 0 := by
        have := (List.getElem?_eq_some_iff.1 hx).1
        simp at this; omega
      simp at hx
      subst hx
      exact ⟨_, AtL.row (cs := [.slice (some ⟨w.heap.size + 2, 0, none⟩) 2 2]) h3 0 _ rfl, r2⟩
    refine ⟨fun _ => ⟨_, 0, rfl, by omega⟩, fun b o he i c hc => ?_⟩
    cases he
    obtain rfl : i = 0 := by
      have := (List.getElem?_eq_some_iff.1 hc).1
      simp [smallL] at this; omega
    simp [smallL] at hc
    subst hc
    exact ⟨.slice (some ⟨w.heap.size + 1, 0, none⟩) 1 1, .slice (some ⟨w.heap.size + 3, 0, none⟩) 1 1, AtL.row (cs := clc ⟨z16, [⟨z16, -1⟩], 0, [[⟨2, 0, 0⟩, ⟨11, 0, 0⟩]]⟩ (.slice (some ⟨w.heap.size + 1, 0, none⟩) 1 1) (.slice (some ⟨w.heap.size + 3, 0, none⟩) 1 1)) h4, r1, r3, rfl, ⟨by decide, by decide⟩⟩
end Go.Proofs.YtgfimkeopohjaaaDoor

namespace Go.Proofs.YtgfimkeopohjaaaDoor
open Go Go.ChangeShapes Go.WideShapes Go.ChangeAt Go.RowKit

theorem small_ids : IdsM smallL := by
  intro c hc
  simp [smallL] at hc
  subst hc
  refine ⟨rfl, fun f hf => ?_⟩
  simp at hf
  subst hf
  rfl
theorem small_sm : SmM smallL := by
  refine ⟨by decide, fun c hc => ?_⟩
  simp [smallL] at hc
  subst hc
  exact ⟨by decide, by decide, fun l hl => by simp at hl; subst hl; decide⟩
def smallB : List Int := formM smallL
theorem smallB_len : smallB.length = 50 := by decide +kernel
theorem smallB_44 : smallB.getD 44 0 = 11 := by decide +kernel
theorem smallB_byt : Byt smallB := by unfold Byt; decide +kernel
theorem small_enc : encM smallL = smallB := by unfold encM; rw [if_pos small_chk]; rfl
theorem small_dec : decM smallB = (smallL, true) := decM_form small_chk small_ids
set_option maxRecDepth 100000 in
set_option maxHeartbeats 8000000 in
theorem awake_of {w0 : World} (HE : EnC w0) (HD : DeC w0) : AwM w0 := fun w hb0 => by
  have HEE := hid HE
  have HDD := hid HD
  have HB0 := hid hb0
  clear HE HD hb0
  go_enter Tryd.func9, Tryd.ntmps9
  go_wp2_with fail
  refine (small_any w).mono ?_
  rintro e w1 ⟨a1, c1, rfl, hr1, hc1, hm1, hb1⟩
  have HB1 := hid hb1
  have HEX := hid (HEE.out smallL a1 1 c1 w1 (HB0.out.trans (hb1.mono HB0.out.size)) hr1 rfl hc1 hm1 small_sm)
  unfold EnP at HEX
  rw [small_enc, smallB_len, show (chkM smallL).2 = 0 from small_chk] at HEX
  clear hr1 hc1 hm1 hb1
  go_wp2_with fail
  refine HEX.out.mono ?_
  rintro e w2 ⟨a2, c2, rfl, hbs, hc2, hcm2, hb2⟩
  have HB2 := hid (HB1.out.trans (hb2.mono HB1.out.size))
  have HBS := hid hbs
  have HDX := hid (HDD.out smallB a2 50 c2 w2 (HB0.out.trans (HB2.out.mono HB0.out.size)) hbs smallB_len.symm smallB_byt hc2 hcm2 (by omega))
  unfold DeP at HDX
  rw [small_dec, if_pos rfl] at HDX
  clear hbs hc2 hb2 HEX HB1
  go_wp2_with fail
  refine HDX.out.mono ?_
  rintro e w3 ⟨a3, c3, rfl, hr3, hc3, hm3, hb3⟩
  rw [show (smallL, true).1.length = 1 from rfl] at hc3 ⊢
  have HB3 := hid (HB2.out.trans (hb3.mono HB2.out.size))
  have HBS3 := hid ((HBS.out.below hb3).mono hb3.size)
  have HR3 := hid (show RwC w3 w3.heap.size a3 smallL from hr3)
  clear hr3 hb3 HDX HB2 HBS
  go_upto_region 3 with (fail)
  change Code.wp _ _ _ _ (boxM w3 (.slice a3 1 c3))
  have hb4 := boxM_below w3 (.slice a3 1 c3)
  have hm4 := boxM_boxed w3 (.slice a3 1 c3)
  obtain ⟨w4, hw4⟩ : ∃ x, x = boxM w3 (.slice a3 1 c3) := ⟨_, rfl⟩
  rw [← hw4] at hb4 hm4 ⊢
  obtain ⟨p4, hp4⟩ : ∃ x, x = w3.heap.size := ⟨_, rfl⟩
  rw [← hp4] at hm4 ⊢
  have HM4 := hid hm4
  have HR4 := hid (HR3.out.on hb4)
  have HBS4 := hid ((HBS3.out.below hb4).mono hb4.size)
  have HB4 := hid (HB3.out.trans (hb4.mono HB3.out.size))
  clear hb4 hm4 hw4 hp4 HB3 HBS3 HR3
  obtain ⟨bb, oo, rfl, hbb⟩ := HBS4.out.some (by rw [smallB_len]; omega)
  have HMC := hid (fun W (hB : Below w4.heap.size w4 W) => (Boxed.cell ((hB.block p4 HM4.out.lt).trans HM4.out) : W.cell? ⟨p4, 0, none⟩ = some (.slice a3 1 c3)))
  have HBC := hid (fun W (hB : Below w4.heap.size w4 W) => (show W.cell? ⟨bb, oo + 44, none⟩ = some (.int .u8 11) by
    have h := (HBS4.out.below hB).cell (j := 44) (by rw [smallB_len]; omega)
    rw [smallB_44] at h
    exact h))
  refine D.wp_region_mix [0, 0, 0, 0, 0, 0, 0, 0, 0, 0, 0, 0, 0, 0, 1, 0, 0, 0, 1, 2, 2, 0, 0] (fun W => Below w4.heap.size w4 W) (by kernel_rfl) (by kernel_rfl) (Below.refl _ _).drew ?_
  repeat (first
    | (refine' C.wpMix_read _ rfl rfl _ _; rotate_left; (solve | (intro W hS; have h3 := HMC.out W hS; have h4 := HBC.out W hS; clear hS; go_simp) | (intro W hS; have h3 := HMC.out W hS; have h4 := HBC.out W hS; clear hS; go_simp; with_reducible rfl)); simp only [Act.put, List.setIfInBounds_toArray, List.set_cons_zero, List.set_cons_succ])
    | (refine' C.wpMix_value _ rfl rfl _ _; rotate_left; (solve | (intro W; go_simp) | (intro W; go_simp; with_reducible rfl)); simp only [Act.put, List.setIfInBounds_toArray, List.set_cons_zero, List.set_cons_succ]))
  refine C.wpMix_call 28 #[] (by decide) rfl (by go_simp) ?_
  refine (small_any _).mono ?_
  rintro e w5 ⟨a5, c5, rfl, hr5, hc5, hm5, hb5⟩
  have hb45 := (Below.refl w4.heap.size w4).drew.trans (hb5.mono (by exact Nat.le_refl _))
  have HB5 := hid hb45
  have HR5 := hid hr5
  clear hb5 hb45 hr5 hm5
  refine ⟨_, rfl, fun _ => HB5.out, ?_⟩
  simp only [Act.put, List.setIfInBounds_toArray, List.set_cons_zero, List.set_cons_succ]
  refine C.wpMix_call 20 #[.agg #[.slice a3 1 c3], .agg #[.slice a5 1 c5]] (by decide) rfl (by go_simp) ?_
  refine (Same_any smallL smallL a3 a5 c3 c5 1 1 w5 (HR4.out.on HB5.out) HR5.out rfl rfl hc3 hc5 hm3).mono ?_
  rintro e w6 ⟨r, rfl, hr, hb6⟩
  obtain rfl : r = true := hr.2 rfl
  have HB6 := hid (HB5.out.trans (hb6.mono HB5.out.size))
  clear hb6 hr
  refine ⟨_, rfl, fun _ => HB6.out, ?_⟩
  simp only [Act.put, List.setIfInBounds_toArray, List.set_cons_zero, List.set_cons_succ]
  repeat (refine' C.wpMix_value _ rfl rfl _ _; rotate_left; (solve | (intro W; go_simp) | (intro W; go_simp; with_reducible rfl)); simp only [Act.put, List.setIfInBounds_toArray, List.set_cons_zero, List.set_cons_succ])
  refine C.wpMix_end ?_
  go_wp2
  go_ret
  exact ⟨rfl, HB4.out.trans (HB6.out.mono HB4.out.size)⟩
end Go.Proofs.YtgfimkeopohjaaaDoor
