/-
  An act done to a heap and to its plain twin: Put. (Written by wip/tools/genhsdo.py.)
-/
import Derived.Test.YtmampaglemleoaaHsH
namespace Go.Proofs.Ytmampaglemleoaa
open Go Go.ChangeShapes Go.WideShapes Go.ChangeAt Go.RowKit Go.Maps

set_option maxHeartbeats 8000000 in
set_option maxRecDepth 100000 in
theorem HsDo_Put (w0 w : World) (pp m : Nat) (vT vX gv : Value) (S1 S2 : Nat → Prop) (s : Hs) (G : List Int) (x : HAct) (h : HsP w0 pp vT vX S1 S2 s s G gv w) (hx : HActOk x) (hm : m ≤ 300) (hg : G.length ≤ m) {km : Nat} (hmost : s.A.most = km) (hq : x.kind % 11 = 7 ∨ x.kind % 11 = 8) :
    Calls Try.prog 14 #[.pointer (some ⟨pp, 0, none⟩), .agg (acc x).toArray] w (HDoPost w0 pp vT vX (m + 1) km) := by
  obtain ⟨xk, xa, xh, xx, xr⟩ := x
  simp only [HActOk] at hx
  simp only at hq
  have HOKX := hid (show HActOk ⟨xk, xa, xh, xx, xr⟩ from hx)
  obtain ⟨hk, ha, hh, hxx, hr⟩ := hx
  obtain ⟨wb, hwb⟩ : ∃ wb, wb = w.heap.size := ⟨_, rfl⟩
  obtain ⟨w1, hw1⟩ : ∃ w1, w1 = w.alloc (.cells (acc ⟨xk, xa, xh, xx, xr⟩).toArray 36) := ⟨_, rfl⟩
  have hbx : InA w1 wb ⟨xk, xa, xh, xx, xr⟩ := by unfold InA; rw [hw1, hwb]; exact heap_alloc_new _ _
  have HP1 := hid (h.no (w' := w1) (by rw [hw1]; exact (Fr.refl _ _).alloc _))
  have HW1 := hid hw1
  have HWB := hid hwb
  have hb0 := hbx.c0
  have hb1 := hbx.c1
  have hb2 := hbx.c2
  have hb3 := hbx.c3
  have hb4 := hbx.c4
  have hwS : (¬ S1 wb ∧ ¬ S2 wb) ∧ wb ≠ pp ∧ gv.ownBlock ≠ some wb := ⟨⟨fun e => by have := h.t.lt wb e; omega, fun e => by have := h.x.lt wb e; omega⟩, fun e => by have := h.lt; omega, fun e => by have := (h.g.own.lt wb e).2; omega⟩
  have HWS := hid hwS
  have HGL := hid hg
  have HM := hid hmost
  have HML := hid hm
  have HGV := hid (given_any HP1.out (by omega) hh)
  have HBX := hid hbx
  have HA := hid ha
  have HX := hid hxx
  have HKK := hid hk
  clear hwS h hw1 hwb hg hm hmost hbx hh ha hxx hk
  simp only at hb0 hb1 hb2 hb3 hb4 HGV HA HX HKK hr
  by_cases hr0 : xr = 0
  case' neg =>
    have hne : (xr == 0) = false := by simpa using hr0
    obtain ⟨hd, hhd⟩ : ∃ hd, hd = xr := ⟨_, rfl⟩
    have HDU := hid (show Hn hd by rw [hhd]; exact hr)
    clear HGV hr hr0
    go_enter Try.func14, Try.ntmps14
    go_upto_region 1 with fail
    rw [← HW1.out, ← HWB.out]
    go_upto_region 4 with fail
    rw [← hhd]
    obtain ⟨w2, hw2⟩ : ∃ w2, w2 = w1 := ⟨_, rfl⟩
    rw [← hw2] at HP1 hb0 hb1 hb2 hb3 HBX ⊢
    clear hw2 hne hb4 HW1 HWB hhd
  case' pos =>
    have hne : (xr == 0) = true := by simpa using hr0
    clear hr hr0
    go_enter Try.func14, Try.ntmps14
    go_upto_region 1 with fail
    rw [← HW1.out, ← HWB.out]
    go_wp2_with fail
    refine HGV.out.mono ?_
    rintro e w2 ⟨hd, hdu, rfl, hf2⟩
    have HDU := hid hdu
    replace HP1 := hid (HP1.out.no hf2)
    replace HBX : RowKit.Hid (InA w2 wb ⟨xk, xa, xh, xx, xr⟩) := hid ((hf2.block wb (Array.getElem?_eq_some_iff.1 HBX.out).1 (fun e => e)).trans HBX.out)
    replace hb0 := HBX.out.c0
    replace hb1 := HBX.out.c1
    replace hb2 := HBX.out.c2
    replace hb3 := HBX.out.c3
    simp only at hb0 hb1 hb2 hb3
    clear hdu hf2 hne hb4 HW1 HWB HGV
  all_goals
    obtain ⟨pt, hpt⟩ := HP1.out.t.ptr
    obtain ⟨px, hpx⟩ := HP1.out.x.ptr
    have d0 := HP1.out.c0
    have d1 := HP1.out.c1
    have HPK := hid (Pick_any xk 11 w2 HKK.out (by decide) (by decide))
    rw [hpt] at d0
    rw [hpx] at d1
    have HPT := hid hpt
    have HPX := hid hpx
    clear hpt hpx
    go_wp2_with fail
    refine HPK.out.mono ?_
    rintro e w' ⟨rfl, rfl⟩
    clear HPK
    rcases hq with q | q
    all_goals
      rw [q]
      clear q
      have hat := atl_row (l := acc ⟨xk, xa, xh, xx, xr⟩) HBX.out ⟨[], by simp⟩
      have HATX := hid hat
      have HLK := hid (link_any HP1.out (by have := HGL.out; have := HML.out; omega) HOKX.out)
      have HWL := hid (show wb < w2.heap.size from (Array.getElem?_eq_some_iff.1 HBX.out).1)
      clear hat
      go_wp2_with ((with_reducible refine at_op ⟨some 168, _, _, _, _, _⟩ ?_); refine wpList_run rfl _ (load_act rfl rfl HATX.out) ?_)
      refine HLK.out.mono ?_
      rintro e w5 ⟨⟨yk, yh⟩, ⟨hyk, hyh⟩, rfl, hf5⟩
      simp only at hyk hyh
      obtain ⟨w6, hw6⟩ : ∃ w6, w6 = w5.alloc (.cells #[.int .i64 yk, .int .u64 yh] TK) := ⟨_, rfl⟩
      have hf6 : Fr (fun _ => False) w5 w6 := by rw [hw6]; exact (Fr.refl _ _).alloc _
      obtain ⟨yb, hyb⟩ : ∃ yb, yb = w5.heap.size := ⟨_, rfl⟩
      have hyx : w6.heap[yb]? = some (.cells #[.int .i64 yk, .int .u64 yh] TK (0, 0)) := by rw [hw6, hyb]; exact heap_alloc_new _ _
      have hf26 := hf5.trans hf6 (fun _ e _ => e)
      have HW6 := hid hw6
      have HYB := hid hyb
      have HYX := hid hyx
      have HYK := hid hyk
      have HYH := hid hyh
      have hb1' : w6.cell? ⟨wb, 1, none⟩ = some (.int .i64 xa) := (World.cell?_of_block (hf26.block wb HWL.out (fun e => e))).trans hb1
      have hyS : ¬ S1 yb ∧ ¬ S2 yb := ⟨fun e => by have := HP1.out.t.lt yb e; have := hf5.size; omega, fun e => by have := HP1.out.x.lt yb e; have := hf5.size; omega⟩
      have HYS := hid hyS
      have HWL6 := hid (Nat.lt_of_lt_of_le HWL.out hf26.size)
      replace HP1 := hid (HP1.out.no hf26)
      have g0 := HP1.out.c0
      have g1 := HP1.out.c1
      rw [HPT.out] at g0
      rw [HPX.out] at g1
      have hy0 : w6.cell? ⟨yb, 0, none⟩ = some (.int .i64 yk) := by rw [cell_of_row w6 yb 0 _ _ _ hyx]; rfl
      have hy1 : w6.cell? ⟨yb, 1, none⟩ = some (.int .u64 yh) := by rw [cell_of_row w6 yb 1 _ _ _ hyx]; rfl
      have PD := hid (HP1.out.no (Fr.refl _ _).drew)
      have HO := hid (HPut_in S1 _ vT s hd xa ⟨yk, yh⟩ PD.out.t HDU.out hyk hyh)
      rw [HPT.out] at HO
      clear hw6 hf6 hyb hyx hf5 hf26 hyS hyk hyh hb0 hb1 hb2 hb3 d0 d1 HLK HATX HWL HBX
      go_upto_region 30 with fail
      rw [← HYB.out, show w5.alloc (.cells #[.int .i64 yk, .int .u64 yh] 67) = w6 from HW6.out.symm]
      refine C.wp_region_mix [0, 0, 0, 1, 0, 0, 1, 1, 3, 0, 0, 0, 0, 0, 0, 0] (fun W => W.cell? ⟨pp, 0, none⟩ = some (.pointer (some ⟨pt, 0, none⟩)) ∧ W.cell? ⟨wb, 1, none⟩ = some (.int .i64 xa) ∧ W.cell? ⟨yb, 0, none⟩ = some (.int .i64 yk) ∧ W.cell? ⟨yb, 1, none⟩ = some (.int .u64 yh)) (by kernel_rfl) (by kernel_rfl) ⟨g0, hb1', hy0, hy1⟩ ?_
      repeat (first
        | (refine' C.wpMix_value _ rfl rfl _ _; rotate_left; (solve | (intro W; go_simp) | (intro W; go_simp; with_reducible rfl)); simp only [Act.put, List.setIfInBounds_toArray, List.set_cons_zero, List.set_cons_succ])
        | (refine' C.wpMix_read _ rfl rfl _ _; rotate_left; (solve | (rintro W ⟨h1, h2, h3, h4⟩; go_simp) | (rintro W ⟨h1, h2, h3, h4⟩; go_simp; with_reducible rfl)); simp only [Act.put, List.setIfInBounds_toArray, List.set_cons_zero, List.set_cons_succ]))
      refine C.wpMix_call 27 #[.pointer (some ⟨pt, 0, none⟩), .int .u64 hd, .int .i64 xa, .agg #[.int .i64 yk, .int .u64 yh]] (by decide) rfl (by go_simp) ?_
      refine HO.out.mono ?_
      rintro e w3 ⟨hf3, s3, g3, f3, er, vg, vf, rfl, t1, t2, hdn, hR3, o1, o2⟩
      refine ⟨_, rfl, (fun h => by cases h), ?_⟩
      simp only [Act.put, List.setIfInBounds_toArray, List.set_cons_zero, List.set_cons_succ]
      rw [← HPT.out] at hR3
      have hP3 := PD.out.tab hf3 hR3
      have hlt : ∀ k, k < w6.heap.size → k < w6.drew.heap.size := fun k hk => hk
      have hyl : yb < w6.heap.size := (Array.getElem?_eq_some_iff.1 HYX.out).1
      have e2 : w3.cell? ⟨wb, 1, none⟩ = some (.int .i64 xa) := (World.cell?_of_block (hf3.block wb (hlt _ HWL6.out) (fun e => HWS.out.1.1 e))).trans hb1'
      have e3 : w3.cell? ⟨yb, 0, none⟩ = some (.int .i64 yk) := (World.cell?_of_block (hf3.block yb (hlt _ hyl) (fun e => HYS.out.1 e))).trans hy0
      have e4 : w3.cell? ⟨yb, 1, none⟩ = some (.int .u64 yh) := (World.cell?_of_block (hf3.block yb (hlt _ hyl) (fun e => HYS.out.1 e))).trans hy1
      have e1 := hP3.c1
      rw [HPX.out] at e1
      have hP3d := hP3.no (Fr.refl _ _).drew
      have HXX := hid (RfPut_any S2 _ vX s hd xa ⟨yk, yh⟩ hP3d.x HYK.out HYH.out)
      rw [HPX.out] at HXX
      have n1 : ∀ k, vg.ownBlock = some k → ¬ S2 k := fun k hk => hP3d.d12 k (o1 k hk)
      have n2 : ∀ k, vf.ownBlock = some k → ¬ S2 k := fun k hk => hP3d.d12 k (o2 k hk)
      have HP3 := hid hP3d
      have HUP := hid hdn
      have HM3 := hid (hdn.most HM.out)
      have T1 := hid (t1.fr (Fr.refl (fun _ => False) w3).drew (fun _ _ e => e))
      have T2 := hid (t2.fr (Fr.refl (fun _ => False) w3).drew (fun _ _ e => e))
      have N1 := hid n1
      have N2 := hid n2
      clear hf3 hR3 hP3 hP3d hdn t1 t2 o1 o2 n1 n2 HO hlt hyl PD g0 g1 hb1' hy0 hy1 HW6
      repeat (first
        | (refine' C.wpMix_value _ rfl rfl _ _; rotate_left; (solve | (intro W; go_simp) | (intro W; go_simp; with_reducible rfl)); simp only [Act.put, List.setIfInBounds_toArray, List.set_cons_zero, List.set_cons_succ])
        | (refine' C.wpMix_read _ rfl rfl _ _; rotate_left; (solve | (rintro W ⟨h1, h2, h3, h4⟩; go_simp) | (rintro W ⟨h1, h2, h3, h4⟩; go_simp; with_reducible rfl)); simp only [Act.put, List.setIfInBounds_toArray, List.set_cons_zero, List.set_cons_succ]))
      refine C.wpMix_end ?_
      go_upto_region 31 with fail
      refine C.wp_region_mix [0, 0, 0, 1, 0, 0, 1, 1, 3, 0, 0, 0, 0, 0, 0, 0] (fun W => W.cell? ⟨pp, 1, none⟩ = some (.pointer (some ⟨px, 0, none⟩)) ∧ W.cell? ⟨wb, 1, none⟩ = some (.int .i64 xa) ∧ W.cell? ⟨yb, 0, none⟩ = some (.int .i64 yk) ∧ W.cell? ⟨yb, 1, none⟩ = some (.int .u64 yh)) (by kernel_rfl) (by kernel_rfl) ⟨e1, e2, e3, e4⟩ ?_
      repeat (first
        | (refine' C.wpMix_value _ rfl rfl _ _; rotate_left; (solve | (intro W; go_simp) | (intro W; go_simp; with_reducible rfl)); simp only [Act.put, List.setIfInBounds_toArray, List.set_cons_zero, List.set_cons_succ])
        | (refine' C.wpMix_read _ rfl rfl _ _; rotate_left; (solve | (rintro W ⟨h1, h2, h3, h4⟩; go_simp) | (rintro W ⟨h1, h2, h3, h4⟩; go_simp; with_reducible rfl)); simp only [Act.put, List.setIfInBounds_toArray, List.set_cons_zero, List.set_cons_succ]))
      refine C.wpMix_call 41 #[.pointer (some ⟨px, 0, none⟩), .int .u64 hd, .int .i64 xa, .agg #[.int .i64 yk, .int .u64 yh]] (by decide) rfl (by go_simp) ?_
      refine HXX.out.mono ?_
      rintro e w4 ⟨hf4, s4, g4, f4, er4, vg4, vf4, rfl, t3, t4, hdn4, hR4⟩
      refine ⟨_, rfl, (fun h => by cases h), ?_⟩
      simp only [Act.put, List.setIfInBounds_toArray, List.set_cons_zero, List.set_cons_succ]
      obtain ⟨rfl, rfl, rfl, rfl⟩ := PuR.same HP1.out.t.hsi HUP.out hdn4
      rw [← HPX.out] at hR4
      have HP4 := hid (HP3.out.twin hf4 hR4)
      have HS1 := hid (SameLongs_told w4 vg vg4 g3 (T1.out.fr hf4 N1.out) t3)
      have T2' := hid (T2.out.fr hf4 N2.out)
      have T4 := hid t4
      clear hf4 hR4 hdn4 t3 t4 HXX HP3 HP1 HUP e1 e2 e3 e4 T1 T2
      repeat (first
        | (refine' C.wpMix_value _ rfl rfl _ _; rotate_left; (solve | (intro W; go_simp) | (intro W; go_simp; with_reducible rfl)); simp only [Act.put, List.setIfInBounds_toArray, List.set_cons_zero, List.set_cons_succ])
        | (refine' C.wpMix_read _ rfl rfl _ _; rotate_left; (solve | (rintro W ⟨h1, h2, h3, h4⟩; go_simp) | (rintro W ⟨h1, h2, h3, h4⟩; go_simp; with_reducible rfl)); simp only [Act.put, List.setIfInBounds_toArray, List.set_cons_zero, List.set_cons_succ]))
      refine C.wpMix_end ?_
      go_wp2_with fail
      refine HS1.out.mono ?_
      rintro e w7 ⟨rfl, hb7⟩
      have HS2 := hid (SameLongs_told w7 vf vf4 f3 (T2'.out.below hb7) (T4.out.below hb7))
      have HP5 := hid (HP4.out.no (Fr.of_below hb7))
      clear hb7 HS1 T2' T4 HP4
      go_wp2_with fail
      refine HS2.out.mono ?_
      rintro e w8 ⟨rfl, hb8⟩
      have HP6 := hid (HP5.out.no (Fr.of_below hb8))
      clear hb8 HS2 HP5
      go_wp2
      go_ret
      exact ⟨rfl, _, _, _, _, _, HP6.out, by have := HGL.out; omega, HM3.out⟩
end Go.Proofs.Ytmampaglemleoaa
