/-
  An act done to a heap and to its plain twin: MakeIn. (Written by wip/tools/genhsdo.py.)
-/
import Derived.Test.YtmampaglemleoaaHsH
namespace Go.Proofs.Ytmampaglemleoaa
open Go Go.ChangeShapes Go.WideShapes Go.ChangeAt Go.RowKit Go.Maps

set_option maxHeartbeats 8000000 in
set_option maxRecDepth 100000 in
theorem HsDo_MakeIn (w0 w : World) (pp m : Nat) (vT vX gv : Value) (S1 S2 : Nat → Prop) (s : Hs) (G : List Int) (x : HAct) (h : HsP w0 pp vT vX S1 S2 s s G gv w) (hx : HActOk x) (hm : m ≤ 300) (hg : G.length ≤ m) {km : Nat} (hmost : s.A.most = km) (hq : x.kind % 11 = 2) :
    Calls Try.prog 14 #[.pointer (some ⟨pp, 0, none⟩), .agg (acc x).toArray] w (HDoPost w0 pp vT vX (m + 1) km) := by
  obtain ⟨xk, xa, xh, xx, xr⟩ := x
  simp only [HActOk] at hx
  simp only at hq
  have HOKX := hid (show HActOk ⟨xk, xa, xh, xx, xr⟩ from hx)
  obtain ⟨hk, ha, hh, hxx, hr⟩ := hx
  obtain ⟨wb, hwb⟩ : ∃ wb, wb = w.heap.size := ⟨_, rfl⟩
  obtain ⟨w1, hw1⟩ : ∃ w1, w1 = w.alloc (.cells (acc ⟨xk, xa, xh, xx, xr⟩).toArray 36) := ⟨_, rfl⟩
  have hbx : InA w1 wb ⟨xk, xa, xh, xx, xr⟩ := by unfold InA; rw [hw1, hwb]; exact heap_alloc_new _ _
  have HP1 := hid (h.no (w' := w1) (by rw [hw1]; exact (Fr.refl _ _).alloc _))
  have HW1 := hid hw1
  have HWB := hid hwb
  have hb0 := hbx.c0
  have hb1 := hbx.c1
  have hb2 := hbx.c2
  have hb3 := hbx.c3
  have hb4 := hbx.c4
  have hwS : (¬ S1 wb ∧ ¬ S2 wb) ∧ wb ≠ pp ∧ gv.ownBlock ≠ some wb := ⟨⟨fun e => by have := h.t.lt wb e; omega, fun e => by have := h.x.lt wb e; omega⟩, fun e => by have := h.lt; omega, fun e => by have := (h.g.own.lt wb e).2; omega⟩
  have HWS := hid hwS
  have HGL := hid hg
  have HM := hid hmost
  have HML := hid hm
  have HGV := hid (given_any HP1.out (by omega) hh)
  have HBX := hid hbx
  have HA := hid ha
  have HX := hid hxx
  have HKK := hid hk
  clear hwS h hw1 hwb hg hm hmost hbx hh ha hxx hk
  simp only at hb0 hb1 hb2 hb3 hb4 HGV HA HX HKK hr
  by_cases hr0 : xr = 0
  case' neg =>
    have hne : (xr == 0) = false := by simpa using hr0
    obtain ⟨hd, hhd⟩ : ∃ hd, hd = xr := ⟨_, rfl⟩
    have HDU := hid (show Hn hd by rw [hhd]; exact hr)
    clear HGV hr hr0
    go_enter Try.func14, Try.ntmps14
    go_upto_region 1 with fail
    rw [← HW1.out, ← HWB.out]
    go_upto_region 4 with fail
    rw [← hhd]
    obtain ⟨w2, hw2⟩ : ∃ w2, w2 = w1 := ⟨_, rfl⟩
    rw [← hw2] at HP1 hb0 hb1 hb2 hb3 HBX ⊢
    clear hw2 hne hb4 HW1 HWB hhd
  case' pos =>
    have hne : (xr == 0) = true := by simpa using hr0
    clear hr hr0
    go_enter Try.func14, Try.ntmps14
    go_upto_region 1 with fail
    rw [← HW1.out, ← HWB.out]
    go_wp2_with fail
    refine HGV.out.mono ?_
    rintro e w2 ⟨hd, hdu, rfl, hf2⟩
    have HDU := hid hdu
    replace HP1 := hid (HP1.out.no hf2)
    replace HBX : RowKit.Hid (InA w2 wb ⟨xk, xa, xh, xx, xr⟩) := hid ((hf2.block wb (Array.getElem?_eq_some_iff.1 HBX.out).1 (fun e => e)).trans HBX.out)
    replace hb0 := HBX.out.c0
    replace hb1 := HBX.out.c1
    replace hb2 := HBX.out.c2
    replace hb3 := HBX.out.c3
    simp only at hb0 hb1 hb2 hb3
    clear hdu hf2 hne hb4 HW1 HWB HGV
  all_goals
    obtain ⟨pt, hpt⟩ := HP1.out.t.ptr
    obtain ⟨px, hpx⟩ := HP1.out.x.ptr
    have d0 := HP1.out.c0
    have d1 := HP1.out.c1
    have HPK := hid (Pick_any xk 11 w2 HKK.out (by decide) (by decide))
    rw [hpt] at d0
    rw [hpx] at d1
    have HPT := hid hpt
    have HPX := hid hpx
    clear hpt hpx
    go_wp2_with fail
    refine HPK.out.mono ?_
    rintro e w' ⟨rfl, rfl⟩
    clear HPK
    have q := hq
    all_goals
      rw [q]
      clear q
      go_upto_region 12 with fail
      have PD := hid (HP1.out.no (Fr.refl _ _).drew)
      have HO := hid (HMake_any S1 _ vT s xa hd PD.out.t HDU.out)
      rw [HPT.out] at HO
      have hwl : wb < w2.drew.heap.size := (Array.getElem?_eq_some_iff.1 HBX.out).1
      refine C.wp_region_mix [0, 0, 0, 1, 0, 1, 0, 3, 0, 0, 0, 0, 0] (fun W => W.cell? ⟨pp, 0, none⟩ = some (.pointer (some ⟨pt, 0, none⟩)) ∧ W.cell? ⟨wb, 1, none⟩ = some (.int .i64 xa)) (by kernel_rfl) (by kernel_rfl) ⟨d0, hb1⟩ ?_
      repeat (first
        | (refine' C.wpMix_value _ rfl rfl _ _; rotate_left; (solve | (intro W; go_simp) | (intro W; go_simp; with_reducible rfl)); simp only [Act.put, List.setIfInBounds_toArray, List.set_cons_zero, List.set_cons_succ])
        | (refine' C.wpMix_read _ rfl rfl _ _; rotate_left; (solve | (rintro W ⟨h1, h2⟩; go_simp) | (rintro W ⟨h1, h2⟩; go_simp; with_reducible rfl)); simp only [Act.put, List.setIfInBounds_toArray, List.set_cons_zero, List.set_cons_succ]))
      refine C.wpMix_call 23 #[.pointer (some ⟨pt, 0, none⟩), .int .i64 xa, .int .u64 hd] (by decide) rfl (by go_simp) ?_
      refine HO.out.mono ?_
      rintro e w3 ⟨hf3, s3, h3, er, rfl, hmk, hR3⟩
      refine ⟨_, rfl, (fun h => by cases h), ?_⟩
      simp only [Act.put, List.setIfInBounds_toArray, List.set_cons_zero, List.set_cons_succ]
      rw [← HPT.out] at hR3
      have hP3 := PD.out.tab hf3 hR3
      have e2 : w3.cell? ⟨wb, 1, none⟩ = some (.int .i64 xa) := (World.cell?_of_block (hf3.block wb hwl (fun e => HWS.out.1.1 e))).trans hb1
      have e1 := hP3.c1
      rw [HPX.out] at e1
      have P3d := hid (hP3.no (Fr.refl _ _).drew)
      have HXX := hid (RfMake_any S2 _ vX s xa hd P3d.out.x HDU.out)
      rw [HPX.out] at HXX
      have HMK := hid hmk
      have HM3 := hid (hmk.most HM.out)
      have hhn : er = 0 → Hn h3 := fun e => by
        have hn := hR3.hsi.ok.nz
        cases hmk with
        | arg => cases e
        | stale => cases e
        | inner => cases e
        | full => cases e
        | ok =>
          have := hn _ (List.mem_append_right _ (List.mem_singleton.2 rfl))
          exact ⟨by omega, this.2⟩
      have HHN := hid hhn
      clear hf3 hR3 hmk hP3 HO PD d0 d1 hb0 hb1 hb2 hb3 hwl hhn
      repeat (first
        | (refine' C.wpMix_value _ rfl rfl _ _; rotate_left; (solve | (intro W; go_simp) | (intro W; go_simp; with_reducible rfl)); simp only [Act.put, List.setIfInBounds_toArray, List.set_cons_zero, List.set_cons_succ])
        | (refine' C.wpMix_read _ rfl rfl _ _; rotate_left; (solve | (rintro W ⟨h1, h2⟩; go_simp) | (rintro W ⟨h1, h2⟩; go_simp; with_reducible rfl)); simp only [Act.put, List.setIfInBounds_toArray, List.set_cons_zero, List.set_cons_succ]))
      refine C.wpMix_end ?_
      go_upto_region 13 with fail
      refine C.wp_region_mix [0, 0, 0, 1, 0, 1, 0, 3, 0, 0, 0, 0, 0] (fun W => W.cell? ⟨pp, 1, none⟩ = some (.pointer (some ⟨px, 0, none⟩)) ∧ W.cell? ⟨wb, 1, none⟩ = some (.int .i64 xa)) (by kernel_rfl) (by kernel_rfl) ⟨e1, e2⟩ ?_
      repeat (first
        | (refine' C.wpMix_value _ rfl rfl _ _; rotate_left; (solve | (intro W; go_simp) | (intro W; go_simp; with_reducible rfl)); simp only [Act.put, List.setIfInBounds_toArray, List.set_cons_zero, List.set_cons_succ])
        | (refine' C.wpMix_read _ rfl rfl _ _; rotate_left; (solve | (rintro W ⟨h1, h2⟩; go_simp) | (rintro W ⟨h1, h2⟩; go_simp; with_reducible rfl)); simp only [Act.put, List.setIfInBounds_toArray, List.set_cons_zero, List.set_cons_succ]))
      refine C.wpMix_call 37 #[.pointer (some ⟨px, 0, none⟩), .int .i64 xa, .int .u64 hd] (by decide) rfl (by go_simp) ?_
      refine HXX.out.mono ?_
      rintro e w4 ⟨hf4, s4, h4, er4, rfl, hmk4, hR4⟩
      refine ⟨_, rfl, (fun h => by cases h), ?_⟩
      simp only [Act.put, List.setIfInBounds_toArray, List.set_cons_zero, List.set_cons_succ]
      obtain ⟨rfl, rfl, rfl⟩ := MkR.same HMK.out hmk4
      rw [← HPX.out] at hR4
      have HP4 := hid (P3d.out.twin hf4 hR4)
      clear hf4 hR4 hmk4 P3d HXX HMK e1 e2 HP1
      repeat (first
        | (refine' C.wpMix_value _ rfl rfl _ _; rotate_left; (solve | (intro W; go_simp) | (intro W; go_simp; with_reducible rfl)); simp only [Act.put, List.setIfInBounds_toArray, List.set_cons_zero, List.set_cons_succ])
        | (refine' C.wpMix_read _ rfl rfl _ _; rotate_left; (solve | (rintro W ⟨h1, h2⟩; go_simp) | (rintro W ⟨h1, h2⟩; go_simp; with_reducible rfl)); simp only [Act.put, List.setIfInBounds_toArray, List.set_cons_zero, List.set_cons_succ]))
      refine C.wpMix_end ?_
      by_cases he : er = 0
      · subst he
        have HU3 := hid (HHN.out rfl)
        obtain ⟨i0, hi, hz0, hz1, hz2⟩ := info_parts infoU0
        have hi' := hid hi
        have hz0' := hid hz0
        have hz1' := hid hz1
        have hz2' := hid hz2
        have c2 := HP4.out.c2
        have z2 := HP4.out.fz 2
        have hpl := HP4.out.lt
        have HOFF := hid (HP4.out.g.off pp)
        obtain ⟨ga, gk, hgv, _⟩ := HP4.out.g.form
        subst hgv
        have hgl := HGL.out
        have hml := HML.out
        clear HHN hi hz0 hz1 hz2
        go_wp2_with (first
          | (at_builtin; refine wpList_append_own_at _ (o := ⟨some 88, _, _, _, _, _⟩) rfl (.tmp 85) (.tmp 87) 43 rfl w0.heap.size 34 i0 (.int .u64 0) 1 8 Try.underlying43 hi'.out hz0'.out hz1'.out hz2'.out rfl (by decide) _ _ _ rfl (HP4.out.g.own.alloc _) ⟨w4.heap.size, 0, none⟩ 1 1 [.int .u64 h3] rfl rfl (World.news_of_block (heap_alloc_new w4 _)) (fun u hu => by rw [List.mem_singleton.1 hu]; rfl) (by unfold maxLen; omega) (by omega) (by have := HP4.out.below.size; simp; omega) ?_; intro vz wz hownz hgrowz hnilz hatz; obtain ⟨gz, kz, rfl⟩ := ownsRow_succ hownz; have hbz : wz.heap[pp]? = w4.heap[pp]? := (by rw [hgrowz.block pp (by simp; omega) (fun e => HOFF.out e.symm (.inr (.inr rfl)))]; exact Below.heap_alloc _ _ _ hpl); have c2z := (World.cell?_of_block (a := ⟨pp, 2, none⟩) hbz).trans c2; have z2z : wz.frozen? ⟨pp, 2, none⟩ = false := (World.frozen?_of_block hbz).trans z2; have HOz := hid hownz; have HGz := hid hgrowz; have HAz := hid hatz; clear hownz hgrowz hnilz hatz hbz)
          | fail)
        go_ret
        exact ⟨rfl, _, _, _, _, _, HP4.out.give HU3.out HOz.out HGz.out HAz.out, by simp; omega, HM3.out⟩
      · have hne : (er == 0) = false := by simpa using he
        clear HHN he
        go_wp2
        go_ret
        exact ⟨rfl, _, _, _, _, _, HP4.out, by have := HGL.out; omega, HM3.out⟩
end Go.Proofs.Ytmampaglemleoaa
