/- HsDoMake HsDoMakeIn HsDoUp HsDoDown HsDoPut HsDoStore HsI in one -/
import Derived.Test.YtmkajdfajcodjaaHsH
import Derived.Test.YtmkajdfajcodjaaHsDoRemove
namespace Go.Proofs.Ytmkajdfajcodjaa
open Go Go.ChangeShapes Go.WideShapes Go.ChangeAt Go.RowKit Go.Maps

set_option maxHeartbeats 8000000 in
set_option maxRecDepth 100000 in
theorem HsDo_Make (w0 w : World) (pp m : Nat) (vT vX gv : Value) (S1 S2 : Nat → Prop) (s : Hs) (G : List Int) (x : HAct) (h : HsP w0 pp vT vX S1 S2 s s G gv w) (hx : HActOk x) (hm : m ≤ 300) (hg : G.length ≤ m) {km : Nat} (hmost : s.A.most = km) (hq : x.kind % 11 = 0 ∨ x.kind % 11 = 1) :
    Calls Try.prog 14 #[.pointer (some ⟨pp, 0, none⟩), .agg (acc x).toArray] w (HDoPost w0 pp vT vX (m + 1) km) := by
  obtain ⟨xk, xa, xh, xx, xr⟩ := x
  simp only [HActOk] at hx
  simp only at hq
  have HOKX := hid (show HActOk ⟨xk, xa, xh, xx, xr⟩ from hx)
  obtain ⟨hk, ha, hh, hxx, hr⟩ := hx
  obtain ⟨wb, hwb⟩ : ∃ wb, wb = w.heap.size := ⟨_, rfl⟩
  obtain ⟨w1, hw1⟩ : ∃ w1, w1 = w.alloc (.cells (acc ⟨xk, xa, xh, xx, xr⟩).toArray 36) := ⟨_, rfl⟩
  have hbx : InA w1 wb ⟨xk, xa, xh, xx, xr⟩ := by unfold InA; rw [hw1, hwb]; exact heap_alloc_new _ _
  have HP1 := hid (h.no (w' := w1) (by rw [hw1]; exact (Fr.refl _ _).alloc _))
  have HW1 := hid hw1
  have HWB := hid hwb
  have hb0 := hbx.c0
  have hb1 := hbx.c1
  have hb2 := hbx.c2
  have hb3 := hbx.c3
  have hb4 := hbx.c4
  have hwS : (¬ S1 wb ∧ ¬ S2 wb) ∧ wb ≠ pp ∧ gv.ownBlock ≠ some wb := ⟨⟨fun e => by have := h.t.lt wb e; omega, fun e => by have := h.x.lt wb e; omega⟩, fun e => by have := h.lt; omega, fun e => by have := (h.g.own.lt wb e).2; omega⟩
  have HWS := hid hwS
  have HGL := hid hg
  have HM := hid hmost
  have HML := hid hm
  have HGV := hid (given_any HP1.out (by omega) hh)
  have HBX := hid hbx
  have HA := hid ha
  have HX := hid hxx
  have HKK := hid hk
  clear hwS h hw1 hwb hg hm hmost hbx hh ha hxx hk
  simp only at hb0 hb1 hb2 hb3 hb4 HGV HA HX HKK hr
  by_cases hr0 : xr = 0
  case' neg =>
    have hne : (xr == 0) = false := by simpa using hr0
    obtain ⟨hd, hhd⟩ : ∃ hd, hd = xr := ⟨_, rfl⟩
    have HDU := hid (show Hn hd by rw [hhd]; exact hr)
    clear HGV hr hr0
    go_enter Try.func14, Try.ntmps14
    go_upto_region 1 with fail
    rw [← HW1.out, ← HWB.out]
    go_upto_region 4 with fail
    rw [← hhd]
    obtain ⟨w2, hw2⟩ : ∃ w2, w2 = w1 := ⟨_, rfl⟩
    rw [← hw2] at HP1 hb0 hb1 hb2 hb3 HBX ⊢
    clear hw2 hne hb4 HW1 HWB hhd
  case' pos =>
    have hne : (xr == 0) = true := by simpa using hr0
    clear hr hr0
    go_enter Try.func14, Try.ntmps14
    go_upto_region 1 with fail
    rw [← HW1.out, ← HWB.out]
    go_wp2_with fail
    refine HGV.out.mono ?_
    rintro e w2 ⟨hd, hdu, rfl, hf2⟩
    have HDU := hid hdu
    replace HP1 := hid (HP1.out.no hf2)
    replace HBX : RowKit.Hid (InA w2 wb ⟨xk, xa, xh, xx, xr⟩) := hid ((hf2.block wb (Array.getElem?_eq_some_iff.1 HBX.out).1 (fun e => e)).trans HBX.out)
    replace hb0 := HBX.out.c0
    replace hb1 := HBX.out.c1
    replace hb2 := HBX.out.c2
    replace hb3 := HBX.out.c3
    simp only at hb0 hb1 hb2 hb3
    clear hdu hf2 hne hb4 HW1 HWB HGV
  all_goals
    obtain ⟨pt, hpt⟩ := HP1.out.t.ptr
    obtain ⟨px, hpx⟩ := HP1.out.x.ptr
    have d0 := HP1.out.c0
    have d1 := HP1.out.c1
    have HPK := hid (Pick_any xk 11 w2 HKK.out (by decide) (by decide))
    rw [hpt] at d0
    rw [hpx] at d1
    have HPT := hid hpt
    have HPX := hid hpx
    clear hpt hpx
    go_wp2_with fail
    refine HPK.out.mono ?_
    rintro e w' ⟨rfl, rfl⟩
    clear HPK
    rcases hq with q | q
    all_goals
      rw [q]
      clear q
      go_upto_region 12 with fail
      have PD := hid (HP1.out.no (Fr.refl _ _).drew)
      have HO := hid (HMake_any S1 _ vT s xa 0 PD.out.t hn0)
      rw [HPT.out] at HO
      have hwl : wb < w2.drew.heap.size := (Array.getElem?_eq_some_iff.1 HBX.out).1
      refine C.wp_region_mix [0, 0, 0, 1, 0, 1, 0, 3, 0, 0, 0, 0, 0] (fun W => W.cell? ⟨pp, 0, none⟩ = some (.pointer (some ⟨pt, 0, none⟩)) ∧ W.cell? ⟨wb, 1, none⟩ = some (.int .i64 xa)) (by kernel_rfl) (by kernel_rfl) ⟨d0, hb1⟩ ?_
      repeat (first
        | (refine' C.wpMix_value _ rfl rfl _ _; rotate_left; (solve | (intro W; go_simp) | (intro W; go_simp; with_reducible rfl)); simp only [Act.put, List.setIfInBounds_toArray, List.set_cons_zero, List.set_cons_succ])
        | (refine' C.wpMix_read _ rfl rfl _ _; rotate_left; (solve | (rintro W ⟨h1, h2⟩; go_simp) | (rintro W ⟨h1, h2⟩; go_simp; with_reducible rfl)); simp only [Act.put, List.setIfInBounds_toArray, List.set_cons_zero, List.set_cons_succ]))
      refine C.wpMix_call 23 #[.pointer (some ⟨pt, 0, none⟩), .int .i64 xa, .int .u64 0] (by decide) rfl (by go_simp) ?_
      refine HO.out.mono ?_
      rintro e w3 ⟨hf3, s3, h3, er, rfl, hmk, hR3⟩
      refine ⟨_, rfl, (fun h => by cases h), ?_⟩
      simp only [Act.put, List.setIfInBounds_toArray, List.set_cons_zero, List.set_cons_succ]
      rw [← HPT.out] at hR3
      have hP3 := PD.out.tab hf3 hR3
      have e2 : w3.cell? ⟨wb, 1, none⟩ = some (.int .i64 xa) := (World.cell?_of_block (hf3.block wb hwl (fun e => HWS.out.1.1 e))).trans hb1
      have e1 := hP3.c1
      rw [HPX.out] at e1
      have P3d := hid (hP3.no (Fr.refl _ _).drew)
      have HXX := hid (RfMake_any S2 _ vX s xa 0 P3d.out.x hn0)
      rw [HPX.out] at HXX
      have HMK := hid hmk
      have HM3 := hid (hmk.most HM.out)
      have hhn : er = 0 → Hn h3 := fun e => by
        have hn := hR3.hsi.ok.nz
        cases hmk with
        | arg => cases e
        | stale => cases e
        | inner => cases e
        | full => cases e
        | ok =>
          have := hn _ (List.mem_append_right _ (List.mem_singleton.2 rfl))
          exact ⟨by omega, this.2⟩
      have HHN := hid hhn
      clear hf3 hR3 hmk hP3 HO PD d0 d1 hb0 hb1 hb2 hb3 hwl hhn
      repeat (first
        | (refine' C.wpMix_value _ rfl rfl _ _; rotate_left; (solve | (intro W; go_simp) | (intro W; go_simp; with_reducible rfl)); simp only [Act.put, List.setIfInBounds_toArray, List.set_cons_zero, List.set_cons_succ])
        | (refine' C.wpMix_read _ rfl rfl _ _; rotate_left; (solve | (rintro W ⟨h1, h2⟩; go_simp) | (rintro W ⟨h1, h2⟩; go_simp; with_reducible rfl)); simp only [Act.put, List.setIfInBounds_toArray, List.set_cons_zero, List.set_cons_succ]))
      refine C.wpMix_end ?_
      go_upto_region 13 with fail
      refine C.wp_region_mix [0, 0, 0, 1, 0, 1, 0, 3, 0, 0, 0, 0, 0] (fun W => W.cell? ⟨pp, 1, none⟩ = some (.pointer (some ⟨px, 0, none⟩)) ∧ W.cell? ⟨wb, 1, none⟩ = some (.int .i64 xa)) (by kernel_rfl) (by kernel_rfl) ⟨e1, e2⟩ ?_
      repeat (first
        | (refine' C.wpMix_value _ rfl rfl _ _; rotate_left; (solve | (intro W; go_simp) | (intro W; go_simp; with_reducible rfl)); simp only [Act.put, List.setIfInBounds_toArray, List.set_cons_zero, List.set_cons_succ])
        | (refine' C.wpMix_read _ rfl rfl _ _; rotate_left; (solve | (rintro W ⟨h1, h2⟩; go_simp) | (rintro W ⟨h1, h2⟩; go_simp; with_reducible rfl)); simp only [Act.put, List.setIfInBounds_toArray, List.set_cons_zero, List.set_cons_succ]))
      refine C.wpMix_call 37 #[.pointer (some ⟨px, 0, none⟩), .int .i64 xa, .int .u64 0] (by decide) rfl (by go_simp) ?_
      refine HXX.out.mono ?_
      rintro e w4 ⟨hf4, s4, h4, er4, rfl, hmk4, hR4⟩
      refine ⟨_, rfl, (fun h => by cases h), ?_⟩
      simp only [Act.put, List.setIfInBounds_toArray, List.set_cons_zero, List.set_cons_succ]
      obtain ⟨rfl, rfl, rfl⟩ := MkR.same HMK.out hmk4
      rw [← HPX.out] at hR4
      have HP4 := hid (P3d.out.twin hf4 hR4)
      clear hf4 hR4 hmk4 P3d HXX HMK e1 e2 HP1
      repeat (first
        | (refine' C.wpMix_value _ rfl rfl _ _; rotate_left; (solve | (intro W; go_simp) | (intro W; go_simp; with_reducible rfl)); simp only [Act.put, List.setIfInBounds_toArray, List.set_cons_zero, List.set_cons_succ])
        | (refine' C.wpMix_read _ rfl rfl _ _; rotate_left; (solve | (rintro W ⟨h1, h2⟩; go_simp) | (rintro W ⟨h1, h2⟩; go_simp; with_reducible rfl)); simp only [Act.put, List.setIfInBounds_toArray, List.set_cons_zero, List.set_cons_succ]))
      refine C.wpMix_end ?_
      by_cases he : er = 0
      · subst he
        have HU3 := hid (HHN.out rfl)
        obtain ⟨i0, hi, hz0, hz1, hz2⟩ := info_parts infoU0
        have hi' := hid hi
        have hz0' := hid hz0
        have hz1' := hid hz1
        have hz2' := hid hz2
        have c2 := HP4.out.c2
        have z2 := HP4.out.fz 2
        have hpl := HP4.out.lt
        have HOFF := hid (HP4.out.g.off pp)
        obtain ⟨ga, gk, hgv, _⟩ := HP4.out.g.form
        subst hgv
        have hgl := HGL.out
        have hml := HML.out
        clear HHN hi hz0 hz1 hz2
        go_wp2_with (first
          | (at_builtin; refine wpList_append_own_at _ (o := ⟨some 88, _, _, _, _, _⟩) rfl (.tmp 85) (.tmp 87) 43 rfl w0.heap.size 34 i0 (.int .u64 0) 1 8 Try.underlying43 hi'.out hz0'.out hz1'.out hz2'.out rfl (by decide) _ _ _ rfl (HP4.out.g.own.alloc _) ⟨w4.heap.size, 0, none⟩ 1 1 [.int .u64 h3] rfl rfl (World.news_of_block (heap_alloc_new w4 _)) (fun u hu => by rw [List.mem_singleton.1 hu]; rfl) (by unfold maxLen; omega) (by omega) (by have := HP4.out.below.size; simp; omega) ?_; intro vz wz hownz hgrowz hnilz hatz; obtain ⟨gz, kz, rfl⟩ := ownsRow_succ hownz; have hbz : wz.heap[pp]? = w4.heap[pp]? := (by rw [hgrowz.block pp (by simp; omega) (fun e => HOFF.out e.symm (.inr (.inr rfl)))]; exact Below.heap_alloc _ _ _ hpl); have c2z := (World.cell?_of_block (a := ⟨pp, 2, none⟩) hbz).trans c2; have z2z : wz.frozen? ⟨pp, 2, none⟩ = false := (World.frozen?_of_block hbz).trans z2; have HOz := hid hownz; have HGz := hid hgrowz; have HAz := hid hatz; clear hownz hgrowz hnilz hatz hbz)
          | fail)
        go_ret
        exact ⟨rfl, _, _, _, _, _, HP4.out.give HU3.out HOz.out HGz.out HAz.out, by simp; omega, HM3.out⟩
      · have hne : (er == 0) = false := by simpa using he
        clear HHN he
        go_wp2
        go_ret
        exact ⟨rfl, _, _, _, _, _, HP4.out, by have := HGL.out; omega, HM3.out⟩
end Go.Proofs.Ytmkajdfajcodjaa

namespace Go.Proofs.Ytmkajdfajcodjaa
open Go Go.ChangeShapes Go.WideShapes Go.ChangeAt Go.RowKit Go.Maps

set_option maxHeartbeats 8000000 in
set_option maxRecDepth 100000 in
theorem HsDo_MakeIn (w0 w : World) (pp m : Nat) (vT vX gv : Value) (S1 S2 : Nat → Prop) (s : Hs) (G : List Int) (x : HAct) (h : HsP w0 pp vT vX S1 S2 s s G gv w) (hx : HActOk x) (hm : m ≤ 300) (hg : G.length ≤ m) {km : Nat} (hmost : s.A.most = km) (hq : x.kind % 11 = 2) :
    Calls Try.prog 14 #[.pointer (some ⟨pp, 0, none⟩), .agg (acc x).toArray] w (HDoPost w0 pp vT vX (m + 1) km) := by
  obtain ⟨xk, xa, xh, xx, xr⟩ := x
  simp only [HActOk] at hx
  simp only at hq
  have HOKX := hid (show HActOk ⟨xk, xa, xh, xx, xr⟩ from hx)
  obtain ⟨hk, ha, hh, hxx, hr⟩ := hx
  obtain ⟨wb, hwb⟩ : ∃ wb, wb = w.heap.size := ⟨_, rfl⟩
  obtain ⟨w1, hw1⟩ : ∃ w1, w1 = w.alloc (.cells (acc ⟨xk, xa, xh, xx, xr⟩).toArray 36) := ⟨_, rfl⟩
  have hbx : InA w1 wb ⟨xk, xa, xh, xx, xr⟩ := by unfold InA; rw [hw1, hwb]; exact heap_alloc_new _ _
  have HP1 := hid (h.no (w' := w1) (by rw [hw1]; exact (Fr.refl _ _).alloc _))
  have HW1 := hid hw1
  have HWB := hid hwb
  have hb0 := hbx.c0
  have hb1 := hbx.c1
  have hb2 := hbx.c2
  have hb3 := hbx.c3
  have hb4 := hbx.c4
  have hwS : (¬ S1 wb ∧ ¬ S2 wb) ∧ wb ≠ pp ∧ gv.ownBlock ≠ some wb := ⟨⟨fun e => by have := h.t.lt wb e; omega, fun e => by have := h.x.lt wb e; omega⟩, fun e => by have := h.lt; omega, fun e => by have := (h.g.own.lt wb e).2; omega⟩
  have HWS := hid hwS
  have HGL := hid hg
  have HM := hid hmost
  have HML := hid hm
  have HGV := hid (given_any HP1.out (by omega) hh)
  have HBX := hid hbx
  have HA := hid ha
  have HX := hid hxx
  have HKK := hid hk
  clear hwS h hw1 hwb hg hm hmost hbx hh ha hxx hk
  simp only at hb0 hb1 hb2 hb3 hb4 HGV HA HX HKK hr
  by_cases hr0 : xr = 0
  case' neg =>
    have hne : (xr == 0) = false := by simpa using hr0
    obtain ⟨hd, hhd⟩ : ∃ hd, hd = xr := ⟨_, rfl⟩
    have HDU := hid (show Hn hd by rw [hhd]; exact hr)
    clear HGV hr hr0
    go_enter Try.func14, Try.ntmps14
    go_upto_region 1 with fail
    rw [← HW1.out, ← HWB.out]
    go_upto_region 4 with fail
    rw [← hhd]
    obtain ⟨w2, hw2⟩ : ∃ w2, w2 = w1 := ⟨_, rfl⟩
    rw [← hw2] at HP1 hb0 hb1 hb2 hb3 HBX ⊢
    clear hw2 hne hb4 HW1 HWB hhd
  case' pos =>
    have hne : (xr == 0) = true := by simpa using hr0
    clear hr hr0
    go_enter Try.func14, Try.ntmps14
    go_upto_region 1 with fail
    rw [← HW1.out, ← HWB.out]
    go_wp2_with fail
    refine HGV.out.mono ?_
    rintro e w2 ⟨hd, hdu, rfl, hf2⟩
    have HDU := hid hdu
    replace HP1 := hid (HP1.out.no hf2)
    replace HBX : RowKit.Hid (InA w2 wb ⟨xk, xa, xh, xx, xr⟩) := hid ((hf2.block wb (Array.getElem?_eq_some_iff.1 HBX.out).1 (fun e => e)).trans HBX.out)
    replace hb0 := HBX.out.c0
    replace hb1 := HBX.out.c1
    replace hb2 := HBX.out.c2
    replace hb3 := HBX.out.c3
    simp only at hb0 hb1 hb2 hb3
    clear hdu hf2 hne hb4 HW1 HWB HGV
  all_goals
    obtain ⟨pt, hpt⟩ := HP1.out.t.ptr
    obtain ⟨px, hpx⟩ := HP1.out.x.ptr
    have d0 := HP1.out.c0
    have d1 := HP1.out.c1
    have HPK := hid (Pick_any xk 11 w2 HKK.out (by decide) (by decide))
    rw [hpt] at d0
    rw [hpx] at d1
    have HPT := hid hpt
    have HPX := hid hpx
    clear hpt hpx
    go_wp2_with fail
    refine HPK.out.mono ?_
    rintro e w' ⟨rfl, rfl⟩
    clear HPK
    have q := hq
    all_goals
      rw [q]
      clear q
      go_upto_region 12 with fail
      have PD := hid (HP1.out.no (Fr.refl _ _).drew)
      have HO := hid (HMake_any S1 _ vT s xa hd PD.out.t HDU.out)
      rw [HPT.out] at HO
      have hwl : wb < w2.drew.heap.size := (Array.getElem?_eq_some_iff.1 HBX.out).1
      refine C.wp_region_mix [0, 0, 0, 1, 0, 1, 0, 3, 0, 0, 0, 0, 0] (fun W => W.cell? ⟨pp, 0, none⟩ = some (.pointer (some ⟨pt, 0, none⟩)) ∧ W.cell? ⟨wb, 1, none⟩ = some (.int .i64 xa)) (by kernel_rfl) (by kernel_rfl) ⟨d0, hb1⟩ ?_
      repeat (first
        | (refine' C.wpMix_value _ rfl rfl _ _; rotate_left; (solve | (intro W; go_simp) | (intro W; go_simp; with_reducible rfl)); simp only [Act.put, List.setIfInBounds_toArray, List.set_cons_zero, List.set_cons_succ])
        | (refine' C.wpMix_read _ rfl rfl _ _; rotate_left; (solve | (rintro W ⟨h1, h2⟩; go_simp) | (rintro W ⟨h1, h2⟩; go_simp; with_reducible rfl)); simp only [Act.put, List.setIfInBounds_toArray, List.set_cons_zero, List.set_cons_succ]))
      refine C.wpMix_call 23 #[.pointer (some ⟨pt, 0, none⟩), .int .i64 xa, .int .u64 hd] (by decide) rfl (by go_simp) ?_
      refine HO.out.mono ?_
      rintro e w3 ⟨hf3, s3, h3, er, rfl, hmk, hR3⟩
      refine ⟨_, rfl, (fun h => by cases h), ?_⟩
      simp only [Act.put, List.setIfInBounds_toArray, List.set_cons_zero, List.set_cons_succ]
      rw [← HPT.out] at hR3
      have hP3 := PD.out.tab hf3 hR3
      have e2 : w3.cell? ⟨wb, 1, none⟩ = some (.int .i64 xa) := (World.cell?_of_block (hf3.block wb hwl (fun e => HWS.out.1.1 e))).trans hb1
      have e1 := hP3.c1
      rw [HPX.out] at e1
      have P3d := hid (hP3.no (Fr.refl _ _).drew)
      have HXX := hid (RfMake_any S2 _ vX s xa hd P3d.out.x HDU.out)
      rw [HPX.out] at HXX
      have HMK := hid hmk
      have HM3 := hid (hmk.most HM.out)
      have hhn : er = 0 → Hn h3 := fun e => by
        have hn := hR3.hsi.ok.nz
        cases hmk with
        | arg => cases e
        | stale => cases e
        | inner => cases e
        | full => cases e
        | ok =>
          have := hn _ (List.mem_append_right _ (List.mem_singleton.2 rfl))
          exact ⟨by omega, this.2⟩
      have HHN := hid hhn
      clear hf3 hR3 hmk hP3 HO PD d0 d1 hb0 hb1 hb2 hb3 hwl hhn
      repeat (first
        | (refine' C.wpMix_value _ rfl rfl _ _; rotate_left; (solve | (intro W; go_simp) | (intro W; go_simp; with_reducible rfl)); simp only [Act.put, List.setIfInBounds_toArray, List.set_cons_zero, List.set_cons_succ])
        | (refine' C.wpMix_read _ rfl rfl _ _; rotate_left; (solve | (rintro W ⟨h1, h2⟩; go_simp) | (rintro W ⟨h1, h2⟩; go_simp; with_reducible rfl)); simp only [Act.put, List.setIfInBounds_toArray, List.set_cons_zero, List.set_cons_succ]))
      refine C.wpMix_end ?_
      go_upto_region 13 with fail
      refine C.wp_region_mix [0, 0, 0, 1, 0, 1, 0, 3, 0, 0, 0, 0, 0] (fun W => W.cell? ⟨pp, 1, none⟩ = some (.pointer (some ⟨px, 0, none⟩)) ∧ W.cell? ⟨wb, 1, none⟩ = some (.int .i64 xa)) (by kernel_rfl) (by kernel_rfl) ⟨e1, e2⟩ ?_
      repeat (first
        | (refine' C.wpMix_value _ rfl rfl _ _; rotate_left; (solve | (intro W; go_simp) | (intro W; go_simp; with_reducible rfl)); simp only [Act.put, List.setIfInBounds_toArray, List.set_cons_zero, List.set_cons_succ])
        | (refine' C.wpMix_read _ rfl rfl _ _; rotate_left; (solve | (rintro W ⟨h1, h2⟩; go_simp) | (rintro W ⟨h1, h2⟩; go_simp; with_reducible rfl)); simp only [Act.put, List.setIfInBounds_toArray, List.set_cons_zero, List.set_cons_succ]))
      refine C.wpMix_call 37 #[.pointer (some ⟨px, 0, none⟩), .int .i64 xa, .int .u64 hd] (by decide) rfl (by go_simp) ?_
      refine HXX.out.mono ?_
      rintro e w4 ⟨hf4, s4, h4, er4, rfl, hmk4, hR4⟩
      refine ⟨_, rfl, (fun h => by cases h), ?_⟩
      simp only [Act.put, List.setIfInBounds_toArray, List.set_cons_zero, List.set_cons_succ]
      obtain ⟨rfl, rfl, rfl⟩ := MkR.same HMK.out hmk4
      rw [← HPX.out] at hR4
      have HP4 := hid (P3d.out.twin hf4 hR4)
      clear hf4 hR4 hmk4 P3d HXX HMK e1 e2 HP1
      repeat (first
        | (refine' C.wpMix_value _ rfl rfl _ _; rotate_left; (solve | (intro W; go_simp) | (intro W; go_simp; with_reducible rfl)); simp only [Act.put, List.setIfInBounds_toArray, List.set_cons_zero, List.set_cons_succ])
        | (refine' C.wpMix_read _ rfl rfl _ _; rotate_left; (solve | (rintro W ⟨h1, h2⟩; go_simp) | (rintro W ⟨h1, h2⟩; go_simp; with_reducible rfl)); simp only [Act.put, List.setIfInBounds_toArray, List.set_cons_zero, List.set_cons_succ]))
      refine C.wpMix_end ?_
      by_cases he : er = 0
      · subst he
        have HU3 := hid (HHN.out rfl)
        obtain ⟨i0, hi, hz0, hz1, hz2⟩ := info_parts infoU0
        have hi' := hid hi
        have hz0' := hid hz0
        have hz1' := hid hz1
        have hz2' := hid hz2
        have c2 := HP4.out.c2
        have z2 := HP4.out.fz 2
        have hpl := HP4.out.lt
        have HOFF := hid (HP4.out.g.off pp)
        obtain ⟨ga, gk, hgv, _⟩ := HP4.out.g.form
        subst hgv
        have hgl := HGL.out
        have hml := HML.out
        clear HHN hi hz0 hz1 hz2
        go_wp2_with (first
          | (at_builtin; refine wpList_append_own_at _ (o := ⟨some 88, _, _, _, _, _⟩) rfl (.tmp 85) (.tmp 87) 43 rfl w0.heap.size 34 i0 (.int .u64 0) 1 8 Try.underlying43 hi'.out hz0'.out hz1'.out hz2'.out rfl (by decide) _ _ _ rfl (HP4.out.g.own.alloc _) ⟨w4.heap.size, 0, none⟩ 1 1 [.int .u64 h3] rfl rfl (World.news_of_block (heap_alloc_new w4 _)) (fun u hu => by rw [List.mem_singleton.1 hu]; rfl) (by unfold maxLen; omega) (by omega) (by have := HP4.out.below.size; simp; omega) ?_; intro vz wz hownz hgrowz hnilz hatz; obtain ⟨gz, kz, rfl⟩ := ownsRow_succ hownz; have hbz : wz.heap[pp]? = w4.heap[pp]? := (by rw [hgrowz.block pp (by simp; omega) (fun e => HOFF.out e.symm (.inr (.inr rfl)))]; exact Below.heap_alloc _ _ _ hpl); have c2z := (World.cell?_of_block (a := ⟨pp, 2, none⟩) hbz).trans c2; have z2z : wz.frozen? ⟨pp, 2, none⟩ = false := (World.frozen?_of_block hbz).trans z2; have HOz := hid hownz; have HGz := hid hgrowz; have HAz := hid hatz; clear hownz hgrowz hnilz hatz hbz)
          | fail)
        go_ret
        exact ⟨rfl, _, _, _, _, _, HP4.out.give HU3.out HOz.out HGz.out HAz.out, by simp; omega, HM3.out⟩
      · have hne : (er == 0) = false := by simpa using he
        clear HHN he
        go_wp2
        go_ret
        exact ⟨rfl, _, _, _, _, _, HP4.out, by have := HGL.out; omega, HM3.out⟩
end Go.Proofs.Ytmkajdfajcodjaa

namespace Go.Proofs.Ytmkajdfajcodjaa
open Go Go.ChangeShapes Go.WideShapes Go.ChangeAt Go.RowKit Go.Maps

set_option maxHeartbeats 8000000 in
set_option maxRecDepth 100000 in
theorem HsDo_Up (w0 w : World) (pp m : Nat) (vT vX gv : Value) (S1 S2 : Nat → Prop) (s : Hs) (G : List Int) (x : HAct) (h : HsP w0 pp vT vX S1 S2 s s G gv w) (hx : HActOk x) (hm : m ≤ 300) (hg : G.length ≤ m) {km : Nat} (hmost : s.A.most = km) (hq : x.kind % 11 = 3 ∨ x.kind % 11 = 4) :
    Calls Try.prog 14 #[.pointer (some ⟨pp, 0, none⟩), .agg (acc x).toArray] w (HDoPost w0 pp vT vX (m + 1) km) := by
  obtain ⟨xk, xa, xh, xx, xr⟩ := x
  simp only [HActOk] at hx
  simp only at hq
  have HOKX := hid (show HActOk ⟨xk, xa, xh, xx, xr⟩ from hx)
  obtain ⟨hk, ha, hh, hxx, hr⟩ := hx
  obtain ⟨wb, hwb⟩ : ∃ wb, wb = w.heap.size := ⟨_, rfl⟩
  obtain ⟨w1, hw1⟩ : ∃ w1, w1 = w.alloc (.cells (acc ⟨xk, xa, xh, xx, xr⟩).toArray 36) := ⟨_, rfl⟩
  have hbx : InA w1 wb ⟨xk, xa, xh, xx, xr⟩ := by unfold InA; rw [hw1, hwb]; exact heap_alloc_new _ _
  have HP1 := hid (h.no (w' := w1) (by rw [hw1]; exact (Fr.refl _ _).alloc _))
  have HW1 := hid hw1
  have HWB := hid hwb
  have hb0 := hbx.c0
  have hb1 := hbx.c1
  have hb2 := hbx.c2
  have hb3 := hbx.c3
  have hb4 := hbx.c4
  have hwS : (¬ S1 wb ∧ ¬ S2 wb) ∧ wb ≠ pp ∧ gv.ownBlock ≠ some wb := ⟨⟨fun e => by have := h.t.lt wb e; omega, fun e => by have := h.x.lt wb e; omega⟩, fun e => by have := h.lt; omega, fun e => by have := (h.g.own.lt wb e).2; omega⟩
  have HWS := hid hwS
  have HGL := hid hg
  have HM := hid hmost
  have HML := hid hm
  have HGV := hid (given_any HP1.out (by omega) hh)
  have HBX := hid hbx
  have HA := hid ha
  have HX := hid hxx
  have HKK := hid hk
  clear hwS h hw1 hwb hg hm hmost hbx hh ha hxx hk
  simp only at hb0 hb1 hb2 hb3 hb4 HGV HA HX HKK hr
  by_cases hr0 : xr = 0
  case' neg =>
    have hne : (xr == 0) = false := by simpa using hr0
    obtain ⟨hd, hhd⟩ : ∃ hd, hd = xr := ⟨_, rfl⟩
    have HDU := hid (show Hn hd by rw [hhd]; exact hr)
    clear HGV hr hr0
    go_enter Try.func14, Try.ntmps14
    go_upto_region 1 with fail
    rw [← HW1.out, ← HWB.out]
    go_upto_region 4 with fail
    rw [← hhd]
    obtain ⟨w2, hw2⟩ : ∃ w2, w2 = w1 := ⟨_, rfl⟩
    rw [← hw2] at HP1 hb0 hb1 hb2 hb3 HBX ⊢
    clear hw2 hne hb4 HW1 HWB hhd
  case' pos =>
    have hne : (xr == 0) = true := by simpa using hr0
    clear hr hr0
    go_enter Try.func14, Try.ntmps14
    go_upto_region 1 with fail
    rw [← HW1.out, ← HWB.out]
    go_wp2_with fail
    refine HGV.out.mono ?_
    rintro e w2 ⟨hd, hdu, rfl, hf2⟩
    have HDU := hid hdu
    replace HP1 := hid (HP1.out.no hf2)
    replace HBX : RowKit.Hid (InA w2 wb ⟨xk, xa, xh, xx, xr⟩) := hid ((hf2.block wb (Array.getElem?_eq_some_iff.1 HBX.out).1 (fun e => e)).trans HBX.out)
    replace hb0 := HBX.out.c0
    replace hb1 := HBX.out.c1
    replace hb2 := HBX.out.c2
    replace hb3 := HBX.out.c3
    simp only at hb0 hb1 hb2 hb3
    clear hdu hf2 hne hb4 HW1 HWB HGV
  all_goals
    obtain ⟨pt, hpt⟩ := HP1.out.t.ptr
    obtain ⟨px, hpx⟩ := HP1.out.x.ptr
    have d0 := HP1.out.c0
    have d1 := HP1.out.c1
    have HPK := hid (Pick_any xk 11 w2 HKK.out (by decide) (by decide))
    rw [hpt] at d0
    rw [hpx] at d1
    have HPT := hid hpt
    have HPX := hid hpx
    clear hpt hpx
    go_wp2_with fail
    refine HPK.out.mono ?_
    rintro e w' ⟨rfl, rfl⟩
    clear HPK
    rcases hq with q | q
    all_goals
      rw [q]
      clear q
      have HO := hid (HUp_any S1 _ vT s hd HP1.out.t HDU.out)
      rw [HPT.out] at HO
      go_wp2_with fail
      refine HO.out.mono ?_
      rintro e w3 ⟨hf3, s3, n3, er, rfl, hup, hR3⟩
      rw [← HPT.out] at hR3
      have hP3 := HP1.out.tab hf3 hR3
      have e1 := hP3.c1
      rw [HPX.out] at e1
      have HP3 := hid hP3
      have HX := hid (RfUp_any S2 w3 vX s hd hP3.x)
      rw [HPX.out] at HX
      have HUP := hid hup
      have HM3 := hid (hup.most HM.out)
      clear hf3 hR3 hP3 hup HO d0 d1 hb0 hb1 hb2 hb3
      go_wp2_with fail
      refine HX.out.mono ?_
      rintro e w4 ⟨hf4, s4, n4, er4, rfl, hup4, hR4⟩
      obtain ⟨rfl, rfl, rfl⟩ := UpR.same HUP.out hup4
      rw [← HPX.out] at hR4
      have HP4 := hid (HP3.out.twin hf4 hR4)
      clear hf4 hR4 hup4 HX HP3 HP1 HUP e1
      go_wp2
      go_ret
      exact ⟨rfl, _, _, _, _, _, HP4.out, by have := HGL.out; omega, HM3.out⟩
end Go.Proofs.Ytmkajdfajcodjaa

namespace Go.Proofs.Ytmkajdfajcodjaa
open Go Go.ChangeShapes Go.WideShapes Go.ChangeAt Go.RowKit Go.Maps

set_option maxHeartbeats 8000000 in
set_option maxRecDepth 100000 in
theorem HsDo_Down (w0 w : World) (pp m : Nat) (vT vX gv : Value) (S1 S2 : Nat → Prop) (s : Hs) (G : List Int) (x : HAct) (h : HsP w0 pp vT vX S1 S2 s s G gv w) (hx : HActOk x) (hm : m ≤ 300) (hg : G.length ≤ m) {km : Nat} (hmost : s.A.most = km) (hq : x.kind % 11 = 5 ∨ x.kind % 11 = 6) :
    Calls Try.prog 14 #[.pointer (some ⟨pp, 0, none⟩), .agg (acc x).toArray] w (HDoPost w0 pp vT vX (m + 1) km) := by
  obtain ⟨xk, xa, xh, xx, xr⟩ := x
  simp only [HActOk] at hx
  simp only at hq
  have HOKX := hid (show HActOk ⟨xk, xa, xh, xx, xr⟩ from hx)
  obtain ⟨hk, ha, hh, hxx, hr⟩ := hx
  obtain ⟨wb, hwb⟩ : ∃ wb, wb = w.heap.size := ⟨_, rfl⟩
  obtain ⟨w1, hw1⟩ : ∃ w1, w1 = w.alloc (.cells (acc ⟨xk, xa, xh, xx, xr⟩).toArray 36) := ⟨_, rfl⟩
  have hbx : InA w1 wb ⟨xk, xa, xh, xx, xr⟩ := by unfold InA; rw [hw1, hwb]; exact heap_alloc_new _ _
  have HP1 := hid (h.no (w' := w1) (by rw [hw1]; exact (Fr.refl _ _).alloc _))
  have HW1 := hid hw1
  have HWB := hid hwb
  have hb0 := hbx.c0
  have hb1 := hbx.c1
  have hb2 := hbx.c2
  have hb3 := hbx.c3
  have hb4 := hbx.c4
  have hwS : (¬ S1 wb ∧ ¬ S2 wb) ∧ wb ≠ pp ∧ gv.ownBlock ≠ some wb := ⟨⟨fun e => by have := h.t.lt wb e; omega, fun e => by have := h.x.lt wb e; omega⟩, fun e => by have := h.lt; omega, fun e => by have := (h.g.own.lt wb e).2; omega⟩
  have HWS := hid hwS
  have HGL := hid hg
  have HM := hid hmost
  have HML := hid hm
  have HGV := hid (given_any HP1.out (by omega) hh)
  have HBX := hid hbx
  have HA := hid ha
  have HX := hid hxx
  have HKK := hid hk
  clear hwS h hw1 hwb hg hm hmost hbx hh ha hxx hk
  simp only at hb0 hb1 hb2 hb3 hb4 HGV HA HX HKK hr
  by_cases hr0 : xr = 0
  case' neg =>
    have hne : (xr == 0) = false := by simpa using hr0
    obtain ⟨hd, hhd⟩ : ∃ hd, hd = xr := ⟨_, rfl⟩
    have HDU := hid (show Hn hd by rw [hhd]; exact hr)
    clear HGV hr hr0
    go_enter Try.func14, Try.ntmps14
    go_upto_region 1 with fail
    rw [← HW1.out, ← HWB.out]
    go_upto_region 4 with fail
    rw [← hhd]
    obtain ⟨w2, hw2⟩ : ∃ w2, w2 = w1 := ⟨_, rfl⟩
    rw [← hw2] at HP1 hb0 hb1 hb2 hb3 HBX ⊢
    clear hw2 hne hb4 HW1 HWB hhd
  case' pos =>
    have hne : (xr == 0) = true := by simpa using hr0
    clear hr hr0
    go_enter Try.func14, Try.ntmps14
    go_upto_region 1 with fail
    rw [← HW1.out, ← HWB.out]
    go_wp2_with fail
    refine HGV.out.mono ?_
    rintro e w2 ⟨hd, hdu, rfl, hf2⟩
    have HDU := hid hdu
    replace HP1 := hid (HP1.out.no hf2)
    replace HBX : RowKit.Hid (InA w2 wb ⟨xk, xa, xh, xx, xr⟩) := hid ((hf2.block wb (Array.getElem?_eq_some_iff.1 HBX.out).1 (fun e => e)).trans HBX.out)
    replace hb0 := HBX.out.c0
    replace hb1 := HBX.out.c1
    replace hb2 := HBX.out.c2
    replace hb3 := HBX.out.c3
    simp only at hb0 hb1 hb2 hb3
    clear hdu hf2 hne hb4 HW1 HWB HGV
  all_goals
    obtain ⟨pt, hpt⟩ := HP1.out.t.ptr
    obtain ⟨px, hpx⟩ := HP1.out.x.ptr
    have d0 := HP1.out.c0
    have d1 := HP1.out.c1
    have HPK := hid (Pick_any xk 11 w2 HKK.out (by decide) (by decide))
    rw [hpt] at d0
    rw [hpx] at d1
    have HPT := hid hpt
    have HPX := hid hpx
    clear hpt hpx
    go_wp2_with fail
    refine HPK.out.mono ?_
    rintro e w' ⟨rfl, rfl⟩
    clear HPK
    rcases hq with q | q
    all_goals
      rw [q]
      clear q
      have HO := hid (HDown_in S1 _ vT s hd HP1.out.t HDU.out)
      rw [HPT.out] at HO
      go_wp2_with fail
      refine HO.out.mono ?_
      rintro e w3 ⟨hf3, s3, g3, f3, er, vg, vf, rfl, t1, t2, hdn, hR3, o1, o2⟩
      rw [← HPT.out] at hR3
      have hP3 := HP1.out.tab hf3 hR3
      have e1 := hP3.c1
      rw [HPX.out] at e1
      have HP3 := hid hP3
      have HX := hid (RfDown_any S2 w3 vX s hd hP3.x HDU.out)
      rw [HPX.out] at HX
      have n1 : ∀ k, vg.ownBlock = some k → ¬ S2 k := fun k hk => hP3.d12 k (o1 k hk)
      have n2 : ∀ k, vf.ownBlock = some k → ¬ S2 k := fun k hk => hP3.d12 k (o2 k hk)
      have HUP := hid hdn
      have HM3 := hid (hdn.most HM.out)
      have T1 := hid t1
      have T2 := hid t2
      have N1 := hid n1
      have N2 := hid n2
      clear hf3 hR3 hP3 hdn t1 t2 o1 o2 n1 n2 HO d0 d1 hb0 hb1 hb2 hb3
      go_wp2_with fail
      refine HX.out.mono ?_
      rintro e w4 ⟨hf4, s4, g4, f4, er4, vg4, vf4, rfl, t3, t4, hdn4, hR4⟩
      obtain ⟨rfl, rfl, rfl, rfl⟩ := DnR.same HP1.out.t.hsi HUP.out hdn4
      rw [← HPX.out] at hR4
      have HP4 := hid (HP3.out.twin hf4 hR4)
      have HS1 := hid (SameLongs_told w4 vg vg4 g3 (T1.out.fr hf4 N1.out) t3)
      have T2' := hid (T2.out.fr hf4 N2.out)
      have T4 := hid t4
      clear hf4 hR4 hdn4 t3 t4 HX HP3 HP1 HUP e1 T1 T2
      go_wp2_with fail
      refine HS1.out.mono ?_
      rintro e w5 ⟨rfl, hb5⟩
      have HS2 := hid (SameLongs_told w5 vf vf4 f3 (T2'.out.below hb5) (T4.out.below hb5))
      have HP5 := hid (HP4.out.no (Fr.of_below hb5))
      clear hb5 HS1 T2' T4 HP4
      go_wp2_with fail
      refine HS2.out.mono ?_
      rintro e w6 ⟨rfl, hb6⟩
      have HP6 := hid (HP5.out.no (Fr.of_below hb6))
      clear hb6 HS2 HP5
      go_wp2
      go_ret
      exact ⟨rfl, _, _, _, _, _, HP6.out, by have := HGL.out; omega, HM3.out⟩
end Go.Proofs.Ytmkajdfajcodjaa

namespace Go.Proofs.Ytmkajdfajcodjaa
open Go Go.ChangeShapes Go.WideShapes Go.ChangeAt Go.RowKit Go.Maps

set_option maxHeartbeats 8000000 in
set_option maxRecDepth 100000 in
theorem HsDo_Put (w0 w : World) (pp m : Nat) (vT vX gv : Value) (S1 S2 : Nat → Prop) (s : Hs) (G : List Int) (x : HAct) (h : HsP w0 pp vT vX S1 S2 s s G gv w) (hx : HActOk x) (hm : m ≤ 300) (hg : G.length ≤ m) {km : Nat} (hmost : s.A.most = km) (hq : x.kind % 11 = 7 ∨ x.kind % 11 = 8) :
    Calls Try.prog 14 #[.pointer (some ⟨pp, 0, none⟩), .agg (acc x).toArray] w (HDoPost w0 pp vT vX (m + 1) km) := by
  obtain ⟨xk, xa, xh, xx, xr⟩ := x
  simp only [HActOk] at hx
  simp only at hq
  have HOKX := hid (show HActOk ⟨xk, xa, xh, xx, xr⟩ from hx)
  obtain ⟨hk, ha, hh, hxx, hr⟩ := hx
  obtain ⟨wb, hwb⟩ : ∃ wb, wb = w.heap.size := ⟨_, rfl⟩
  obtain ⟨w1, hw1⟩ : ∃ w1, w1 = w.alloc (.cells (acc ⟨xk, xa, xh, xx, xr⟩).toArray 36) := ⟨_, rfl⟩
  have hbx : InA w1 wb ⟨xk, xa, xh, xx, xr⟩ := by unfold InA; rw [hw1, hwb]; exact heap_alloc_new _ _
  have HP1 := hid (h.no (w' := w1) (by rw [hw1]; exact (Fr.refl _ _).alloc _))
  have HW1 := hid hw1
  have HWB := hid hwb
  have hb0 := hbx.c0
  have hb1 := hbx.c1
  have hb2 := hbx.c2
  have hb3 := hbx.c3
  have hb4 := hbx.c4
  have hwS : (¬ S1 wb ∧ ¬ S2 wb) ∧ wb ≠ pp ∧ gv.ownBlock ≠ some wb := ⟨⟨fun e => by have := h.t.lt wb e; omega, fun e => by have := h.x.lt wb e; omega⟩, fun e => by have := h.lt; omega, fun e => by have := (h.g.own.lt wb e).2; omega⟩
  have HWS := hid hwS
  have HGL := hid hg
  have HM := hid hmost
  have HML := hid hm
  have HGV := hid (given_any HP1.out (by omega) hh)
  have HBX := hid hbx
  have HA := hid ha
  have HX := hid hxx
  have HKK := hid hk
  clear hwS h hw1 hwb hg hm hmost hbx hh ha hxx hk
  simp only at hb0 hb1 hb2 hb3 hb4 HGV HA HX HKK hr
  by_cases hr0 : xr = 0
  case' neg =>
    have hne : (xr == 0) = false := by simpa using hr0
    obtain ⟨hd, hhd⟩ : ∃ hd, hd = xr := ⟨_, rfl⟩
    have HDU := hid (show Hn hd by rw [hhd]; exact hr)
    clear HGV hr hr0
    go_enter Try.func14, Try.ntmps14
    go_upto_region 1 with fail
    rw [← HW1.out, ← HWB.out]
    go_upto_region 4 with fail
    rw [← hhd]
    obtain ⟨w2, hw2⟩ : ∃ w2, w2 = w1 := ⟨_, rfl⟩
    rw [← hw2] at HP1 hb0 hb1 hb2 hb3 HBX ⊢
    clear hw2 hne hb4 HW1 HWB hhd
  case' pos =>
    have hne : (xr == 0) = true := by simpa using hr0
    clear hr hr0
    go_enter Try.func14, Try.ntmps14
    go_upto_region 1 with fail
    rw [← HW1.out, ← HWB.out]
    go_wp2_with fail
    refine HGV.out.mono ?_
    rintro e w2 ⟨hd, hdu, rfl, hf2⟩
    have HDU := hid hdu
    replace HP1 := hid (HP1.out.no hf2)
    replace HBX : RowKit.Hid (InA w2 wb ⟨xk, xa, xh, xx, xr⟩) := hid ((hf2.block wb (Array.getElem?_eq_some_iff.1 HBX.out).1 (fun e => e)).trans HBX.out)
    replace hb0 := HBX.out.c0
    replace hb1 := HBX.out.c1
    replace hb2 := HBX.out.c2
    replace hb3 := HBX.out.c3
    simp only at hb0 hb1 hb2 hb3
    clear hdu hf2 hne hb4 HW1 HWB HGV
  all_goals
    obtain ⟨pt, hpt⟩ := HP1.out.t.ptr
    obtain ⟨px, hpx⟩ := HP1.out.x.ptr
    have d0 := HP1.out.c0
    have d1 := HP1.out.c1
    have HPK := hid (Pick_any xk 11 w2 HKK.out (by decide) (by decide))
    rw [hpt] at d0
    rw [hpx] at d1
    have HPT := hid hpt
    have HPX := hid hpx
    clear hpt hpx
    go_wp2_with fail
    refine HPK.out.mono ?_
    rintro e w' ⟨rfl, rfl⟩
    clear HPK
    rcases hq with q | q
    all_goals
      rw [q]
      clear q
      have hat := atl_row (l := acc ⟨xk, xa, xh, xx, xr⟩) HBX.out ⟨[], by simp⟩
      have HATX := hid hat
      have HLK := hid (link_any HP1.out (by have := HGL.out; have := HML.out; omega) HOKX.out)
      have HWL := hid (show wb < w2.heap.size from (Array.getElem?_eq_some_iff.1 HBX.out).1)
      clear hat
      go_wp2_with ((with_reducible refine at_op ⟨some 168, _, _, _, _, _⟩ ?_); refine wpList_run rfl _ (load_act rfl rfl HATX.out) ?_)
      refine HLK.out.mono ?_
      rintro e w5 ⟨⟨yk, yh⟩, ⟨hyk, hyh⟩, rfl, hf5⟩
      simp only at hyk hyh
      obtain ⟨w6, hw6⟩ : ∃ w6, w6 = w5.alloc (.cells #[.int .i64 yk, .int .u64 yh] TK) := ⟨_, rfl⟩
      have hf6 : Fr (fun _ => False) w5 w6 := by rw [hw6]; exact (Fr.refl _ _).alloc _
      obtain ⟨yb, hyb⟩ : ∃ yb, yb = w5.heap.size := ⟨_, rfl⟩
      have hyx : w6.heap[yb]? = some (.cells #[.int .i64 yk, .int .u64 yh] TK (0, 0)) := by rw [hw6, hyb]; exact heap_alloc_new _ _
      have hf26 := hf5.trans hf6 (fun _ e _ => e)
      have HW6 := hid hw6
      have HYB := hid hyb
      have HYX := hid hyx
      have HYK := hid hyk
      have HYH := hid hyh
      have hb1' : w6.cell? ⟨wb, 1, none⟩ = some (.int .i64 xa) := (World.cell?_of_block (hf26.block wb HWL.out (fun e => e))).trans hb1
      have hyS : ¬ S1 yb ∧ ¬ S2 yb := ⟨fun e => by have := HP1.out.t.lt yb e; have := hf5.size; omega, fun e => by have := HP1.out.x.lt yb e; have := hf5.size; omega⟩
      have HYS := hid hyS
      have HWL6 := hid (Nat.lt_of_lt_of_le HWL.out hf26.size)
      replace HP1 := hid (HP1.out.no hf26)
      have g0 := HP1.out.c0
      have g1 := HP1.out.c1
      rw [HPT.out] at g0
      rw [HPX.out] at g1
      have hy0 : w6.cell? ⟨yb, 0, none⟩ = some (.int .i64 yk) := by rw [cell_of_row w6 yb 0 _ _ _ hyx]; rfl
      have hy1 : w6.cell? ⟨yb, 1, none⟩ = some (.int .u64 yh) := by rw [cell_of_row w6 yb 1 _ _ _ hyx]; rfl
      have PD := hid (HP1.out.no (Fr.refl _ _).drew)
      have HO := hid (HPut_in S1 _ vT s hd xa ⟨yk, yh⟩ PD.out.t HDU.out hyk hyh)
      rw [HPT.out] at HO
      clear hw6 hf6 hyb hyx hf5 hf26 hyS hyk hyh hb0 hb1 hb2 hb3 d0 d1 HLK HATX HWL HBX
      go_upto_region 30 with fail
      rw [← HYB.out, show w5.alloc (.cells #[.int .i64 yk, .int .u64 yh] 67) = w6 from HW6.out.symm]
      refine C.wp_region_mix [0, 0, 0, 1, 0, 0, 1, 1, 3, 0, 0, 0, 0, 0, 0, 0] (fun W => W.cell? ⟨pp, 0, none⟩ = some (.pointer (some ⟨pt, 0, none⟩)) ∧ W.cell? ⟨wb, 1, none⟩ = some (.int .i64 xa) ∧ W.cell? ⟨yb, 0, none⟩ = some (.int .i64 yk) ∧ W.cell? ⟨yb, 1, none⟩ = some (.int .u64 yh)) (by kernel_rfl) (by kernel_rfl) ⟨g0, hb1', hy0, hy1⟩ ?_
      repeat (first
        | (refine' C.wpMix_value _ rfl rfl _ _; rotate_left; (solve | (intro W; go_simp) | (intro W; go_simp; with_reducible rfl)); simp only [Act.put, List.setIfInBounds_toArray, List.set_cons_zero, List.set_cons_succ])
        | (refine' C.wpMix_read _ rfl rfl _ _; rotate_left; (solve | (rintro W ⟨h1, h2, h3, h4⟩; go_simp) | (rintro W ⟨h1, h2, h3, h4⟩; go_simp; with_reducible rfl)); simp only [Act.put, List.setIfInBounds_toArray, List.set_cons_zero, List.set_cons_succ]))
      refine C.wpMix_call 27 #[.pointer (some ⟨pt, 0, none⟩), .int .u64 hd, .int .i64 xa, .agg #[.int .i64 yk, .int .u64 yh]] (by decide) rfl (by go_simp) ?_
      refine HO.out.mono ?_
      rintro e w3 ⟨hf3, s3, g3, f3, er, vg, vf, rfl, t1, t2, hdn, hR3, o1, o2⟩
      refine ⟨_, rfl, (fun h => by cases h), ?_⟩
      simp only [Act.put, List.setIfInBounds_toArray, List.set_cons_zero, List.set_cons_succ]
      rw [← HPT.out] at hR3
      have hP3 := PD.out.tab hf3 hR3
      have hlt : ∀ k, k < w6.heap.size → k < w6.drew.heap.size := fun k hk => hk
      have hyl : yb < w6.heap.size := (Array.getElem?_eq_some_iff.1 HYX.out).1
      have e2 : w3.cell? ⟨wb, 1, none⟩ = some (.int .i64 xa) := (World.cell?_of_block (hf3.block wb (hlt _ HWL6.out) (fun e => HWS.out.1.1 e))).trans hb1'
      have e3 : w3.cell? ⟨yb, 0, none⟩ = some (.int .i64 yk) := (World.cell?_of_block (hf3.block yb (hlt _ hyl) (fun e => HYS.out.1 e))).trans hy0
      have e4 : w3.cell? ⟨yb, 1, none⟩ = some (.int .u64 yh) := (World.cell?_of_block (hf3.block yb (hlt _ hyl) (fun e => HYS.out.1 e))).trans hy1
      have e1 := hP3.c1
      rw [HPX.out] at e1
      have hP3d := hP3.no (Fr.refl _ _).drew
      have HXX := hid (RfPut_any S2 _ vX s hd xa ⟨yk, yh⟩ hP3d.x HYK.out HYH.out)
      rw [HPX.out] at HXX
      have n1 : ∀ k, vg.ownBlock = some k → ¬ S2 k := fun k hk => hP3d.d12 k (o1 k hk)
      have n2 : ∀ k, vf.ownBlock = some k → ¬ S2 k := fun k hk => hP3d.d12 k (o2 k hk)
      have HP3 := hid hP3d
      have HUP := hid hdn
      have HM3 := hid (hdn.most HM.out)
      have T1 := hid (t1.fr (Fr.refl (fun _ => False) w3).drew (fun _ _ e => e))
      have T2 := hid (t2.fr (Fr.refl (fun _ => False) w3).drew (fun _ _ e => e))
      have N1 := hid n1
      have N2 := hid n2
      clear hf3 hR3 hP3 hP3d hdn t1 t2 o1 o2 n1 n2 HO hlt hyl PD g0 g1 hb1' hy0 hy1 HW6
      repeat (first
        | (refine' C.wpMix_value _ rfl rfl _ _; rotate_left; (solve | (intro W; go_simp) | (intro W; go_simp; with_reducible rfl)); simp only [Act.put, List.setIfInBounds_toArray, List.set_cons_zero, List.set_cons_succ])
        | (refine' C.wpMix_read _ rfl rfl _ _; rotate_left; (solve | (rintro W ⟨h1, h2, h3, h4⟩; go_simp) | (rintro W ⟨h1, h2, h3, h4⟩; go_simp; with_reducible rfl)); simp only [Act.put, List.setIfInBounds_toArray, List.set_cons_zero, List.set_cons_succ]))
      refine C.wpMix_end ?_
      go_upto_region 31 with fail
      refine C.wp_region_mix [0, 0, 0, 1, 0, 0, 1, 1, 3, 0, 0, 0, 0, 0, 0, 0] (fun W => W.cell? ⟨pp, 1, none⟩ = some (.pointer (some ⟨px, 0, none⟩)) ∧ W.cell? ⟨wb, 1, none⟩ = some (.int .i64 xa) ∧ W.cell? ⟨yb, 0, none⟩ = some (.int .i64 yk) ∧ W.cell? ⟨yb, 1, none⟩ = some (.int .u64 yh)) (by kernel_rfl) (by kernel_rfl) ⟨e1, e2, e3, e4⟩ ?_
      repeat (first
        | (refine' C.wpMix_value _ rfl rfl _ _; rotate_left; (solve | (intro W; go_simp) | (intro W; go_simp; with_reducible rfl)); simp only [Act.put, List.setIfInBounds_toArray, List.set_cons_zero, List.set_cons_succ])
        | (refine' C.wpMix_read _ rfl rfl _ _; rotate_left; (solve | (rintro W ⟨h1, h2, h3, h4⟩; go_simp) | (rintro W ⟨h1, h2, h3, h4⟩; go_simp; with_reducible rfl)); simp only [Act.put, List.setIfInBounds_toArray, List.set_cons_zero, List.set_cons_succ]))
      refine C.wpMix_call 41 #[.pointer (some ⟨px, 0, none⟩), .int .u64 hd, .int .i64 xa, .agg #[.int .i64 yk, .int .u64 yh]] (by decide) rfl (by go_simp) ?_
      refine HXX.out.mono ?_
      rintro e w4 ⟨hf4, s4, g4, f4, er4, vg4, vf4, rfl, t3, t4, hdn4, hR4⟩
      refine ⟨_, rfl, (fun h => by cases h), ?_⟩
      simp only [Act.put, List.setIfInBounds_toArray, List.set_cons_zero, List.set_cons_succ]
      obtain ⟨rfl, rfl, rfl, rfl⟩ := PuR.same HP1.out.t.hsi HUP.out hdn4
      rw [← HPX.out] at hR4
      have HP4 := hid (HP3.out.twin hf4 hR4)
      have HS1 := hid (SameLongs_told w4 vg vg4 g3 (T1.out.fr hf4 N1.out) t3)
      have T2' := hid (T2.out.fr hf4 N2.out)
      have T4 := hid t4
      clear hf4 hR4 hdn4 t3 t4 HXX HP3 HP1 HUP e1 e2 e3 e4 T1 T2
      repeat (first
        | (refine' C.wpMix_value _ rfl rfl _ _; rotate_left; (solve | (intro W; go_simp) | (intro W; go_simp; with_reducible rfl)); simp only [Act.put, List.setIfInBounds_toArray, List.set_cons_zero, List.set_cons_succ])
        | (refine' C.wpMix_read _ rfl rfl _ _; rotate_left; (solve | (rintro W ⟨h1, h2, h3, h4⟩; go_simp) | (rintro W ⟨h1, h2, h3, h4⟩; go_simp; with_reducible rfl)); simp only [Act.put, List.setIfInBounds_toArray, List.set_cons_zero, List.set_cons_succ]))
      refine C.wpMix_end ?_
      go_wp2_with fail
      refine HS1.out.mono ?_
      rintro e w7 ⟨rfl, hb7⟩
      have HS2 := hid (SameLongs_told w7 vf vf4 f3 (T2'.out.below hb7) (T4.out.below hb7))
      have HP5 := hid (HP4.out.no (Fr.of_below hb7))
      clear hb7 HS1 T2' T4 HP4
      go_wp2_with fail
      refine HS2.out.mono ?_
      rintro e w8 ⟨rfl, hb8⟩
      have HP6 := hid (HP5.out.no (Fr.of_below hb8))
      clear hb8 HS2 HP5
      go_wp2
      go_ret
      exact ⟨rfl, _, _, _, _, _, HP6.out, by have := HGL.out; omega, HM3.out⟩
end Go.Proofs.Ytmkajdfajcodjaa

namespace Go.Proofs.Ytmkajdfajcodjaa
open Go Go.ChangeShapes Go.WideShapes Go.ChangeAt Go.RowKit Go.Maps

set_option maxHeartbeats 8000000 in
set_option maxRecDepth 100000 in
theorem HsDo_Store (w0 w : World) (pp m : Nat) (vT vX gv : Value) (S1 S2 : Nat → Prop) (s : Hs) (G : List Int) (x : HAct) (h : HsP w0 pp vT vX S1 S2 s s G gv w) (hx : HActOk x) (hm : m ≤ 300) (hg : G.length ≤ m) {km : Nat} (hmost : s.A.most = km) (hq : x.kind % 11 = 10) :
    Calls Try.prog 14 #[.pointer (some ⟨pp, 0, none⟩), .agg (acc x).toArray] w (HDoPost w0 pp vT vX (m + 1) km) := by
  obtain ⟨xk, xa, xh, xx, xr⟩ := x
  simp only [HActOk] at hx
  simp only at hq
  have HOKX := hid (show HActOk ⟨xk, xa, xh, xx, xr⟩ from hx)
  obtain ⟨hk, ha, hh, hxx, hr⟩ := hx
  obtain ⟨wb, hwb⟩ : ∃ wb, wb = w.heap.size := ⟨_, rfl⟩
  obtain ⟨w1, hw1⟩ : ∃ w1, w1 = w.alloc (.cells (acc ⟨xk, xa, xh, xx, xr⟩).toArray 36) := ⟨_, rfl⟩
  have hbx : InA w1 wb ⟨xk, xa, xh, xx, xr⟩ := by unfold InA; rw [hw1, hwb]; exact heap_alloc_new _ _
  have HP1 := hid (h.no (w' := w1) (by rw [hw1]; exact (Fr.refl _ _).alloc _))
  have HW1 := hid hw1
  have HWB := hid hwb
  have hb0 := hbx.c0
  have hb1 := hbx.c1
  have hb2 := hbx.c2
  have hb3 := hbx.c3
  have hb4 := hbx.c4
  have hwS : (¬ S1 wb ∧ ¬ S2 wb) ∧ wb ≠ pp ∧ gv.ownBlock ≠ some wb := ⟨⟨fun e => by have := h.t.lt wb e; omega, fun e => by have := h.x.lt wb e; omega⟩, fun e => by have := h.lt; omega, fun e => by have := (h.g.own.lt wb e).2; omega⟩
  have HWS := hid hwS
  have HGL := hid hg
  have HM := hid hmost
  have HML := hid hm
  have HGV := hid (given_any HP1.out (by omega) hh)
  have HBX := hid hbx
  have HA := hid ha
  have HX := hid hxx
  have HKK := hid hk
  clear hwS h hw1 hwb hg hm hmost hbx hh ha hxx hk
  simp only at hb0 hb1 hb2 hb3 hb4 HGV HA HX HKK hr
  by_cases hr0 : xr = 0
  case' neg =>
    have hne : (xr == 0) = false := by simpa using hr0
    obtain ⟨hd, hhd⟩ : ∃ hd, hd = xr := ⟨_, rfl⟩
    have HDU := hid (show Hn hd by rw [hhd]; exact hr)
    clear HGV hr hr0
    go_enter Try.func14, Try.ntmps14
    go_upto_region 1 with fail
    rw [← HW1.out, ← HWB.out]
    go_upto_region 4 with fail
    rw [← hhd]
    obtain ⟨w2, hw2⟩ : ∃ w2, w2 = w1 := ⟨_, rfl⟩
    rw [← hw2] at HP1 hb0 hb1 hb2 hb3 HBX ⊢
    clear hw2 hne hb4 HW1 HWB hhd
  case' pos =>
    have hne : (xr == 0) = true := by simpa using hr0
    clear hr hr0
    go_enter Try.func14, Try.ntmps14
    go_upto_region 1 with fail
    rw [← HW1.out, ← HWB.out]
    go_wp2_with fail
    refine HGV.out.mono ?_
    rintro e w2 ⟨hd, hdu, rfl, hf2⟩
    have HDU := hid hdu
    replace HP1 := hid (HP1.out.no hf2)
    replace HBX : RowKit.Hid (InA w2 wb ⟨xk, xa, xh, xx, xr⟩) := hid ((hf2.block wb (Array.getElem?_eq_some_iff.1 HBX.out).1 (fun e => e)).trans HBX.out)
    replace hb0 := HBX.out.c0
    replace hb1 := HBX.out.c1
    replace hb2 := HBX.out.c2
    replace hb3 := HBX.out.c3
    simp only at hb0 hb1 hb2 hb3
    clear hdu hf2 hne hb4 HW1 HWB HGV
  all_goals
    obtain ⟨pt, hpt⟩ := HP1.out.t.ptr
    obtain ⟨px, hpx⟩ := HP1.out.x.ptr
    have d0 := HP1.out.c0
    have d1 := HP1.out.c1
    have HPK := hid (Pick_any xk 11 w2 HKK.out (by decide) (by decide))
    rw [hpt] at d0
    rw [hpx] at d1
    have HPT := hid hpt
    have HPX := hid hpx
    clear hpt hpx
    go_wp2_with fail
    refine HPK.out.mono ?_
    rintro e w' ⟨rfl, rfl⟩
    clear HPK
    rw [hq]
    clear hq
    have hwl : wb < w2.drew.heap.size := (Array.getElem?_eq_some_iff.1 HBX.out).1
    have PD := hid (HP1.out.no (Fr.refl _ _).drew)
    have HO := hid (HStore_any S1 _ vT s hd xx PD.out.t HDU.out HX.out)
    rw [HPT.out] at HO
    go_upto_region 38 with fail
    refine C.wp_region_mix [0, 0, 0, 1, 0, 0, 1, 3, 0] (fun W => W.cell? ⟨pp, 0, none⟩ = some (.pointer (some ⟨pt, 0, none⟩)) ∧ W.cell? ⟨wb, 3, none⟩ = some (.int .i64 xx)) (by kernel_rfl) (by kernel_rfl) ⟨d0, hb3⟩ ?_
    repeat (first
      | (refine' C.wpMix_value _ rfl rfl _ _; rotate_left; (solve | (intro W; go_simp) | (intro W; go_simp; with_reducible rfl)); simp only [Act.put, List.setIfInBounds_toArray, List.set_cons_zero, List.set_cons_succ])
      | (refine' C.wpMix_read _ rfl rfl _ _; rotate_left; (solve | (rintro W ⟨h1, h2⟩; go_simp) | (rintro W ⟨h1, h2⟩; go_simp; with_reducible rfl)); simp only [Act.put, List.setIfInBounds_toArray, List.set_cons_zero, List.set_cons_succ]))
    refine C.wpMix_call 32 #[.pointer (some ⟨pt, 0, none⟩), .int .u64 hd, .int .i64 xx] (by decide) rfl (by go_simp) ?_
    refine HO.out.mono ?_
    rintro e w3 ⟨hf3, s3, er, rfl, hst, hR3⟩
    refine ⟨_, rfl, (fun h => by cases h), ?_⟩
    simp only [Act.put, List.setIfInBounds_toArray, List.set_cons_zero, List.set_cons_succ]
    rw [← HPT.out] at hR3
    have hP3 := PD.out.tab hf3 hR3
    have e3 : w3.cell? ⟨wb, 3, none⟩ = some (.int .i64 xx) := (World.cell?_of_block (hf3.block wb hwl (fun e => HWS.out.1.1 e))).trans hb3
    have e1 := hP3.c1
    rw [HPX.out] at e1
    have HP3 := hid hP3
    have HF := hid (RfFind_any S2 w3 vX s hd hP3.x)
    rw [HPX.out] at HF
    have HST := hid hst
    have HM3 := hid (hst.most HM.out)
    clear hf3 hR3 hP3 hst HO PD d0 d1 hb0 hb1 hb2 hb3 hwl
    repeat (first
      | (refine' C.wpMix_value _ rfl rfl _ _; rotate_left; (solve | (intro W; go_simp) | (intro W; go_simp; with_reducible rfl)); simp only [Act.put, List.setIfInBounds_toArray, List.set_cons_zero, List.set_cons_succ])
      | (refine' C.wpMix_read _ rfl rfl _ _; rotate_left; (solve | (rintro W ⟨h1, h2⟩; go_simp) | (rintro W ⟨h1, h2⟩; go_simp; with_reducible rfl)); simp only [Act.put, List.setIfInBounds_toArray, List.set_cons_zero, List.set_cons_succ]))
    refine C.wpMix_end ?_
    go_wp2_with fail
    refine HF.out.mono ?_
    rintro e w4 ⟨rfl, ⟨hno, rfl⟩ | ⟨o, b, sv, iv, hfo, rfl, hSb, hblk, _, hset⟩⟩
    · have hx : s3 = s ∧ er = 2 := by
        have hst := HST.out
        cases hst with
        | stale => exact ⟨rfl, rfl⟩
        | ok o ho => rw [hno] at ho; cases ho
      obtain ⟨rfl, rfl⟩ := hx
      clear hno HF HST e1 e3
      go_wp2
      go_ret
      exact ⟨rfl, _, _, _, _, _, HP3.out, by have := HGL.out; omega, HM3.out⟩
    · have hx : s3 = { s with L := setv s.L hd xx } ∧ er = 0 := by
        have hst := HST.out
        cases hst with
        | stale hf => rw [hf] at hfo; cases hfo
        | ok => exact ⟨rfl, rfl⟩
      obtain ⟨rfl, rfl⟩ := hx
      have c3 : w3.cell? ⟨b, 3, none⟩ = some (.int .i64 o.value) := by rw [cell_of_row w3 b 3 _ _ _ hblk]; rfl
      have z3 : w3.frozen? ⟨b, 3, none⟩ = false := frozen_of_row w3 b 3 _ _ hblk
      have hf4 : Fr S2 w3 (w3.setCell ⟨b, 3, none⟩ (.int .i64 xx)) := (Fr.refl _ _).setCell _ _ (fun _ => hSb)
      have hR4 := hset xx HX.out
      rw [← HPX.out] at hR4
      have HP4 := hid (HP3.out.twin0 hf4 hR4)
      clear hfo hSb hblk hset HF HST e1 hf4 hR4 HP3
      go_wp2
      go_ret
      exact ⟨rfl, _, _, _, _, _, HP4.out, by have := HGL.out; omega, HM3.out⟩
end Go.Proofs.Ytmkajdfajcodjaa

namespace Go.Proofs.Ytmkajdfajcodjaa
open Go Go.ChangeShapes Go.WideShapes Go.ChangeAt Go.RowKit Go.Maps

theorem HsDo_any (w0 w : World) (pp m : Nat) (vT vX gv : Value) (S1 S2 : Nat → Prop) (s : Hs) (G : List Int) (x : HAct) (h : HsP w0 pp vT vX S1 S2 s s G gv w) (hx : HActOk x) (hm : m ≤ 300) (hg : G.length ≤ m) {km : Nat} (hk : s.A.most = km) :
    Calls Try.prog 14 #[.pointer (some ⟨pp, 0, none⟩), .agg (acc x).toArray] w (HDoPost w0 pp vT vX (m + 1) km) := by
  have h0 := Int.emod_nonneg x.kind (show (11 : Int) ≠ 0 by omega)
  have h1 := Int.emod_lt_of_pos x.kind (show (0 : Int) < 11 by omega)
  rcases (show (x.kind % 11 = 0 ∨ x.kind % 11 = 1) ∨ x.kind % 11 = 2 ∨ (x.kind % 11 = 3 ∨ x.kind % 11 = 4) ∨ (x.kind % 11 = 5 ∨ x.kind % 11 = 6) ∨ (x.kind % 11 = 7 ∨ x.kind % 11 = 8) ∨ x.kind % 11 = 9 ∨ x.kind % 11 = 10 by omega) with q | q | q | q | q | q | q
  · exact HsDo_Make w0 w pp m vT vX gv S1 S2 s G x h hx hm hg hk q
  · exact HsDo_MakeIn w0 w pp m vT vX gv S1 S2 s G x h hx hm hg hk q
  · exact HsDo_Up w0 w pp m vT vX gv S1 S2 s G x h hx hm hg hk q
  · exact HsDo_Down w0 w pp m vT vX gv S1 S2 s G x h hx hm hg hk q
  · exact HsDo_Put w0 w pp m vT vX gv S1 S2 s G x h hx hm hg hk q
  · exact HsDo_Remove w0 w pp m vT vX gv S1 S2 s G x h hx hm hg hk q
  · exact HsDo_Store w0 w pp m vT vX gv S1 S2 s G x h hx hm hg hk q
/-- Between two acts. -/
def HsPI (w0 : World) (pp : Nat) (vT vX : Value) (i k : Nat) (w : World) : Prop := ∃ S1 S2 s G gv, HsP w0 pp vT vX S1 S2 s s G gv w ∧ G.length ≤ i ∧ s.A.most = k
theorem HsPI.no {w0 w w' : World} {pp i k : Nat} {vT vX : Value} (h : HsPI w0 pp vT vX i k w) (hf : Fr (fun _ => False) w w') : HsPI w0 pp vT vX i k w' := by
  obtain ⟨S1, S2, s, G, gv, h1, h2⟩ := h
  exact ⟨S1, S2, s, G, gv, h1.no hf, h2⟩
theorem HsPI.below {w0 w : World} {pp i k : Nat} {vT vX : Value} (h : HsPI w0 pp vT vX i k w) : Below w0.heap.size w0 w := by
  obtain ⟨S1, S2, s, G, gv, h1, _⟩ := h
  exact h1.below
theorem HsPI.do {w0 w : World} {pp i k : Nat} {vT vX : Value} (h : HsPI w0 pp vT vX i k w) (hi : i ≤ 300) {x : HAct} (hx : HActOk x) :
    Calls Try.prog 14 #[.pointer (some ⟨pp, 0, none⟩), .agg (acc x).toArray] w fun e w' => e = .returned (.bool true) ∧ HsPI w0 pp vT vX (i + 1) k w' := by
  obtain ⟨S1, S2, s, G, gv, h1, h2, h3⟩ := h
  exact HsDo_any w0 w pp i vT vX gv S1 S2 s G x h1 hx hi h2 h3
/-- A pair is laid. -/
theorem HsPI.begin {w0 w1 w2 w3 : World} {vT vX : Value} {S1 S2 : Nat → Prop} {s : Hs} (hb1 : Below w0.heap.size w0 w1) (hS1 : ∀ b, S1 b → w0.heap.size ≤ b) (h1 : RpH S1 w1 vT s) (hb2 : Below w1.heap.size w1 w2) (hS2 : ∀ b, S2 b → w1.heap.size ≤ b) (h2 : RfH S2 w2 vX s)
    (hw : w3 = w2.alloc (.cells #[vT, vX, .slice none 0 0] 46)) : HsPI w0 w2.heap.size vT vX 0 s.A.most w3 := by
  have hf : Fr (fun _ => False) w2 w3 := by rw [hw]; exact (Fr.refl _ _).alloc _
  refine ⟨S1, S2, s, [], .slice none 0 0, ⟨by rw [hw]; exact heap_alloc_new _ _, (h1.no (Fr.of_below hb2)).no hf, h2.no hf, RowS.nil _ _ _ _ _, fun b h3 h4 => ?_, fun e => ?_, fun e => ?_, hS1, fun b hb => Nat.le_trans hb1.size (hS2 b hb), Nat.le_trans hb1.size hb2.size, (hb1.trans (hb2.mono hb1.size)).trans (hf.below (B := w0.heap.size) (Nat.le_trans hb1.size hb2.size) (fun _ e => e.elim)), by simp⟩, by simp, rfl⟩
  · have := h1.lt b h3; have := hS2 b h4; omega
  · have := h1.lt _ e; have := hb2.size; omega
  · have := h2.lt _ e; omega
theorem allF_allA (A : Ar) : allF 0 A.L = allA A := by
  have key : ∀ (L : List Spot) (k : Nat), allF k L = ((L.zipIdx k).filter (·.1.t)).map fun p => hand p.2 p.1.g := by
    intro L
    induction L with
    | nil => intro k; rfl
    | cons s L ih =>
      intro k
      rw [List.zipIdx_cons]
      unfold allF
      rw [ih (k + 1)]
      cases hs : s.t <;> simp [hs]
  exact key A.L 0
/-- The twin's places are told. -/
theorem RfH.all {S : Nat → Prop} {w : World} {px : Nat} {s : Hs} (h : RfH S w (.pointer (some ⟨px, 0, none⟩)) s) : ∃ pa, px < w.heap.size ∧ w.cell? ⟨px, 1, none⟩ = some (.pointer (some ⟨pa, 0, none⟩)) ∧
    ∀ W, Fr (fun _ => False) w W → Calls Try.prog 21 #[.pointer (some ⟨pa, 0, none⟩)] W fun e w' => Below W.heap.size W w' ∧ ∃ v, e = .returned v ∧ Told TU u64v w' v (allA s.A) := by
  obtain ⟨p, pa, Sa, F, B, lv, e, h1, h3, h4, h5⟩ := h
  cases e
  refine ⟨pa, h1.lt, h1.c1, fun W hf => (RAll_any Sa W pa s.A (h1.no hf).ar).mono ?_⟩
  rintro e w' ⟨v, rfl, h6, h7⟩
  refine ⟨h7, v, rfl, ?_⟩
  rw [allF_allA] at h6
  exact (⟨h6, fun _ _ e => e⟩ : RowS TU u64v (fun _ => False) W.heap.size w' v (allA s.A)).told
theorem HValue_any {S : Nat → Prop} {w : World} {v : Value} {s : Hs} {hd : Int} (h : RpH S w v s) (h0 : Hn hd) : Calls Try.prog 29 #[v, .int .u64 hd] w fun e w' => e = .returned (match fnd s.L hd with | some o => .tuple #[.int .i64 o.value, .int .i64 0] | none => .tuple #[.int .i64 0, .int .i64 2]) ∧ w = w' := by
  obtain ⟨p, pa, Sa, AA, F, B, rfl, h1, h2, h3, h4, h5⟩ := h
  exact Value_fnd h1 h0
theorem HWhole_some {S : Nat → Prop} {w : World} {v : Value} {s : Hs} {hd : Int} {x : Ob} (h : RpH S w v s) (e : whl s.L hd = some x) : Calls Try.prog 30 #[v, .int .u64 hd] w fun e w' => e = .returned (.tuple #[.int .u64 x.h, .int .i64 0]) ∧ w = w' := by
  obtain ⟨p, pa, Sa, AA, F, B, rfl, h1, h2, h3, h4, h5⟩ := h
  exact Whole_some h1 h3.inv e
theorem HWhole_none {S : Nat → Prop} {w : World} {v : Value} {s : Hs} {hd : Int} (h : RpH S w v s) (e : fnd s.L hd = none) (h0 : Hn hd) : Calls Try.prog 30 #[v, .int .u64 hd] w fun e w' => e = .returned (.tuple #[.int .u64 0, .int .i64 2]) ∧ w = w' := by
  obtain ⟨p, pa, Sa, AA, F, B, rfl, h1, h2, h3, h4, h5⟩ := h
  exact Whole_none h1 e h0
theorem HCount_some {S : Nat → Prop} {w : World} {v : Value} {s : Hs} {hd : Int} {x : Ob} (h : RpH S w v s) (e : whl s.L hd = some x) : Calls Try.prog 26 #[v, .int .u64 hd] w fun e w' => e = .returned (.int .u32 x.count) ∧ w = w' := by
  obtain ⟨p, pa, Sa, AA, F, B, rfl, h1, h2, h3, h4, h5⟩ := h
  exact Count_some h1 h3.inv e
theorem HCount_none {S : Nat → Prop} {w : World} {v : Value} {s : Hs} {hd : Int} (h : RpH S w v s) (e : fnd s.L hd = none) (h0 : Hn hd) : Calls Try.prog 26 #[v, .int .u64 hd] w fun e w' => e = .returned (.int .u32 0) ∧ w = w' := by
  obtain ⟨p, pa, Sa, AA, F, B, rfl, h1, h2, h3, h4, h5⟩ := h
  exact Count_none h1 e h0
/-- The twin's Whole. -/
theorem RfWhole_some {S : Nat → Prop} {w : World} {v : Value} {s : Hs} {hd : Int} {x : Ob} (h : RfH S w v s) (e : whl s.L hd = some x) : ∃ b, w.cell? ⟨b, 0, none⟩ = some (.int .u64 x.h) ∧ w.cell? ⟨b, 2, none⟩ = some (.int .u32 x.count) ∧
    Calls Try.prog 44 #[v, .int .u64 hd] w fun e w' => e = .returned (.pointer (some ⟨b, 0, none⟩)) ∧ w = w' := by
  obtain ⟨p, pa, Sa, F, B, lv, rfl, h1, h3, h4, h5⟩ := h
  obtain ⟨sv, iv, hob⟩ := h1.ob x (whl_some h3.inv e).1
  exact ⟨B x.h, hob.c0, hob.c2, RWhole_some h1 (by have := h3.len; omega) h3.inv e⟩
end Go.Proofs.Ytmkajdfajcodjaa
