/-
  An act done to a heap and to its plain twin: Remove. (Written by wip/tools/genhsdo.py.)
-/
import Derived.Test.YtmkajdfajcodjaaHsH
namespace Go.Proofs.Ytmkajdfajcodjaa
open Go Go.ChangeShapes Go.WideShapes Go.ChangeAt Go.RowKit Go.Maps

set_option maxHeartbeats 8000000 in
set_option maxRecDepth 100000 in
theorem HsDo_Remove (w0 w : World) (pp m : Nat) (vT vX gv : Value) (S1 S2 : Nat → Prop) (s : Hs) (G : List Int) (x : HAct) (h : HsP w0 pp vT vX S1 S2 s s G gv w) (hx : HActOk x) (hm : m ≤ 300) (hg : G.length ≤ m) {km : Nat} (hmost : s.A.most = km) (hq : x.kind % 11 = 9) :
    Calls Try.prog 14 #[.pointer (some ⟨pp, 0, none⟩), .agg (acc x).toArray] w (HDoPost w0 pp vT vX (m + 1) km) := by
  obtain ⟨xk, xa, xh, xx, xr⟩ := x
  simp only [HActOk] at hx
  simp only at hq
  have HOKX := hid (show HActOk ⟨xk, xa, xh, xx, xr⟩ from hx)
  obtain ⟨hk, ha, hh, hxx, hr⟩ := hx
  obtain ⟨wb, hwb⟩ : ∃ wb, wb = w.heap.size := ⟨_, rfl⟩
  obtain ⟨w1, hw1⟩ : ∃ w1, w1 = w.alloc (.cells (acc ⟨xk, xa, xh, xx, xr⟩).toArray 36) := ⟨_, rfl⟩
  have hbx : InA w1 wb ⟨xk, xa, xh, xx, xr⟩ := by unfold InA; rw [hw1, hwb]; exact heap_alloc_new _ _
  have HP1 := hid (h.no (w' := w1) (by rw [hw1]; exact (Fr.refl _ _).alloc _))
  have HW1 := hid hw1
  have HWB := hid hwb
  have hb0 := hbx.c0
  have hb1 := hbx.c1
  have hb2 := hbx.c2
  have hb3 := hbx.c3
  have hb4 := hbx.c4
  have hwS : (¬ S1 wb ∧ ¬ S2 wb) ∧ wb ≠ pp ∧ gv.ownBlock ≠ some wb := ⟨⟨fun e => by have := h.t.lt wb e; omega, fun e => by have := h.x.lt wb e; omega⟩, fun e => by have := h.lt; omega, fun e => by have := (h.g.own.lt wb e).2; omega⟩
  have HWS := hid hwS
  have HGL := hid hg
  have HM := hid hmost
  have HML := hid hm
  have HGV := hid (given_any HP1.out (by omega) hh)
  have HBX := hid hbx
  have HA := hid ha
  have HX := hid hxx
  have HKK := hid hk
  clear hwS h hw1 hwb hg hm hmost hbx hh ha hxx hk
  simp only at hb0 hb1 hb2 hb3 hb4 HGV HA HX HKK hr
  by_cases hr0 : xr = 0
  case' neg =>
    have hne : (xr == 0) = false := by simpa using hr0
    obtain ⟨hd, hhd⟩ : ∃ hd, hd = xr := ⟨_, rfl⟩
    have HDU := hid (show Hn hd by rw [hhd]; exact hr)
    clear HGV hr hr0
    go_enter Try.func14, Try.ntmps14
    go_upto_region 1 with fail
    rw [← HW1.out, ← HWB.out]
    go_upto_region 4 with fail
    rw [← hhd]
    obtain ⟨w2, hw2⟩ : ∃ w2, w2 = w1 := ⟨_, rfl⟩
    rw [← hw2] at HP1 hb0 hb1 hb2 hb3 HBX ⊢
    clear hw2 hne hb4 HW1 HWB hhd
  case' pos =>
    have hne : (xr == 0) = true := by simpa using hr0
    clear hr hr0
    go_enter Try.func14, Try.ntmps14
    go_upto_region 1 with fail
    rw [← HW1.out, ← HWB.out]
    go_wp2_with fail
    refine HGV.out.mono ?_
    rintro e w2 ⟨hd, hdu, rfl, hf2⟩
    have HDU := hid hdu
    replace HP1 := hid (HP1.out.no hf2)
    replace HBX : RowKit.Hid (InA w2 wb ⟨xk, xa, xh, xx, xr⟩) := hid ((hf2.block wb (Array.getElem?_eq_some_iff.1 HBX.out).1 (fun e => e)).trans HBX.out)
    replace hb0 := HBX.out.c0
    replace hb1 := HBX.out.c1
    replace hb2 := HBX.out.c2
    replace hb3 := HBX.out.c3
    simp only at hb0 hb1 hb2 hb3
    clear hdu hf2 hne hb4 HW1 HWB HGV
  all_goals
    obtain ⟨pt, hpt⟩ := HP1.out.t.ptr
    obtain ⟨px, hpx⟩ := HP1.out.x.ptr
    have d0 := HP1.out.c0
    have d1 := HP1.out.c1
    have HPK := hid (Pick_any xk 11 w2 HKK.out (by decide) (by decide))
    rw [hpt] at d0
    rw [hpx] at d1
    have HPT := hid hpt
    have HPX := hid hpx
    clear hpt hpx
    go_wp2_with fail
    refine HPK.out.mono ?_
    rintro e w' ⟨rfl, rfl⟩
    clear HPK
    rw [hq]
    clear hq
    have PD := hid (HP1.out.no (Fr.refl _ _).drew)
    have HG2 := hid (given_any PD.out (by have := HGL.out; have := HML.out; omega) HX.out)
    have hwl : wb < w2.drew.heap.size := (Array.getElem?_eq_some_iff.1 HBX.out).1
    have HWL := hid hwl
    clear hwl
    have h2 : xa % 2 = 0 ∨ xa % 2 = 1 := by omega
    rcases h2 with h2 | h2
    · have hA2 : bits .and .i64 xa 1 = 0 := by rw [and_one_i64]; exact h2
      clear h2
      go_upto_region 34 with fail
      refine D.wp_region_mix [0, 0, 0, 1, 2, 2, 0, 1, 0, 0, 0, 0] (fun W => W.cell? ⟨wb, 3, none⟩ = some (.int .i64 xx) ∧ W.cell? ⟨wb, 1, none⟩ = some (.int .i64 xa)) (by kernel_rfl) (by kernel_rfl) ⟨hb3, hb1⟩ ?_
      repeat (first
        | (refine' C.wpMix_value _ rfl rfl _ _; rotate_left; (solve | (intro W; go_simp) | (intro W; go_simp; with_reducible rfl)); simp only [Act.put, List.setIfInBounds_toArray, List.set_cons_zero, List.set_cons_succ])
        | (refine' C.wpMix_read _ rfl rfl _ _; rotate_left; (solve | (rintro W ⟨h1, h2⟩; go_simp) | (rintro W ⟨h1, h2⟩; go_simp; with_reducible rfl)); simp only [Act.put, List.setIfInBounds_toArray, List.set_cons_zero, List.set_cons_succ]))
      refine C.wpMix_call 36 #[.pointer (some ⟨pp, 0, none⟩), .int .i64 xx] (by decide) rfl (by go_simp) ?_
      refine HG2.out.mono ?_
      rintro e w8 ⟨hd2, hdu2, rfl, hf8⟩
      have hb8 : w8.cell? ⟨wb, 3, none⟩ = some (.int .i64 xx) ∧ w8.cell? ⟨wb, 1, none⟩ = some (.int .i64 xa) :=
        ⟨(World.cell?_of_block (hf8.block wb HWL.out (fun e => e))).trans hb3, (World.cell?_of_block (hf8.block wb HWL.out (fun e => e))).trans hb1⟩
      refine ⟨_, rfl, fun _ => hb8, ?_⟩
      simp only [Act.put, List.setIfInBounds_toArray, List.set_cons_zero, List.set_cons_succ]
      have PD8 := hid (PD.out.no hf8)
      obtain ⟨w9, hw9⟩ : ∃ w9, w9 = w8.alloc (.cells #[.int .u64 hd, .int .u64 hd2] TU) := ⟨_, rfl⟩
      have hf9 : Fr (fun _ => False) w8 w9 := by rw [hw9]; exact (Fr.refl _ _).alloc _
      have hwl8 : wb < w8.heap.size := Nat.lt_of_lt_of_le HWL.out hf8.size
      have hb9 : w9.cell? ⟨wb, 3, none⟩ = some (.int .i64 xx) ∧ w9.cell? ⟨wb, 1, none⟩ = some (.int .i64 xa) :=
        ⟨(World.cell?_of_block (hf9.block wb hwl8 (fun e => e))).trans hb8.1, (World.cell?_of_block (hf9.block wb hwl8 (fun e => e))).trans hb8.2⟩
      refine C.wpMix_write (.slice (some ⟨w8.heap.size, 0, none⟩) 2 2) w9 (by decide) rfl (by rw [hw9]; go_simp) (fun _ => hb9) ?_
      simp only [Act.put, List.setIfInBounds_toArray, List.set_cons_zero, List.set_cons_succ]
      have hbl : w9.heap[w8.heap.size]? = some (.cells #[.int .u64 hd, .int .u64 hd2] TU (0, 0)) := by rw [hw9]; exact heap_alloc_new _ _
      obtain ⟨lb, hlb⟩ : ∃ lb, lb = w8.heap.size := ⟨_, rfl⟩
      rw [← hlb] at hbl ⊢
      have hS1 : ¬ S1 lb := fun e => by have := PD8.out.t.lt lb e; omega
      have hS2 : ¬ S2 lb := fun e => by have := PD8.out.x.lt lb e; omega
      have hat : AtL w9 lb 0 (([hd] : List Int).map u64v) := atl_row hbl ⟨[.int .u64 hd2], rfl⟩
      have hlt : lb < w9.heap.size := (Array.getElem?_eq_some_iff.1 hbl).1
      have hxs : ∀ y ∈ ([hd] : List Int), Hn y := by
        intro y hy
        simp at hy
        subst hy; exact HDU.out
      replace HP1 := hid (PD8.out.no hf9)
      have HO := hid (HRemove_any S1 _ vT s [hd] (c := 2) HP1.out.t hat hlt hS1 (by simp) (by simp) hxs)
      have HAT := hid hat
      have HLT := hid hlt
      have HS1 := hid hS1
      have HS2 := hid hS2
      have HXS := hid hxs
      have f0 := HP1.out.c0
      have f1 := HP1.out.c1
      rw [HPT.out] at f0 HO
      rw [HPX.out] at f1
      clear hb8 hb9 hf8 hf9 hwl8 hw9 hbl hlb hS1 hS2 hat hlt hxs PD PD8 HG2 hdu2 HWL hb0 hb1 hb2 hb3 d0 d1
      repeat (first
        | (refine' C.wpMix_value _ rfl rfl _ _; rotate_left; (solve | (intro W; go_simp) | (intro W; go_simp; with_reducible rfl)); simp only [Act.put, List.setIfInBounds_toArray, List.set_cons_zero, List.set_cons_succ])
        | (refine' C.wpMix_read _ rfl rfl _ _; rotate_left; (solve | (rintro W ⟨h1, h2⟩; go_simp) | (rintro W ⟨h1, h2⟩; go_simp; with_reducible rfl)); simp only [Act.put, List.setIfInBounds_toArray, List.set_cons_zero, List.set_cons_succ]))
      refine C.wpMix_value (.slice (some ⟨lb, 0, none⟩) 1 2) rfl rfl (fun W => exec_upto rfl rfl rfl (by omega)) ?_
      simp only [Act.put, List.setIfInBounds_toArray, List.set_cons_zero, List.set_cons_succ]
      repeat (first
        | (refine' C.wpMix_value _ rfl rfl _ _; rotate_left; (solve | (intro W; go_simp) | (intro W; go_simp; with_reducible rfl)); simp only [Act.put, List.setIfInBounds_toArray, List.set_cons_zero, List.set_cons_succ])
        | (refine' C.wpMix_read _ rfl rfl _ _; rotate_left; (solve | (rintro W ⟨h1, h2⟩; go_simp) | (rintro W ⟨h1, h2⟩; go_simp; with_reducible rfl)); simp only [Act.put, List.setIfInBounds_toArray, List.set_cons_zero, List.set_cons_succ]))
      refine C.wpMix_end ?_
      go_wp2_with fail
      simp only [List.length_cons, List.length_nil, Nat.zero_add] at HO
      refine HO.out.mono ?_
      rintro e w3 ⟨hf3, s3, g3, f3, er, vg, vf, rfl, t1, t2, hdn, hR3, o1, o2⟩
      rw [← HPT.out] at hR3
      have hP3 := HP1.out.tab hf3 hR3
      have e1 := hP3.c1
      rw [HPX.out] at e1
      have HP3 := hid hP3
      have HX := hid (RRemove_any S2 w3 vX s [hd] (c := 2) hP3.x (atl_fr HAT.out HLT.out hf3 HS1.out) (Nat.lt_of_lt_of_le HLT.out hf3.size) HS2.out (by simp) (by simp) (by simp) HXS.out)
      rw [HPX.out] at HX
      simp only [List.length_cons, List.length_nil, Nat.zero_add] at HX
      have n1 : ∀ k, vg.ownBlock = some k → ¬ S2 k := fun k hk => hP3.d12 k (o1 k hk)
      have n2 : ∀ k, vf.ownBlock = some k → ¬ S2 k := fun k hk => hP3.d12 k (o2 k hk)
      have HUP := hid hdn
      have HM3 := hid (hdn.most HM.out)
      have T1 := hid t1
      have T2 := hid t2
      have N1 := hid n1
      have N2 := hid n2
      clear hf3 hR3 hP3 hdn t1 t2 o1 o2 n1 n2 HO f0 f1 HAT HLT HS1 HS2 HXS
      go_wp2_with fail
      refine HX.out.mono ?_
      rintro e w4 ⟨hf4, s4, g4, f4, er4, vg4, vf4, rfl, t3, t4, hdn4, hR4⟩
      obtain ⟨rfl, rfl, rfl, rfl⟩ := RmR.same HP1.out.t.hsi HUP.out hdn4
      rw [← HPX.out] at hR4
      have HP4 := hid (HP3.out.twin hf4 hR4)
      have HS1 := hid (SameLongs_told w4 vg vg4 g3 (T1.out.fr hf4 N1.out) t3)
      have T2' := hid (T2.out.fr hf4 N2.out)
      have T4 := hid t4
      clear hf4 hR4 hdn4 t3 t4 HX HP3 HP1 HUP e1 T1 T2
      go_wp2_with fail
      refine HS1.out.mono ?_
      rintro e w5 ⟨rfl, hb5⟩
      have HS2 := hid (SameLongs_told w5 vf vf4 f3 (T2'.out.below hb5) (T4.out.below hb5))
      have HP5 := hid (HP4.out.no (Fr.of_below hb5))
      clear hb5 HS1 T2' T4 HP4
      go_wp2_with fail
      refine HS2.out.mono ?_
      rintro e w6 ⟨rfl, hb6⟩
      have HP6 := hid (HP5.out.no (Fr.of_below hb6))
      clear hb6 HS2 HP5
      go_wp2
      go_ret
      exact ⟨rfl, _, _, _, _, _, HP6.out, by have := HGL.out; omega, HM3.out⟩
    · have hA2 : bits .and .i64 xa 1 = 1 := by rw [and_one_i64]; exact h2
      clear h2
      go_upto_region 34 with fail
      refine D.wp_region_mix [0, 0, 0, 1, 2, 2, 0, 1, 0, 0, 0, 0] (fun W => W.cell? ⟨wb, 3, none⟩ = some (.int .i64 xx) ∧ W.cell? ⟨wb, 1, none⟩ = some (.int .i64 xa)) (by kernel_rfl) (by kernel_rfl) ⟨hb3, hb1⟩ ?_
      repeat (first
        | (refine' C.wpMix_value _ rfl rfl _ _; rotate_left; (solve | (intro W; go_simp) | (intro W; go_simp; with_reducible rfl)); simp only [Act.put, List.setIfInBounds_toArray, List.set_cons_zero, List.set_cons_succ])
        | (refine' C.wpMix_read _ rfl rfl _ _; rotate_left; (solve | (rintro W ⟨h1, h2⟩; go_simp) | (rintro W ⟨h1, h2⟩; go_simp; with_reducible rfl)); simp only [Act.put, List.setIfInBounds_toArray, List.set_cons_zero, List.set_cons_succ]))
      refine C.wpMix_call 36 #[.pointer (some ⟨pp, 0, none⟩), .int .i64 xx] (by decide) rfl (by go_simp) ?_
      refine HG2.out.mono ?_
      rintro e w8 ⟨hd2, hdu2, rfl, hf8⟩
      have hb8 : w8.cell? ⟨wb, 3, none⟩ = some (.int .i64 xx) ∧ w8.cell? ⟨wb, 1, none⟩ = some (.int .i64 xa) :=
        ⟨(World.cell?_of_block (hf8.block wb HWL.out (fun e => e))).trans hb3, (World.cell?_of_block (hf8.block wb HWL.out (fun e => e))).trans hb1⟩
      refine ⟨_, rfl, fun _ => hb8, ?_⟩
      simp only [Act.put, List.setIfInBounds_toArray, List.set_cons_zero, List.set_cons_succ]
      have PD8 := hid (PD.out.no hf8)
      obtain ⟨w9, hw9⟩ : ∃ w9, w9 = w8.alloc (.cells #[.int .u64 hd, .int .u64 hd2] TU) := ⟨_, rfl⟩
      have hf9 : Fr (fun _ => False) w8 w9 := by rw [hw9]; exact (Fr.refl _ _).alloc _
      have hwl8 : wb < w8.heap.size := Nat.lt_of_lt_of_le HWL.out hf8.size
      have hb9 : w9.cell? ⟨wb, 3, none⟩ = some (.int .i64 xx) ∧ w9.cell? ⟨wb, 1, none⟩ = some (.int .i64 xa) :=
        ⟨(World.cell?_of_block (hf9.block wb hwl8 (fun e => e))).trans hb8.1, (World.cell?_of_block (hf9.block wb hwl8 (fun e => e))).trans hb8.2⟩
      refine C.wpMix_write (.slice (some ⟨w8.heap.size, 0, none⟩) 2 2) w9 (by decide) rfl (by rw [hw9]; go_simp) (fun _ => hb9) ?_
      simp only [Act.put, List.setIfInBounds_toArray, List.set_cons_zero, List.set_cons_succ]
      have hbl : w9.heap[w8.heap.size]? = some (.cells #[.int .u64 hd, .int .u64 hd2] TU (0, 0)) := by rw [hw9]; exact heap_alloc_new _ _
      obtain ⟨lb, hlb⟩ : ∃ lb, lb = w8.heap.size := ⟨_, rfl⟩
      rw [← hlb] at hbl ⊢
      have hS1 : ¬ S1 lb := fun e => by have := PD8.out.t.lt lb e; omega
      have hS2 : ¬ S2 lb := fun e => by have := PD8.out.x.lt lb e; omega
      have hat : AtL w9 lb 0 (([hd, hd2] : List Int).map u64v) := atl_row hbl ⟨[], rfl⟩
      have hlt : lb < w9.heap.size := (Array.getElem?_eq_some_iff.1 hbl).1
      have hxs : ∀ y ∈ ([hd, hd2] : List Int), Hn y := by
        intro y hy
        simp at hy
        rcases hy with e | e <;> rw [e] <;> first | exact HDU.out | exact hdu2
      replace HP1 := hid (PD8.out.no hf9)
      have HO := hid (HRemove_any S1 _ vT s [hd, hd2] (c := 2) HP1.out.t hat hlt hS1 (by simp) (by simp) hxs)
      have HAT := hid hat
      have HLT := hid hlt
      have HS1 := hid hS1
      have HS2 := hid hS2
      have HXS := hid hxs
      have f0 := HP1.out.c0
      have f1 := HP1.out.c1
      rw [HPT.out] at f0 HO
      rw [HPX.out] at f1
      clear hb8 hb9 hf8 hf9 hwl8 hw9 hbl hlb hS1 hS2 hat hlt hxs PD PD8 HG2 hdu2 HWL hb0 hb1 hb2 hb3 d0 d1
      repeat (first
        | (refine' C.wpMix_value _ rfl rfl _ _; rotate_left; (solve | (intro W; go_simp) | (intro W; go_simp; with_reducible rfl)); simp only [Act.put, List.setIfInBounds_toArray, List.set_cons_zero, List.set_cons_succ])
        | (refine' C.wpMix_read _ rfl rfl _ _; rotate_left; (solve | (rintro W ⟨h1, h2⟩; go_simp) | (rintro W ⟨h1, h2⟩; go_simp; with_reducible rfl)); simp only [Act.put, List.setIfInBounds_toArray, List.set_cons_zero, List.set_cons_succ]))
      refine C.wpMix_value (.slice (some ⟨lb, 0, none⟩) 2 2) rfl rfl (fun W => exec_upto rfl rfl rfl (by omega)) ?_
      simp only [Act.put, List.setIfInBounds_toArray, List.set_cons_zero, List.set_cons_succ]
      repeat (first
        | (refine' C.wpMix_value _ rfl rfl _ _; rotate_left; (solve | (intro W; go_simp) | (intro W; go_simp; with_reducible rfl)); simp only [Act.put, List.setIfInBounds_toArray, List.set_cons_zero, List.set_cons_succ])
        | (refine' C.wpMix_read _ rfl rfl _ _; rotate_left; (solve | (rintro W ⟨h1, h2⟩; go_simp) | (rintro W ⟨h1, h2⟩; go_simp; with_reducible rfl)); simp only [Act.put, List.setIfInBounds_toArray, List.set_cons_zero, List.set_cons_succ]))
      refine C.wpMix_end ?_
      go_wp2_with fail
      simp only [List.length_cons, List.length_nil, Nat.zero_add] at HO
      refine HO.out.mono ?_
      rintro e w3 ⟨hf3, s3, g3, f3, er, vg, vf, rfl, t1, t2, hdn, hR3, o1, o2⟩
      rw [← HPT.out] at hR3
      have hP3 := HP1.out.tab hf3 hR3
      have e1 := hP3.c1
      rw [HPX.out] at e1
      have HP3 := hid hP3
      have HX := hid (RRemove_any S2 w3 vX s [hd, hd2] (c := 2) hP3.x (atl_fr HAT.out HLT.out hf3 HS1.out) (Nat.lt_of_lt_of_le HLT.out hf3.size) HS2.out (by simp) (by simp) (by simp) HXS.out)
      rw [HPX.out] at HX
      simp only [List.length_cons, List.length_nil, Nat.zero_add] at HX
      have n1 : ∀ k, vg.ownBlock = some k → ¬ S2 k := fun k hk => hP3.d12 k (o1 k hk)
      have n2 : ∀ k, vf.ownBlock = some k → ¬ S2 k := fun k hk => hP3.d12 k (o2 k hk)
      have HUP := hid hdn
      have HM3 := hid (hdn.most HM.out)
      have T1 := hid t1
      have T2 := hid t2
      have N1 := hid n1
      have N2 := hid n2
      clear hf3 hR3 hP3 hdn t1 t2 o1 o2 n1 n2 HO f0 f1 HAT HLT HS1 HS2 HXS
      go_wp2_with fail
      refine HX.out.mono ?_
      rintro e w4 ⟨hf4, s4, g4, f4, er4, vg4, vf4, rfl, t3, t4, hdn4, hR4⟩
      obtain ⟨rfl, rfl, rfl, rfl⟩ := RmR.same HP1.out.t.hsi HUP.out hdn4
      rw [← HPX.out] at hR4
      have HP4 := hid (HP3.out.twin hf4 hR4)
      have HS1 := hid (SameLongs_told w4 vg vg4 g3 (T1.out.fr hf4 N1.out) t3)
      have T2' := hid (T2.out.fr hf4 N2.out)
      have T4 := hid t4
      clear hf4 hR4 hdn4 t3 t4 HX HP3 HP1 HUP e1 T1 T2
      go_wp2_with fail
      refine HS1.out.mono ?_
      rintro e w5 ⟨rfl, hb5⟩
      have HS2 := hid (SameLongs_told w5 vf vf4 f3 (T2'.out.below hb5) (T4.out.below hb5))
      have HP5 := hid (HP4.out.no (Fr.of_below hb5))
      clear hb5 HS1 T2' T4 HP4
      go_wp2_with fail
      refine HS2.out.mono ?_
      rintro e w6 ⟨rfl, hb6⟩
      have HP6 := hid (HP5.out.no (Fr.of_below hb6))
      clear hb6 HS2 HP5
      go_wp2
      go_ret
      exact ⟨rfl, _, _, _, _, _, HP6.out, by have := HGL.out; omega, HM3.out⟩
end Go.Proofs.Ytmkajdfajcodjaa
