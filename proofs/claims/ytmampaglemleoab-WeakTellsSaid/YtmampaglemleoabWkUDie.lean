/-
  An act done to a table and to its plain twin: Die.
-/
import Derived.Test.YtmampaglemleoabWkS
import Derived.Test.YtmampaglemleoabMixD
namespace Go.Proofs.Ytmampaglemleoab
open Go Go.ChangeShapes Go.WideShapes Go.ChangeAt Go.RowKit

set_option maxHeartbeats 8000000 in
set_option maxRecDepth 100000 in
theorem WkDo_Die (w0 w : World) (pp m : Nat) (vT vX gv : Value) (S1 S2 : Nat → Prop) (s : Ws) (G : List Int) (x : WAct) (h : WkP w0 pp vT vX S1 S2 s s G gv w) (hx : WActOk x) (hm : m ≤ 300) (hg : G.length ≤ m) (hc : CntLe s.L m) {km : Nat} (hmost : s.A.most = km) (hq : x.kind % 7 = 5) :
    Calls Try.prog 11 #[.pointer (some ⟨pp, 0, none⟩), .agg (wac x).toArray] w (DoPost w0 pp vT vX (m + 1) km) := by
  obtain ⟨xk, xa, xt, xr⟩ := x
  simp only [WActOk] at hx
  simp only at hq
  obtain ⟨hk, ha, ht, hrw⟩ := hx
  obtain ⟨wb, hwb⟩ : ∃ wb, wb = w.heap.size := ⟨_, rfl⟩
  obtain ⟨w1, hw1⟩ : ∃ w1, w1 = w.alloc (.cells (wac ⟨xk, xa, xt, xr⟩).toArray 37) := ⟨_, rfl⟩
  have hbx : w1.heap[wb]? = some (.cells (wac ⟨xk, xa, xt, xr⟩).toArray 37 (0, 0)) := by rw [hw1, hwb]; exact heap_alloc_new _ _
  have HP1 := hid (h.no (w' := w1) (by rw [hw1]; exact (Fr.refl _ _).alloc _))
  have HW1 := hid hw1
  have HWB := hid hwb
  have HC := hid hc
  have HM := hid hmost
  have hb0 : w1.cell? ⟨wb, 0, none⟩ = some (.int .i64 xk) := by rw [cell_of_row w1 wb 0 _ _ _ hbx]; rfl
  have hb1 : w1.cell? ⟨wb, 1, none⟩ = some (.int .i64 xa) := by rw [cell_of_row w1 wb 1 _ _ _ hbx]; rfl
  have hb2 : w1.cell? ⟨wb, 2, none⟩ = some (.int .u64 xt) := by rw [cell_of_row w1 wb 2 _ _ _ hbx]; rfl
  have hb3 : w1.cell? ⟨wb, 3, none⟩ = some (.int .u64 xr) := by rw [cell_of_row w1 wb 3 _ _ _ hbx]; rfl
  have hwl : wb < w1.heap.size := (Array.getElem?_eq_some_iff.1 hbx).1
  have hwS : (¬ S1 wb ∧ ¬ S2 wb) ∧ wb ≠ pp ∧ gv.ownBlock ≠ some wb := ⟨⟨fun e => by have := h.t.lt wb e; omega, fun e => by have := h.x.lt wb e; omega⟩, fun e => by have := h.lt; omega, fun e => by have := (h.g.own.lt wb e).2; omega⟩
  have HWS := hid hwS
  obtain ⟨ga, gk, hgv, hgk1, hgk2, hgf⟩ := h.g.form
  subst hgv
  have c2 := HP1.out.c2
  have main : (∃ hd, U64 hd ∧ ¬ xr = 0 ∧ hd = xr) ∨ (∃ hd, U64 hd ∧ xr = 0 ∧ G.length = 0 ∧ hd = 0) ∨ (∃ hd j g, U64 hd ∧ xr = 0 ∧ 0 < G.length ∧ ga = some ⟨g, 0, none⟩ ∧ xa % (G.length : Int) = ((j : Nat) : Int) ∧ j < G.length ∧ w1.cell? ⟨g, j, none⟩ = some (.int .u64 hd)) := by
    by_cases h0 : xr = 0
    · by_cases hl : 0 < G.length
      · right; right
        obtain ⟨j, hj⟩ : ∃ j : Nat, xa % (G.length : Int) = j := ⟨(xa % (G.length : Int)).toNat, by have := Int.emod_nonneg xa (show (G.length : Int) ≠ 0 by omega); omega⟩
        have hjl : j < G.length := by have := Int.emod_lt_of_pos xa (show (0 : Int) < G.length by omega); omega
        obtain ⟨g, hgg, _⟩ := hgf hl
        subst hgg
        exact ⟨G[j], j, g, h.gu _ (List.getElem_mem hjl), h0, hl, rfl, hj, hjl, HP1.out.g.cell rfl (List.getElem?_eq_getElem hjl)⟩
      · right; left
        exact ⟨0, by unfold U64; omega, h0, by omega, rfl⟩
    · left; exact ⟨xr, hrw, h0, rfl⟩
  clear hwS hgf h hc hw1 hwb hbx hmost
  rcases main with ⟨hd, hdu, m1, m2⟩ | ⟨hd, hdu, m1, m2, m3⟩ | ⟨hd, j, g, hdu, m1, m2, m3, m4, m5, m6⟩
  case' inl =>
    subst m2
    have hne : (hd == 0) = false := by simpa using m1
    go_enter Try.func11, Try.ntmps11
    go_upto_region 1 with fail
    rw [← HW1.out, ← HWB.out]
    go_upto_region 4 with fail
    obtain ⟨w2, hw2⟩ : ∃ w2, w2 = w1 := ⟨_, rfl⟩
    rw [← hw2] at HP1 hb0 hb1 hb2 hb3 hwl ⊢
    clear hw2 hne m1 c2 hb3 HW1 hrw
  case' inr.inl =>
    have he0 : (hd == 0) = true := by simpa using m3
    obtain rfl : hd = xr := by omega
    have hl0 : decide (0 < G.length) = false := by simp [m2]
    clear m1 m2 m3
    go_enter Try.func11, Try.ntmps11
    go_upto_region 1 with fail
    rw [← HW1.out, ← HWB.out]
    go_upto_region 4 with fail
    obtain ⟨w2, hw2⟩ : ∃ w2, w2 = w1 := ⟨_, rfl⟩
    rw [← hw2] at HP1 hb0 hb1 hb2 hb3 hwl ⊢
    clear hw2 hl0 he0 c2 hb3 HW1 hrw
  case' inr.inr =>
    subst m1
    subst m3
    have hl0 : decide (0 < G.length) = true := by simpa using m2
    have hpk := Pick_any xa G.length w1.drew ha (by omega) (by omega)
    rw [m4] at hpk
    have HPK := hid hpk
    clear m4 hpk
    go_enter Try.func11, Try.ntmps11
    go_upto_region 1 with fail
    rw [← HW1.out, ← HWB.out]
    go_upto_region 3 with fail
    refine C.wp_region_mix [0, 0, 0, 1, 0, 1, 0, 0, 0, 1, 0, 2, 0, 1, 0] (fun W => W.cell? ⟨pp, 2, none⟩ = some (.slice (some ⟨g, 0, none⟩) G.length gk) ∧ W.cell? ⟨wb, 1, none⟩ = some (.int .i64 xa) ∧ W.cell? ⟨g, j, none⟩ = some (.int .u64 hd)) (by kernel_rfl) (by kernel_rfl) ⟨c2, hb1, m6⟩ ?_
    repeat (first
      | (refine' C.wpMix_value _ rfl rfl _ _; rotate_left; (solve | (intro W; go_simp) | (intro W; go_simp; with_reducible rfl)); simp only [Act.put, List.setIfInBounds_toArray, List.set_cons_zero, List.set_cons_succ])
      | (refine' C.wpMix_read _ rfl rfl _ _; rotate_left; (solve | (rintro W ⟨h1, h2, h3⟩; go_simp) | (rintro W ⟨h1, h2, h3⟩; go_simp; with_reducible rfl)); simp only [Act.put, List.setIfInBounds_toArray, List.set_cons_zero, List.set_cons_succ]))
    refine C.wpMix_call 14 #[.int .i64 xa, .int .i64 G.length] (by decide) rfl ?nrun1 ?ncall1
    case' ncall1 =>
      refine HPK.out.mono ?_
      rintro e w' ⟨rfl, rfl⟩
      refine ⟨_, rfl, fun _ => ⟨c2, hb1, m6⟩, ?_⟩
      simp only [Act.put, List.setIfInBounds_toArray, List.set_cons_zero, List.set_cons_succ]
    case' nrun1 => go_simp
    repeat (first
      | (refine' C.wpMix_value _ rfl rfl _ _; rotate_left; (solve | (intro W; go_simp) | (intro W; go_simp; with_reducible rfl)); simp only [Act.put, List.setIfInBounds_toArray, List.set_cons_zero, List.set_cons_succ])
      | (refine' C.wpMix_read _ rfl rfl _ _; rotate_left; (solve | (rintro W ⟨h1, h2, h3⟩; go_simp) | (rintro W ⟨h1, h2, h3⟩; go_simp; with_reducible rfl)); simp only [Act.put, List.setIfInBounds_toArray, List.set_cons_zero, List.set_cons_succ]))
    refine C.wpMix_end ?_
    go_upto_region 4 with fail
    replace HP1 := hid (HP1.out.no (Fr.refl _ _).drew)
    replace hb0 : w1.drew.cell? ⟨wb, 0, none⟩ = some (.int .i64 xk) := hb0
    replace hb1 : w1.drew.cell? ⟨wb, 1, none⟩ = some (.int .i64 xa) := hb1
    replace hb2 : w1.drew.cell? ⟨wb, 2, none⟩ = some (.int .u64 xt) := hb2
    replace hwl : wb < w1.drew.heap.size := hwl
    obtain ⟨w2, hw2⟩ : ∃ w2, w2 = w1.drew := ⟨_, rfl⟩
    rw [← hw2] at HP1 hb0 hb1 hb2 hwl ⊢
    clear hw2 hl0 c2 hb3 HW1 hrw m2 m5 HPK m6
  all_goals
    obtain ⟨pt, hpt⟩ := HP1.out.t.ptr
    obtain ⟨px, hpx⟩ := HP1.out.x.ptr
    have d0 := HP1.out.c0
    have d1 := HP1.out.c1
    have HAT := hid (HP1.out.x.at hd)
    have HPK7 := hid (Pick_any xk 7 w2 hk (by decide) (by decide))
    rw [hpt] at d0
    rw [hpx] at d1 HAT
    have HPT := hid hpt
    have HPX := hid hpx
    have HDU := hid hdu
    have HT := hid ht
    clear hpt hpx hdu hk ha hb1
    have HNL := hid HP1.out.t.ok.len
    go_wp2_with fail
    refine HAT.out.mono ?_
    rintro e w' ⟨rfl, hwhich⟩
    clear HAT
    have hiv : ∃ iv, e = Ending.returned (.int .i64 iv) := by
      rcases hwhich with ⟨i, b, _, _, h⟩ | ⟨_, h⟩ <;> exact ⟨_, h⟩
    obtain ⟨iv, rfl⟩ := hiv
    clear hwhich
    go_wp2_with fail
    refine HPK7.out.mono ?_
    rintro e w' ⟨rfl, rfl⟩
    clear HPK7
    rw [hq]
    clear hq
    go_upto_region 26 with fail
    have PD := hid (HP1.out.no (Fr.refl _ _).drew)
    have HLV := hid (PD.out.x.live xt)
    rw [HPX.out] at HLV
    refine C.wp_region_mix [0, 0, 0, 1, 0, 1, 3, 0] (fun W => W.cell? ⟨pp, 1, none⟩ = some (.pointer (some ⟨px, 0, none⟩)) ∧ W.cell? ⟨wb, 2, none⟩ = some (.int .u64 xt)) (by kernel_rfl) (by kernel_rfl) ⟨d1, hb2⟩ ?_
    repeat (first
      | (refine' C.wpMix_value _ rfl rfl _ _; rotate_left; (solve | (intro W; go_simp) | (intro W; go_simp; with_reducible rfl)); simp only [Act.put, List.setIfInBounds_toArray, List.set_cons_zero, List.set_cons_succ])
      | (refine' C.wpMix_read _ rfl rfl _ _; rotate_left; (solve | (rintro W ⟨h1, h2⟩; go_simp) | (rintro W ⟨h1, h2⟩; go_simp; with_reducible rfl)); simp only [Act.put, List.setIfInBounds_toArray, List.set_cons_zero, List.set_cons_succ]))
    refine C.wpMix_call 26 #[.pointer (some ⟨px, 0, none⟩), .int .u64 xt] (by decide) rfl (by go_simp) ?_
    refine HLV.out.mono ?_
    rintro e w3 ⟨hw3, hwh⟩
    have d03 : w3.cell? ⟨pp, 0, none⟩ = some (.pointer (some ⟨pt, 0, none⟩)) := by rw [← hw3]; exact d0
    have d13 : w3.cell? ⟨pp, 1, none⟩ = some (.pointer (some ⟨px, 0, none⟩)) := by rw [← hw3]; exact d1
    have hb23 : w3.cell? ⟨wb, 2, none⟩ = some (.int .u64 xt) := by rw [← hw3]; exact hb2
    have hwl3 : wb < w3.heap.size := by rw [← hw3]; exact hwl
    have HP3 := hid (show WkP w0 pp vT vX S1 S2 s s G _ w3 by rw [← hw3]; exact PD.out)
    clear hw3 HLV PD d0 d1 hb0 hb2 HP1 hwl
    rcases hwh with ⟨i, b, hib, hbt, hbd, rfl⟩ | ⟨hno, rfl⟩
    · refine ⟨_, rfl, (fun h => by cases h), ?_⟩
      simp only [Act.put, List.setIfInBounds_toArray, List.set_cons_zero, List.set_cons_succ]
      have hbm := List.mem_of_getElem? hib
      have hil : i < s.L.length := (List.getElem?_eq_some_iff.1 hib).1
      have hiN : i < 65536 := by have := HNL.out; omega
      have hx3 := HP3.out.x
      rw [HPX.out] at hx3
      obtain ⟨gg, nn, kk, k1, k2, k3, k4, k4p, _, _, _, k8, _, k10⟩ := hx3.thing hib
      have hlv : lv s.L xt = some b := by rw [← hbt]; exact HP3.out.t.ok.lv_mem hbm hbd
      have hde : dieL s.L xt = kill s.L b.h := by unfold dieL; rw [hlv]
      have HDE := hid hde
      have HLV := hid hlv
      have hf4 : Fr S2 w3 (w3.setCell ⟨gg, i * 4 + 2, none⟩ (.bool true)) := (Fr.refl _ _).setCell _ _ (fun _ => k4)
      rw [← HPX.out] at k10
      have z2 := k8 (i * 4 + 2)
      have hgp : gg ≠ pp := fun e => HP3.out.dp2 (e ▸ k4)
      have hpg : pp ≠ gg := Ne.symm hgp
      have hpxg : px ≠ gg := Ne.symm k4p
      have hgw : gg ≠ wb := fun e => HWS.out.1.2 (e ▸ k4)
      have hwg : wb ≠ gg := Ne.symm hgw
      have hge : decide ((0 : Int) ≤ (i : Int)) = true := by simp
      obtain ⟨w4, hw4⟩ : ∃ w4, w4 = w3.setCell ⟨gg, i * 4 + 2, none⟩ (.bool true) := ⟨_, rfl⟩
      have HW4 := hid hw4
      have HP4 := hid (HP3.out.twin0 hf4 k10)
      rw [← hw4] at HP4
      clear hib hbt hbd hbm hil hx3 hf4 k10 k8 k4 hlv hde hw4 HP3
      repeat (first
        | (refine' C.wpMix_value _ rfl rfl _ _; rotate_left; (solve | (intro W; go_simp) | (intro W; go_simp; with_reducible rfl)); simp only [Act.put, List.setIfInBounds_toArray, List.set_cons_zero, List.set_cons_succ])
        | (refine' C.wpMix_read _ rfl rfl _ _; rotate_left; (solve | (rintro W ⟨h1, h2⟩; go_simp) | (rintro W ⟨h1, h2⟩; go_simp; with_reducible rfl)); simp only [Act.put, List.setIfInBounds_toArray, List.set_cons_zero, List.set_cons_succ]))
      refine C.wpMix_end ?_
      go_upto_region 29 with fail
      rw [← HW4.out]
      have f0 : w4.cell? ⟨pp, 0, none⟩ = some (.pointer (some ⟨pt, 0, none⟩)) := by rw [HP4.out.c0, HPT.out]
      have f2 : w4.cell? ⟨wb, 2, none⟩ = some (.int .u64 xt) := by rw [HW4.out]; exact (World.cell?_of_block (Below.heap_setCell _ _ _ _ hwg)).trans hb23
      have PD4 := hid (HP4.out.no (Fr.refl _ _).drew)
      have HO := hid (PD4.out.t.die HT.out)
      rw [HPT.out, HLV.out, HDE.out] at HO
      clear d03 d13 hb23 k1 HW4 HP4
      refine C.wp_region_mix [0, 0, 0, 1, 0, 1, 3, 0, 0, 0, 0] (fun W => W.cell? ⟨pp, 0, none⟩ = some (.pointer (some ⟨pt, 0, none⟩)) ∧ W.cell? ⟨wb, 2, none⟩ = some (.int .u64 xt)) (by kernel_rfl) (by kernel_rfl) ⟨f0, f2⟩ ?_
      repeat (first
        | (refine' C.wpMix_value _ rfl rfl _ _; rotate_left; (solve | (intro W; go_simp) | (intro W; go_simp; with_reducible rfl)); simp only [Act.put, List.setIfInBounds_toArray, List.set_cons_zero, List.set_cons_succ])
        | (refine' C.wpMix_read _ rfl rfl _ _; rotate_left; (solve | (rintro W ⟨h1, h2⟩; go_simp) | (rintro W ⟨h1, h2⟩; go_simp; with_reducible rfl)); simp only [Act.put, List.setIfInBounds_toArray, List.set_cons_zero, List.set_cons_succ]))
      refine C.wpMix_call 18 #[.pointer (some ⟨pt, 0, none⟩), .int .u64 xt] (by decide) rfl (by go_simp) ?_
      refine HO.out.mono ?_
      rintro e w5 ⟨rfl, hf5, hR5⟩
      refine ⟨_, rfl, (fun h => by cases h), ?_⟩
      simp only [Option.isSome_some]
      simp only [Act.put, List.setIfInBounds_toArray, List.set_cons_zero, List.set_cons_succ]
      rw [← HPT.out] at hR5
      have HP5 := hid (PD4.out.tab hf5 hR5)
      have HC5 := hid (HC.out.die (t := xt))
      rw [HDE.out] at HC5
      clear hf5 hR5 PD4 HO f0 f2
      repeat (first
        | (refine' C.wpMix_value _ rfl rfl _ _; rotate_left; (solve | (intro W; go_simp) | (intro W; go_simp; with_reducible rfl)); simp only [Act.put, List.setIfInBounds_toArray, List.set_cons_zero, List.set_cons_succ])
        | (refine' C.wpMix_read _ rfl rfl _ _; rotate_left; (solve | (rintro W ⟨h1, h2⟩; go_simp) | (rintro W ⟨h1, h2⟩; go_simp; with_reducible rfl)); simp only [Act.put, List.setIfInBounds_toArray, List.set_cons_zero, List.set_cons_succ]))
      refine C.wpMix_end ?_
      go_wp2
      go_ret
      exact ⟨rfl, _, _, _, _, _, HP5.out, by omega, HC5.out, HM.out⟩
    · refine ⟨_, rfl, (fun h => by cases h), ?_⟩
      simp only [Act.put, List.setIfInBounds_toArray, List.set_cons_zero, List.set_cons_succ]
      have hde : dieL s.L xt = s.L := by unfold dieL; rw [hno]
      have HDE := hid hde
      have HLV := hid hno
      clear hno hde
      repeat (first
        | (refine' C.wpMix_value _ rfl rfl _ _; rotate_left; (solve | (intro W; go_simp) | (intro W; go_simp; with_reducible rfl)); simp only [Act.put, List.setIfInBounds_toArray, List.set_cons_zero, List.set_cons_succ])
        | (refine' C.wpMix_read _ rfl rfl _ _; rotate_left; (solve | (rintro W ⟨h1, h2⟩; go_simp) | (rintro W ⟨h1, h2⟩; go_simp; with_reducible rfl)); simp only [Act.put, List.setIfInBounds_toArray, List.set_cons_zero, List.set_cons_succ]))
      refine C.wpMix_end ?_
      go_upto_region 29 with fail
      have PD4 := hid (HP3.out.no (Fr.refl _ _).drew)
      have HO := hid (PD4.out.t.die HT.out)
      rw [HPT.out, HLV.out, HDE.out] at HO
      clear HP3
      refine C.wp_region_mix [0, 0, 0, 1, 0, 1, 3, 0, 0, 0, 0] (fun W => W.cell? ⟨pp, 0, none⟩ = some (.pointer (some ⟨pt, 0, none⟩)) ∧ W.cell? ⟨wb, 2, none⟩ = some (.int .u64 xt)) (by kernel_rfl) (by kernel_rfl) ⟨d03, hb23⟩ ?_
      repeat (first
        | (refine' C.wpMix_value _ rfl rfl _ _; rotate_left; (solve | (intro W; go_simp) | (intro W; go_simp; with_reducible rfl)); simp only [Act.put, List.setIfInBounds_toArray, List.set_cons_zero, List.set_cons_succ])
        | (refine' C.wpMix_read _ rfl rfl _ _; rotate_left; (solve | (rintro W ⟨h1, h2⟩; go_simp) | (rintro W ⟨h1, h2⟩; go_simp; with_reducible rfl)); simp only [Act.put, List.setIfInBounds_toArray, List.set_cons_zero, List.set_cons_succ]))
      refine C.wpMix_call 18 #[.pointer (some ⟨pt, 0, none⟩), .int .u64 xt] (by decide) rfl (by go_simp) ?_
      refine HO.out.mono ?_
      rintro e w5 ⟨rfl, hf5, hR5⟩
      refine ⟨_, rfl, (fun h => by cases h), ?_⟩
      simp only [Option.isSome_none]
      simp only [Act.put, List.setIfInBounds_toArray, List.set_cons_zero, List.set_cons_succ]
      rw [← HPT.out] at hR5
      have HP5 := hid (PD4.out.tab hf5 hR5)
      have HC5 := hid (HC.out.die (t := xt))
      rw [HDE.out] at HC5
      clear hf5 hR5 PD4 HO d03 d13 hb23
      repeat (first
        | (refine' C.wpMix_value _ rfl rfl _ _; rotate_left; (solve | (intro W; go_simp) | (intro W; go_simp; with_reducible rfl)); simp only [Act.put, List.setIfInBounds_toArray, List.set_cons_zero, List.set_cons_succ])
        | (refine' C.wpMix_read _ rfl rfl _ _; rotate_left; (solve | (rintro W ⟨h1, h2⟩; go_simp) | (rintro W ⟨h1, h2⟩; go_simp; with_reducible rfl)); simp only [Act.put, List.setIfInBounds_toArray, List.set_cons_zero, List.set_cons_succ]))
      refine C.wpMix_end ?_
      go_wp2
      go_ret
      exact ⟨rfl, _, _, _, _, _, HP5.out, by omega, HC5.out, HM.out⟩
end Go.Proofs.Ytmampaglemleoab
