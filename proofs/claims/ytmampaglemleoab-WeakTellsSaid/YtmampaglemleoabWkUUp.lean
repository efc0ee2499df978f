/-
  An act done to a table and to its plain twin: Up.
-/
import Derived.Test.YtmampaglemleoabWkS
import Derived.Test.YtmampaglemleoabMixD
namespace Go.Proofs.Ytmampaglemleoab
open Go Go.ChangeShapes Go.WideShapes Go.ChangeAt Go.RowKit

set_option maxHeartbeats 8000000 in
set_option maxRecDepth 100000 in
theorem WkDo_Up (w0 w : World) (pp m : Nat) (vT vX gv : Value) (S1 S2 : Nat → Prop) (s : Ws) (G : List Int) (x : WAct) (h : WkP w0 pp vT vX S1 S2 s s G gv w) (hx : WActOk x) (hm : m ≤ 300) (hg : G.length ≤ m) (hc : CntLe s.L m) {km : Nat} (hmost : s.A.most = km) (hq : x.kind % 7 = 2) :
    Calls Try.prog 11 #[.pointer (some ⟨pp, 0, none⟩), .agg (wac x).toArray] w (DoPost w0 pp vT vX (m + 1) km) := by
  obtain ⟨xk, xa, xt, xr⟩ := x
  simp only [WActOk] at hx
  simp only at hq
  obtain ⟨hk, ha, ht, hrw⟩ := hx
  obtain ⟨wb, hwb⟩ : ∃ wb, wb = w.heap.size := ⟨_, rfl⟩
  obtain ⟨w1, hw1⟩ : ∃ w1, w1 = w.alloc (.cells (wac ⟨xk, xa, xt, xr⟩).toArray 37) := ⟨_, rfl⟩
  have hbx : w1.heap[wb]? = some (.cells (wac ⟨xk, xa, xt, xr⟩).toArray 37 (0, 0)) := by rw [hw1, hwb]; exact heap_alloc_new _ _
  have HP1 := hid (h.no (w' := w1) (by rw [hw1]; exact (Fr.refl _ _).alloc _))
  have HW1 := hid hw1
  have HWB := hid hwb
  have HC := hid hc
  have HM := hid hmost
  have hb0 : w1.cell? ⟨wb, 0, none⟩ = some (.int .i64 xk) := by rw [cell_of_row w1 wb 0 _ _ _ hbx]; rfl
  have hb1 : w1.cell? ⟨wb, 1, none⟩ = some (.int .i64 xa) := by rw [cell_of_row w1 wb 1 _ _ _ hbx]; rfl
  have hb2 : w1.cell? ⟨wb, 2, none⟩ = some (.int .u64 xt) := by rw [cell_of_row w1 wb 2 _ _ _ hbx]; rfl
  have hb3 : w1.cell? ⟨wb, 3, none⟩ = some (.int .u64 xr) := by rw [cell_of_row w1 wb 3 _ _ _ hbx]; rfl
  have hwl : wb < w1.heap.size := (Array.getElem?_eq_some_iff.1 hbx).1
  have hwS : (¬ S1 wb ∧ ¬ S2 wb) ∧ wb ≠ pp ∧ gv.ownBlock ≠ some wb := ⟨⟨fun e => by have := h.t.lt wb e; omega, fun e => by have := h.x.lt wb e; omega⟩, fun e => by have := h.lt; omega, fun e => by have := (h.g.own.lt wb e).2; omega⟩
  have HWS := hid hwS
  obtain ⟨ga, gk, hgv, hgk1, hgk2, hgf⟩ := h.g.form
  subst hgv
  have c2 := HP1.out.c2
  have main : (∃ hd, U64 hd ∧ ¬ xr = 0 ∧ hd = xr) ∨ (∃ hd, U64 hd ∧ xr = 0 ∧ G.length = 0 ∧ hd = 0) ∨ (∃ hd j g, U64 hd ∧ xr = 0 ∧ 0 < G.length ∧ ga = some ⟨g, 0, none⟩ ∧ xa % (G.length : Int) = ((j : Nat) : Int) ∧ j < G.length ∧ w1.cell? ⟨g, j, none⟩ = some (.int .u64 hd)) := by
    by_cases h0 : xr = 0
    · by_cases hl : 0 < G.length
      · right; right
        obtain ⟨j, hj⟩ : ∃ j : Nat, xa % (G.length : Int) = j := ⟨(xa % (G.length : Int)).toNat, by have := Int.emod_nonneg xa (show (G.length : Int) ≠ 0 by omega); omega⟩
        have hjl : j < G.length := by have := Int.emod_lt_of_pos xa (show (0 : Int) < G.length by omega); omega
        obtain ⟨g, hgg, _⟩ := hgf hl
        subst hgg
        exact ⟨G[j], j, g, h.gu _ (List.getElem_mem hjl), h0, hl, rfl, hj, hjl, HP1.out.g.cell rfl (List.getElem?_eq_getElem hjl)⟩
      · right; left
        exact ⟨0, by unfold U64; omega, h0, by omega, rfl⟩
    · left; exact ⟨xr, hrw, h0, rfl⟩
  clear hwS hgf h hc hw1 hwb hbx hmost
  rcases main with ⟨hd, hdu, m1, m2⟩ | ⟨hd, hdu, m1, m2, m3⟩ | ⟨hd, j, g, hdu, m1, m2, m3, m4, m5, m6⟩
  case' inl =>
    subst m2
    have hne : (hd == 0) = false := by simpa using m1
    go_enter Try.func11, Try.ntmps11
    go_upto_region 1 with fail
    rw [← HW1.out, ← HWB.out]
    go_upto_region 4 with fail
    obtain ⟨w2, hw2⟩ : ∃ w2, w2 = w1 := ⟨_, rfl⟩
    rw [← hw2] at HP1 hb0 hb1 hb2 hb3 hwl ⊢
    clear hw2 hne m1 c2 hb3 HW1 hrw
  case' inr.inl =>
    have he0 : (hd == 0) = true := by simpa using m3
    obtain rfl : hd = xr := by omega
    have hl0 : decide (0 < G.length) = false := by simp [m2]
    clear m1 m2 m3
    go_enter Try.func11, Try.ntmps11
    go_upto_region 1 with fail
    rw [← HW1.out, ← HWB.out]
    go_upto_region 4 with fail
    obtain ⟨w2, hw2⟩ : ∃ w2, w2 = w1 := ⟨_, rfl⟩
    rw [← hw2] at HP1 hb0 hb1 hb2 hb3 hwl ⊢
    clear hw2 hl0 he0 c2 hb3 HW1 hrw
  case' inr.inr =>
    subst m1
    subst m3
    have hl0 : decide (0 < G.length) = true := by simpa using m2
    have hpk := Pick_any xa G.length w1.drew ha (by omega) (by omega)
    rw [m4] at hpk
    have HPK := hid hpk
    clear m4 hpk
    go_enter Try.func11, Try.ntmps11
    go_upto_region 1 with fail
    rw [← HW1.out, ← HWB.out]
    go_upto_region 3 with fail
    refine C.wp_region_mix [0, 0, 0, 1, 0, 1, 0, 0, 0, 1, 0, 2, 0, 1, 0] (fun W => W.cell? ⟨pp, 2, none⟩ = some (.slice (some ⟨g, 0, none⟩) G.length gk) ∧ W.cell? ⟨wb, 1, none⟩ = some (.int .i64 xa) ∧ W.cell? ⟨g, j, none⟩ = some (.int .u64 hd)) (by kernel_rfl) (by kernel_rfl) ⟨c2, hb1, m6⟩ ?_
    repeat (first
      | (refine' C.wpMix_value _ rfl rfl _ _; rotate_left; (solve | (intro W; go_simp) | (intro W; go_simp; with_reducible rfl)); simp only [Act.put, List.setIfInBounds_toArray, List.set_cons_zero, List.set_cons_succ])
      | (refine' C.wpMix_read _ rfl rfl _ _; rotate_left; (solve | (rintro W ⟨h1, h2, h3⟩; go_simp) | (rintro W ⟨h1, h2, h3⟩; go_simp; with_reducible rfl)); simp only [Act.put, List.setIfInBounds_toArray, List.set_cons_zero, List.set_cons_succ]))
    refine C.wpMix_call 14 #[.int .i64 xa, .int .i64 G.length] (by decide) rfl ?nrun1 ?ncall1
    case' ncall1 =>
      refine HPK.out.mono ?_
      rintro e w' ⟨rfl, rfl⟩
      refine ⟨_, rfl, fun _ => ⟨c2, hb1, m6⟩, ?_⟩
      simp only [Act.put, List.setIfInBounds_toArray, List.set_cons_zero, List.set_cons_succ]
    case' nrun1 => go_simp
    repeat (first
      | (refine' C.wpMix_value _ rfl rfl _ _; rotate_left; (solve | (intro W; go_simp) | (intro W; go_simp; with_reducible rfl)); simp only [Act.put, List.setIfInBounds_toArray, List.set_cons_zero, List.set_cons_succ])
      | (refine' C.wpMix_read _ rfl rfl _ _; rotate_left; (solve | (rintro W ⟨h1, h2, h3⟩; go_simp) | (rintro W ⟨h1, h2, h3⟩; go_simp; with_reducible rfl)); simp only [Act.put, List.setIfInBounds_toArray, List.set_cons_zero, List.set_cons_succ]))
    refine C.wpMix_end ?_
    go_upto_region 4 with fail
    replace HP1 := hid (HP1.out.no (Fr.refl _ _).drew)
    replace hb0 : w1.drew.cell? ⟨wb, 0, none⟩ = some (.int .i64 xk) := hb0
    replace hb1 : w1.drew.cell? ⟨wb, 1, none⟩ = some (.int .i64 xa) := hb1
    replace hb2 : w1.drew.cell? ⟨wb, 2, none⟩ = some (.int .u64 xt) := hb2
    replace hwl : wb < w1.drew.heap.size := hwl
    obtain ⟨w2, hw2⟩ : ∃ w2, w2 = w1.drew := ⟨_, rfl⟩
    rw [← hw2] at HP1 hb0 hb1 hb2 hwl ⊢
    clear hw2 hl0 c2 hb3 HW1 hrw m2 m5 HPK m6
  all_goals
    obtain ⟨pt, hpt⟩ := HP1.out.t.ptr
    obtain ⟨px, hpx⟩ := HP1.out.x.ptr
    have d0 := HP1.out.c0
    have d1 := HP1.out.c1
    have HAT := hid (HP1.out.x.at hd)
    have HPK7 := hid (Pick_any xk 7 w2 hk (by decide) (by decide))
    rw [hpt] at d0
    rw [hpx] at d1 HAT
    have HPT := hid hpt
    have HPX := hid hpx
    have HDU := hid hdu
    have HT := hid ht
    clear hpt hpx hdu hk ha hb1
    have HNL := hid HP1.out.t.ok.len
    go_wp2_with fail
    refine HAT.out.mono ?_
    rintro e w' ⟨rfl, hwhich⟩
    clear HAT
    have HWH := hid hwhich
    clear hwhich
    rcases HWH.out with ⟨i, b, hib, hbh, rfl⟩ | ⟨hno, rfl⟩
    · clear HWH
      obtain rfl : hd = b.h := hbh.symm
      have hbm := List.mem_of_getElem? hib
      have HB := hid hib
      have HFB := hid (fb_mem HP1.out.t.ok.nd hbm)
      have HO := hid (HP1.out.t.up HDU.out)
      rw [HPT.out] at HO
      have hil : i < s.L.length := (List.getElem?_eq_some_iff.1 hib).1
      have hiN : i < 65536 := by have := HNL.out; omega
      clear hib hbh
      go_wp2_with fail
      refine HPK7.out.mono ?_
      rintro e w' ⟨rfl, rfl⟩
      clear HPK7
      rw [hq]
      clear hq
      go_wp2_with fail
      refine HO.out.mono ?_
      rintro e w3 ⟨hf3, s3, n3, er, rfl, hup, hR3⟩
      have hx : er = 0 ∧ n3 = b.n + 1 ∧ 1 ≤ b.n ∧ b.n ≤ 4294967294 ∧ s3 = { s with L := setn s.L b.h (b.n + 1) } := by
        have h1 := HC.out b hbm
        have h2 := (HP1.out.t.ok.bd b hbm).2
        cases hup with
        | stale hf => rw [HFB.out] at hf; cases hf
        | top c hf hn => rw [HFB.out] at hf; cases hf; omega
        | ok c hf hn => rw [HFB.out] at hf; cases hf; exact ⟨rfl, rfl, by omega, by omega, rfl⟩
      obtain ⟨rfl, rfl, hn1, hn2, rfl⟩ := hx
      rw [← HPT.out] at hR3
      have hP3 := HP1.out.tab hf3 hR3
      have e1 := hP3.c1
      rw [HPX.out] at e1
      have hx3 := hP3.x
      rw [HPX.out] at hx3
      obtain ⟨gg, nn, kk, k1, k2, k3, k4, k4p, _, _, k7, k8, k9, _⟩ := hx3.thing HB.out
      have hf4 : Fr S2 w3 (w3.setCell ⟨gg, i * 4 + 3, none⟩ (.int .u32 (b.n + 1))) := (Fr.refl _ _).setCell _ _ (fun _ => k4)
      have hR4 := k9 (b.n + 1) (by omega) (by omega)
      rw [← HPX.out] at hR4
      have HP4 := hid (hP3.twin0 hf4 hR4)
      have HC3 := hid (HC.out.up hup)
      have HM3 := hid (hup.most HM.out)
      have z3 := k8 (i * 4 + 3)
      have hgp : gg ≠ pp := fun e => hP3.dp2 (e ▸ k4)
      have hpg : pp ≠ gg := Ne.symm hgp
      have hpxg : px ≠ gg := Ne.symm k4p
      have hw : IntKind.u32.wrap (b.n + 1) = b.n + 1 := IntWalk.u32_in _ (by omega)
      have hlt0 : decide ((i : Int) < 0) = false := by simp
      clear hf3 hR3 hP3 hx3 hf4 hR4 k9 k8 k4 hup HO d0 d1 hb0 hb2 HP1 hn1 hn2 HFB HB hbm hil
      go_wp2
      go_ret
      exact ⟨rfl, _, _, _, _, _, HP4.out, by omega, HC3.out, HM3.out⟩
    · clear HWH
      have HNO := hid hno
      have HO := hid (HP1.out.t.up HDU.out)
      rw [HPT.out] at HO
      clear hno
      go_wp2_with fail
      refine HPK7.out.mono ?_
      rintro e w' ⟨rfl, rfl⟩
      clear HPK7
      rw [hq]
      clear hq
      go_wp2_with fail
      refine HO.out.mono ?_
      rintro e w3 ⟨hf3, s3, n3, er, rfl, hup, hR3⟩
      have hx : er = 2 ∧ n3 = 0 ∧ s3 = s := by
        cases hup with
        | stale hf => exact ⟨rfl, rfl, rfl⟩
        | top c hf hn => rw [HNO.out] at hf; cases hf
        | ok c hf hn => rw [HNO.out] at hf; cases hf
      obtain ⟨rfl, rfl, rfl⟩ := hx
      rw [← HPT.out] at hR3
      have HP3 := hid (HP1.out.tab hf3 hR3)
      have HC3 := hid (HC.out.up hup)
      have HM3 := hid (hup.most HM.out)
      clear hf3 hR3 hup HO d0 d1 hb0 hb2 HP1 HNO
      go_wp2
      go_ret
      exact ⟨rfl, _, _, _, _, _, HP3.out, by omega, HC3.out, HM3.out⟩
end Go.Proofs.Ytmampaglemleoab
