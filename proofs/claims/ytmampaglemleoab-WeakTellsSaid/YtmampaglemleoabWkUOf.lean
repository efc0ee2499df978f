/-
  An act done to a table and to its plain twin: Of.
-/
import Derived.Test.YtmampaglemleoabWkS
import Derived.Test.YtmampaglemleoabMixD
namespace Go.Proofs.Ytmampaglemleoab
open Go Go.ChangeShapes Go.WideShapes Go.ChangeAt Go.RowKit

set_option maxHeartbeats 8000000 in
set_option maxRecDepth 100000 in
theorem WkDo_Of (w0 w : World) (pp m : Nat) (vT vX gv : Value) (S1 S2 : Nat → Prop) (s : Ws) (G : List Int) (x : WAct) (h : WkP w0 pp vT vX S1 S2 s s G gv w) (hx : WActOk x) (hm : m ≤ 300) (hg : G.length ≤ m) (hc : CntLe s.L m) {km : Nat} (hmost : s.A.most = km) (hq : x.kind % 7 = 0 ∨ x.kind % 7 = 1) :
    Calls Try.prog 11 #[.pointer (some ⟨pp, 0, none⟩), .agg (wac x).toArray] w (DoPost w0 pp vT vX (m + 1) km) := by
  obtain ⟨xk, xa, xt, xr⟩ := x
  simp only [WActOk] at hx
  simp only at hq
  obtain ⟨hk, ha, ht, hrw⟩ := hx
  obtain ⟨wb, hwb⟩ : ∃ wb, wb = w.heap.size := ⟨_, rfl⟩
  obtain ⟨w1, hw1⟩ : ∃ w1, w1 = w.alloc (.cells (wac ⟨xk, xa, xt, xr⟩).toArray 37) := ⟨_, rfl⟩
  have hbx : w1.heap[wb]? = some (.cells (wac ⟨xk, xa, xt, xr⟩).toArray 37 (0, 0)) := by rw [hw1, hwb]; exact heap_alloc_new _ _
  have HP1 := hid (h.no (w' := w1) (by rw [hw1]; exact (Fr.refl _ _).alloc _))
  have HW1 := hid hw1
  have HWB := hid hwb
  have HC := hid hc
  have HM := hid hmost
  have hb0 : w1.cell? ⟨wb, 0, none⟩ = some (.int .i64 xk) := by rw [cell_of_row w1 wb 0 _ _ _ hbx]; rfl
  have hb1 : w1.cell? ⟨wb, 1, none⟩ = some (.int .i64 xa) := by rw [cell_of_row w1 wb 1 _ _ _ hbx]; rfl
  have hb2 : w1.cell? ⟨wb, 2, none⟩ = some (.int .u64 xt) := by rw [cell_of_row w1 wb 2 _ _ _ hbx]; rfl
  have hb3 : w1.cell? ⟨wb, 3, none⟩ = some (.int .u64 xr) := by rw [cell_of_row w1 wb 3 _ _ _ hbx]; rfl
  have hwl : wb < w1.heap.size := (Array.getElem?_eq_some_iff.1 hbx).1
  have hwS : (¬ S1 wb ∧ ¬ S2 wb) ∧ wb ≠ pp ∧ gv.ownBlock ≠ some wb := ⟨⟨fun e => by have := h.t.lt wb e; omega, fun e => by have := h.x.lt wb e; omega⟩, fun e => by have := h.lt; omega, fun e => by have := (h.g.own.lt wb e).2; omega⟩
  have HWS := hid hwS
  obtain ⟨ga, gk, hgv, hgk1, hgk2, hgf⟩ := h.g.form
  subst hgv
  have c2 := HP1.out.c2
  have main : (∃ hd, U64 hd ∧ ¬ xr = 0 ∧ hd = xr) ∨ (∃ hd, U64 hd ∧ xr = 0 ∧ G.length = 0 ∧ hd = 0) ∨ (∃ hd j g, U64 hd ∧ xr = 0 ∧ 0 < G.length ∧ ga = some ⟨g, 0, none⟩ ∧ xa % (G.length : Int) = ((j : Nat) : Int) ∧ j < G.length ∧ w1.cell? ⟨g, j, none⟩ = some (.int .u64 hd)) := by
    by_cases h0 : xr = 0
    · by_cases hl : 0 < G.length
      · right; right
        obtain ⟨j, hj⟩ : ∃ j : Nat, xa % (G.length : Int) = j := ⟨(xa % (G.length : Int)).toNat, by have := Int.emod_nonneg xa (show (G.length : Int) ≠ 0 by omega); omega⟩
        have hjl : j < G.length := by have := Int.emod_lt_of_pos xa (show (0 : Int) < G.length by omega); omega
        obtain ⟨g, hgg, _⟩ := hgf hl
        subst hgg
        exact ⟨G[j], j, g, h.gu _ (List.getElem_mem hjl), h0, hl, rfl, hj, hjl, HP1.out.g.cell rfl (List.getElem?_eq_getElem hjl)⟩
      · right; left
        exact ⟨0, by unfold U64; omega, h0, by omega, rfl⟩
    · left; exact ⟨xr, hrw, h0, rfl⟩
  clear hwS hgf h hc hw1 hwb hbx hmost
  rcases main with ⟨hd, hdu, m1, m2⟩ | ⟨hd, hdu, m1, m2, m3⟩ | ⟨hd, j, g, hdu, m1, m2, m3, m4, m5, m6⟩
  case' inl =>
    subst m2
    have hne : (hd == 0) = false := by simpa using m1
    go_enter Try.func11, Try.ntmps11
    go_upto_region 1 with fail
    rw [← HW1.out, ← HWB.out]
    go_upto_region 4 with fail
    obtain ⟨w2, hw2⟩ : ∃ w2, w2 = w1 := ⟨_, rfl⟩
    rw [← hw2] at HP1 hb0 hb1 hb2 hb3 hwl ⊢
    clear hw2 hne m1 c2 hb3 HW1 hrw
  case' inr.inl =>
    have he0 : (hd == 0) = true := by simpa using m3
    obtain rfl : hd = xr := by omega
    have hl0 : decide (0 < G.length) = false := by simp [m2]
    clear m1 m2 m3
    go_enter Try.func11, Try.ntmps11
    go_upto_region 1 with fail
    rw [← HW1.out, ← HWB.out]
    go_upto_region 4 with fail
    obtain ⟨w2, hw2⟩ : ∃ w2, w2 = w1 := ⟨_, rfl⟩
    rw [← hw2] at HP1 hb0 hb1 hb2 hb3 hwl ⊢
    clear hw2 hl0 he0 c2 hb3 HW1 hrw
  case' inr.inr =>
    subst m1
    subst m3
    have hl0 : decide (0 < G.length) = true := by simpa using m2
    have hpk := Pick_any xa G.length w1.drew ha (by omega) (by omega)
    rw [m4] at hpk
    have HPK := hid hpk
    clear m4 hpk
    go_enter Try.func11, Try.ntmps11
    go_upto_region 1 with fail
    rw [← HW1.out, ← HWB.out]
    go_upto_region 3 with fail
    refine C.wp_region_mix [0, 0, 0, 1, 0, 1, 0, 0, 0, 1, 0, 2, 0, 1, 0] (fun W => W.cell? ⟨pp, 2, none⟩ = some (.slice (some ⟨g, 0, none⟩) G.length gk) ∧ W.cell? ⟨wb, 1, none⟩ = some (.int .i64 xa) ∧ W.cell? ⟨g, j, none⟩ = some (.int .u64 hd)) (by kernel_rfl) (by kernel_rfl) ⟨c2, hb1, m6⟩ ?_
    repeat (first
      | (refine' C.wpMix_value _ rfl rfl _ _; rotate_left; (solve | (intro W; go_simp) | (intro W; go_simp; with_reducible rfl)); simp only [Act.put, List.setIfInBounds_toArray, List.set_cons_zero, List.set_cons_succ])
      | (refine' C.wpMix_read _ rfl rfl _ _; rotate_left; (solve | (rintro W ⟨h1, h2, h3⟩; go_simp) | (rintro W ⟨h1, h2, h3⟩; go_simp; with_reducible rfl)); simp only [Act.put, List.setIfInBounds_toArray, List.set_cons_zero, List.set_cons_succ]))
    refine C.wpMix_call 14 #[.int .i64 xa, .int .i64 G.length] (by decide) rfl ?nrun1 ?ncall1
    case' ncall1 =>
      refine HPK.out.mono ?_
      rintro e w' ⟨rfl, rfl⟩
      refine ⟨_, rfl, fun _ => ⟨c2, hb1, m6⟩, ?_⟩
      simp only [Act.put, List.setIfInBounds_toArray, List.set_cons_zero, List.set_cons_succ]
    case' nrun1 => go_simp
    repeat (first
      | (refine' C.wpMix_value _ rfl rfl _ _; rotate_left; (solve | (intro W; go_simp) | (intro W; go_simp; with_reducible rfl)); simp only [Act.put, List.setIfInBounds_toArray, List.set_cons_zero, List.set_cons_succ])
      | (refine' C.wpMix_read _ rfl rfl _ _; rotate_left; (solve | (rintro W ⟨h1, h2, h3⟩; go_simp) | (rintro W ⟨h1, h2, h3⟩; go_simp; with_reducible rfl)); simp only [Act.put, List.setIfInBounds_toArray, List.set_cons_zero, List.set_cons_succ]))
    refine C.wpMix_end ?_
    go_upto_region 4 with fail
    replace HP1 := hid (HP1.out.no (Fr.refl _ _).drew)
    replace hb0 : w1.drew.cell? ⟨wb, 0, none⟩ = some (.int .i64 xk) := hb0
    replace hb1 : w1.drew.cell? ⟨wb, 1, none⟩ = some (.int .i64 xa) := hb1
    replace hb2 : w1.drew.cell? ⟨wb, 2, none⟩ = some (.int .u64 xt) := hb2
    replace hwl : wb < w1.drew.heap.size := hwl
    obtain ⟨w2, hw2⟩ : ∃ w2, w2 = w1.drew := ⟨_, rfl⟩
    rw [← hw2] at HP1 hb0 hb1 hb2 hwl ⊢
    clear hw2 hl0 c2 hb3 HW1 hrw m2 m5 HPK m6
  all_goals
    obtain ⟨pt, hpt⟩ := HP1.out.t.ptr
    obtain ⟨px, hpx⟩ := HP1.out.x.ptr
    have d0 := HP1.out.c0
    have d1 := HP1.out.c1
    have HAT := hid (HP1.out.x.at hd)
    have HPK7 := hid (Pick_any xk 7 w2 hk (by decide) (by decide))
    rw [hpt] at d0
    rw [hpx] at d1 HAT
    have HPT := hid hpt
    have HPX := hid hpx
    have HDU := hid hdu
    have HT := hid ht
    clear hpt hpx hdu hk ha hb1
    have HNL := hid HP1.out.t.ok.len
    go_wp2_with fail
    refine HAT.out.mono ?_
    rintro e w' ⟨rfl, hwhich⟩
    clear HAT
    have hiv : ∃ iv, e = Ending.returned (.int .i64 iv) := by
      rcases hwhich with ⟨i, b, _, _, h⟩ | ⟨_, h⟩ <;> exact ⟨_, h⟩
    obtain ⟨iv, rfl⟩ := hiv
    clear hwhich
    go_wp2_with fail
    refine HPK7.out.mono ?_
    rintro e w' ⟨rfl, rfl⟩
    clear HPK7
    rcases hq with q | q
    all_goals
      rw [q]
      clear q
      go_upto_region 8 with fail
      have PD := hid (HP1.out.no (Fr.refl _ _).drew)
      have HO := hid (PD.out.t.of HT.out)
      rw [HPT.out] at HO
      refine C.wp_region_mix [0, 0, 0, 1, 0, 1, 3, 0, 0, 0, 0, 0] (fun W => W.cell? ⟨pp, 0, none⟩ = some (.pointer (some ⟨pt, 0, none⟩)) ∧ W.cell? ⟨wb, 2, none⟩ = some (.int .u64 xt)) (by kernel_rfl) (by kernel_rfl) ⟨d0, hb2⟩ ?_
      repeat (first
        | (refine' C.wpMix_value _ rfl rfl _ _; rotate_left; (solve | (intro W; go_simp) | (intro W; go_simp; with_reducible rfl)); simp only [Act.put, List.setIfInBounds_toArray, List.set_cons_zero, List.set_cons_succ])
        | (refine' C.wpMix_read _ rfl rfl _ _; rotate_left; (solve | (rintro W ⟨h1, h2⟩; go_simp) | (rintro W ⟨h1, h2⟩; go_simp; with_reducible rfl)); simp only [Act.put, List.setIfInBounds_toArray, List.set_cons_zero, List.set_cons_succ]))
      refine C.wpMix_call 17 #[.pointer (some ⟨pt, 0, none⟩), .int .u64 xt] (by decide) rfl (by go_simp) ?_
      refine HO.out.mono ?_
      rintro e w3 ⟨hf3, s3, h3, er, rfl, hof, hR3⟩
      refine ⟨_, rfl, (fun h => by cases h), ?_⟩
      simp only [Act.put, List.setIfInBounds_toArray, List.set_cons_zero, List.set_cons_succ]
      have he4 : er ≠ 4 := fun e => by
        cases hof with
        | up => cases e
        | top b hl hn => have := HC.out b (lv_some hl).1; omega
        | full => cases e
        | new => cases e
      rw [← HPT.out] at hR3
      have hP3 := PD.out.tab hf3 hR3
      have e2 : w3.cell? ⟨wb, 2, none⟩ = some (.int .u64 xt) := (World.cell?_of_block (hf3.block wb hwl (fun e => HWS.out.1.1 e))).trans hb2
      have e1 := hP3.c1
      rw [HPX.out] at e1
      have hwl3 : wb < w3.heap.size := Nat.lt_of_lt_of_le hwl hf3.size
      have P3d := hid (hP3.no (Fr.refl _ _).drew)
      have HX := hid (P3d.out.x.of HT.out hof he4)
      rw [HPX.out] at HX
      have hres : (er = 3 ∧ h3 = 0) ∨ (er = 0 ∧ 1 ≤ h3 ∧ U64 h3) := by
        have hinv := hof.inv HP1.out.t.ok HT.out
        cases hof with
        | up b hl hn => have := HP1.out.t.ok.hbd (lv_some hl).1; exact .inr ⟨rfl, this.1, by unfold U64; omega⟩
        | top => exact absurd rfl he4
        | full => exact .inl ⟨rfl, rfl⟩
        | new hl hp => have := hinv.hbd (List.mem_append_right _ (List.mem_singleton.2 rfl)); dsimp only at this; exact .inr ⟨rfl, this.1, by unfold U64; omega⟩
      have HRES := hid hres
      have HC3 := hid (HC.out.of hof)
      have HM3 := hid (hof.most HM.out)
      clear hf3 hR3 hof hP3 he4 hres HO PD d0 d1 hb0 hb2
      repeat (first
        | (refine' C.wpMix_value _ rfl rfl _ _; rotate_left; (solve | (intro W; go_simp) | (intro W; go_simp; with_reducible rfl)); simp only [Act.put, List.setIfInBounds_toArray, List.set_cons_zero, List.set_cons_succ])
        | (refine' C.wpMix_read _ rfl rfl _ _; rotate_left; (solve | (rintro W ⟨h1, h2⟩; go_simp) | (rintro W ⟨h1, h2⟩; go_simp; with_reducible rfl)); simp only [Act.put, List.setIfInBounds_toArray, List.set_cons_zero, List.set_cons_succ]))
      refine C.wpMix_end ?_
      go_upto_region 9 with fail
      refine C.wp_region_mix [0, 0, 0, 1, 0, 1, 3, 0] (fun W => W.cell? ⟨pp, 1, none⟩ = some (.pointer (some ⟨px, 0, none⟩)) ∧ W.cell? ⟨wb, 2, none⟩ = some (.int .u64 xt)) (by kernel_rfl) (by kernel_rfl) ⟨e1, e2⟩ ?_
      repeat (first
        | (refine' C.wpMix_value _ rfl rfl _ _; rotate_left; (solve | (intro W; go_simp) | (intro W; go_simp; with_reducible rfl)); simp only [Act.put, List.setIfInBounds_toArray, List.set_cons_zero, List.set_cons_succ])
        | (refine' C.wpMix_read _ rfl rfl _ _; rotate_left; (solve | (rintro W ⟨h1, h2⟩; go_simp) | (rintro W ⟨h1, h2⟩; go_simp; with_reducible rfl)); simp only [Act.put, List.setIfInBounds_toArray, List.set_cons_zero, List.set_cons_succ]))
      refine C.wpMix_call 24 #[.pointer (some ⟨px, 0, none⟩), .int .u64 xt] (by decide) rfl (by go_simp) ?_
      refine HX.out.mono ?_
      rintro e w4 ⟨rfl, hf4, hR4⟩
      refine ⟨_, rfl, (fun h => by cases h), ?_⟩
      simp only [Act.put, List.setIfInBounds_toArray, List.set_cons_zero, List.set_cons_succ]
      rw [← HPX.out] at hR4
      have HP4 := hid (P3d.out.twin hf4 hR4)
      clear hf4 hR4 P3d HX e1 e2 HP1
      repeat (first
        | (refine' C.wpMix_value _ rfl rfl _ _; rotate_left; (solve | (intro W; go_simp) | (intro W; go_simp; with_reducible rfl)); simp only [Act.put, List.setIfInBounds_toArray, List.set_cons_zero, List.set_cons_succ])
        | (refine' C.wpMix_read _ rfl rfl _ _; rotate_left; (solve | (rintro W ⟨h1, h2⟩; go_simp) | (rintro W ⟨h1, h2⟩; go_simp; with_reducible rfl)); simp only [Act.put, List.setIfInBounds_toArray, List.set_cons_zero, List.set_cons_succ]))
      refine C.wpMix_end ?_
      rcases HRES.out with ⟨rfl, rfl⟩ | ⟨rfl, hh1, hh2⟩
      · clear HRES
        go_wp2
        go_ret
        exact ⟨rfl, _, _, _, _, _, HP4.out, by omega, HC3.out, HM3.out⟩
      · have hne : (h3 != 0) = true := by
          have : h3 ≠ 0 := by omega
          simpa using this
        have HU3 := hid hh2
        obtain ⟨i0, hi, hz0, hz1, hz2⟩ := info_parts infoUw
        have hi' := hid hi
        have hz0' := hid hz0
        have hz1' := hid hz1
        have hz2' := hid hz2
        have c2 := HP4.out.c2
        have z2 := HP4.out.fz 2
        have hpl := HP4.out.lt
        have HOFF := hid (HP4.out.g.off pp)
        clear HRES hh1 hh2 hi hz0 hz1 hz2
        go_wp2_with (first
          | (at_builtin; refine wpList_append_own_at _ (o := ⟨some 81, _, _, _, _, _⟩) rfl (.tmp 78) (.tmp 80) 31 rfl w0.heap.size 35 i0 (.int .u64 0) 1 8 Try.underlying31 hi'.out hz0'.out hz1'.out hz2'.out rfl (by decide) _ _ _ rfl (HP4.out.g.own.alloc _) ⟨w4.heap.size, 0, none⟩ 1 1 [.int .u64 h3] rfl rfl (World.news_of_block (heap_alloc_new w4 _)) (fun u hu => by rw [List.mem_singleton.1 hu]; rfl) (by unfold maxLen; omega) (by omega) (by have := HP4.out.below.size; simp; omega) ?_; intro vz wz hownz hgrowz hnilz hatz; obtain ⟨gz, kz, rfl⟩ := ownsRow_succ hownz; have hbz : wz.heap[pp]? = w4.heap[pp]? := (by rw [hgrowz.block pp (by simp; omega) (fun e => HOFF.out e.symm (.inr (.inr rfl)))]; exact Below.heap_alloc _ _ _ hpl); have c2z := (World.cell?_of_block (a := ⟨pp, 2, none⟩) hbz).trans c2; have z2z : wz.frozen? ⟨pp, 2, none⟩ = false := (World.frozen?_of_block hbz).trans z2; have HOz := hid hownz; have HGz := hid hgrowz; have HAz := hid hatz; clear hownz hgrowz hnilz hatz hbz)
          | fail)
        go_ret
        exact ⟨rfl, _, _, _, _, _, HP4.out.give HU3.out HOz.out HGz.out HAz.out, by simp; omega, HC3.out, HM3.out⟩
end Go.Proofs.Ytmampaglemleoab
