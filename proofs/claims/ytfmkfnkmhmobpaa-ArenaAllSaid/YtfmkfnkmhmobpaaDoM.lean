/-
  An act done to an arena and to its plain twin: both answer alike.
-/
import Derived.Test.YtfmkfnkmhmobpaaPair
namespace Go.Proofs.Ytfmkfnkmhmobpaa
open Go.ChangeShapes Go.WideShapes Go.ChangeAt Go.RowKit

def DoPostM (w0 : World) (pp pA pR m mo : Nat) (e : Ending) (w' : World) : Prop :=
  e = .returned (.bool true) ∧ ∃ SA SR A given gv, PairInv w0 pp pA pR SA SR A A given gv w' ∧ given.length ≤ m ∧ A.most = mo
set_option maxHeartbeats 4000000 in
set_option maxRecDepth 100000 in
theorem DoM_any (w0 w : World) (pp pA pR : Nat) (SA SR : Nat → Prop) (A : Ar) (given : List Int) (gv : Value) (x : Act4) (h : PairInv w0 pp pA pR SA SR A A given gv w)
    (hx : I64 x.kind ∧ I64 x.at' ∧ I64 x.x ∧ U64 x.raw) (hg : given.length ≤ 300) :
    Calls Try.prog 14 #[.pointer (some ⟨pp, 0, none⟩), .agg #[.int .i64 x.kind, .int .i64 x.at', .int .i64 x.x, .int .u64 x.raw]] w (DoPostM w0 pp pA pR (given.length + 1) A.most) := by
  obtain ⟨xk, xa, xx, xr⟩ := x
  simp only at hx ⊢
  obtain ⟨hk, ha, hxx, hrw⟩ := hx
  obtain ⟨wb, hwb⟩ : ∃ wb, wb = w.heap.size := ⟨_, rfl⟩
  obtain ⟨w1, hw1⟩ : ∃ w1, w1 = w.alloc (.cells #[.int .i64 xk, .int .i64 xa, .int .i64 xx, .int .u64 xr] 36) := ⟨_, rfl⟩
  have P1 : PairInv w0 pp pA pR SA SR A A given gv w1 := by rw [hw1]; exact h.no ((Fr.refl _ _).alloc _)
  have hbx : w1.heap[wb]? = some (.cells #[.int .i64 xk, .int .i64 xa, .int .i64 xx, .int .u64 xr] 36 (0, 0)) := by rw [hw1, hwb]; exact heap_alloc_new _ _
  have hb0 : w1.cell? ⟨wb, 0, none⟩ = some (.int .i64 xk) := by rw [cell_of_row w1 wb 0 _ 36 _ hbx]; rfl
  have hb1 : w1.cell? ⟨wb, 1, none⟩ = some (.int .i64 xa) := by rw [cell_of_row w1 wb 1 _ 36 _ hbx]; rfl
  have hb2 : w1.cell? ⟨wb, 2, none⟩ = some (.int .i64 xx) := by rw [cell_of_row w1 wb 2 _ 36 _ hbx]; rfl
  have hb3 : w1.cell? ⟨wb, 3, none⟩ = some (.int .u64 xr) := by rw [cell_of_row w1 wb 3 _ 36 _ hbx]; rfl
  have hwl : wb < w1.heap.size := (Array.getElem?_eq_some_iff.1 hbx).1
  have hwA : ¬ SA wb := fun e => by have := h.ar.lt wb e; omega
  have hwR : ¬ SR wb := fun e => by have := h.rr.lt wb e; omega
  have hwg : gv.ownBlock ≠ some wb := fun e => by have := (h.gr.lt wb e).2; omega
  have hwp : pp ≠ wb := fun e => by have := h.lt; omega
  obtain ⟨ga, gk, hgv⟩ := h.shape
  subst hgv
  have HP1 := hid P1
  have c2 := P1.c2
  have HBX := hid hbx
  have HW1 := hid hw1
  have HWB := hid hwb
  have main : (∃ hd, U64 hd ∧ ¬ xr = 0 ∧ hd = xr) ∨ (∃ hd, U64 hd ∧ xr = 0 ∧ given.length = 0 ∧ hd = 0) ∨ (∃ hd j g, U64 hd ∧ xr = 0 ∧ 0 < given.length ∧ ga = some ⟨g, 0, none⟩ ∧ xa % (given.length : Int) = ((j : Nat) : Int) ∧ j < given.length ∧ given[j]? = some hd) := by
    by_cases h0 : xr = 0
    · by_cases hl : 0 < given.length
      · right; right
        obtain ⟨j, hj⟩ : ∃ j : Nat, xa % (given.length : Int) = j := ⟨(xa % (given.length : Int)).toNat, by have := Int.emod_nonneg xa (show (given.length : Int) ≠ 0 by omega); omega⟩
        have hjl : j < given.length := by have := Int.emod_lt_of_pos xa (show (0 : Int) < given.length by omega); omega
        obtain ⟨g, cap, hf, _⟩ := h.gr.form hl
        simp only [Value.slice.injEq] at hf
        exact ⟨given[j], j, g, h.gb _ (List.getElem_mem hjl), h0, hl, hf.1, hj, hjl, List.getElem?_eq_getElem hjl⟩
      · right; left
        exact ⟨0, by unfold U64; omega, h0, by omega, rfl⟩
    · left; exact ⟨xr, hrw, h0, rfl⟩
  clear P1 hbx hw1 hwb h
  rcases main with ⟨hd, hdu, m1, m2⟩ | ⟨hd, hdu, m1, m2, m3⟩ | ⟨hd, j, g, hdu, m1, m2, m3, m4, m5, m6⟩
  case' inl =>
    subst m2
    have hne : (hd == 0) = false := by simpa using m1
    go_enter Try.func14, Try.ntmps14
    go_upto_region 1 with fail
    rw [← HW1.out, ← HWB.out]
    go_upto_region 4 with fail
    obtain ⟨w2, hw2⟩ : ∃ w2, w2 = w1 := ⟨_, rfl⟩
    rw [← hw2] at HP1 hb0 hb1 hb2 hb3 hwl ⊢
    clear hw2 hne m1 c2 hb3 HBX HW1 hrw
  case' inr.inl =>
    have he0 : (hd == 0) = true := by simpa using m3
    obtain rfl : hd = xr := by omega
    have hl0 : decide (0 < given.length) = false := by simp [m2]
    clear m1 m2 m3
    go_enter Try.func14, Try.ntmps14
    go_upto_region 1 with fail
    rw [← HW1.out, ← HWB.out]
    go_upto_region 4 with fail
    obtain ⟨w2, hw2⟩ : ∃ w2, w2 = w1 := ⟨_, rfl⟩
    rw [← hw2] at HP1 hb0 hb1 hb2 hb3 hwl ⊢
    clear hw2 hl0 he0 c2 hb3 HBX HW1 hrw
  case' inr.inr =>
    subst m1
    subst m3
    have hl0 : decide (0 < given.length) = true := by simpa using m2
    have hpk := Pick_any xa given.length w1.drew ha (by omega) (by omega)
    rw [m4] at hpk
    have HPK := hid hpk
    have hyc : w1.cell? ⟨g, j, none⟩ = some (.int .u64 hd) := by
      rw [HP1.out.gr.cellAt j (by omega)]; simp [m6]
    clear m4 hpk m6
    go_enter Try.func14, Try.ntmps14
    go_upto_region 1 with fail
    rw [← HW1.out, ← HWB.out]
    go_upto_region 3 with fail
    refine C.wp_region_mix [0, 0, 0, 1, 0, 1, 0, 0, 0, 1, 0, 2, 0, 1, 0] (fun W => W.cell? ⟨pp, 2, none⟩ = some (.slice (some ⟨g, 0, none⟩) given.length gk) ∧ W.cell? ⟨wb, 1, none⟩ = some (.int .i64 xa) ∧ W.cell? ⟨g, j, none⟩ = some (.int .u64 hd)) (by kernel_rfl) (by kernel_rfl) ⟨c2, hb1, hyc⟩ ?_
    repeat (first
      | (refine' C.wpMix_value _ rfl rfl _ _; rotate_left; (solve | (intro W; go_simp) | (intro W; go_simp; with_reducible rfl)); simp only [Act.put, List.setIfInBounds_toArray, List.set_cons_zero, List.set_cons_succ])
      | (refine' C.wpMix_read _ rfl rfl _ _; rotate_left; (solve | (rintro W ⟨h1, h2, h3⟩; go_simp) | (rintro W ⟨h1, h2, h3⟩; go_simp; with_reducible rfl)); simp only [Act.put, List.setIfInBounds_toArray, List.set_cons_zero, List.set_cons_succ]))
    refine C.wpMix_call 17 #[.int .i64 xa, .int .i64 given.length] (by decide) rfl ?nrun1 ?ncall1
    case' ncall1 =>
      refine HPK.out.mono ?_
      rintro e w' ⟨rfl, rfl⟩
      refine ⟨_, rfl, fun _ => ⟨c2, hb1, hyc⟩, ?_⟩
      simp only [Act.put, List.setIfInBounds_toArray, List.set_cons_zero, List.set_cons_succ]
    case' nrun1 => go_simp
    repeat (first
      | (refine' C.wpMix_value _ rfl rfl _ _; rotate_left; (solve | (intro W; go_simp) | (intro W; go_simp; with_reducible rfl)); simp only [Act.put, List.setIfInBounds_toArray, List.set_cons_zero, List.set_cons_succ])
      | (refine' C.wpMix_read _ rfl rfl _ _; rotate_left; (solve | (rintro W ⟨h1, h2, h3⟩; go_simp) | (rintro W ⟨h1, h2, h3⟩; go_simp; with_reducible rfl)); simp only [Act.put, List.setIfInBounds_toArray, List.set_cons_zero, List.set_cons_succ]))
    refine C.wpMix_end ?_
    go_upto_region 4 with fail
    replace HP1 := hid (HP1.out.no (Fr.refl _ _).drew)
    replace hb0 : w1.drew.cell? ⟨wb, 0, none⟩ = some (.int .i64 xk) := hb0
    replace hb1 : w1.drew.cell? ⟨wb, 1, none⟩ = some (.int .i64 xa) := hb1
    replace hb2 : w1.drew.cell? ⟨wb, 2, none⟩ = some (.int .i64 xx) := hb2
    replace hwl : wb < w1.drew.heap.size := hwl
    obtain ⟨w2, hw2⟩ : ∃ w2, w2 = w1.drew := ⟨_, rfl⟩
    rw [← hw2] at HP1 hb0 hb1 hb2 hwl ⊢
    clear hw2 hl0 c2 hb3 HBX HW1 hrw m2 m5 HPK hyc
  all_goals
    have hat := RAt_any SR w2 pR A hd HP1.out.rr
    have d0 := HP1.out.c0
    have d1 := HP1.out.c1
    have hpk4 := Pick_any xk 4 w2 hk (by decide) (by decide)
    have HAT := hid hat
    have HPK4 := hid hpk4
    clear hat hpk4
    go_wp2_with fail
    refine HAT.out.mono ?_
    rintro e w' ⟨rfl, hwhich⟩
    obtain ⟨hd0, hd1⟩ := hdu
    obtain ⟨i0, hi, hz0, hz1, hz2⟩ := info_parts info34
    have hi' := hid hi
    have hz0' := hid hz0
    have hz1' := hid hz1
    have hz2' := hid hz2
    clear hi hz0 hz1 hz2
    have hq : xk % 4 = 0 ∨ xk % 4 = 1 ∨ xk % 4 = 2 ∨ xk % 4 = 3 := by omega
    rcases hwhich with ⟨i, s, hf, rfl⟩ | ⟨hst, rfl⟩
    · have HF := hid hf
      have hib : i < 65536 := HP1.out.ar.ok.lt hf.1
      clear hf
      go_wp2_with fail
      refine HPK4.out.mono ?_
      rintro e w' ⟨rfl, rfl⟩
      clear HPK4 HAT
      rcases hq with q | q | q | q
      all_goals rw [q]; clear q
      · rcases put_or_full HP1.out.ar.ok xx with hfull | ⟨pi, pg, A', hput⟩
        · have Pd := HP1.out.no (Fr.refl _ _).drew
          have p1 := hid (Put_full SA w2.drew pA A xx Pd.ar hfull)
          have PD := hid Pd
          have HF := hid hfull
          clear Pd hfull
          go_upto_region 7 with fail
          refine C.wp_region_mix [0, 0, 0, 1, 0, 1, 3, 0, 0, 0, 0, 0] (fun W => W.cell? ⟨pp, 0, none⟩ = some (.pointer (some ⟨pA, 0, none⟩)) ∧ W.cell? ⟨wb, 2, none⟩ = some (.int .i64 xx)) (by kernel_rfl) (by kernel_rfl) ⟨d0, hb2⟩ ?_
          repeat (first
            | (refine' C.wpMix_value _ rfl rfl _ _; rotate_left; (solve | (intro W; go_simp) | (intro W; go_simp; with_reducible rfl)); simp only [Act.put, List.setIfInBounds_toArray, List.set_cons_zero, List.set_cons_succ])
            | (refine' C.wpMix_read _ rfl rfl _ _; rotate_left; (solve | (rintro W ⟨h1, h2⟩; go_simp) | (rintro W ⟨h1, h2⟩; go_simp; with_reducible rfl)); simp only [Act.put, List.setIfInBounds_toArray, List.set_cons_zero, List.set_cons_succ]))
          refine C.wpMix_call 22 #[.pointer (some ⟨pA, 0, none⟩), .int .i64 xx] (by decide) rfl (by go_simp) ?_
          refine p1.out.mono ?_
          rintro e w3 ⟨rfl, f3⟩
          refine ⟨_, rfl, (fun h => by cases h), ?_⟩
          simp only [Act.put, List.setIfInBounds_toArray, List.set_cons_zero, List.set_cons_succ]
          have Pw := PD.out.no f3
          have e1 := Pw.c1
          have eb2 : w3.cell? ⟨wb, 2, none⟩ = some (.int .i64 xx) := (World.cell?_of_block (f3.block wb hwl (fun e => e))).trans hb2
          have Pd3 := Pw.no (Fr.refl _ _).drew
          have p2 := hid (RPut_full SR w3.drew pR A xx Pd3.rr HF.out)
          have PD3 := hid Pd3
          clear Pw Pd3 f3 d0 d1 hb0 hb1 hb2 p1
          repeat (first
            | (refine' C.wpMix_value _ rfl rfl _ _; rotate_left; (solve | (intro W; go_simp) | (intro W; go_simp; with_reducible rfl)); simp only [Act.put, List.setIfInBounds_toArray, List.set_cons_zero, List.set_cons_succ])
            | (refine' C.wpMix_read _ rfl rfl _ _; rotate_left; (solve | (rintro W ⟨h1, h2⟩; go_simp) | (rintro W ⟨h1, h2⟩; go_simp; with_reducible rfl)); simp only [Act.put, List.setIfInBounds_toArray, List.set_cons_zero, List.set_cons_succ]))
          refine C.wpMix_end ?_
          go_upto_region 8 with fail
          refine C.wp_region_mix [0, 0, 0, 1, 0, 1, 3, 0] (fun W => W.cell? ⟨pp, 1, none⟩ = some (.pointer (some ⟨pR, 0, none⟩)) ∧ W.cell? ⟨wb, 2, none⟩ = some (.int .i64 xx)) (by kernel_rfl) (by kernel_rfl) ⟨e1, eb2⟩ ?_
          repeat (first
            | (refine' C.wpMix_value _ rfl rfl _ _; rotate_left; (solve | (intro W; go_simp) | (intro W; go_simp; with_reducible rfl)); simp only [Act.put, List.setIfInBounds_toArray, List.set_cons_zero, List.set_cons_succ])
            | (refine' C.wpMix_read _ rfl rfl _ _; rotate_left; (solve | (rintro W ⟨h1, h2⟩; go_simp) | (rintro W ⟨h1, h2⟩; go_simp; with_reducible rfl)); simp only [Act.put, List.setIfInBounds_toArray, List.set_cons_zero, List.set_cons_succ]))
          refine C.wpMix_call 26 #[.pointer (some ⟨pR, 0, none⟩), .int .i64 xx] (by decide) rfl (by go_simp) ?_
          refine p2.out.mono ?_
          rintro e w4 ⟨rfl, rfl⟩
          refine ⟨_, rfl, (fun h => by cases h), ?_⟩
          simp only [Act.put, List.setIfInBounds_toArray, List.set_cons_zero, List.set_cons_succ]
          repeat (first
            | (refine' C.wpMix_value _ rfl rfl _ _; rotate_left; (solve | (intro W; go_simp) | (intro W; go_simp; with_reducible rfl)); simp only [Act.put, List.setIfInBounds_toArray, List.set_cons_zero, List.set_cons_succ])
            | (refine' C.wpMix_read _ rfl rfl _ _; rotate_left; (solve | (rintro W ⟨h1, h2⟩; go_simp) | (rintro W ⟨h1, h2⟩; go_simp; with_reducible rfl)); simp only [Act.put, List.setIfInBounds_toArray, List.set_cons_zero, List.set_cons_succ]))
          refine C.wpMix_end ?_
          go_wp2
          go_ret
          exact ⟨rfl, SA, SR, A, given, _, PD3.out, by omega, rfl⟩
        · have HMM := hid (show A'.most = A.most from by cases hput <;> rfl)
          have Pd := HP1.out.no (Fr.refl _ _).drew
          have p1 := Put_some SA w2.drew pA A A' pi pg xx Pd.ar hput
          have hbd := hput.bd HP1.out.ar.ok
          have hne0 : ¬ hand pi pg = 0 := by unfold hand; omega
          obtain ⟨hh, hhh⟩ : ∃ hh, hh = hand pi pg := ⟨_, rfl⟩
          unfold PutPost at p1
          rw [← hhh] at p1 hbd hne0
          have hne1 : (hh == 0) = false := by simpa using hne0
          have P1 := hid p1
          have PD := hid Pd
          have HPU := hid hput
          have HHH := hid hhh
          have HBD : RowKit.Hid (U64 hh) := hid hbd
          clear Pd hput p1 hhh hbd hne0
          go_upto_region 7 with fail
          refine C.wp_region_mix [0, 0, 0, 1, 0, 1, 3, 0, 0, 0, 0, 0] (fun W => W.cell? ⟨pp, 0, none⟩ = some (.pointer (some ⟨pA, 0, none⟩)) ∧ W.cell? ⟨wb, 2, none⟩ = some (.int .i64 xx)) (by kernel_rfl) (by kernel_rfl) ⟨d0, hb2⟩ ?_
          repeat (first
            | (refine' C.wpMix_value _ rfl rfl _ _; rotate_left; (solve | (intro W; go_simp) | (intro W; go_simp; with_reducible rfl)); simp only [Act.put, List.setIfInBounds_toArray, List.set_cons_zero, List.set_cons_succ])
            | (refine' C.wpMix_read _ rfl rfl _ _; rotate_left; (solve | (rintro W ⟨h1, h2⟩; go_simp) | (rintro W ⟨h1, h2⟩; go_simp; with_reducible rfl)); simp only [Act.put, List.setIfInBounds_toArray, List.set_cons_zero, List.set_cons_succ]))
          refine C.wpMix_call 22 #[.pointer (some ⟨pA, 0, none⟩), .int .i64 xx] (by decide) rfl (by go_simp) ?_
          refine P1.out.mono ?_
          rintro e w3 ⟨rfl, i3, f3⟩
          refine ⟨_, rfl, (fun h => by cases h), ?_⟩
          simp only [Act.put, List.setIfInBounds_toArray, List.set_cons_zero, List.set_cons_succ]
          have Pw := PD.out.arena i3 f3
          have e1 := Pw.c1
          have eb2 : w3.cell? ⟨wb, 2, none⟩ = some (.int .i64 xx) := (World.cell?_of_block (f3.block wb hwl hwA)).trans hb2
          have wl3 : wb < w3.heap.size := Nat.lt_of_lt_of_le hwl f3.size
          have Pd3 := Pw.no (Fr.refl _ _).drew
          have p2 := RPut_some SR w3.drew pR A A' pi pg xx Pd3.rr HPU.out
          unfold RPost at p2
          rw [← HHH.out] at p2
          have P2 := hid p2
          have PD3 := hid Pd3
          clear Pw Pd3 f3 i3 d0 d1 hb0 hb1 hb2 P1 p2
          repeat (first
            | (refine' C.wpMix_value _ rfl rfl _ _; rotate_left; (solve | (intro W; go_simp) | (intro W; go_simp; with_reducible rfl)); simp only [Act.put, List.setIfInBounds_toArray, List.set_cons_zero, List.set_cons_succ])
            | (refine' C.wpMix_read _ rfl rfl _ _; rotate_left; (solve | (rintro W ⟨h1, h2⟩; go_simp) | (rintro W ⟨h1, h2⟩; go_simp; with_reducible rfl)); simp only [Act.put, List.setIfInBounds_toArray, List.set_cons_zero, List.set_cons_succ]))
          refine C.wpMix_end ?_
          go_upto_region 8 with fail
          refine C.wp_region_mix [0, 0, 0, 1, 0, 1, 3, 0] (fun W => W.cell? ⟨pp, 1, none⟩ = some (.pointer (some ⟨pR, 0, none⟩)) ∧ W.cell? ⟨wb, 2, none⟩ = some (.int .i64 xx)) (by kernel_rfl) (by kernel_rfl) ⟨e1, eb2⟩ ?_
          repeat (first
            | (refine' C.wpMix_value _ rfl rfl _ _; rotate_left; (solve | (intro W; go_simp) | (intro W; go_simp; with_reducible rfl)); simp only [Act.put, List.setIfInBounds_toArray, List.set_cons_zero, List.set_cons_succ])
            | (refine' C.wpMix_read _ rfl rfl _ _; rotate_left; (solve | (rintro W ⟨h1, h2⟩; go_simp) | (rintro W ⟨h1, h2⟩; go_simp; with_reducible rfl)); simp only [Act.put, List.setIfInBounds_toArray, List.set_cons_zero, List.set_cons_succ]))
          refine C.wpMix_call 26 #[.pointer (some ⟨pR, 0, none⟩), .int .i64 xx] (by decide) rfl (by go_simp) ?_
          refine P2.out.mono ?_
          rintro e w4 ⟨rfl, i4, f4⟩
          refine ⟨_, rfl, (fun h => by cases h), ?_⟩
          simp only [Act.put, List.setIfInBounds_toArray, List.set_cons_zero, List.set_cons_succ]
          have Pw := PD3.out.twin i4 f4
          have q2 := Pw.c2
          have z2 := Pw.fz 2
          have plt := Pw.lt
          have dgp := Pw.dgp
          have PW := hid Pw
          clear Pw i4 f4 e1 eb2 P2
          repeat (first
            | (refine' C.wpMix_value _ rfl rfl _ _; rotate_left; (solve | (intro W; go_simp) | (intro W; go_simp; with_reducible rfl)); simp only [Act.put, List.setIfInBounds_toArray, List.set_cons_zero, List.set_cons_succ])
            | (refine' C.wpMix_read _ rfl rfl _ _; rotate_left; (solve | (rintro W ⟨h1, h2⟩; go_simp) | (rintro W ⟨h1, h2⟩; go_simp; with_reducible rfl)); simp only [Act.put, List.setIfInBounds_toArray, List.set_cons_zero, List.set_cons_succ]))
          refine C.wpMix_end ?_
          go_wp2_with (at_builtin; refine wpList_append_lies _ (o := ⟨some 79, _, _, _, _, _⟩) rfl (.tmp 76) (.tmp 78) 37 rfl w0.heap.size 34 i0 (.int .u64 0) 1 8 Try.underlying37 hi'.out hz0'.out hz1'.out hz2'.out rfl (by decide) _ given.length _ rfl (PW.out.gr.alloc _) ⟨w4.heap.size, 0, none⟩ 1 1 [.int .u64 hh] rfl rfl (one_news _ _ _ _ rfl) (by simp [Value.oneCell']) (by decide) (by unfold maxLen; omega) (by omega) (by have := PW.out.below.size; simp; omega) (w4.heap.size + 1) (by simp) ?_; intro g5 k5 w5 hown5 hgrow5 hat5 hlt5; have hb5 : w5.heap[pp]? = w4.heap[pp]? := (by rw [hgrow5.block pp (by simp; omega) (fun e => dgp e.symm)]; exact Below.heap_alloc _ _ _ plt); have q25 := (World.cell?_of_block (a := ⟨pp, 2, none⟩) hb5).trans q2; have z25 : w5.frozen? ⟨pp, 2, none⟩ = false := (World.frozen?_of_block (a := ⟨pp, 2, none⟩) hb5).trans z2; have HO5 := hid hown5; have HG5 := hid hgrow5; have HA5 := hid hat5; clear hown5 hgrow5 hat5 hb5 q2 z2)
          have hgive := PW.out.give HBD.out HO5.out HG5.out HA5.out
          have HGV := hid hgive
          clear hgive
          go_ret
          exact ⟨rfl, _, _, A', given ++ [hh], _, HGV.out, by simp, HMM.out⟩
      · have hc := hid (Get_some SA w2 pA A i s hd HP1.out.ar HF.out)
        obtain ⟨b, n, kk, t1, t2, t3, t4, t5, t6, t7⟩ := HP1.out.rr.thing HF.out.1
        clear t7
        go_wp2_with (refine hc.out.mono ?_; rintro e w' ⟨rfl, rfl⟩)
        go_ret
        exact ⟨rfl, SA, SR, A, given, _, HP1.out, by omega, rfl⟩
      · have Pd := HP1.out.no (Fr.refl _ _).drew
        have hc := hid (Set_some SA w2.drew pA A i s hd xx Pd.ar HF.out)
        have PD := hid Pd
        clear Pd
        go_upto_region 18 with fail
        refine C.wp_region_mix [0, 0, 0, 1, 0, 0, 1, 3, 0] (fun W => W.cell? ⟨pp, 0, none⟩ = some (.pointer (some ⟨pA, 0, none⟩)) ∧ W.cell? ⟨wb, 2, none⟩ = some (.int .i64 xx)) (by kernel_rfl) (by kernel_rfl) ⟨d0, hb2⟩ ?_
        repeat (first
          | (refine' C.wpMix_value _ rfl rfl _ _; rotate_left; (solve | (intro W; go_simp) | (intro W; go_simp; with_reducible rfl)); simp only [Act.put, List.setIfInBounds_toArray, List.set_cons_zero, List.set_cons_succ])
          | (refine' C.wpMix_read _ rfl rfl _ _; rotate_left; (solve | (rintro W ⟨h1, h2⟩; go_simp) | (rintro W ⟨h1, h2⟩; go_simp; with_reducible rfl)); simp only [Act.put, List.setIfInBounds_toArray, List.set_cons_zero, List.set_cons_succ]))
        refine C.wpMix_call 25 #[.pointer (some ⟨pA, 0, none⟩), .int .u64 hd, .int .i64 xx] (by decide) rfl (by go_simp) ?_
        refine hc.out.mono ?_
        rintro e w3 ⟨rfl, i3, f3⟩
        refine ⟨_, rfl, (fun h => by cases h), ?_⟩
        simp only [Act.put, List.setIfInBounds_toArray, List.set_cons_zero, List.set_cons_succ]
        have Pw := PD.out.arena i3.wider f3
        have e1 := Pw.c1
        have eb2 : w3.cell? ⟨wb, 2, none⟩ = some (.int .i64 xx) := (World.cell?_of_block (f3.block wb hwl hwA)).trans hb2
        have Pd3 := Pw.no (Fr.refl _ _).drew
        obtain ⟨b, n, kk, t1, t2, t3, t4, t5, t6, t7⟩ := Pd3.rr.thing HF.out.1
        have T7 := hid t7
        have T6 := hid t6
        have PD3 := hid Pd3
        have t1' : w3.cell? ⟨pR, 2, none⟩ = some (.slice (some ⟨b, 0, none⟩) n kk) := t1
        clear Pw Pd3 f3 i3 d0 d1 hb0 hb1 hb2 hc t7 t6 t1
        repeat (first
          | (refine' C.wpMix_value _ rfl rfl _ _; rotate_left; (solve | (intro W; go_simp) | (intro W; go_simp; with_reducible rfl)); simp only [Act.put, List.setIfInBounds_toArray, List.set_cons_zero, List.set_cons_succ])
          | (refine' C.wpMix_read _ rfl rfl _ _; rotate_left; (solve | (rintro W ⟨h1, h2⟩; go_simp) | (rintro W ⟨h1, h2⟩; go_simp; with_reducible rfl)); simp only [Act.put, List.setIfInBounds_toArray, List.set_cons_zero, List.set_cons_succ]))
        refine C.wpMix_end ?_
        go_upto_region 21 with fail
        refine C.wp_region_mix [0, 0, 0, 1, 0, 0, 1, 0, 0, 1, 0, 0, 3] (fun W => W.cell? ⟨pp, 1, none⟩ = some (.pointer (some ⟨pR, 0, none⟩)) ∧ W.cell? ⟨pR, 2, none⟩ = some (.slice (some ⟨b, 0, none⟩) n kk) ∧ W.cell? ⟨wb, 2, none⟩ = some (.int .i64 xx)) (by kernel_rfl) (by kernel_rfl) ⟨e1, t1', eb2⟩ ?_
        repeat (first
          | (refine' C.wpMix_value _ rfl rfl _ _; rotate_left; (solve | (intro W; go_simp) | (intro W; go_simp; with_reducible rfl)); simp only [Act.put, List.setIfInBounds_toArray, List.set_cons_zero, List.set_cons_succ])
          | (refine' C.wpMix_read _ rfl rfl _ _; rotate_left; (solve | (rintro W ⟨h1, h2, h3⟩; go_simp) | (rintro W ⟨h1, h2, h3⟩; go_simp; with_reducible rfl)); simp only [Act.put, List.setIfInBounds_toArray, List.set_cons_zero, List.set_cons_succ]))
        refine C.wpMix_skip (w3.drew.setCell ⟨b, i * 3, none⟩ (.int .i64 xx)) (by decide) rfl (by go_simp) (fun h => by cases h) ?_
        simp only [Act.put]
        refine C.wpMix_end ?_
        have hfs : Fr SR w3.drew (w3.drew.setCell ⟨b, i * 3, none⟩ (.int .i64 xx)) := (Fr.refl _ _).setCell _ _ (fun _ => T6.out)
        have Pe := hid (PD3.out.twin (T7.out xx).wider hfs)
        clear hfs
        go_wp2
        go_ret
        exact ⟨rfl, _, _, _, given, _, Pe.out, by omega, by first | rfl | (unfold dropAt; split <;> rfl)⟩
      · have hcd : Calls Try.prog 23 #[.pointer (some ⟨pA, 0, none⟩), .int .u64 hd] w2 fun e w' => e = .returned (.tuple #[.int .i64 s.x, .int .i64 0]) ∧ InS (ext SA w2 w') w' pA (dropAt A i s) ∧ Fr SA w2 w' := by
          by_cases hw : s.g < 4294967295
          · exact Drop_again SA w2 pA A i s hd HP1.out.ar HF.out hw
          · refine (Drop_worn SA w2 pA A i s hd HP1.out.ar HF.out hw).mono ?_
            rintro e w' ⟨h1, h2, h3⟩
            exact ⟨h1, h2.wider, h3⟩
        have HC := hid hcd
        clear hcd
        go_wp2_with fail
        refine HC.out.mono ?_
        rintro e w3 ⟨rfl, i3, f3⟩
        have Pw := HP1.out.arena i3 f3
        have e1 := Pw.c1
        obtain ⟨b, n, kk, t1, t2, t3, t4, t5, t6, t7⟩ := Pw.rr.thing HF.out.1
        have hr := hid (RDrop_any SR w3 pR A i s Pw.rr HF.out.1 HF.out.2.1)
        have PW := hid Pw
        clear Pw i3 f3 d0 d1 hb0 hb1 hb2 t7 t6 HC
        go_wp2_with fail
        refine hr.out.mono ?_
        rintro e w4 ⟨v4, rfl, i4, f4⟩
        have Pe := hid (PW.out.twin i4 f4)
        clear i4 f4 t1 t4 t5 e1
        go_wp2
        go_ret
        exact ⟨rfl, _, _, _, given, _, Pe.out, by omega, by first | rfl | (unfold dropAt; split <;> rfl)⟩
    · have HS := hid hst
      clear hst
      go_wp2_with fail
      refine HPK4.out.mono ?_
      rintro e w' ⟨rfl, rfl⟩
      clear HPK4 HAT
      rcases hq with q | q | q | q
      all_goals rw [q]; clear q
      · rcases put_or_full HP1.out.ar.ok xx with hfull | ⟨pi, pg, A', hput⟩
        · have Pd := HP1.out.no (Fr.refl _ _).drew
          have p1 := hid (Put_full SA w2.drew pA A xx Pd.ar hfull)
          have PD := hid Pd
          have HF := hid hfull
          clear Pd hfull
          go_upto_region 7 with fail
          refine C.wp_region_mix [0, 0, 0, 1, 0, 1, 3, 0, 0, 0, 0, 0] (fun W => W.cell? ⟨pp, 0, none⟩ = some (.pointer (some ⟨pA, 0, none⟩)) ∧ W.cell? ⟨wb, 2, none⟩ = some (.int .i64 xx)) (by kernel_rfl) (by kernel_rfl) ⟨d0, hb2⟩ ?_
          repeat (first
            | (refine' C.wpMix_value _ rfl rfl _ _; rotate_left; (solve | (intro W; go_simp) | (intro W; go_simp; with_reducible rfl)); simp only [Act.put, List.setIfInBounds_toArray, List.set_cons_zero, List.set_cons_succ])
            | (refine' C.wpMix_read _ rfl rfl _ _; rotate_left; (solve | (rintro W ⟨h1, h2⟩; go_simp) | (rintro W ⟨h1, h2⟩; go_simp; with_reducible rfl)); simp only [Act.put, List.setIfInBounds_toArray, List.set_cons_zero, List.set_cons_succ]))
          refine C.wpMix_call 22 #[.pointer (some ⟨pA, 0, none⟩), .int .i64 xx] (by decide) rfl (by go_simp) ?_
          refine p1.out.mono ?_
          rintro e w3 ⟨rfl, f3⟩
          refine ⟨_, rfl, (fun h => by cases h), ?_⟩
          simp only [Act.put, List.setIfInBounds_toArray, List.set_cons_zero, List.set_cons_succ]
          have Pw := PD.out.no f3
          have e1 := Pw.c1
          have eb2 : w3.cell? ⟨wb, 2, none⟩ = some (.int .i64 xx) := (World.cell?_of_block (f3.block wb hwl (fun e => e))).trans hb2
          have Pd3 := Pw.no (Fr.refl _ _).drew
          have p2 := hid (RPut_full SR w3.drew pR A xx Pd3.rr HF.out)
          have PD3 := hid Pd3
          clear Pw Pd3 f3 d0 d1 hb0 hb1 hb2 p1
          repeat (first
            | (refine' C.wpMix_value _ rfl rfl _ _; rotate_left; (solve | (intro W; go_simp) | (intro W; go_simp; with_reducible rfl)); simp only [Act.put, List.setIfInBounds_toArray, List.set_cons_zero, List.set_cons_succ])
            | (refine' C.wpMix_read _ rfl rfl _ _; rotate_left; (solve | (rintro W ⟨h1, h2⟩; go_simp) | (rintro W ⟨h1, h2⟩; go_simp; with_reducible rfl)); simp only [Act.put, List.setIfInBounds_toArray, List.set_cons_zero, List.set_cons_succ]))
          refine C.wpMix_end ?_
          go_upto_region 8 with fail
          refine C.wp_region_mix [0, 0, 0, 1, 0, 1, 3, 0] (fun W => W.cell? ⟨pp, 1, none⟩ = some (.pointer (some ⟨pR, 0, none⟩)) ∧ W.cell? ⟨wb, 2, none⟩ = some (.int .i64 xx)) (by kernel_rfl) (by kernel_rfl) ⟨e1, eb2⟩ ?_
          repeat (first
            | (refine' C.wpMix_value _ rfl rfl _ _; rotate_left; (solve | (intro W; go_simp) | (intro W; go_simp; with_reducible rfl)); simp only [Act.put, List.setIfInBounds_toArray, List.set_cons_zero, List.set_cons_succ])
            | (refine' C.wpMix_read _ rfl rfl _ _; rotate_left; (solve | (rintro W ⟨h1, h2⟩; go_simp) | (rintro W ⟨h1, h2⟩; go_simp; with_reducible rfl)); simp only [Act.put, List.setIfInBounds_toArray, List.set_cons_zero, List.set_cons_succ]))
          refine C.wpMix_call 26 #[.pointer (some ⟨pR, 0, none⟩), .int .i64 xx] (by decide) rfl (by go_simp) ?_
          refine p2.out.mono ?_
          rintro e w4 ⟨rfl, rfl⟩
          refine ⟨_, rfl, (fun h => by cases h), ?_⟩
          simp only [Act.put, List.setIfInBounds_toArray, List.set_cons_zero, List.set_cons_succ]
          repeat (first
            | (refine' C.wpMix_value _ rfl rfl _ _; rotate_left; (solve | (intro W; go_simp) | (intro W; go_simp; with_reducible rfl)); simp only [Act.put, List.setIfInBounds_toArray, List.set_cons_zero, List.set_cons_succ])
            | (refine' C.wpMix_read _ rfl rfl _ _; rotate_left; (solve | (rintro W ⟨h1, h2⟩; go_simp) | (rintro W ⟨h1, h2⟩; go_simp; with_reducible rfl)); simp only [Act.put, List.setIfInBounds_toArray, List.set_cons_zero, List.set_cons_succ]))
          refine C.wpMix_end ?_
          go_wp2
          go_ret
          exact ⟨rfl, SA, SR, A, given, _, PD3.out, by omega, rfl⟩
        · have HMM := hid (show A'.most = A.most from by cases hput <;> rfl)
          have Pd := HP1.out.no (Fr.refl _ _).drew
          have p1 := Put_some SA w2.drew pA A A' pi pg xx Pd.ar hput
          have hbd := hput.bd HP1.out.ar.ok
          have hne0 : ¬ hand pi pg = 0 := by unfold hand; omega
          obtain ⟨hh, hhh⟩ : ∃ hh, hh = hand pi pg := ⟨_, rfl⟩
          unfold PutPost at p1
          rw [← hhh] at p1 hbd hne0
          have hne1 : (hh == 0) = false := by simpa using hne0
          have P1 := hid p1
          have PD := hid Pd
          have HPU := hid hput
          have HHH := hid hhh
          have HBD : RowKit.Hid (U64 hh) := hid hbd
          clear Pd hput p1 hhh hbd hne0
          go_upto_region 7 with fail
          refine C.wp_region_mix [0, 0, 0, 1, 0, 1, 3, 0, 0, 0, 0, 0] (fun W => W.cell? ⟨pp, 0, none⟩ = some (.pointer (some ⟨pA, 0, none⟩)) ∧ W.cell? ⟨wb, 2, none⟩ = some (.int .i64 xx)) (by kernel_rfl) (by kernel_rfl) ⟨d0, hb2⟩ ?_
          repeat (first
            | (refine' C.wpMix_value _ rfl rfl _ _; rotate_left; (solve | (intro W; go_simp) | (intro W; go_simp; with_reducible rfl)); simp only [Act.put, List.setIfInBounds_toArray, List.set_cons_zero, List.set_cons_succ])
            | (refine' C.wpMix_read _ rfl rfl _ _; rotate_left; (solve | (rintro W ⟨h1, h2⟩; go_simp) | (rintro W ⟨h1, h2⟩; go_simp; with_reducible rfl)); simp only [Act.put, List.setIfInBounds_toArray, List.set_cons_zero, List.set_cons_succ]))
          refine C.wpMix_call 22 #[.pointer (some ⟨pA, 0, none⟩), .int .i64 xx] (by decide) rfl (by go_simp) ?_
          refine P1.out.mono ?_
          rintro e w3 ⟨rfl, i3, f3⟩
          refine ⟨_, rfl, (fun h => by cases h), ?_⟩
          simp only [Act.put, List.setIfInBounds_toArray, List.set_cons_zero, List.set_cons_succ]
          have Pw := PD.out.arena i3 f3
          have e1 := Pw.c1
          have eb2 : w3.cell? ⟨wb, 2, none⟩ = some (.int .i64 xx) := (World.cell?_of_block (f3.block wb hwl hwA)).trans hb2
          have wl3 : wb < w3.heap.size := Nat.lt_of_lt_of_le hwl f3.size
          have Pd3 := Pw.no (Fr.refl _ _).drew
          have p2 := RPut_some SR w3.drew pR A A' pi pg xx Pd3.rr HPU.out
          unfold RPost at p2
          rw [← HHH.out] at p2
          have P2 := hid p2
          have PD3 := hid Pd3
          clear Pw Pd3 f3 i3 d0 d1 hb0 hb1 hb2 P1 p2
          repeat (first
            | (refine' C.wpMix_value _ rfl rfl _ _; rotate_left; (solve | (intro W; go_simp) | (intro W; go_simp; with_reducible rfl)); simp only [Act.put, List.setIfInBounds_toArray, List.set_cons_zero, List.set_cons_succ])
            | (refine' C.wpMix_read _ rfl rfl _ _; rotate_left; (solve | (rintro W ⟨h1, h2⟩; go_simp) | (rintro W ⟨h1, h2⟩; go_simp; with_reducible rfl)); simp only [Act.put, List.setIfInBounds_toArray, List.set_cons_zero, List.set_cons_succ]))
          refine C.wpMix_end ?_
          go_upto_region 8 with fail
          refine C.wp_region_mix [0, 0, 0, 1, 0, 1, 3, 0] (fun W => W.cell? ⟨pp, 1, none⟩ = some (.pointer (some ⟨pR, 0, none⟩)) ∧ W.cell? ⟨wb, 2, none⟩ = some (.int .i64 xx)) (by kernel_rfl) (by kernel_rfl) ⟨e1, eb2⟩ ?_
          repeat (first
            | (refine' C.wpMix_value _ rfl rfl _ _; rotate_left; (solve | (intro W; go_simp) | (intro W; go_simp; with_reducible rfl)); simp only [Act.put, List.setIfInBounds_toArray, List.set_cons_zero, List.set_cons_succ])
            | (refine' C.wpMix_read _ rfl rfl _ _; rotate_left; (solve | (rintro W ⟨h1, h2⟩; go_simp) | (rintro W ⟨h1, h2⟩; go_simp; with_reducible rfl)); simp only [Act.put, List.setIfInBounds_toArray, List.set_cons_zero, List.set_cons_succ]))
          refine C.wpMix_call 26 #[.pointer (some ⟨pR, 0, none⟩), .int .i64 xx] (by decide) rfl (by go_simp) ?_
          refine P2.out.mono ?_
          rintro e w4 ⟨rfl, i4, f4⟩
          refine ⟨_, rfl, (fun h => by cases h), ?_⟩
          simp only [Act.put, List.setIfInBounds_toArray, List.set_cons_zero, List.set_cons_succ]
          have Pw := PD3.out.twin i4 f4
          have q2 := Pw.c2
          have z2 := Pw.fz 2
          have plt := Pw.lt
          have dgp := Pw.dgp
          have PW := hid Pw
          clear Pw i4 f4 e1 eb2 P2
          repeat (first
            | (refine' C.wpMix_value _ rfl rfl _ _; rotate_left; (solve | (intro W; go_simp) | (intro W; go_simp; with_reducible rfl)); simp only [Act.put, List.setIfInBounds_toArray, List.set_cons_zero, List.set_cons_succ])
            | (refine' C.wpMix_read _ rfl rfl _ _; rotate_left; (solve | (rintro W ⟨h1, h2⟩; go_simp) | (rintro W ⟨h1, h2⟩; go_simp; with_reducible rfl)); simp only [Act.put, List.setIfInBounds_toArray, List.set_cons_zero, List.set_cons_succ]))
          refine C.wpMix_end ?_
          go_wp2_with (at_builtin; refine wpList_append_lies _ (o := ⟨some 79, _, _, _, _, _⟩) rfl (.tmp 76) (.tmp 78) 37 rfl w0.heap.size 34 i0 (.int .u64 0) 1 8 Try.underlying37 hi'.out hz0'.out hz1'.out hz2'.out rfl (by decide) _ given.length _ rfl (PW.out.gr.alloc _) ⟨w4.heap.size, 0, none⟩ 1 1 [.int .u64 hh] rfl rfl (one_news _ _ _ _ rfl) (by simp [Value.oneCell']) (by decide) (by unfold maxLen; omega) (by omega) (by have := PW.out.below.size; simp; omega) (w4.heap.size + 1) (by simp) ?_; intro g5 k5 w5 hown5 hgrow5 hat5 hlt5; have hb5 : w5.heap[pp]? = w4.heap[pp]? := (by rw [hgrow5.block pp (by simp; omega) (fun e => dgp e.symm)]; exact Below.heap_alloc _ _ _ plt); have q25 := (World.cell?_of_block (a := ⟨pp, 2, none⟩) hb5).trans q2; have z25 : w5.frozen? ⟨pp, 2, none⟩ = false := (World.frozen?_of_block (a := ⟨pp, 2, none⟩) hb5).trans z2; have HO5 := hid hown5; have HG5 := hid hgrow5; have HA5 := hid hat5; clear hown5 hgrow5 hat5 hb5 q2 z2)
          have hgive := PW.out.give HBD.out HO5.out HG5.out HA5.out
          have HGV := hid hgive
          clear hgive
          go_ret
          exact ⟨rfl, _, _, A', given ++ [hh], _, HGV.out, by simp, HMM.out⟩
      · have hc := hid (Get_stale SA w2 pA A hd HP1.out.ar HS.out hd0 hd1)
        go_wp2_with (refine hc.out.mono ?_; rintro e w' ⟨rfl, rfl⟩)
        go_ret
        exact ⟨rfl, SA, SR, A, given, _, HP1.out, by omega, rfl⟩
      · have Pd := HP1.out.no (Fr.refl _ _).drew
        have hc := hid (Set_stale SA w2.drew pA A hd xx Pd.ar HS.out hd0 hd1)
        have PD := hid Pd
        clear Pd
        go_upto_region 18 with fail
        refine C.wp_region_mix [0, 0, 0, 1, 0, 0, 1, 3, 0] (fun W => W.cell? ⟨pp, 0, none⟩ = some (.pointer (some ⟨pA, 0, none⟩)) ∧ W.cell? ⟨wb, 2, none⟩ = some (.int .i64 xx)) (by kernel_rfl) (by kernel_rfl) ⟨d0, hb2⟩ ?_
        repeat (first
          | (refine' C.wpMix_value _ rfl rfl _ _; rotate_left; (solve | (intro W; go_simp) | (intro W; go_simp; with_reducible rfl)); simp only [Act.put, List.setIfInBounds_toArray, List.set_cons_zero, List.set_cons_succ])
          | (refine' C.wpMix_read _ rfl rfl _ _; rotate_left; (solve | (rintro W ⟨h1, h2⟩; go_simp) | (rintro W ⟨h1, h2⟩; go_simp; with_reducible rfl)); simp only [Act.put, List.setIfInBounds_toArray, List.set_cons_zero, List.set_cons_succ]))
        refine C.wpMix_call 25 #[.pointer (some ⟨pA, 0, none⟩), .int .u64 hd, .int .i64 xx] (by decide) rfl (by go_simp) ?_
        refine hc.out.mono ?_
        rintro e w3 ⟨rfl, rfl⟩
        refine ⟨_, rfl, (fun h => by cases h), ?_⟩
        simp only [Act.put, List.setIfInBounds_toArray, List.set_cons_zero, List.set_cons_succ]
        repeat (first
          | (refine' C.wpMix_value _ rfl rfl _ _; rotate_left; (solve | (intro W; go_simp) | (intro W; go_simp; with_reducible rfl)); simp only [Act.put, List.setIfInBounds_toArray, List.set_cons_zero, List.set_cons_succ])
          | (refine' C.wpMix_read _ rfl rfl _ _; rotate_left; (solve | (rintro W ⟨h1, h2⟩; go_simp) | (rintro W ⟨h1, h2⟩; go_simp; with_reducible rfl)); simp only [Act.put, List.setIfInBounds_toArray, List.set_cons_zero, List.set_cons_succ]))
        refine C.wpMix_end ?_
        go_wp2
        go_ret
        exact ⟨rfl, SA, SR, A, given, _, PD.out, by omega, rfl⟩
      · have hc := hid (Drop_stale SA w2 pA A hd HP1.out.ar HS.out hd0 hd1)
        go_wp2_with (refine hc.out.mono ?_; rintro e w' ⟨rfl, rfl⟩)
        go_ret
        exact ⟨rfl, SA, SR, A, given, _, HP1.out, by omega, rfl⟩

end Go.Proofs.Ytfmkfnkmhmobpaa
