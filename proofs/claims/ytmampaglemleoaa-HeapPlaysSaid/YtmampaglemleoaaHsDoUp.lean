/-
  An act done to a heap and to its plain twin: Up. (Written by wip/tools/genhsdo.py.)
-/
import Derived.Test.YtmampaglemleoaaHsH
namespace Go.Proofs.Ytmampaglemleoaa
open Go Go.ChangeShapes Go.WideShapes Go.ChangeAt Go.RowKit Go.Maps

set_option maxHeartbeats 8000000 in
set_option maxRecDepth 100000 in
theorem HsDo_Up (w0 w : World) (pp m : Nat) (vT vX gv : Value) (S1 S2 : Nat → Prop) (s : Hs) (G : List Int) (x : HAct) (h : HsP w0 pp vT vX S1 S2 s s G gv w) (hx : HActOk x) (hm : m ≤ 300) (hg : G.length ≤ m) {km : Nat} (hmost : s.A.most = km) (hq : x.kind % 11 = 3 ∨ x.kind % 11 = 4) :
    Calls Try.prog 14 #[.pointer (some ⟨pp, 0, none⟩), .agg (acc x).toArray] w (HDoPost w0 pp vT vX (m + 1) km) := by
  obtain ⟨xk, xa, xh, xx, xr⟩ := x
  simp only [HActOk] at hx
  simp only at hq
  have HOKX := hid (show HActOk ⟨xk, xa, xh, xx, xr⟩ from hx)
  obtain ⟨hk, ha, hh, hxx, hr⟩ := hx
  obtain ⟨wb, hwb⟩ : ∃ wb, wb = w.heap.size := ⟨_, rfl⟩
  obtain ⟨w1, hw1⟩ : ∃ w1, w1 = w.alloc (.cells (acc ⟨xk, xa, xh, xx, xr⟩).toArray 36) := ⟨_, rfl⟩
  have hbx : InA w1 wb ⟨xk, xa, xh, xx, xr⟩ := by unfold InA; rw [hw1, hwb]; exact heap_alloc_new _ _
  have HP1 := hid (h.no (w' := w1) (by rw [hw1]; exact (Fr.refl _ _).alloc _))
  have HW1 := hid hw1
  have HWB := hid hwb
  have hb0 := hbx.c0
  have hb1 := hbx.c1
  have hb2 := hbx.c2
  have hb3 := hbx.c3
  have hb4 := hbx.c4
  have hwS : (¬ S1 wb ∧ ¬ S2 wb) ∧ wb ≠ pp ∧ gv.ownBlock ≠ some wb := ⟨⟨fun e => by have := h.t.lt wb e; omega, fun e => by have := h.x.lt wb e; omega⟩, fun e => by have := h.lt; omega, fun e => by have := (h.g.own.lt wb e).2; omega⟩
  have HWS := hid hwS
  have HGL := hid hg
  have HM := hid hmost
  have HML := hid hm
  have HGV := hid (given_any HP1.out (by omega) hh)
  have HBX := hid hbx
  have HA := hid ha
  have HX := hid hxx
  have HKK := hid hk
  clear hwS h hw1 hwb hg hm hmost hbx hh ha hxx hk
  simp only at hb0 hb1 hb2 hb3 hb4 HGV HA HX HKK hr
  by_cases hr0 : xr = 0
  case' neg =>
    have hne : (xr == 0) = false := by simpa using hr0
    obtain ⟨hd, hhd⟩ : ∃ hd, hd = xr := ⟨_, rfl⟩
    have HDU := hid (show Hn hd by rw [hhd]; exact hr)
    clear HGV hr hr0
    go_enter Try.func14, Try.ntmps14
    go_upto_region 1 with fail
    rw [← HW1.out, ← HWB.out]
    go_upto_region 4 with fail
    rw [← hhd]
    obtain ⟨w2, hw2⟩ : ∃ w2, w2 = w1 := ⟨_, rfl⟩
    rw [← hw2] at HP1 hb0 hb1 hb2 hb3 HBX ⊢
    clear hw2 hne hb4 HW1 HWB hhd
  case' pos =>
    have hne : (xr == 0) = true := by simpa using hr0
    clear hr hr0
    go_enter Try.func14, Try.ntmps14
    go_upto_region 1 with fail
    rw [← HW1.out, ← HWB.out]
    go_wp2_with fail
    refine HGV.out.mono ?_
    rintro e w2 ⟨hd, hdu, rfl, hf2⟩
    have HDU := hid hdu
    replace HP1 := hid (HP1.out.no hf2)
    replace HBX : RowKit.Hid (InA w2 wb ⟨xk, xa, xh, xx, xr⟩) := hid ((hf2.block wb (Array.getElem?_eq_some_iff.1 HBX.out).1 (fun e => e)).trans HBX.out)
    replace hb0 := HBX.out.c0
    replace hb1 := HBX.out.c1
    replace hb2 := HBX.out.c2
    replace hb3 := HBX.out.c3
    simp only at hb0 hb1 hb2 hb3
    clear hdu hf2 hne hb4 HW1 HWB HGV
  all_goals
    obtain ⟨pt, hpt⟩ := HP1.out.t.ptr
    obtain ⟨px, hpx⟩ := HP1.out.x.ptr
    have d0 := HP1.out.c0
    have d1 := HP1.out.c1
    have HPK := hid (Pick_any xk 11 w2 HKK.out (by decide) (by decide))
    rw [hpt] at d0
    rw [hpx] at d1
    have HPT := hid hpt
    have HPX := hid hpx
    clear hpt hpx
    go_wp2_with fail
    refine HPK.out.mono ?_
    rintro e w' ⟨rfl, rfl⟩
    clear HPK
    rcases hq with q | q
    all_goals
      rw [q]
      clear q
      have HO := hid (HUp_any S1 _ vT s hd HP1.out.t HDU.out)
      rw [HPT.out] at HO
      go_wp2_with fail
      refine HO.out.mono ?_
      rintro e w3 ⟨hf3, s3, n3, er, rfl, hup, hR3⟩
      rw [← HPT.out] at hR3
      have hP3 := HP1.out.tab hf3 hR3
      have e1 := hP3.c1
      rw [HPX.out] at e1
      have HP3 := hid hP3
      have HX := hid (RfUp_any S2 w3 vX s hd hP3.x)
      rw [HPX.out] at HX
      have HUP := hid hup
      have HM3 := hid (hup.most HM.out)
      clear hf3 hR3 hP3 hup HO d0 d1 hb0 hb1 hb2 hb3
      go_wp2_with fail
      refine HX.out.mono ?_
      rintro e w4 ⟨hf4, s4, n4, er4, rfl, hup4, hR4⟩
      obtain ⟨rfl, rfl, rfl⟩ := UpR.same HUP.out hup4
      rw [← HPX.out] at hR4
      have HP4 := hid (HP3.out.twin hf4 hR4)
      clear hf4 hR4 hup4 HX HP3 HP1 HUP e1
      go_wp2
      go_ret
      exact ⟨rfl, _, _, _, _, _, HP4.out, by have := HGL.out; omega, HM3.out⟩
end Go.Proofs.Ytmampaglemleoaa
