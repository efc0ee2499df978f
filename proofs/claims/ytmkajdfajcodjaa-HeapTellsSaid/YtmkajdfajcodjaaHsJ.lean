/-
  Is all that is told of a heap and of its plain twin the same?
-/
import Derived.Test.YtmkajdfajcodjaaHsI
import Derived.Test.YtmkajdfajcodjaaHpE
import Derived.Test.YtmkajdfajcodjaaMixD
namespace Go.Proofs.Ytmkajdfajcodjaa
open Go Go.ChangeShapes Go.WideShapes Go.ChangeAt Go.RowKit Go.Maps

theorem linksOf_some {L : HL} {h : Int} {o : Ob} (e : fnd L h = some o) : linksOf L h = o.links := by unfold linksOf; rw [e]
theorem linksOf_none {L : HL} {h : Int} (e : fnd L h = none) : linksOf L h = [] := by unfold linksOf; rw [e]
theorem allA_len {A : Ar} (h : Ok A) (hm : A.most ≤ 256) : (allA A).length ≤ 256 := by
  unfold allA
  rw [List.length_map]
  have h1 := List.length_filter_le (fun p : Spot × Nat => p.1.t) A.L.zipIdx
  rw [List.length_zipIdx] at h1
  have h2 := h.len
  omega
/-- Between two handles. -/
def AkI (w0 w : World) (pp : Nat) (vT vX : Value) (S1 S2 : Nat → Prop) (s : Hs) (G : List Int) (gv : Value) (W : World) : Prop := HsP w0 pp vT vX S1 S2 s s G gv W ∧ Below w.heap.size w W
theorem AkI.no {w0 w W W' : World} {pp : Nat} {vT vX gv : Value} {S1 S2 : Nat → Prop} {s : Hs} {G : List Int} (h : AkI w0 w pp vT vX S1 S2 s G gv W) (hb : Below W.heap.size W W') : AkI w0 w pp vT vX S1 S2 s G gv W' :=
  ⟨h.1.no (Fr.of_below hb), h.2.trans (hb.mono h.2.size)⟩
section
variable {w0 w : World} {pp : Nat} {vT vX gv : Value} {S1 S2 : Nat → Prop} {s : Hs} {G : List Int}
set_option maxRecDepth 100000 in
set_option maxHeartbeats 8000000 in
theorem alike_any (h : HsP w0 pp vT vX S1 S2 s s G gv w) (hg : G.length ≤ 1000) (hm : s.A.most ≤ 256) :
    Calls Try.prog 15 #[.pointer (some ⟨pp, 0, none⟩)] w fun e w' => e = .returned (.bool true) ∧ Below w.heap.size w w' := by
  obtain ⟨pt, hpt⟩ := h.t.ptr
  obtain ⟨px, hpx⟩ := h.x.ptr
  have d0 := h.c0
  have d1 := h.c1
  rw [hpt] at d0
  rw [hpx] at d1
  have hx := h.x
  rw [hpx] at hx
  obtain ⟨pa, hpxl, hpa, hall⟩ := hx.all
  have hwd : Below w.heap.size w w.drew := (Below.refl _ _).drew
  have hA := (heapC w).all S1 w.drew vT s 999 hwd ((h.no (Fr.of_below hwd)).t) (by omega)
  rw [List.take_of_length_le (by have := allA_len h.t.hsi.ok.aok hm; omega), hpt] at hA
  have HA := hid hA
  have HALL := hid hall
  have HI := hid (show AkI w0 w pp vT vX S1 S2 s G gv w from ⟨h, Below.refl _ _⟩)
  have HPT := hid hpt
  have HPX := hid hpx
  have HG := hid hg
  have hppl := h.lt
  have HPL := hid hppl
  have HPXL := hid hpxl
  clear hpt hpx h hg hm hx hall hA hwd hppl hpxl
  go_enter Try.func15, Try.ntmps15
  go_upto_region 1 with fail
  refine D.wp_region_mix [0, 0, 0, 1, 2, 0, 0, 0, 1, 0, 0, 1, 2, 2, 0] (fun W => W.cell? ⟨pp, 0, none⟩ = some (.pointer (some ⟨pt, 0, none⟩)) ∧ W.cell? ⟨pp, 1, none⟩ = some (.pointer (some ⟨px, 0, none⟩)) ∧ W.cell? ⟨px, 1, none⟩ = some (.pointer (some ⟨pa, 0, none⟩))) (by kernel_rfl) (by kernel_rfl) ⟨d0, d1, hpa⟩ ?_
  repeat (first
    | (refine' C.wpMix_value _ rfl rfl _ _; rotate_left; (solve | (intro W; go_simp) | (intro W; go_simp; with_reducible rfl)); simp only [Act.put, List.setIfInBounds_toArray, List.set_cons_zero, List.set_cons_succ])
    | (refine' C.wpMix_read _ rfl rfl _ _; rotate_left; (solve | (rintro W ⟨h1, h2, h3⟩; go_simp) | (rintro W ⟨h1, h2, h3⟩; go_simp; with_reducible rfl)); simp only [Act.put, List.setIfInBounds_toArray, List.set_cons_zero, List.set_cons_succ]))
  refine C.wpMix_call 22 #[.pointer (some ⟨pt, 0, none⟩), .int .i64 999] (by decide) rfl (by go_simp) ?_
  refine HA.out.mono ?_
  rintro e w1 ⟨hb1, v1, rfl, t1⟩
  have hc1 : w1.cell? ⟨pp, 0, none⟩ = some (.pointer (some ⟨pt, 0, none⟩)) ∧ w1.cell? ⟨pp, 1, none⟩ = some (.pointer (some ⟨px, 0, none⟩)) ∧ w1.cell? ⟨px, 1, none⟩ = some (.pointer (some ⟨pa, 0, none⟩)) :=
    ⟨(hb1.cell (p := ⟨pp, 0, none⟩) (show pp < w.drew.heap.size from HPL.out)).trans d0, (hb1.cell (p := ⟨pp, 1, none⟩) (show pp < w.drew.heap.size from HPL.out)).trans d1, (hb1.cell (p := ⟨px, 1, none⟩) (show px < w.drew.heap.size from HPXL.out)).trans hpa⟩
  refine ⟨_, rfl, fun _ => hc1, ?_⟩
  simp only [Act.put, List.setIfInBounds_toArray, List.set_cons_zero, List.set_cons_succ]
  have HI1 := hid (HI.out.no (W' := w1) ((Below.refl w.heap.size w).drew.trans hb1))
  have HR := hid (HALL.out w1 (Fr.of_below ((Below.refl w.heap.size w).drew.trans hb1)))
  have T1 := hid t1
  have HC1 := hid hc1
  clear hb1 t1 hc1
  repeat (first
    | (refine' C.wpMix_value _ rfl rfl _ _; rotate_left; (solve | (intro W; go_simp) | (intro W; go_simp; with_reducible rfl)); simp only [Act.put, List.setIfInBounds_toArray, List.set_cons_zero, List.set_cons_succ])
    | (refine' C.wpMix_read _ rfl rfl _ _; rotate_left; (solve | (rintro W ⟨h1, h2, h3⟩; go_simp) | (rintro W ⟨h1, h2, h3⟩; go_simp; with_reducible rfl)); simp only [Act.put, List.setIfInBounds_toArray, List.set_cons_zero, List.set_cons_succ]))
  refine C.wpMix_call 21 #[.pointer (some ⟨pa, 0, none⟩)] (by decide) rfl (by go_simp) ?_
  refine HR.out.mono ?_
  rintro e w2 ⟨hb2, v2, rfl, t2⟩
  have hpl1 : pp < w1.heap.size := HI1.out.1.lt
  have hc2 : w2.cell? ⟨pp, 0, none⟩ = some (.pointer (some ⟨pt, 0, none⟩)) ∧ w2.cell? ⟨pp, 1, none⟩ = some (.pointer (some ⟨px, 0, none⟩)) ∧ w2.cell? ⟨px, 1, none⟩ = some (.pointer (some ⟨pa, 0, none⟩)) :=
    ⟨(hb2.cell (p := ⟨pp, 0, none⟩) hpl1).trans HC1.out.1, (hb2.cell (p := ⟨pp, 1, none⟩) hpl1).trans HC1.out.2.1, (hb2.cell (p := ⟨px, 1, none⟩) (Nat.lt_of_lt_of_le HPXL.out HI1.out.2.size)).trans HC1.out.2.2⟩
  refine ⟨_, rfl, fun _ => hc2, ?_⟩
  simp only [Act.put, List.setIfInBounds_toArray, List.set_cons_zero, List.set_cons_succ]
  have HI2 := hid (HI1.out.no hb2)
  have HS := hid (SameLongs_told w2 v1 v2 _ (T1.out.below hb2) t2)
  have HC2 := hid hc2
  clear hb2 t2 hpl1 hc2 T1 HC1 HI1 HR
  refine C.wpMix_call 20 #[v1, v2] (by decide) rfl (by go_simp) ?_
  refine HS.out.mono ?_
  rintro e w3 ⟨rfl, hb3⟩
  have hpl2 : pp < w2.heap.size := HI2.out.1.lt
  have hc3 : w3.cell? ⟨pp, 0, none⟩ = some (.pointer (some ⟨pt, 0, none⟩)) ∧ w3.cell? ⟨pp, 1, none⟩ = some (.pointer (some ⟨px, 0, none⟩)) ∧ w3.cell? ⟨px, 1, none⟩ = some (.pointer (some ⟨pa, 0, none⟩)) :=
    ⟨(hb3.cell (p := ⟨pp, 0, none⟩) hpl2).trans HC2.out.1, (hb3.cell (p := ⟨pp, 1, none⟩) hpl2).trans HC2.out.2.1, (hb3.cell (p := ⟨px, 1, none⟩) (Nat.lt_of_lt_of_le HPXL.out HI2.out.2.size)).trans HC2.out.2.2⟩
  refine ⟨_, rfl, fun _ => hc3, ?_⟩
  simp only [Act.put, List.setIfInBounds_toArray, List.set_cons_zero, List.set_cons_succ]
  have HI3 := hid (HI2.out.no hb3)
  clear hb3 hpl2 hc3 HC2 HI2 HS d0 d1 hpa HA HALL
  repeat (first
    | (refine' C.wpMix_value _ rfl rfl _ _; rotate_left; (solve | (intro W; go_simp) | (intro W; go_simp; with_reducible rfl)); simp only [Act.put, List.setIfInBounds_toArray, List.set_cons_zero, List.set_cons_succ])
    | (refine' C.wpMix_read _ rfl rfl _ _; rotate_left; (solve | (rintro W ⟨h1, h2, h3⟩; go_simp) | (rintro W ⟨h1, h2, h3⟩; go_simp; with_reducible rfl)); simp only [Act.put, List.setIfInBounds_toArray, List.set_cons_zero, List.set_cons_succ]))
  refine C.wpMix_end ?_
  obtain ⟨ga, gk, hgv, hgk1, hgk2, hgf⟩ := HI3.out.1.g.form
  subst hgv
  by_cases hn0 : 0 < G.length
  · obtain ⟨g, hgg, _⟩ := hgf hn0
    subst hgg
    obtain ⟨n, hn⟩ : ∃ n, n = G.length := ⟨_, rfl⟩
    have HN := hid hn
    have hgl := HG.out
    rw [← hn] at hgl hgk1
    clear hn hgf hn0
    go_wp2
    go_loopw [3] (fun i wr => ∃ k : Nat, k ≤ n ∧ i = .int .i64 k ∧ RowKit.Hid (AkI w0 w pp vT vX S1 S2 s G (.slice (some ⟨g, 0, none⟩) G.length gk) wr)) (fun i _ => n - (intOf i).toNat)
    case atStart => exact ⟨0, Nat.zero_le _, rfl, HI3⟩
    case round =>
      obtain ⟨k, hk, rfl, HR⟩ := hrel
      clear HI3
      have c0 := HR.out.1.c0
      have c1 := HR.out.1.c1
      have c2 := HR.out.1.c2
      rw [HPT.out] at c0
      rw [HPX.out] at c1
      rw [← HN.out] at c2
      by_cases hkn : k < n
      · have hkG : k < G.length := by have := HN.out; omega
        have hcg := HR.out.1.g.cell rfl (List.getElem?_eq_getElem hkG)
        have hu := HR.out.1.gu _ (List.getElem_mem hkG)
        generalize G[k] = hd at hcg hu
        have HU := hid hu
        clear hu hkG
        have hcg2 : wr.cell? ⟨g, k, none⟩ = some (.int .u64 hd) := hcg
        clear hcg
        have HF := hid (RfFind_any S2 wr vX s hd HR.out.1.x)
        have HV := hid (HValue_any HR.out.1.t HU.out)
        have HL := hid (lnC wr S1 wr vT s hd 99 (Below.refl _ _) HR.out.1.t HU.out (by omega))
        rw [HPX.out] at HF
        rw [HPT.out] at HV HL
        go_wp2_with fail
        refine HF.out.mono ?_
        rintro e w4 ⟨rfl, ⟨hno, rfl⟩ | ⟨o, b, sv, iv, hfo, rfl, hSb, hblk, hown, _⟩⟩
        · rw [hno] at HV
          have HW := hid (HWhole_none HR.out.1.t hno HU.out)
          rw [linksOf_none hno, List.take_nil] at HL
          rw [HPT.out] at HW
          have HNO := hid hno
          clear hno HF
          go_wp2_with fail
          refine HV.out.mono ?_
          rintro e w4 ⟨rfl, rfl⟩
          go_wp2_with fail
          refine HW.out.mono ?_
          rintro e w4 ⟨rfl, rfl⟩
          go_wp2_with fail
          refine HL.out.mono ?_
          rintro e w4 ⟨hb4, v4, rfl, t4⟩
          obtain ⟨a4, k4, rfl, _⟩ := t4.ex
          have HR4 := hid (HR.out.no hb4)
          have HC := hid (HCount_none HR4.out.1.t HNO.out HU.out)
          have e0 := HR4.out.1.c0
          rw [HPT.out] at HC e0
          clear hb4 t4 HR HV HW HL c0 c1 c2 hcg2
          simp only [List.length_nil]
          go_wp2_with fail
          refine HC.out.mono ?_
          rintro e w5 ⟨rfl, rfl⟩
          go_wp2
          go_roundw
          case rel => exact ⟨k + 1, by omega, by go_num, HR4⟩
          case measure => simp [intOf]; omega
        · obtain ⟨x, hwx⟩ : ∃ x, whl s.L hd = some x := by
            cases hw : whl s.L hd with
            | none => rw [(whl_none HR.out.1.t.hsi.inv).1 hw] at hfo; cases hfo
            | some x => exact ⟨x, rfl⟩
          have hl8 := (HR.out.1.t.hsi.inv.lnk o (fnd_some hfo).1).1
          rw [hfo] at HV
          have HW := hid (HWhole_some HR.out.1.t hwx)
          rw [linksOf_some hfo, List.take_of_length_le (by omega)] at HL
          rw [HPT.out] at HW
          have HWX := hid hwx
          have HBL := hid hblk
          have HOW := hid hown
          clear hfo hwx HF hSb hblk hown
          go_wp2_with fail
          refine HV.out.mono ?_
          rintro e w4 ⟨rfl, rfl⟩
          go_wp2_with fail
          refine HW.out.mono ?_
          rintro e w4 ⟨rfl, rfl⟩
          go_wp2_with fail
          refine HL.out.mono ?_
          rintro e w4 ⟨hb4, v4, rfl, t4⟩
          obtain ⟨a4, k4, rfl, hk4, hk4m, hat4⟩ := t4.ex
          have HR4 := hid (HR.out.no hb4)
          have hbl4 : w4.heap[b]? = some (.cells #[.int .u64 o.h, .int .u64 o.outer, .int .u32 o.count, .int .i64 o.value, sv, iv] 101 (0, 0)) := (hb4.block b (Array.getElem?_eq_some_iff.1 HBL.out).1).trans HBL.out
          have HBB := hid (Array.getElem?_eq_some_iff.1 hbl4).1
          have HOW4 := hid ((Fr.of_below (fp := fun _ => False) hb4).owns HOW.out (fun _ _ e => e))
          obtain ⟨a5, k5, rfl⟩ := own_form HOW.out
          have hk5 := own_cap HOW.out
          have HAT4 := hid hat4
          have e0 := HR4.out.1.c0
          have e1 := HR4.out.1.c1
          rw [HPT.out] at e0
          rw [HPX.out] at e1
          have b3 : w4.cell? ⟨b, 3, none⟩ = some (.int .i64 o.value) := by rw [cell_of_row w4 b 3 _ _ _ hbl4]; rfl
          have b4 : w4.cell? ⟨b, 4, none⟩ = some (.slice a5 o.links.length k5) := by rw [cell_of_row w4 b 4 _ _ _ hbl4]; rfl
          have HRd := hid (HR4.out.no (W' := w4.drew) (Below.refl _ _).drew)
          obtain ⟨b', q0, q2, htw⟩ := RfWhole_some HRd.out.1.x HWX.out
          have q0' : w4.cell? ⟨b', 0, none⟩ = some (.int .u64 x.h) := q0
          have q2' : w4.cell? ⟨b', 2, none⟩ = some (.int .u32 x.count) := q2
          have HTW := hid htw
          have HC := hid (HCount_some HRd.out.1.t HWX.out)
          rw [HPX.out] at HTW
          rw [HPT.out] at HC
          clear hb4 t4 HR HV HW HL c0 c1 c2 hcg2 hat4 hbl4 q0 q2 htw HBL HOW HR4
          go_upto_region 14 with fail
          refine D.wp_region_mix [0, 0, 0, 0, 1, 0, 0, 0, 0, 0, 0, 0, 0, 0, 0, 0, 0, 0, 0, 1, 0, 2, 0, 0, 1, 0, 0, 0, 0, 0, 0, 1, 0, 2, 0, 0, 0, 1, 0, 2, 0, 0, 1, 0, 0, 0, 0, 0, 0, 0, 0, 1, 0, 0, 0] (fun W => W.cell? ⟨pp, 0, none⟩ = some (.pointer (some ⟨pt, 0, none⟩)) ∧ W.cell? ⟨pp, 1, none⟩ = some (.pointer (some ⟨px, 0, none⟩)) ∧ W.cell? ⟨b, 3, none⟩ = some (.int .i64 o.value) ∧ W.cell? ⟨b, 4, none⟩ = some (.slice a5 o.links.length k5) ∧ W.cell? ⟨b', 0, none⟩ = some (.int .u64 x.h) ∧ W.cell? ⟨b', 2, none⟩ = some (.int .u32 x.count)) (by kernel_rfl) (by kernel_rfl) ⟨e0, e1, b3, b4, q0', q2'⟩ ?_
          repeat (first
            | (refine' C.wpMix_value _ rfl rfl _ _; rotate_left; (solve | (intro W; go_simp) | (intro W; go_simp; with_reducible rfl)); simp only [Act.put, List.setIfInBounds_toArray, List.set_cons_zero, List.set_cons_succ])
            | (refine' C.wpMix_read _ rfl rfl _ _; rotate_left; (solve | (rintro W ⟨h1, h2, h3, h4, h5, h6⟩; go_simp) | (rintro W ⟨h1, h2, h3, h4, h5, h6⟩; go_simp; with_reducible rfl)); simp only [Act.put, List.setIfInBounds_toArray, List.set_cons_zero, List.set_cons_succ]))
          refine C.wpMix_call 44 #[.pointer (some ⟨px, 0, none⟩), .int .u64 hd] (by decide) rfl (by go_simp) ?_
          refine HTW.out.mono ?_
          rintro e w5 ⟨rfl, rfl⟩
          refine ⟨_, rfl, fun _ => ⟨e0, e1, b3, b4, q0', q2'⟩, ?_⟩
          simp only [Act.put, List.setIfInBounds_toArray, List.set_cons_zero, List.set_cons_succ]
          repeat (first
            | (refine' C.wpMix_value _ rfl rfl _ _; rotate_left; (solve | (intro W; go_simp) | (intro W; go_simp; with_reducible rfl)); simp only [Act.put, List.setIfInBounds_toArray, List.set_cons_zero, List.set_cons_succ])
            | (refine' C.wpMix_read _ rfl rfl _ _; rotate_left; (solve | (rintro W ⟨h1, h2, h3, h4, h5, h6⟩; go_simp) | (rintro W ⟨h1, h2, h3, h4, h5, h6⟩; go_simp; with_reducible rfl)); simp only [Act.put, List.setIfInBounds_toArray, List.set_cons_zero, List.set_cons_succ]))
          refine C.wpMix_call 26 #[.pointer (some ⟨pt, 0, none⟩), .int .u64 hd] (by decide) rfl (by go_simp) ?_
          refine HC.out.mono ?_
          rintro e w5 ⟨rfl, rfl⟩
          refine ⟨_, rfl, fun _ => ⟨e0, e1, b3, b4, q0', q2'⟩, ?_⟩
          simp only [Act.put, List.setIfInBounds_toArray, List.set_cons_zero, List.set_cons_succ]
          repeat (first
            | (refine' C.wpMix_value _ rfl rfl _ _; rotate_left; (solve | (intro W; go_simp) | (intro W; go_simp; with_reducible rfl)); simp only [Act.put, List.setIfInBounds_toArray, List.set_cons_zero, List.set_cons_succ])
            | (refine' C.wpMix_read _ rfl rfl _ _; rotate_left; (solve | (rintro W ⟨h1, h2, h3, h4, h5, h6⟩; go_simp) | (rintro W ⟨h1, h2, h3, h4, h5, h6⟩; go_simp; with_reducible rfl)); simp only [Act.put, List.setIfInBounds_toArray, List.set_cons_zero, List.set_cons_succ]))
          refine C.wpMix_call 44 #[.pointer (some ⟨px, 0, none⟩), .int .u64 hd] (by decide) rfl (by go_simp) ?_
          refine HTW.out.mono ?_
          rintro e w5 ⟨rfl, rfl⟩
          refine ⟨_, rfl, fun _ => ⟨e0, e1, b3, b4, q0', q2'⟩, ?_⟩
          simp only [Act.put, List.setIfInBounds_toArray, List.set_cons_zero, List.set_cons_succ]
          repeat (first
            | (refine' C.wpMix_value _ rfl rfl _ _; rotate_left; (solve | (intro W; go_simp) | (intro W; go_simp; with_reducible rfl)); simp only [Act.put, List.setIfInBounds_toArray, List.set_cons_zero, List.set_cons_succ])
            | (refine' C.wpMix_read _ rfl rfl _ _; rotate_left; (solve | (rintro W ⟨h1, h2, h3, h4, h5, h6⟩; go_simp) | (rintro W ⟨h1, h2, h3, h4, h5, h6⟩; go_simp; with_reducible rfl)); simp only [Act.put, List.setIfInBounds_toArray, List.set_cons_zero, List.set_cons_succ]))
          refine C.wpMix_end ?_
          clear e0 e1 b3 q0' q2' HTW HC HWX
          by_cases hl0 : 0 < o.links.length
          · obtain ⟨b5, o5, rfl, hlt5, hat5⟩ := HAT4.out hl0
            obtain ⟨gs, ks, hgs, _⟩ := HOW4.out.form hl0
            cases hgs
            have HAT5 := hid hat5
            have HLT5 := hid hlt5
            have hgsl := (HOW4.out.lt gs rfl).2
            have HGSL := hid hgsl
            obtain ⟨nl, hnl⟩ : ∃ nl, nl = o.links.length := ⟨_, rfl⟩
            rw [← hnl] at b4 ⊢
            have HNL := hid hnl
            have hnk : nl ≤ k4 ∧ nl ≤ k5 ∧ nl ≤ 8 := by omega
            obtain ⟨hnk4, hnk5, hn8⟩ := hnk
            have B4 := hid b4
            have HI0 := hid (show AkI w0 w pp vT vX S1 S2 s G (.slice (some ⟨g, 0, none⟩) G.length gk) w4.drew ∧ Below w4.heap.size w4 w4.drew from ⟨HRd.out, (Below.refl _ _).drew⟩)
            clear hat5 hlt5 hgsl hnl HAT4 HRd hk4 hk4m hk5 hl0 hl8 b4
            go_wp2
            go_loopw [11] (fun i wq => ∃ j : Nat, j ≤ nl ∧ i = .int .i64 j ∧ RowKit.Hid (AkI w0 w pp vT vX S1 S2 s G (.slice (some ⟨g, 0, none⟩) G.length gk) wq ∧ Below w4.heap.size w4 wq)) (fun i _ => nl - (intOf i).toNat)
            case atStart => exact ⟨0, Nat.zero_le _, rfl, HI0⟩
            case round =>
              clear HI0
              obtain ⟨j, hj, rfl, HRj⟩ := hrel
              by_cases hjn : j < nl
              · have hy : o.links[j]? = some (o.links[j]'(by have := HNL.out; omega)) := List.getElem?_eq_getElem _
                generalize o.links[j]'(by have := HNL.out; omega) = y at hy
                have f4 := (HRj.out.2.cell (p := ⟨b, 4, none⟩) HBB.out).trans B4.out
                obtain ⟨a0, a1⟩ := HAT5.out j y hy
                have g0 := (HRj.out.2.cell (p := ⟨b5, o5 + j * 2, none⟩) HLT5.out).trans a0
                have g1 := (HRj.out.2.cell (p := ⟨b5, o5 + j * 2 + 1, none⟩) HLT5.out).trans a1
                have hjl : j < o.links.length := (List.getElem?_eq_some_iff.1 hy).1
                have r0 := HOW4.out.cellAt (j * 2) (by omega)
                have r1 := HOW4.out.cellAt (j * 2 + 1) (by omega)
                rw [(lkv_at _ _ _ hy).1] at r0
                rw [(lkv_at _ _ _ hy).2] at r1
                have p0 := (HRj.out.2.cell (p := ⟨gs, j * 2, none⟩) HGSL.out).trans r0
                have p1 := (HRj.out.2.cell (p := ⟨gs, j * 2 + 1, none⟩) HGSL.out).trans r1
                clear a0 a1 r0 r1 hy hjl
                go_wp2
                go_quiet (fail)
                go_wp2
                refine ⟨⟨j + 1, Nat.succ_le_of_lt hjn, congrArg (Value.int .i64) (show (j : Int) + 1 = ((j + 1 : Nat) : Int) from rfl), HRj.out.1.no (below_drewN (Below.refl _ _) _), below_drewN HRj.out.2 _⟩, ?_⟩
                show nl - (j + 1) < nl - j
                exact Nat.sub_lt_sub_left hjn (Nat.lt_succ_self j)
              · have hjn2 : j = nl := by omega
                subst hjn2
                go_wp2
                go_roundw
                case rel => exact ⟨k + 1, by omega, by go_num, HRj.out.1⟩
                case measure => simp [intOf]; omega
          · have hl0' : o.links.length = 0 := by omega
            rw [hl0'] at b4 ⊢
            clear hl0 hl0'
            go_wp2
            refine wp_loop_rounds 1 ?_
            rw [rounds_succ]
            go_wp2
            go_roundw
            case rel => exact ⟨k + 1, by omega, by go_num, HRd⟩
            case measure => simp [intOf]; omega
      · have hkn2 : k = n := by omega
        subst hkn2
        go_wp2
        go_ret
        exact ⟨rfl, HR.out.2⟩
  · have hz : G.length = 0 := by omega
    have c2 := HI3.out.1.c2
    rw [hz] at c2
    clear hgf hn0 hz
    go_wp2
    refine wp_loop_rounds 1 ?_
    rw [rounds_succ]
    go_wp2
    go_ret
    exact ⟨rfl, HI3.out.2⟩
end
end Go.Proofs.Ytmkajdfajcodjaa
