/-
  The walk of CycleSteps.
-/
import Derived.Test.YtjmhlmohennknabCyLn
namespace Go.Proofs.Ytjmhlmohennknab
open Go Go.ChangeShapes Go.WideShapes Go.ChangeAt Go.RowKit

/-- Between two pieces. -/
structure PcI (w0 W : World) (p B1 : Nat) (g : Gr) (P0 : Nat) (bd : Nat) (i : Nat) (dn : Bool) (sp : Int) (s : CyS) : Prop where
  r : Rn W p w0.heap.size B1 g s
  j : CyJ g s
  bl : Below w0.heap.size w0 W
  dq : dn = decide (s.sw = 3)
  lo : 0 ≤ sp ∧ sp ≤ i * bd
  ph : dn = false → (Phi g s : Int) + sp ≤ P0
theorem Phi_over {g : Gr} {s : CyS} (h : s.sw = 3) : Phi g s = 0 := by
  unfold Phi
  rw [if_neg (by omega), if_neg (by omega), if_neg (by omega)]
theorem rn_no {w w' : World} {p B0 B1 : Nat} {g : Gr} {s : CyS} (h : Rn w p B0 B1 g s) (hb : Below w.heap.size w w') : Rn w' p B0 B1 g s := by
  obtain ⟨a, b, c, hr⟩ := h
  exact ⟨a, b, c, hr.no (Fr.of_below hb)⟩
/-- A run that is over stays so. -/
theorem Step_over {w : World} {p B0 B1 : Nat} {g : Gr} {s : CyS} (hr : Rn w p B0 B1 g s) (hJ : CyJ g s) (hg : GrOk g) (hz : GrSz g) (hs : s.sw = 3) (n : Int) (hn : -9223372036854775808 ≤ n ∧ n ≤ 9223372036854775807) :
    Calls Try.prog 18 #[.pointer (some ⟨p, 0, none⟩), .int .i64 n] w fun e w' => e = .returned (.bool true) ∧ Below B0 w w' ∧ ∃ s', Rn w' p B0 B1 g s' ∧ CyJ g s' ∧ s'.sw = 3 :=
  (Step_any hr hJ hg hz n hn).mono fun e w' h => by
    obtain ⟨s', rfl, h1, h2, h3, _, h5⟩ := h
    have h6 := h2.sw
    have h7 : s'.sw = 3 := by omega
    exact ⟨by rw [h7]; rfl, h3, s', h1, h2, h7⟩
theorem Step_last {w : World} {p B0 B1 : Nat} {g : Gr} {s : CyS} (hr : Rn w p B0 B1 g s) (hJ : CyJ g s) (hg : GrOk g) (hz : GrSz g) (n : Int) (hn : -9223372036854775808 ≤ n ∧ n ≤ 9223372036854775807) (hp : (Phi g s : Int) < n) :
    Calls Try.prog 18 #[.pointer (some ⟨p, 0, none⟩), .int .i64 n] w fun e w' => e = .returned (.bool true) ∧ Below B0 w w' ∧ ∃ s', Rn w' p B0 B1 g s' ∧ CyJ g s' ∧ s'.sw = 3 :=
  (Step_any hr hJ hg hz n hn).mono fun e w' h => by
    obtain ⟨s', rfl, h1, h2, h3, h4, h5⟩ := h
    have h6 := h2.sw
    have h7 : s'.sw = 3 := by
      by_cases h8 : s'.sw < 3
      · have := h4 h8; omega
      · omega
    exact ⟨by rw [h7]; rfl, h3, s', h1, h2, h7⟩
/-- What it tells then. -/
theorem RGar_garb {w : World} {p B0 B1 : Nat} {g : Gr} {s : CyS} (hr : Rn w p B0 B1 g s) (hJ : CyJ g s) (hz : GrSz g) (hs : s.sw = 3) : Calls Try.prog 17 #[.pointer (some ⟨p, 0, none⟩)] w (RowTold w g.garb) := by
  have h1 := RGar_over hr hs (Nat.le_trans hJ.fl hz.n)
  rw [hJ.s3 hs] at h1
  exact h1
set_option maxRecDepth 100000 in
set_option maxHeartbeats 8000000 in
theorem CycleSteps_any (w : World) (cv ev sv pv : Value) (cs : List Int) (es : List (List Int)) (su ps : List Int) (hG : GrW w.heap.size w cv ev cs es) (hS : Tl iv w.heap.size w sv su) (hP : Tl iv w.heap.size w pv ps) (hPb : ∀ x ∈ ps, I64b x) :
    Calls Try.prog 4 #[.agg #[cv, ev], sv, pv] w fun e w' => e = .returned (.bool true) ∧ Below w.heap.size w w' := by
  obtain ⟨w1, hw1⟩ : ∃ w1, w1 = w.alloc (.cells #[cv, ev] TGr) := ⟨_, rfl⟩
  have hb1 : Below w.heap.size w w1 := by rw [hw1]; exact (Below.refl _ _).alloc (Nat.le_refl _) _
  have hg1 := heap_alloc_new w (.cells #[cv, ev] TGr)
  rw [← hw1] at hg1
  have hG1 := (hG.below hb1).up hb1.size
  have hS1 := (hS.below hb1).up hb1.size
  have HGR := hid (great_any w1 cv ev sv cs es su hG1 hS1)
  have HG1 := hid hG1
  have HS1 := hid hS1
  have HGB := hid hg1
  have HB1 := hid hb1
  have HW1 := hid hw1
  have HP := hid hP
  have HPB := hid hPb
  have HCB := hid hG.cb
  obtain ⟨ca, cc, rfl, _⟩ := hG.c.ex
  obtain ⟨ea, ec, rfl, _⟩ := hG.e
  obtain ⟨sa, sc, rfl, hsc1, hsc2, _⟩ := hS.ex
  obtain ⟨pa, pc, rfl, hpc1, hpc2, hPx⟩ := hP.ex
  have HPX := hid hPx
  have hat1 := hid (AtL.row hg1 : AtL w1 w.heap.size 0 _)
  clear hG hS hg1 hb1 hw1 hG1 hS1 hP hPb hPx
  go_enter Try.func4, Try.ntmps4
  go_upto_region 1 with fail
  rw [← HW1.out]
  clear HW1
  go_wp2_with (first
    | ((with_reducible refine at_op ⟨some 14, _, _, _, _, _⟩ ?_); go_loud (refine wpList_run rfl _ (load_cells Try.underlying25 (by rfl) (by kernel_rfl) rfl rfl hat1.out) ?_))
    | fail)
  refine HGR.out.mono ?_
  rintro e w2 ⟨r, rfl, hb2, hsm⟩
  have hB2 := HB1.out.trans (hb2.mono HB1.out.size)
  have hg2 := (hb2.block _ (Array.getElem?_eq_some_iff.1 HGB.out).1).trans HGB.out
  have hat2 := hid (AtL.row hg2 : AtL w2 w.heap.size 0 _)
  have HG2 := hid ((HG1.out.below hb2).up hb2.size)
  have HS2 := hid ((HS1.out.below hb2).up hb2.size)
  have HB2 := hid hB2
  have HGB2 := hid hg2
  have HSM := hid hsm
  clear hb2 hB2 hg2 hsm HGR HG1 HS1 HB1 HGB hat1
  cases r with
  | true =>
    have HA := hid (awake_any w2)
    go_wp2_with fail
    refine HA.out.mono ?_
    rintro e w3 ⟨rfl, hb3⟩
    have HB3 := hid (HB2.out.trans (hb3.mono HB2.out.size))
    clear hb3 HA
    go_wp2_with fail
    go_ret
    exact ⟨rfl, HB3.out⟩
  | false =>
    have HSMA := hid (HSM.out rfl)
    have HRG := hid (RGarbage_any w2 _ _ _ cs es su HG2.out HS2.out (by have := HSMA.out.c; omega) (by have := HSMA.out.t; omega))
    clear HSM
    go_wp2_with (first
      | ((with_reducible refine at_op ⟨some 18, _, _, _, _, _⟩ ?_); go_loud (refine wpList_run rfl _ (load_cells Try.underlying25 (by rfl) (by kernel_rfl) rfl rfl hat2.out) ?_))
      | fail)
    refine HRG.out.mono ?_
    rintro e w3 ⟨v3, rfl, hT3, hb3⟩
    have hg3 := (hb3.block _ (Array.getElem?_eq_some_iff.1 HGB2.out).1).trans HGB2.out
    have hat3 := hid (AtL.row hg3 : AtL w3 w.heap.size 0 _)
    have HG3 := hid ((HG2.out.below hb3).up hb3.size)
    have HS3 := hid ((HS2.out.below hb3).up hb3.size)
    have HB3 := hid (HB2.out.trans (hb3.mono HB2.out.size))
    have HGB3 := hid hg3
    have HT3 := hid hT3.ints
    have HBEG := hid (Begin_any w3 _ _ _ cs es su HG3.out HS3.out (by have := HSMA.out.c; omega) (fun l hl => Nat.le_trans (len_totE hl) (by have := HSMA.out.t; omega)) (Nat.le_trans wi_len (by have := HSMA.out.s; omega)))
    clear hT3 hb3 hg3 HRG HG2 HS2 HB2 HGB2 hat2
    go_wp2_with (first
      | ((with_reducible refine at_op ⟨some 21, _, _, _, _, _⟩ ?_); go_loud (refine wpList_run rfl _ (load_cells Try.underlying25 (by rfl) (by kernel_rfl) rfl rfl hat3.out) ?_))
      | fail)
    refine HBEG.out.mono ?_
    rintro e w4 ⟨p, B1, rfl, hR4, hb4⟩
    obtain ⟨bd, hbd⟩ : ∃ bd, bd = 8 * (cs.length + 1 + totE es) := ⟨_, rfl⟩
    have hg4 := (hb4.block _ (Array.getElem?_eq_some_iff.1 HGB3.out).1).trans HGB3.out
    have hat4 := hid (AtL.row hg4 : AtL w4 w.heap.size 0 _)
    have HG4 := hid ((HG3.out.below hb4).up hb4.size)
    have HR4 := hid hR4
    have HB34 := hid hb4
    have HGB4 := hid hg4
    have hbn := Bound_any w4 _ _ cs es HG4.out (by have := HSMA.out.c; omega) (by have := HSMA.out.t; omega)
    rw [← hbd] at hbn
    have HBN := hid hbn
    have HBD := hid hbd
    clear hR4 hb4 hg4 hbn hbd HBEG hat3
    go_wp2_with (first
      | ((with_reducible refine at_op ⟨some 24, _, _, _, _, _⟩ ?_); go_loud (refine wpList_run rfl _ (load_cells Try.underlying25 (by rfl) (by kernel_rfl) rfl rfl hat4.out) ?_))
      | fail)
    refine HBN.out.mono ?_
    rintro e w5 ⟨rfl, hb5⟩
    have hg5 := (hb5.block _ (Array.getElem?_eq_some_iff.1 HGB4.out).1).trans HGB4.out
    have hat5 := hid (AtL.row hg5 : AtL w5 w.heap.size 0 _)
    have HG5 := hid ((HG4.out.below hb5).up hb5.size)
    have HR5 := hid (rn_no HR4.out hb5)
    have HB35 := hid (HB34.out.trans (hb5.mono HB34.out.size))
    have hbn := RBound_any w5 _ _ cs es HG5.out (by have := HSMA.out.c; omega) (by have := HSMA.out.t; omega)
    rw [← HBD.out] at hbn
    have HRB := hid hbn
    clear hb5 hg5 hbn HBN HG4 HR4 HB34 HGB4 hat4
    go_wp2_with (first
      | ((with_reducible refine at_op ⟨some 27, _, _, _, _, _⟩ ?_); go_loud (refine wpList_run rfl _ (load_cells Try.underlying25 (by rfl) (by kernel_rfl) rfl rfl hat5.out) ?_))
      | fail)
    refine HRB.out.mono ?_
    rintro e w6 ⟨rfl, hb6⟩
    have hPh := Phi_new (g := grS cs es su) (s := begS cs (wi cs.length su)) rfl rfl rfl
    have h5 : tot (grS cs es su).e (grS cs es su).n ≤ totE es := tot_grOf _ _ _
    have h6 : (grS cs es su).n = cs.length := rfl
    obtain ⟨P0, hP0⟩ : ∃ P0, P0 = Phi (grS cs es su) (begS cs (wi cs.length su)) := ⟨_, rfl⟩
    rw [← hP0] at hPh
    have hPbd : P0 < bd ∧ bd ≤ 20000 := by have := HBD.out; have := HSMA.out.c; have := HSMA.out.t; omega
    have hI0 : PcI w3 w6 p B1 (grS cs es su) P0 bd 0 false 0 (begS cs (wi cs.length su)) := ⟨rn_no HR5.out hb6, begS_ok, HB35.out.trans (hb6.mono HB35.out.size), rfl, by omega, fun _ => by rw [hP0]; omega⟩
    have HI0 := hid hI0
    have HOK := hid (grS_ok (es := es) (su := su) HCB.out)
    have HSZ := hid (grS_sz (cs := cs) (es := es) (su := su) (by have := HSMA.out.c; omega) (by have := HSMA.out.t; omega))
    have HPH := hid hPbd
    obtain ⟨np, hnp⟩ : ∃ np, np = ps.length := ⟨_, rfl⟩
    rw [← hnp] at hpc1 HPX ⊢
    have HNP := hid hnp
    clear hb6 hPh h5 h6 hP0 hI0 hnp HRB HG5 HR5 HB35 hat5
    obtain ⟨hP1, hP2⟩ := hPbd
    go_wp2_with fail
    go_loopw [10, 11, 12] (fun v10 v11 v12 wr => ∃ (i : Nat) (dn : Bool) (sp : Int) (s : CyS), i ≤ np ∧ i ≤ 200 ∧ v12 = .int .i64 i ∧ v10 = .bool dn ∧ v11 = .int .i64 sp ∧ RowKit.Hid (PcI w3 wr p B1 (grS cs es su) P0 bd i dn sp s)) (fun _ _ v12 _ => 200 - (intOf v12).toNat)
    case atStart => exact ⟨0, false, 0, _, by omega, by omega, rfl, rfl, rfl, HI0⟩
    case round =>
      obtain ⟨i, dn, sp, s, hi1, hi2, rfl, rfl, rfl, HI⟩ := hrel
      by_cases hgo : i < np ∧ i < 200 ∧ dn = false
      · obtain ⟨hg1, hg2, rfl⟩ := hgo
        have hs3 : s.sw < 3 := by
          have h1 := HI.out.dq
          have h2 := HI.out.j.sw
          have h3 : ¬ s.sw = 3 := fun e => by rw [e] at h1; cases h1
          omega
        have hlt : i < ps.length := by rw [← HNP.out]; exact hg1
        have hx : ps[i]? = some ps[i] := List.getElem?_eq_getElem hlt
        generalize ps[i] = x at hx
        have hxb := HPB.out x (List.mem_of_getElem? hx)
        obtain ⟨b, o, rfl, hb, hcell⟩ := HPX.out (by omega)
        have cx : wr.cell? ⟨b, o + i, none⟩ = some (.int .i64 x) := (World.cell?_of_block (w := w) (w' := wr) (a := ⟨b, o + i, none⟩) ((HB3.out.trans (HI.out.bl.mono HB3.out.size)).block b hb)).trans (hcell i x hx)
        obtain ⟨m, hm⟩ : ∃ m, m = min x (bd : Int) := ⟨_, rfl⟩
        have hmb : -9223372036854775808 ≤ m ∧ m ≤ bd := by unfold I64b at hxb; omega
        have HM := hid hm
        have HGN := hid (RGar_not HI.out.r hs3)
        have HST := hid (Step_any HI.out.r HI.out.j HOK.out HSZ.out m (by omega))
        have hlo := HI.out.lo
        have hib : (i : Int) * bd ≤ 200 * 20000 := by
          have h1 : i * bd ≤ 200 * 20000 := Nat.mul_le_mul (by omega) hP2
          have h2 : ((i * bd : Nat) : Int) ≤ 200 * 20000 := by omega
          rwa [Int.natCast_mul] at h2
        obtain ⟨mm, hmm⟩ : ∃ mm, mm = max m 0 := ⟨_, rfl⟩
        have hmmb : 0 ≤ mm ∧ mm ≤ bd := by omega
        have HMM := hid hmm
        have hwsp : IntKind.i64.wrap (sp + max m 0) = sp + mm := by rw [← hmm]; exact IntWalk.i64_in _ ⟨by omega, by omega⟩
        have hi5 : ((i + 1 : Nat) : Int) * bd = (i : Int) * bd + bd := by rw [Int.natCast_add, Int.add_mul]; simp
        have HI5 := hid hi5
        have HIB := hid hib
        have HLO := hid hlo
        have HMB := hid hmb
        have HMMB := hid hmmb
        clear hx hb hcell hm hmm hxb hlt hib hi5 hlo hmb hmmb
        go_upto_region 13 with fail
        rw [← HM.out]
        clear cx
        go_wp2_with fail
        refine HGN.out.mono ?_
        rintro e w7 ⟨rfl, rfl⟩
        go_wp2_with fail
        refine HST.out.mono ?_
        rintro e w8 ⟨s8, rfl, hR8, hJ8, hb8, hph8, _⟩
        obtain ⟨dn8, hdn8⟩ : ∃ dn8, dn8 = decide (s8.sw = 3) := ⟨_, rfl⟩
        have hI8 : PcI w3 w8 p B1 (grS cs es su) P0 bd (i + 1) dn8 (sp + mm) s8 := by
          refine ⟨hR8, hJ8, HI.out.bl.trans hb8, hdn8, ?_, fun h => ?_⟩
          · have := HI5.out; have := HLO.out; have := HMMB.out; omega
          · have h1 : s8.sw < 3 := by
              have h2 := hJ8.sw
              have h3 : ¬ s8.sw = 3 := fun e => by rw [h, e] at hdn8; cases hdn8
              omega
            have h4 := hph8 h1
            have h5 := HI.out.ph rfl
            have h6 := HMM.out
            omega
        rw [← hdn8]
        have HI8 := hid hI8
        clear hR8 hJ8 hb8 hph8 hdn8 hI8 HST HGN HI
        cases dn8 with
        | true =>
          by_cases hq : (bd : Int) ≤ sp + mm
          · go_wp2_with fail
            go_roundw
            case rel => exact ⟨i + 1, true, sp + mm, s8, by omega, by omega, by go_num, rfl, rfl, HI8⟩
            case measure => simp [intOf]; omega
          · go_wp2_with fail
            go_roundw
            case rel => exact ⟨i + 1, true, sp + mm, s8, by omega, by omega, by go_num, rfl, rfl, HI8⟩
            case measure => simp [intOf]; omega
        | false =>
          have hlt : sp + mm < (bd : Int) := by have := HI8.out.ph rfl; omega
          go_wp2_with fail
          go_roundw
          case rel => exact ⟨i + 1, false, sp + mm, s8, by omega, by omega, by go_num, rfl, rfl, HI8⟩
          case measure => simp [intOf]; omega
      · have HTW := hid (show Tl iv w3.heap.size w3 v3 _ from HT3.out)
        cases dn with
        | true =>
          have hs3 : s.sw = 3 := of_decide_eq_true HI.out.dq.symm
          have HSx := hid hs3
          have HRx := hid HI.out.r
          have HJx := hid HI.out.j
          have HBx := hid HI.out.bl
          clear hs3
          have HS0 := hid (Step_over HRx.out HJx.out HOK.out HSZ.out HSx.out 0 ⟨by decide, by decide⟩)
          go_wp2_with fail
          all_goals
            refine HS0.out.mono ?_
            rintro e w20 ⟨rfl, hb20, s20, hR20, hJ20, hs20⟩
            have HS5 := hid (Step_over hR20 hJ20 HOK.out HSZ.out hs20 5 ⟨by decide, by decide⟩)
            have HB20 := hid (HBx.out.trans hb20)
            clear hb20 hR20 hJ20 hs20 HS0
            go_wp2_with (first
              | (go_at_call 18; (with_reducible refine HS5.out.mono ?_); rintro e w21 ⟨rfl, hb21, s21, hR21, hJ21, hs21⟩; have HB21 := hid (HB20.out.trans hb21); have HGA := hid (RGar_garb hR21 hJ21 HSZ.out hs21); clear hb21 hR21 hJ21 hs21)
              | (go_at_call 17; (with_reducible refine HGA.out.mono ?_); rintro e w22 ⟨v22, rfl, hT22, hb22⟩; have HB22 := hid (HB21.out.trans (hb22.mono (Nat.le_trans HB21.out.size (Nat.le_refl _)))); have HSM := hid (SameI_tl w22 v22 v3 _ hT22.ints ((HTW.out.below HB22.out).up HB22.out.size)); clear hT22 hb22)
              | (go_at_call 12; (with_reducible refine HSM.out.mono ?_); rintro e w23 ⟨rfl, hb23⟩; have HB23 := hid (HB22.out.trans (hb23.mono HB22.out.size)); clear hb23)
              | (go_at_call 10; refine (awake_any _).mono ?_; rintro e w24 ⟨rfl, hb24⟩; have HB24 := hid (HB23.out.trans (hb24.mono HB23.out.size)); clear hb24)
              | fail)
            go_ret
            exact ⟨rfl, HB3.out.trans (HB24.out.mono HB3.out.size)⟩
        | false =>
          have hs3 : s.sw < 3 := by
            have h1 := HI.out.dq
            have h2 := HI.out.j.sw
            have h3 : ¬ s.sw = 3 := fun e => by rw [e] at h1; cases h1
            omega
          have hlo := HI.out.lo
          have hph := HI.out.ph rfl
          have HGN := hid (RGar_not HI.out.r hs3)
          have HSL := hid (Step_last HI.out.r HI.out.j HOK.out HSZ.out (bd : Int) ⟨by omega, by omega⟩ (by omega))
          have HBI := hid HI.out.bl
          have hex : np ≤ i ∨ 200 ≤ i := by
            by_cases h1 : i < np
            · by_cases h2 : i < 200
              · exact absurd ⟨h1, h2, rfl⟩ hgo
              · exact .inr (by omega)
            · exact .inl (by omega)
          clear hlo hph hs3 hgo HI
          by_cases hin : np ≤ i
          · clear hex
            go_wp2_with (first
              | (go_at_call 17; (with_reducible refine HGN.out.mono ?_); rintro e w7 ⟨rfl, rfl⟩)
              | (go_at_call 18; (with_reducible refine HSL.out.mono ?_); rintro e w19 ⟨rfl, hb19, s19, hR19, hJ19, hs19⟩; have HRx := hid hR19; have HJx := hid hJ19; have HSx := hid hs19; have HBx := hid (HBI.out.trans hb19); clear hb19 hR19 hJ19 hs19 HSL HGN)
              | fail)
            have HS0 := hid (Step_over HRx.out HJx.out HOK.out HSZ.out HSx.out 0 ⟨by decide, by decide⟩)
            go_wp2_with fail
            all_goals
              refine HS0.out.mono ?_
              rintro e w20 ⟨rfl, hb20, s20, hR20, hJ20, hs20⟩
              have HS5 := hid (Step_over hR20 hJ20 HOK.out HSZ.out hs20 5 ⟨by decide, by decide⟩)
              have HB20 := hid (HBx.out.trans hb20)
              clear hb20 hR20 hJ20 hs20 HS0
              go_wp2_with (first
                | (go_at_call 18; (with_reducible refine HS5.out.mono ?_); rintro e w21 ⟨rfl, hb21, s21, hR21, hJ21, hs21⟩; have HB21 := hid (HB20.out.trans hb21); have HGA := hid (RGar_garb hR21 hJ21 HSZ.out hs21); clear hb21 hR21 hJ21 hs21)
                | (go_at_call 17; (with_reducible refine HGA.out.mono ?_); rintro e w22 ⟨v22, rfl, hT22, hb22⟩; have HB22 := hid (HB21.out.trans (hb22.mono (Nat.le_trans HB21.out.size (Nat.le_refl _)))); have HSM := hid (SameI_tl w22 v22 v3 _ hT22.ints ((HTW.out.below HB22.out).up HB22.out.size)); clear hT22 hb22)
                | (go_at_call 12; (with_reducible refine HSM.out.mono ?_); rintro e w23 ⟨rfl, hb23⟩; have HB23 := hid (HB22.out.trans (hb23.mono HB22.out.size)); clear hb23)
                | (go_at_call 10; refine (awake_any _).mono ?_; rintro e w24 ⟨rfl, hb24⟩; have HB24 := hid (HB23.out.trans (hb24.mono HB23.out.size)); clear hb24)
                | fail)
              go_ret
              exact ⟨rfl, HB3.out.trans (HB24.out.mono HB3.out.size)⟩
          · have hex2 : 200 ≤ i := hex.elim (fun h => absurd h hin) id
            clear hex
            go_wp2_with (first
              | (go_at_call 17; (with_reducible refine HGN.out.mono ?_); rintro e w7 ⟨rfl, rfl⟩)
              | (go_at_call 18; (with_reducible refine HSL.out.mono ?_); rintro e w19 ⟨rfl, hb19, s19, hR19, hJ19, hs19⟩; have HRx := hid hR19; have HJx := hid hJ19; have HSx := hid hs19; have HBx := hid (HBI.out.trans hb19); clear hb19 hR19 hJ19 hs19 HSL HGN)
              | fail)
            have HS0 := hid (Step_over HRx.out HJx.out HOK.out HSZ.out HSx.out 0 ⟨by decide, by decide⟩)
            go_wp2_with fail
            all_goals
              refine HS0.out.mono ?_
              rintro e w20 ⟨rfl, hb20, s20, hR20, hJ20, hs20⟩
              have HS5 := hid (Step_over hR20 hJ20 HOK.out HSZ.out hs20 5 ⟨by decide, by decide⟩)
              have HB20 := hid (HBx.out.trans hb20)
              clear hb20 hR20 hJ20 hs20 HS0
              go_wp2_with (first
                | (go_at_call 18; (with_reducible refine HS5.out.mono ?_); rintro e w21 ⟨rfl, hb21, s21, hR21, hJ21, hs21⟩; have HB21 := hid (HB20.out.trans hb21); have HGA := hid (RGar_garb hR21 hJ21 HSZ.out hs21); clear hb21 hR21 hJ21 hs21)
                | (go_at_call 17; (with_reducible refine HGA.out.mono ?_); rintro e w22 ⟨v22, rfl, hT22, hb22⟩; have HB22 := hid (HB21.out.trans (hb22.mono (Nat.le_trans HB21.out.size (Nat.le_refl _)))); have HSM := hid (SameI_tl w22 v22 v3 _ hT22.ints ((HTW.out.below HB22.out).up HB22.out.size)); clear hT22 hb22)
                | (go_at_call 12; (with_reducible refine HSM.out.mono ?_); rintro e w23 ⟨rfl, hb23⟩; have HB23 := hid (HB22.out.trans (hb23.mono HB22.out.size)); clear hb23)
                | (go_at_call 10; refine (awake_any _).mono ?_; rintro e w24 ⟨rfl, hb24⟩; have HB24 := hid (HB23.out.trans (hb24.mono HB23.out.size)); clear hb24)
                | fail)
              go_ret
              exact ⟨rfl, HB3.out.trans (HB24.out.mono HB3.out.size)⟩
end Go.Proofs.Ytjmhlmohennknab
