/-
  FrameOwn.
-/
import Derived.Test.YtcoclaabainibaaDoorFmO
namespace Go.Proofs.YtcoclaabainibaaDoor
open Go Go.ChangeShapes Go.WideShapes Go.ChangeAt Go.RowKit

/-- Between two rounds of the second loop. -/
structure OnI (w : World) (B p1 p2 : Nat) (f : Fs) (wr : World) : Prop where
  fm : PrF B p1 p2 f f (fun _ => False) wr
  ok : FsR f
  bl : Below w.heap.size w wr
  sz : B ≤ wr.heap.size
set_option maxRecDepth 100000 in
set_option maxHeartbeats 8000000 in
theorem FrameOwn_any {w : World} (hT : TabB w) (ls : List Ins) (ad : Option Addr) (n c : Nat) (arg sp : Int) (hsp : -9223372036854775808 ≤ sp ∧ sp ≤ 9223372036854775807) (hok : ∀ x ∈ ls, InsOk x) (hR : RwI w w.heap.size ad ls) (hn : n = ls.length) (hc : n ≤ c) (hc2 : c ≤ 9223372036854775807) (hN : NilOk (.slice ad n c)) :
    Calls Tryd.prog 5 #[.slice ad n c, iv arg, iv sp] w fun e w' => e = .returned (.bool true) ∧ Below w.heap.size w w' := by
  have HA := hid (awake_holds hT)
  have HT := hid hT
  have HOK := hid hok
  have HR := hid hR
  have HN := hid hn
  have HNK := hid hN
  obtain ⟨er, her⟩ : ∃ er, er = (checkP ls 8).2.2 := ⟨_, rfl⟩
  have HER := hid her
  have HNEW := hid (fun (W : World) (hb : Below w.heap.size w W) (a : Option Addr) (m k : Nat) (hRW : RwI W W.heap.size a ls) (hm : m = n) (hk : m ≤ k) (hk2 : k ≤ 9223372036854775807) => New_u (arg := arg) her a m k (hT.on hb) hok hRW (hm.trans hn) hk hk2)
  clear hT hok hR hn hN her
  by_cases h60 : 60 < n
  · have d1 : decide ((60 : Int) < (n : Int)) = true := decide_eq_true (by omega)
    clear h60
    go_enter Tryd.func5, Tryd.ntmps5
    go_wp2_with (first
      | (go_at_call 8; refine (HA.out _ (Below.refl _ _)).mono ?_; rintro e w7 ⟨rfl, hb7⟩; have HB7 := hid hb7; clear hb7)
      | fail)
    go_ret
    exact ⟨rfl, HB7.out⟩
  have d1 : decide ((60 : Int) < (n : Int)) = false := decide_eq_false (by omega)
  obtain ⟨w1, hw1⟩ : ∃ w1, w1 = w.alloc (.cells #[] TIn) := ⟨_, rfl⟩
  have hb1 : Below w.heap.size w w1 := by rw [hw1]; exact (Below.refl _ _).alloc (Nat.le_refl _) _
  have hown1 : w1.ownsRow w.heap.size TIn 3 (.slice (some ⟨w.heap.size, 0, none⟩) 0 0) 0 [] := by rw [hw1]; exact World.ownsRow_made w #[] 0 (Nat.le_refl _) (Nat.zero_le _) rfl
  have HW1 := hid hw1
  have HB1 := hid hb1
  have HO1 := hid hown1
  have hR1 := HR.out.on hb1
  have HR1 := hid hR1
  clear hw1 hb1 hown1 hR1
  -- in, and both frames
  go_enter Tryd.func5, Tryd.ntmps5
  go_upto_region 4 with (first
    | ((with_reducible refine at_op ⟨some 26, _, _, _, _, _⟩ ?_); rw [← HW1.out]; go_loud (refine wpList_appI rfl (.tmp 24) (.tmp 25) rfl w.heap.size w.heap.size rfl HO1.out ad n c ls rfl HNK.out HR1.out HN.out (by omega) HB1.out.size ?_); intro v2 w2 k1 k2; obtain ⟨va, vc, hv2⟩ := own_form k1; subst hv2; have hb2 := HB1.out.grown k2 HB1.out.size (fun k hk => by cases hk; exact Nat.le_refl _); have HB2 := hid hb2; have HRO := hid k1; clear k1 k2 hb2)
    | fail)
  have hcp := own_cap HRO.out
  have hcx := own_capmax HRO.out
  have HN1 := hid (HNEW.out w2 HB2.out va n vc (RwI.of_own HRO.out) rfl hcp hcx)
  have HN2 := hid (fun (W : World) (hb : Below w.heap.size w W) => HNEW.out W hb ad n c (HR.out.on hb) rfl hc hc2)
  obtain ⟨B, hB⟩ : ∃ B, B = w2.heap.size := ⟨_, rfl⟩
  have HBB := hid hB
  have HTH := hid (fun (g : Nat) (e : va = some ⟨g, 0, none⟩) => show w2.there g 0 (n * 3) ∧ w.heap.size ≤ g ∧ g < B from by
    have h := HRO.out
    rw [e] at h
    exact ⟨own_there h, (h.lt g rfl).1, by rw [hB]; exact (h.lt g rfl).2⟩)
  have HVA := hid (fun (h : 0 < n) => show ∃ g, va = some ⟨g, 0, none⟩ from by
    obtain ⟨g, k, e, _⟩ := HRO.out.form h
    simp only [Value.slice.injEq] at e
    exact ⟨g, e.1⟩)
  clear HNEW HNK HO1 HR1 HW1 HB1 HRO hB hcp hcx
  go_wp2_with fail
  refine HN1.out.mono ?_
  rintro e w3 ⟨hb3, fv, rfl, hf1, hf2⟩
  have HB3 := hid (HB2.out.trans (hb3.mono HB2.out.size))
  have HBT := hid hb3
  have HF1 := hid hf1
  have HF2 := hid hf2
  clear hb3 HN1 hf1 hf2
  go_wp2_with fail
  refine (HN2.out _ HB3.out).mono ?_
  rintro e w4 ⟨hb4, gv, rfl, hg1, hg2⟩
  have HB4 := hid (HB3.out.trans (hb4.mono HB3.out.size))
  have HBU := hid (HBT.out.trans (hb4.mono HBT.out.size))
  have HPR := hid (fun (h0 : er = 0) => show ∃ p1 p2, fv = some ⟨p1, 0, none⟩ ∧ gv = some ⟨p2, 0, none⟩ ∧ PrF B p1 p2 (fs0 ls arg) (fs0 ls arg) (fun _ => False) w4 from by
    obtain ⟨p1, S1, q1, s1, e1, k1, k2⟩ := HF1.out h0
    obtain ⟨p2, S2, q2, s2, e2, k3, k4⟩ := hg1 h0
    exact ⟨p1, p2, e1, e2, PrF.new k2 (fun k hk => by rw [HBB.out]; exact k1 k hk) hb4 k4 k3 (by rw [HBB.out]; exact HBT.out.size)⟩)
  have hT4 : ∀ g, va = some ⟨g, 0, none⟩ → w4.there g 0 (n * 3) := fun g e => by
    obtain ⟨t1, t2, t3⟩ := HTH.out g e
    exact there_of_block t1 (HBU.out.block g (by rw [← HBB.out]; exact t3))
  have HT4 := hid hT4
  have HFR0 := hid (Fr.refl (fun k => w.heap.size ≤ k ∧ k < B) w4)
  have hsz4 : B ≤ w4.heap.size := by rw [HBB.out]; exact HBU.out.size
  clear hb4 hg1 hg2 HN2 HB3 HBT HF1 HF2 hT4
  go_wp2_with fail
  go_loopw [12] (fun i wr => ∃ q : Nat, q ≤ n ∧ i = .int .i64 q ∧ RowKit.Hid (∀ g, va = some ⟨g, 0, none⟩ → wr.there g 0 (n * 3)) ∧ RowKit.Hid (Fr (fun k => w.heap.size ≤ k ∧ k < B) w4 wr)) (fun i _ => n - (intOf i).toNat)
  case atStart => exact ⟨0, Nat.zero_le _, rfl, HT4, HFR0⟩
  case round =>
    obtain ⟨q, hq, rfl, HTQ, HFQ⟩ := hrel
    by_cases hqn : q < n
    · obtain ⟨g, hg⟩ := HVA.out (by omega)
      have ht := HTQ.out g hg
      have hgb := (HTH.out g hg).2
      subst hg
      have HTG := hid ht
      have HFC := hid (fr_setCells (fp := fun b => b = g) (fun _ => rfl) (insc ⟨0, 0, 0⟩) (q * 3) wr (Fr.refl _ _))
      clear ht
      go_wp2_with (first
        | ((with_reducible refine at_op ⟨none, .store TIn (.tmp 48) (.tmp 47), _, _, _, _⟩ ?_); refine wpList_store_mid rfl TIn _ _ rfl g (q * 3) (insA ⟨0, 0, 0⟩) rfl rfl (there_off HTG.out (by omega)) (by kernel_rfl) (insA_one _) ?_)
        | fail)
      go_roundw
      case rel => exact ⟨q + 1, by omega, by go_num, hid (fun g' e => by cases e; exact World.there_setCells HTG.out g (q * 3) _), hid (HFQ.out.trans HFC.out (fun k hk _ => by rw [hk]; exact hgb))⟩
      case measure => simp [intOf]; omega
    · obtain rfl : n = q := by omega
      have hBr : Below w.heap.size w wr := HB4.out.trans (HFQ.out.below HB4.out.size (fun k hk => hk.1))
      have HBr := hid hBr
      have hszr : B ≤ wr.heap.size := Nat.le_trans hsz4 HFQ.out.size
      clear hqn hBr HTQ
      by_cases h0 : er = 0
      case neg =>
        have d2 : (er != 0) = true := by simpa using h0
        clear h0
        go_wp2_with (first
          | (go_at_call 8; refine (HA.out _ HBr.out).mono ?_; rintro e w7 ⟨rfl, hb7⟩; have HB7 := hid (HBr.out.trans (hb7.mono HBr.out.size)); clear hb7)
          | fail)
        go_ret
        exact ⟨rfl, HB7.out⟩
      subst h0
      obtain ⟨p1, p2, rfl, rfl, hP⟩ := HPR.out rfl
      have HI0 := hid (show OnI w B p1 p2 (fs0 ls arg) wr from ⟨hP.fr HFQ.out (fun k hk e => by omega), fs0_ok arg HER.out.symm, HBr.out, hszr⟩)
      clear hP HPR HFQ HBr
      go_wp2_with fail
      go_loopw [13] (fun i wx => ∃ (q : Nat) (f : Fs), q ≤ n ∧ i = .int .i64 q ∧ RowKit.Hid (OnI w B p1 p2 f wx)) (fun i _ => n - (intOf i).toNat)
      case atStart => exact ⟨0, fs0 ls arg, Nat.zero_le _, rfl, HI0⟩
      case round =>
        obtain ⟨q, f, hq2, rfl, HI⟩ := hrel
        by_cases hqn : q < n
        · have HNX := hid (HI.out.fm.next HI.out.sz HI.out.ok 3 4)
          obtain ⟨ev, hev⟩ : ∃ ev, ev = nxE f 3 4 := ⟨_, rfl⟩
          obtain ⟨z2, hz2⟩ : ∃ z2, z2 = nxV f 3 4 := ⟨_, rfl⟩
          obtain ⟨f2, hf2⟩ : ∃ f2, f2 = nxF f 3 4 := ⟨_, rfl⟩
          have HOK2 := hid (show FsR f2 by rw [hf2]; exact HI.out.ok.next 3 4)
          have HNY := hid (fun (W : World) (X : Nat → Prop) (h : PrF B p2 p1 f f2 X W) (hB : B ≤ W.heap.size) => h.next hB HI.out.ok 3 4)
          rw [← hev, ← hz2, ← hf2] at HNX
          rw [← hev, ← hz2, ← hf2] at HNY
          have HDP := hid HOK2.out.deep
          obtain ⟨ln, hln⟩ : ∃ ln, ln = f2.st.length := ⟨_, rfl⟩
          have HLN := hid hln
          have hln8 : ln ≤ 8 := by rw [hln]; exact HOK2.out.deep
          have dz : (z2 != z2) = false := by simp
          clear hev hz2 hf2 hln
          have hwB : w.heap.size ≤ B := by rw [HBB.out]; exact HB2.out.size
          go_upto_region 16 with (first
            | (go_at_call 11; refine HNX.out.mono ?_; rintro e w5 ⟨rfl, hF5, hf5⟩; obtain ⟨w6, hw6⟩ : ∃ w6, w6 = (w5.alloc (.cells #[.int .i64 0, .int .i64 0, .int .i64 0, .int .i64 0, .int .i64 0] TEv)).setRow w5.heap.size (evA ev) := ⟨_, rfl⟩; have hg6 : w6.heap[w5.heap.size]? = some (.cells (evA ev) TEv (0, 0)) := (by rw [hw6]; exact setRow_heap _ _ _ _ _ _ (heap_alloc_new _ _)); have hb56 : Below w5.heap.size w5 w6 := (by rw [hw6]; exact below_setRow ((Below.refl _ _).alloc (Nat.le_refl _) _) _ _ (Nat.le_refl _)); have hs5 : B ≤ w5.heap.size := Nat.le_trans HI.out.sz hf5.size; have HW6 := hid hw6; have HF6 := hid (hF5.fresh (X2 := fun k => k = w5.heap.size) hb56 (fun k hk => .inr ⟨by omega, by rw [hk]; exact (Array.getElem?_eq_some_iff.1 hg6).1⟩)); have HB6 := hid ((HI.out.bl.trans (hf5.below HI.out.bl.size (fun k hk => Nat.le_trans hwB hk.1))).trans (hb56.mono (Nat.le_trans HI.out.bl.size hf5.size))); have HG6 := hid hg6; have hs6 : B ≤ w6.heap.size := Nat.le_trans hs5 hb56.size; clear hF5 hf5 hw6 hb56 hg6)
            | ((with_reducible refine at_op ⟨none, .store TEv (.tmp 14) (.tmp 61), _, _, _, _⟩ ?_); refine wpList_store_row rfl TEv _ _ rfl w5.heap.size (evA ev) rfl rfl TEv (evA evZ) (heap_alloc_new _ _) szEv rfl (evA_one _) ?_; rw [← HW6.out])
            | fail)
          have HNY2 := hid (HNY.out w6 _ HF6.out.swap hs6)
          have hgl6 : w5.heap.size < w6.heap.size := (Array.getElem?_eq_some_iff.1 HG6.out).1
          clear HNX HNY
          go_upto_region 17 with (first
            | (go_at_call 11; refine HNY2.out.mono ?_; rintro e w7 ⟨rfl, hF7, hf7⟩; obtain ⟨w8, hw8⟩ : ∃ w8, w8 = (w7.alloc (.cells #[.int .i64 0, .int .i64 0, .int .i64 0, .int .i64 0, .int .i64 0] TEv)).setRow w7.heap.size (evA ev) := ⟨_, rfl⟩; have hg8 : w8.heap[w7.heap.size]? = some (.cells (evA ev) TEv (0, 0)) := (by rw [hw8]; exact setRow_heap _ _ _ _ _ _ (heap_alloc_new _ _)); have hb78 : Below w7.heap.size w7 w8 := (by rw [hw8]; exact below_setRow ((Below.refl _ _).alloc (Nat.le_refl _) _) _ _ (Nat.le_refl _)); have hga : w8.heap[w5.heap.size]? = some (.cells (evA ev) TEv (0, 0)) := ((hb78.block _ (Nat.lt_of_lt_of_le hgl6 hf7.size)).trans (hf7.block _ hgl6 (fun e => e.2 rfl))).trans HG6.out; have hs8 : B ≤ w8.heap.size := Nat.le_trans (Nat.le_trans hs6 hf7.size) hb78.size; have HW8 := hid hw8; have HF8 := hid (hF7.fresh (X2 := fun _ => False) hb78 (fun k hk => hk.elim)); have HB8 := hid ((HB6.out.trans (hf7.below HB6.out.size (fun k hk => Nat.le_trans hwB hk.1))).trans (hb78.mono (Nat.le_trans HB6.out.size hf7.size))); have HG8 := hid hg8; have HGA := hid hga; clear hF7 hf7 hw8 hb78 hg8 hga)
            | ((with_reducible refine at_op ⟨none, .store TEv (.tmp 16) (.tmp 66), _, _, _, _⟩ ?_); refine wpList_store_row rfl TEv _ _ rfl w7.heap.size (evA ev) rfl rfl TEv (evA evZ) (heap_alloc_new _ _) szEv rfl (evA_one _) ?_; rw [← HW8.out])
            | fail)
          have HSK := hid (stack_sl (n := ln) (m := 99) HF8.out.q HDP.out (by omega) HLN.out)
          clear HNY2 HW6 HW8
          go_upto_region 18 with (first
            | (go_at_call 15; refine HSK.out.mono ?_; rintro e w9 ⟨hb9, a9, c9, rfl, hc9, ht9⟩; have HF9 := hid (HF8.out.below hb9); have HB9 := hid (HB8.out.trans (hb9.mono HB8.out.size)); have HG9 := hid ((hb9.block _ (Array.getElem?_eq_some_iff.1 HG8.out).1).trans HG8.out); have HGB := hid ((hb9.block _ (Array.getElem?_eq_some_iff.1 HGA.out).1).trans HGA.out); have hs9 : B ≤ w9.heap.size := Nat.le_trans hs8 hb9.size; have HTL := hid ht9; clear hb9 ht9)
            | fail)
          obtain ⟨l1, hl1⟩ : ∃ l1, l1 = ln + 1 := ⟨_, rfl⟩
          have hs1 : ((ln : Int) + 1) = (l1 : Int) := by omega
          have hwl := IntWalk.i64_in (l1 : Int) (by omega)
          obtain ⟨kk, hkk⟩ : ∃ kk : Nat, sp % (l1 : Int) = (kk : Int) := ⟨(sp % (l1 : Int)).toNat, by have := Int.emod_nonneg sp (show (l1 : Int) ≠ 0 by omega); omega⟩
          have hkl : kk ≤ ln := by have := Int.emod_lt_of_pos sp (show 0 < (l1 : Int) by omega); omega
          have HPK := hid (Pick_any sp (l1 : Int) w9 hsp (by omega) (by omega))
          rw [hkk] at HPK
          have HKK := hid hkk
          clear hkk hl1 HSK
          go_upto_region 19 with (first
            | (go_at_call 16; refine HPK.out.mono ?_; rintro e wA ⟨rfl, hwA⟩; subst hwA)
            | fail)
          clear HPK hs1 hwl
          have hfd : Fr (fun _ => False) w9 w9.drew := (Fr.refl _ _).drew
          have HSA := hid (stack_told ((HF9.out.swap.fr hfd (fun _ _ e => e)).q) (by have := HDP.out; omega) kk (by omega))
          have dne : (!eqE ev ev) = false := by rw [eqE_iff.2 rfl]; rfl
          refine D.wp_region_mix [1, 1, 0, 0, 0, 0, 0, 0, 0, 0, 0, 2, 0, 0, 0, 2, 0, 0] (fun W => W.heap[w5.heap.size]? = some (.cells (evA ev) TEv (0, 0)) ∧ W.heap[w7.heap.size]? = some (.cells (evA ev) TEv (0, 0))) (by kernel_rfl) (by kernel_rfl) ⟨HGB.out, HG9.out⟩ ?_
          repeat (first
            | ((with_reducible refine C.atM ⟨some 75, _, _, _, _, _⟩ ?_); refine C.wpMix_read (.agg (evA ev)) rfl rfl (fun W hS => load_ev rfl rfl hS.1) ?_; simp only [Act.put, List.setIfInBounds_toArray, List.set_cons_zero, List.set_cons_succ])
            | ((with_reducible refine C.atM ⟨some 76, _, _, _, _, _⟩ ?_); refine C.wpMix_read (.agg (evA ev)) rfl rfl (fun W hS => load_ev rfl rfl hS.2) ?_; simp only [Act.put, List.setIfInBounds_toArray, List.set_cons_zero, List.set_cons_succ])
            | ((with_reducible refine C.atM ⟨some 77, _, _, _, _, _⟩ ?_); refine C.wpMix_value (.bool false) rfl rfl (fun W => by rw [exec_neEv (x := ev) (y := ev) rfl rfl rfl, dne]) ?_; simp only [Act.put, List.setIfInBounds_toArray, List.set_cons_zero, List.set_cons_succ])
            | ((with_reducible refine C.atM ⟨some 86, _, _, _, _, _⟩ ?_); refine C.wpMix_call 15 #[.pointer (some ⟨p1, 0, none⟩), .int .i64 kk] (by decide) rfl (by go_simp) ?_; refine HSA.out.mono ?_; rintro e wB ⟨hbB, u, rfl, hu⟩; have hbC : Below w9.heap.size w9 wB := (⟨hbB.os, hbB.tape, hbB.output, hbB.size, hbB.block⟩ : Below w9.heap.size w9 wB); refine ⟨_, rfl, fun _ => ⟨(hbC.block _ (Array.getElem?_eq_some_iff.1 HGB.out).1).trans HGB.out, (hbC.block _ (Array.getElem?_eq_some_iff.1 HG9.out).1).trans HG9.out⟩, ?_⟩; have HTU := hid hu; have HTV := hid (((HTL.out.cut (k := kk) (by have := HLN.out; omega)).below hbC).up hbC.size); have HBC := hid hbC; clear hbB hu hbC; simp only [Act.put, List.setIfInBounds_toArray, List.set_cons_zero, List.set_cons_succ])
            | ((with_reducible refine C.atM ⟨some 89, _, _, _, _, _⟩ ?_); refine C.wpMix_value (.slice a9 kk c9) rfl rfl (fun W => exec_cutL (k := kk) rfl rfl rfl (by omega)) ?_; simp only [Act.put, List.setIfInBounds_toArray, List.set_cons_zero, List.set_cons_succ])
            | ((with_reducible refine C.atM ⟨some 90, _, _, _, _, _⟩ ?_); refine C.wpMix_call 14 #[u, .slice a9 kk c9] (by decide) rfl (by go_simp) ?_; refine (same_tl wB _ _ _ HTU.out HTV.out).mono ?_; rintro e wD ⟨rfl, hbD⟩; have hbE : Below w9.heap.size w9 wD := HBC.out.trans (hbD.mono HBC.out.size); refine ⟨_, rfl, fun _ => ⟨(hbE.block _ (Array.getElem?_eq_some_iff.1 HGB.out).1).trans HGB.out, (hbE.block _ (Array.getElem?_eq_some_iff.1 HG9.out).1).trans HG9.out⟩, ?_⟩; have HBE := hid hbE; clear hbD hbE; simp only [Act.put, List.setIfInBounds_toArray, List.set_cons_zero, List.set_cons_succ])
            | (refine' C.wpMix_value _ rfl rfl _ _; rotate_left; (solve | (intro W; go_simp) | (intro W; go_simp; with_reducible rfl)); simp only [Act.put, List.setIfInBounds_toArray, List.set_cons_zero, List.set_cons_succ]))
          refine C.wpMix_end ?_
          have HI6 := hid (show OnI w B p1 p2 f2 wD from ⟨(HF9.out.swap.below HBE.out), HOK2.out, HB9.out.trans (HBE.out.mono HB9.out.size), Nat.le_trans hs9 HBE.out.size⟩)
          clear HSA HF9 HG9 HGB HTU HTV HTL
          go_wp2_with fail
          go_roundw
          case rel => exact ⟨q + 1, f2, by omega, by go_num, HI6⟩
          case measure => simp [intOf]; omega
        · obtain rfl : n = q := by omega
          clear hqn
          go_wp2_with (first
            | (go_at_call 8; refine (HA.out _ HI.out.bl).mono ?_; rintro e w7 ⟨rfl, hb7⟩; have HB7 := hid (HI.out.bl.trans (hb7.mono HI.out.bl.size)); clear hb7)
            | fail)
          go_ret
          exact ⟨rfl, HB7.out⟩
end Go.Proofs.YtcoclaabainibaaDoor
