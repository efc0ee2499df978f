/-
  FrameEnds.
-/
import Derived.Test.YtcoclaabainibaaDoorFmJ
namespace Go.Proofs.YtcoclaabainibaaDoor
open Go Go.ChangeShapes Go.WideShapes Go.ChangeAt Go.RowKit

/-- Between two rounds. -/
structure EnI (w : World) (p : Nat) (ls : List Ins) (i : Nat) (f : Fs) (wr : World) : Prop where
  fm : FmA w.heap.size wr p f
  ok : FsR f
  on : f.over = false
  cd : f.code = ls
  le : i ≤ f.p
  bl : Below w.heap.size w wr
theorem EnI.lt {w wr : World} {p i : Nat} {ls : List Ins} {f : Fs} (h : EnI w p ls i f wr) : i < ls.length := by
  obtain ⟨hh, _, ha⟩ := h.ok.right
  have h1 := (ha h.on).lt
  have h2 := h.le
  rw [h.cd] at h1
  omega
set_option maxRecDepth 100000 in
set_option maxHeartbeats 8000000 in
theorem FrameEnds_any {w : World} (hT : TabB w) (ls : List Ins) (ad : Option Addr) (n c : Nat) (arg r v : Int) (hok : ∀ x ∈ ls, InsOk x) (hR : RwI w w.heap.size ad ls) (hn : n = ls.length) (hc : n ≤ c) (hc2 : c ≤ 9223372036854775807) :
    Calls Tryd.prog 4 #[.slice ad n c, iv arg, iv r, iv v] w fun e w' => e = .returned (.bool true) ∧ Below w.heap.size w w' := by
  have HA := hid (awake_holds hT)
  have HNEW := hid (New_any ls arg ad n c w hT hok hR hn hc hc2)
  have HN := hid hn
  clear hT hok hR hn
  by_cases h60 : 60 < n
  · have d1 : decide ((60 : Int) < (n : Int)) = true := decide_eq_true (by omega)
    clear h60
    go_enter Tryd.func4, Tryd.ntmps4
    go_wp2_with (first
      | (go_at_call 8; refine (HA.out _ (Below.refl _ _)).mono ?_; rintro e w7 ⟨rfl, hb7⟩; have HB7 := hid hb7; clear hb7)
      | fail)
    go_ret
    exact ⟨rfl, HB7.out⟩
  have d1 : decide ((60 : Int) < (n : Int)) = false := decide_eq_false (by omega)
  unfold NwP at HNEW
  by_cases he : (checkP ls 8).2.2 = 0
  case neg =>
    simp only [if_neg he] at HNEW
    obtain ⟨er, her⟩ : ∃ er, er = (checkP ls 8).2.2 := ⟨_, rfl⟩
    rw [← her] at HNEW he
    have d2 : (er != 0) = true := by simpa using he
    clear h60 he her
    go_enter Tryd.func4, Tryd.ntmps4
    go_wp2_with (first
      | (go_at_call 9; refine HNEW.out.mono ?_; rintro e w2 ⟨hb2, rfl⟩; have HB2 := hid hb2; clear hb2)
      | (go_at_call 8; refine (HA.out _ HB2.out).mono ?_; rintro e w7 ⟨rfl, hb7⟩; have HB7 := hid (HB2.out.trans (hb7.mono HB2.out.size)); clear hb7)
      | fail)
    go_ret
    exact ⟨rfl, HB7.out⟩
  simp only [if_pos he] at HNEW
  have HOK := hid (fs0_ok arg he)
  clear he
  go_enter Tryd.func4, Tryd.ntmps4
  go_wp2_with (first
    | (go_at_call 9; refine HNEW.out.mono ?_; rintro e w2 ⟨hb2, p, S, qv, sv, rfl, hS, hF⟩; have HI0 := hid (show EnI w p ls 0 (fs0 ls arg) w2 from ⟨⟨S, qv, sv, hS, hF⟩, HOK.out, rfl, rfl, Nat.le_refl _, hb2⟩); clear hb2 hS hF)
    | fail)
  go_loopw [3, 11] (fun vv i wr => ∃ (k : Nat) (z : Int) (f : Fs), i = .int .i64 k ∧ vv = iv z ∧ RowKit.Hid (EnI w p ls k f wr)) (fun _ i _ => n - (intOf i).toNat)
  case atStart => exact ⟨0, v, fs0 ls arg, rfl, rfl, HI0⟩
  case round =>
    obtain ⟨k, z, f, rfl, rfl, HI⟩ := hrel
    have hk : k < n := by rw [HN.out]; exact HI.out.lt
    have hah := nx_ahead HI.out.ok HI.out.on r z
    have hdp := (HI.out.ok.next r z).deep
    have HNX := hid (HI.out.fm.next HI.out.bl.size HI.out.ok r z)
    obtain ⟨ev, hev⟩ : ∃ ev, ev = nxE f r z := ⟨_, rfl⟩
    obtain ⟨z2, hz2⟩ : ∃ z2, z2 = nxV f r z := ⟨_, rfl⟩
    obtain ⟨f2, hf2⟩ : ∃ f2, f2 = nxF f r z := ⟨_, rfl⟩
    rw [← hev, ← hz2, ← hf2] at HNX
    rw [← hev, ← hf2] at hah
    rw [← hf2] at hdp
    obtain ⟨ln, hln⟩ : ∃ ln, ln = f2.st.length := ⟨_, rfl⟩
    have hl8 : decide ((8 : Int) < (ln : Int)) = false := decide_eq_false (by omega)
    have HLN := hid hln
    have HDP := hid hdp
    have HEV := hid hev
    have HF2 := hid hf2
    have HCD := hid (show f2.code = ls by rw [hf2, (nx_code f r z).1]; exact HI.out.cd)
    have HOK2 := hid (show FsR f2 by rw [hf2]; exact HI.out.ok.next r z)
    clear hev hf2 hln hdp hz2
    obtain ⟨kind, slot, meth, en, code⟩ := ev
    simp only at hah
    rcases hah with ⟨hk1, hov⟩ | ⟨hk1, hov, hpp⟩
    · subst hk1
      have HOV := hid hov
      have hx : nxE f2 r z2 = ⟨5, 0, 0, 0, 12⟩ ∧ nxV f2 r z2 = z2 ∧ nxF f2 r z2 = f2 := by unfold nxE nxV nxF; rw [hov]; exact ⟨rfl, rfl, rfl⟩
      have HX := hid hx
      have hst0 := (HOK2.out.done hov).1
      have HST0 := hid hst0
      have d5 : (z2 == z2) = true := by simp
      clear hov hx hst0
      have HSK := hid (fun W (h : StQ W (.pointer (some ⟨p, 0, none⟩)) f2.st) => stack_sl (n := ln) (m := 99) h HDP.out (by omega) HLN.out)
      have HSK9 := hid (fun W (h : StQ W (.pointer (some ⟨p, 0, none⟩)) f2.st) => stack_sl (n := 0) (m := 9) h HDP.out (by omega) (by rw [HST0.out]; rfl))
      go_upto_region 10 with (first
        | (go_at_call 11; refine HNX.out.mono ?_; rintro e w3 ⟨rfl, hF3, hb3⟩; obtain ⟨w4, hw4⟩ : ∃ w4, w4 = (w3.alloc (.cells #[.int .i64 0, .int .i64 0, .int .i64 0, .int .i64 0, .int .i64 0] TEv)).setRow w3.heap.size (evA ⟨1, slot, meth, en, code⟩) := ⟨_, rfl⟩; have hg4 : w4.heap[w3.heap.size]? = some (.cells (evA ⟨1, slot, meth, en, code⟩) TEv (0, 0)) := (by rw [hw4]; exact setRow_heap _ _ _ _ _ _ (heap_alloc_new _ _)); have hb34 : Below w3.heap.size w3 w4 := (by rw [hw4]; exact below_setRow ((Below.refl _ _).alloc (Nat.le_refl _) _) _ _ (Nat.le_refl _)); have HW4 := hid hw4; have HF4 := hid (hF3.no (Fr.of_below hb34)); have HB4 := hid (HI.out.bl.trans (hb3.trans (hb34.mono (Nat.le_trans HI.out.bl.size hb3.size)))); have HG4 := hid hg4; clear hF3 hb3 hw4 hb34 hg4)
        | ((with_reducible refine at_op ⟨none, .store TEv (.tmp 12) (.tmp 40), _, _, _, _⟩ ?_); refine wpList_store_row rfl TEv _ _ rfl w3.heap.size (evA ⟨1, slot, meth, en, code⟩) rfl rfl TEv (evA evZ) (heap_alloc_new _ _) szEv rfl (evA_one _) ?_; rw [← HW4.out])
        | fail)
      clear HNX
      go_upto_region 14 with (first
        | (go_at_call 15; refine (HSK.out _ HF4.out.q).mono ?_; rintro e w5 ⟨hb5, a5, c5, rfl, _, _⟩; have hg5 := (hb5.block w3.heap.size (Array.getElem?_eq_some_iff.1 HG4.out).1).trans HG4.out; have k5 := cell_of_row w5 w3.heap.size 0 _ _ _ hg5; simp only [evA, List.getElem?_toArray, List.getElem?_cons_zero] at k5; have HF5 := hid (HF4.out.no (Fr.of_below hb5)); have HB5 := hid (HB4.out.trans (hb5.mono HB4.out.size)); clear hb5 hg5)
        | fail)
      clear k5
      have HNX2 := hid (HF5.out.next HB5.out.size HOK2.out r z2)
      rw [HX.out.1, HX.out.2.1, HX.out.2.2] at HNX2
      go_upto_region 15 with (first
        | (go_at_call 11; refine HNX2.out.mono ?_; rintro e w6 ⟨rfl, hF6, hb6⟩; obtain ⟨w7, hw7⟩ : ∃ w7, w7 = (w6.alloc (.cells #[.int .i64 0, .int .i64 0, .int .i64 0, .int .i64 0, .int .i64 0] TEv)).setRow w6.heap.size (evA ⟨5, 0, 0, 0, 12⟩) := ⟨_, rfl⟩; have hg7 : w7.heap[w6.heap.size]? = some (.cells (evA ⟨5, 0, 0, 0, 12⟩) TEv (0, 0)) := (by rw [hw7]; exact setRow_heap _ _ _ _ _ _ (heap_alloc_new _ _)); have hb67 : Below w6.heap.size w6 w7 := (by rw [hw7]; exact below_setRow ((Below.refl _ _).alloc (Nat.le_refl _) _) _ _ (Nat.le_refl _)); have HW7 := hid hw7; have HF7 := hid (hF6.no (Fr.of_below hb67)); have HB7 := hid (HB5.out.trans (hb6.trans (hb67.mono (Nat.le_trans HB5.out.size hb6.size)))); have HG7 := hid hg7; clear hF6 hb6 hw7 hb67 hg7)
        | ((with_reducible refine at_op ⟨none, .store TEv (.tmp 14) (.tmp 55), _, _, _, _⟩ ?_); refine wpList_store_row rfl TEv _ _ rfl w6.heap.size (evA ⟨5, 0, 0, 0, 12⟩) rfl rfl TEv (evA evZ) (heap_alloc_new _ _) szEv rfl (evA_one _) ?_; rw [← HW7.out])
        | fail)
      clear HNX2 HSK
      go_wp2_with (first
        | ((with_reducible refine at_op ⟨some 57, _, _, _, _, _⟩ ?_); refine wpList_runW rfl (.agg (evA ⟨5, 0, 0, 0, 12⟩)) (load_ev rfl rfl HG7.out) ?_)
        | ((with_reducible refine at_op ⟨some 59, _, _, _, _, _⟩ ?_); refine wpList_runW rfl (.bool true) (exec_eqEv (x := ⟨5, 0, 0, 0, 12⟩) (y := ⟨5, 0, 0, 0, 12⟩) rfl rfl rfl) ?_)
        | (go_at_call 15; refine (HSK9.out _ HF7.out.q).mono ?_; rintro e w8 ⟨hb8, a8, c8, rfl, _, _⟩; have HB8 := hid (HB7.out.trans (hb8.mono HB7.out.size)); clear hb8)
        | (go_at_call 8; refine (HA.out _ HB8.out).mono ?_; rintro e w9 ⟨rfl, hb9⟩; have HB9 := hid (HB8.out.trans (hb9.mono HB8.out.size)); clear hb9)
        | fail)
      go_ret
      exact ⟨rfl, HB9.out⟩
    · have d4 : (kind != 1) = true := by simpa using hk1
      have HOV := hid hov
      have HPP := hid hpp
      have HSK := hid (fun W (h : StQ W (.pointer (some ⟨p, 0, none⟩)) f2.st) => stack_sl (n := ln) (m := 99) h HDP.out (by omega) HLN.out)
      clear hk1 hov hpp
      go_upto_region 10 with (first
        | (go_at_call 11; refine HNX.out.mono ?_; rintro e w3 ⟨rfl, hF3, hb3⟩; obtain ⟨w4, hw4⟩ : ∃ w4, w4 = (w3.alloc (.cells #[.int .i64 0, .int .i64 0, .int .i64 0, .int .i64 0, .int .i64 0] TEv)).setRow w3.heap.size (evA ⟨kind, slot, meth, en, code⟩) := ⟨_, rfl⟩; have hg4 : w4.heap[w3.heap.size]? = some (.cells (evA ⟨kind, slot, meth, en, code⟩) TEv (0, 0)) := (by rw [hw4]; exact setRow_heap _ _ _ _ _ _ (heap_alloc_new _ _)); have hb34 : Below w3.heap.size w3 w4 := (by rw [hw4]; exact below_setRow ((Below.refl _ _).alloc (Nat.le_refl _) _) _ _ (Nat.le_refl _)); have HW4 := hid hw4; have HF4 := hid (hF3.no (Fr.of_below hb34)); have HB4 := hid (HI.out.bl.trans (hb3.trans (hb34.mono (Nat.le_trans HI.out.bl.size hb3.size)))); have HG4 := hid hg4; clear hF3 hb3 hw4 hb34 hg4)
        | ((with_reducible refine at_op ⟨none, .store TEv (.tmp 12) (.tmp 40), _, _, _, _⟩ ?_); refine wpList_store_row rfl TEv _ _ rfl w3.heap.size (evA ⟨kind, slot, meth, en, code⟩) rfl rfl TEv (evA evZ) (heap_alloc_new _ _) szEv rfl (evA_one _) ?_; rw [← HW4.out])
        | fail)
      clear HNX
      go_wp2_with (first
        | (go_at_call 15; refine (HSK.out _ HF4.out.q).mono ?_; rintro e w5 ⟨hb5, a5, c5, rfl, _, _⟩; have hg5 := (hb5.block w3.heap.size (Array.getElem?_eq_some_iff.1 HG4.out).1).trans HG4.out; have k5 := cell_of_row w5 w3.heap.size 0 _ _ _ hg5; simp only [evA, List.getElem?_toArray, List.getElem?_cons_zero] at k5; have HF5 := hid (HF4.out.no (Fr.of_below hb5)); have HB5 := hid (HB4.out.trans (hb5.mono HB4.out.size)); clear hb5 hg5)
        | fail)
      have HI6 := hid (show EnI w p ls (k + 1) f2 w5 from ⟨HF5.out, HOK2.out, HOV.out, HCD.out, by have := HPP.out; have := HI.out.le; omega, HB5.out⟩)
      go_roundw
      case rel => exact ⟨k + 1, z2, f2, by go_num, rfl, HI6⟩
      case measure => simp [intOf]; omega
end Go.Proofs.YtcoclaabainibaaDoor
