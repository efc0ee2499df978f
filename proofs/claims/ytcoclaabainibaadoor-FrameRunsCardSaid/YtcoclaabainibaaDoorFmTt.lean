/-
  The plain twin's Next, where a result is to be laid. (Written by tools/genfmt.py.)
-/
import Derived.Test.YtcoclaabainibaaDoorFmT
import Derived.Deep.LoopGhost
namespace Go.Proofs.YtcoclaabainibaaDoor
open Go Go.ChangeShapes Go.WideShapes Go.ChangeAt Go.RowKit

set_option maxRecDepth 100000 in
set_option maxHeartbeats 16000000 in
theorem TNext_yes {w : World} {S : Nat → Prop} {p : Nat} {f : Fs} {qv sv : Value} (h : TwW w S p f qv sv) (hf : FsR f) (ho : f.over = false) (hc : f.calls = true) (r v : Int) : Calls Tryd.prog 12 #[.pointer (some ⟨p, 0, none⟩), iv r, iv v] w (TnP w S p f r v) := by
  obtain ⟨hh, hr, hat⟩ := hf.right
  replace hat := hat ho
  rw [← FsR.laid (result := r)] at hat
  have h32 := hr.2.1
  have hl1 := hr.1
  have hd9 := hf.deep
  obtain ⟨w1, hw1⟩ : ∃ w1, w1 = w.alloc (.cells (evA evZ) TEv) := ⟨_, rfl⟩
  have hf1 : Fr (fun _ => False) w w1 := by rw [hw1]; exact (Fr.refl _ _).alloc _
  obtain ⟨rc, hrc⟩ : ∃ rc, rc = w.heap.size := ⟨_, rfl⟩
  have hr1 : w1.heap[rc]? = some (.cells (evA evZ) TEv (0, 0)) := by rw [hw1, hrc]; exact heap_alloc_new _ _
  have h1 := h.no hf1
  have hI1 : TwI w1 S p f qv sv w1 := ⟨h1.up (fun k hk => .inl hk) (fun k hk => by
    rcases hk with e | e
    · exact h1.sl k e
    · exact e.2), Fr.refl _ _⟩
  obtain ⟨b, o, c, hqv, _⟩ := h.ins (i := 0) (x := f.code[0]'(by omega)) (List.getElem?_eq_getElem _)
  obtain ⟨n, hn⟩ : ∃ n, n = f.code.length := ⟨_, rfl⟩
  have c5 := h1.c5
  rw [ho] at c5
  have c4 := h1.c4
  have hrS : ¬ S rc := fun e => by have := h.sl rc e; omega
  have hrl : rc < w1.heap.size := (Array.getElem?_eq_some_iff.1 hr1).1
  obtain ⟨g, hg⟩ : ∃ g : Fs, g = ⟨f.code, f.arg, f.p, f.st, false, false⟩ := ⟨_, rfl⟩
  obtain ⟨m0, hm0⟩ : ∃ m0 : Mo, m0 = ⟨f.p, laid f r, v⟩ := ⟨_, rfl⟩
  have HM0 := hid hm0
  have HG := hid hg
  have HRR := hid hr
  have HAT := hid hat
  have HO := hid ho
  have HI1 := hid hI1
  have HF1 := hid hf1
  have HR1 := hid hr1
  have HW1 := hid hw1
  have HRC := hid hrc
  have HQV := hid hqv
  have HDP := hid hd9
  have HN := hid hn
  clear hf hr hat ho h h1 hf1 hr1 hw1 hrc hqv hg hm0 hd9 hn hI1
  go_enter Tryd.func12, Tryd.ntmps12
  go_upto_region 1 with fail
  change Code.wp _ _ _ _ (w.alloc (.cells (evA evZ) TEv))
  rw [← HW1.out]
  rw [hc] at c4
  have hst : laid f r = f.st ++ [r] := by unfold laid; rw [hc]; rfl
  have HST := hid hst
  obtain ⟨sa, sc, hsv⟩ : ∃ sa sc, sv = Value.slice sa f.st.length sc := own_form HI1.out.tw.row
  have c3 := HI1.out.tw.c3
  rw [hsv] at c3
  have hrw : w1.ownsRow 0 TL 1 (.slice sa f.st.length sc) f.st.length (f.st.map iv) := by have h := HI1.out.tw.row; rw [hsv] at h; exact h
  have HSV := hid hsv
  have HROW := hid hrw
  have hd8 := HDP.out
  clear hc hst hsv hrw
  go_upto_region 5 with (first
    | ((with_reducible refine at_op ⟨some 28, _, _, _, _, _⟩ ?_); go_loud (refine wpList_appZ rfl (.tmp 25) (.tmp 27) rfl 0 (.slice sa f.st.length sc) f.st [r] rfl (World.ownsRow.alloc HROW.out _) w1.heap.size 0 1 1 rfl rfl (fun j y hy => new_one w1 r j y hy) (by simp; omega) (Nat.zero_le _) ?_); intro v2 w2 k1 k2 k3; obtain ⟨ln, hln⟩ : ∃ ln, ln = (f.st ++ [r]).length := ⟨_, rfl⟩; rw [← hln] at k1; obtain ⟨va, vc, hv2⟩ := own_form k1; subst hv2; obtain ⟨hp2, hT⟩ := HI1.out.app (x := r) (o := .cells #[iv r] TL) (Fr.refl _ _) hln k1 (by rw [HSV.out]; exact k2) (by rw [HSV.out]; exact k3); have HT2 := hid hT; have d6 := cell_of_row w2 p 3 _ _ _ hp2; have z6 := frozen_of_row w2 p 3 _ _ hp2; simp only [List.getElem?_toArray, List.getElem?_cons_succ, List.getElem?_cons_zero] at d6; clear k1 k2 k3 hp2 hT hln)
    | fail)
  obtain ⟨w3, hw3⟩ : ∃ w3, w3 = w2.setCell ⟨p, 3, none⟩ (.slice va ln vc) := ⟨_, rfl⟩
  have ht := HT2.out
  rw [← hw3] at ht
  change Code.wp _ _ _ _ (w2.setCell ⟨p, 3, none⟩ (.slice va ln vc))
  rw [← hw3]
  have c4 := ht.tw.c4
  have z4 := ht.tw.fz 4
  obtain ⟨q1, _⟩ := ht.put1 4 (.bool false) (f2 := ((f.wSt (f.st ++ [r])).wC false)) rfl rfl rfl
  obtain ⟨w4, hw4⟩ : ∃ w4, w4 = w3.setCell ⟨p, 4, none⟩ (.bool false) := ⟨_, rfl⟩
  rw [← hw4] at q1
  have HI : RowKit.Hid (LpT w1 S p g hh m0 qv m0 w4) := hid ⟨_, by
    have e : g.wM m0 = ((f.wSt (f.st ++ [r])).wC false) := by
      rw [HG.out, HM0.out, HST.out]
      rcases f with ⟨f1, f2, f3, f4, f5, f6⟩
      have := HO.out
      simp only at this
      subst this
      rfl
    rw [e]
    exact q1, by rw [HG.out, HM0.out]; exact HAT.out, rfl⟩
  have HW4 := hid hw4
  clear hw3 ht q1 hw4 HT2 HROW HSV c3 d6 z6
  go_wp2_with fail
  change Code.wp _ _ _ _ (w3.setCell ⟨p, 4, none⟩ (.bool false))
  rw [← HW4.out]
  clear c4 z4
  go_loopg [2] (n - m0.p) (fun k vv wr => ∃ m : Mo, vv = iv m.v ∧ RowKit.Hid (LpT w1 S p g hh m0 qv m wr) ∧ k = n - m.p)
  case atStart => exact ⟨m0, by rw [HM0.out], HI, rfl⟩
  case round =>
    obtain ⟨m, rfl, HL, hk⟩ := hrel
    obtain ⟨sv3, hTw, hat, heq⟩ := HL.out
    have HEQ := hid heq
    clear heq
    have hcd : g.code = f.code := by rw [HG.out]
    have hag : g.arg = f.arg := by rw [HG.out]
    have hov : g.over = false := by rw [HG.out]
    have hca : g.calls = false := by rw [HG.out]
    rw [hcd] at hat
    have hx := List.getElem?_eq_getElem hat.lt
    generalize f.code[m.p]'hat.lt = x at hx
    have hxg : (g.wM m).code[(g.wM m).p]? = some x := by show g.code[m.p]? = some x; rw [hcd]; exact hx
    obtain ⟨b3, o3, c3, hq3, hat3⟩ := hTw.tw.ins hxg
    have hqv := HQV.out
    rw [hq3] at hqv
    simp only [Value.slice.injEq, Option.some.injEq, Addr.mk.injEq, and_true] at hqv
    obtain ⟨⟨e1, e2⟩, _, _⟩ := hqv
    have c0 : wr.cell? ⟨p, 0, none⟩ = some (.slice (some ⟨b, o, none⟩) n c) := by rw [hTw.tw.c0, HQV.out, HN.out]
    have c2 : wr.cell? ⟨p, 2, none⟩ = some (nI m.p) := hTw.tw.c2
    obtain ⟨o1, o2, o3x, o4, o5, o6⟩ := hat.op HRR.out hx
    have hsk := fun e => hat.skip HRR.out hx e
    have hmn : m.p < n := by rw [HN.out]; exact hat.lt
    have dlt : decide ((m.p : Int) < (n : Int)) = true := decide_eq_true (by omega)
    have hat4 : AtL wr b (o + m.p * 3) (insc x) := by rw [← e1, ← e2]; exact hat3 wr (Fr.refl _ _)
    have HAT4 := hid hat4
    have HX := hid hx
    have HOV := hid hov
    have HCA := hid hca
    have HCD := hid hcd
    have HAG := hid hag
    have HAT2 := hid hat
    have HTW := hid hTw
    have HK := hid hk
    have hn32 : n ≤ 32 := by rw [HN.out]; exact h32
    clear hx hxg hov hca hcd hag hat hTw hq3 hat3 hat4 e1 e2 hk
    go_upto_region 6 with fail
    go_quiet (fail)
    have HSP := hid (show SP (wr.drewN nq) p b o n c m.p x (wr.drewN nq) from ⟨c0, c2, HAT4.out.no ((Fr.refl _ _).drewN _), Fr.refl _ _⟩)
    have HTQ := hid (HTW.out.no ((Fr.refl _ _).drewN nq))
    obtain ⟨wq, hwq⟩ : ∃ wq, wq = wr.drewN nq := ⟨_, rfl⟩
    rw [← hwq] at HSP HTQ ⊢
    clear c0 c2 HAT4 HTW hwq
    go_upto_region 7 with fail
    refine A.wp_region_new' 10 _ _ rfl (SP wq p b o n c m.p x) (fun g W => W.heap[g]? = some (.cells (insA ⟨0, 0, 0⟩) TIn (0, 0)) ∧ wq.heap.size ≤ g) (by kernel_rfl) (by kernel_rfl) rfl rfl (HSP.out.on ((Fr.refl _ _).drew)) ?hT ?hal ?_
    case hT => exact fun g W W' hh hF => ⟨(hF.block g (Array.getElem?_eq_some_iff.1 hh.1).1 (fun h => h)).trans hh.1, hh.2⟩
    case hal =>
      intro a W hS
      refine ⟨W.alloc (.cells (insA ⟨0, 0, 0⟩) TIn), ?_, hS.on ((Fr.refl _ _).alloc _), heap_alloc_new _ _, hS.fr.size⟩
      go_simp
      rfl
    simp only [List.take_succ_cons, List.take_zero]
    repeat (first
      | ((with_reducible refine A.atS ⟨some 53, _, _, _, _, _⟩ ?_); refine A.wpSure_read (.agg (insA x)) rfl (fun W hS => load_ia rfl rfl hS.at_) ?_; simp only [Act.put, List.setIfInBounds_toArray, List.set_cons_zero, List.set_cons_succ])
      | (refine' A.wpSure_value _ rfl _ _; rotate_left; (solve | (intro W; go_simp) | (intro W; go_simp; with_reducible rfl)); simp only [Act.put, List.setIfInBounds_toArray, List.set_cons_zero, List.set_cons_succ])
      | (refine' A.wpSure_read _ rfl _ _; rotate_left; (solve | (intro W hS; have k1 := hS.c0; have k2 := hS.c2; clear hS; go_simp) | (intro W hS; have k1 := hS.c0; have k2 := hS.c2; clear hS; go_simp; with_reducible rfl)); simp only [Act.put, List.setIfInBounds_toArray, List.set_cons_zero, List.set_cons_succ]))
    refine A.wpSure_end ?_
    intro g2 W hS hg
    refine wpList_store_row rfl TIn _ _ rfl g2 (insA x) rfl rfl TIn _ hg.1 (by kernel_rfl) rfl (insA_one x) ?_
    obtain ⟨W2, hW2⟩ : ∃ W2, W2 = W.setRow g2 (insA x) := ⟨_, rfl⟩
    have hg2 : InI W2 g2 x := by rw [hW2]; exact setRow_heap _ _ _ _ _ _ hg.1
    have hf2 : Fr (fun _ => False) wq W2 := by rw [hW2]; exact hS.fr.setRow _ _ (fun hk => absurd hk (by omega))
    rw [← hW2]
    have hT2 := HTQ.out.no hf2
    have hgp : g2 ≠ p := fun e => by have := HTQ.out.tw.lt; omega
    obtain ⟨n1, hn1⟩ : ∃ n1, n1 = m.p + 1 := ⟨_, rfl⟩
    have hs : ((m.p : Int) + 1) = (n1 : Int) := by omega
    have hwn := IntWalk.i64_in (n1 : Int) (by omega)
    have c2 : W2.cell? ⟨p, 2, none⟩ = some (nI m.p) := hT2.tw.c2
    have z2 := hT2.tw.fz 2
    obtain ⟨q1, q3⟩ := hT2.put1 2 (nI n1) (f2 := (g.wM m).wP n1) rfl rfl rfl
    obtain ⟨W3, hW3⟩ : ∃ W3, W3 = W2.setCell ⟨p, 2, none⟩ (nI n1) := ⟨_, rfl⟩
    rw [← hW3] at q1 q3
    have hg3 : InI W3 g2 x := (q3.block g2 (Array.getElem?_eq_some_iff.1 hg2).1 (fun e => hgp e)).trans hg2
    have i0 := hg3.c0
    have HT3 := hid q1
    have HG3 := hid hg3
    have HW3 := hid hW3
    have HN1 := hid hn1
    clear hW2 hf2 hS hg hg2 hT2 q1 q3 hg3 hW3 HSP HTQ hn1 W
    simp only [Act.put, List.setIfInBounds_toArray, List.set_cons_zero, List.set_cons_succ]
    go_upto_region 9 with fail
    change Code.wp _ _ _ _ (W2.setCell ⟨p, 2, none⟩ (nI n1))
    rw [← HW3.out]
    clear c2 z2 hs hwn HW3
    obtain ⟨op, xa, xb⟩ := x
    simp only at i0 o1 o2 o3x o4 o5 hsk
    have hdep : op = 4 ∨ op = 6 ∨ op = 7 ∨ op = 8 ∨ op = 11 → 1 ≤ m.st.length := fun e => by
      rcases e with e | e | e | e | e
      · exact o3x (by omega)
      · exact o3x (by omega)
      · exact o3x (by omega)
      · exact o3x (by omega)
      · have := o5 e; omega
    have hdep5 : op = 5 → 2 ≤ m.st.length := o4
    have hskp : op = 7 → 1 ≤ xa ∧ xa ≤ 30 := fun e => ⟨(hsk e).1, (hsk e).2.1⟩
    clear hsk o3x o4 o5
    rcases (show op = 1 ∨ op = 2 ∨ op = 3 ∨ op = 4 ∨ op = 5 ∨ op = 6 ∨ op = 7 ∨ op = 8 ∨ op = 9 ∨ op = 10 ∨ op = 11 by omega) with rfl | rfl | rfl | rfl | rfl | rfl | rfl | rfl | rfl | rfl | rfl
    · as_aux_lemma =>
        obtain ⟨sa, sc, hsv⟩ : ∃ sa sc, sv3 = .slice sa m.st.length sc := own_form HT3.out.tw.row
        have c3 : W3.cell? ⟨p, 3, none⟩ = some (.slice sa m.st.length sc) := by rw [HT3.out.tw.c3, hsv]
        have j1 := HG3.out.c1
        simp only at j1
        have hrw : W3.ownsRow 0 TL 1 (.slice sa m.st.length sc) m.st.length (m.st.map iv) := by have h := HT3.out.tw.row; rw [hsv] at h; exact h
        obtain ⟨wd, hwd⟩ : ∃ wd, wd = W3.drew := ⟨_, rfl⟩
        have hfd : Fr (fun _ => False) W3 wd := by rw [hwd]; exact (Fr.refl _ _).drew
        obtain ⟨w6, hw6⟩ : ∃ w6, w6 = wd.alloc (.cells #[iv xa] TL) := ⟨_, rfl⟩
        have hf6 : Fr (fun _ => False) W3 w6 := by rw [hw6]; exact hfd.alloc _
        obtain ⟨v8, w8, r1, r2, r3, r4⟩ := run_pushL (w := w6) 23 0 _ m.st xa (hf6.owns hrw (fun _ _ e => e)) wd.heap.size 1 (by rw [hw6, cell_of_row _ _ 0 _ _ _ (heap_alloc_new wd _)]; rfl) (by omega) (Nat.zero_le _)
        obtain ⟨va, vc, hv8⟩ := own_form r2
        subst hv8
        obtain ⟨hp8, hT8⟩ := HT3.out.app (x := xa) (o := .cells #[iv xa] TL) hfd rfl r2 (by rw [← hw6, hsv]; exact r3) (by rw [← hw6, hsv]; exact r4)
        have HT6 := hid hT8
        have d6 := cell_of_row w8 p 3 _ _ _ hp8
        have z6 := frozen_of_row w8 p 3 _ _ hp8
        simp only [List.getElem?_toArray, List.getElem?_cons_succ, List.getElem?_cons_zero] at d6
        rw [hsv] at d6
        have c3d := (World.cell?_of_block (w := W3) (w' := wd) (a := ⟨p, 3, none⟩) (hfd.block p HT3.out.tw.lt (fun e => e))).trans c3
        have c36 := (World.cell?_of_block (w := W3) (w' := w6) (a := ⟨p, 3, none⟩) (hf6.block p HT3.out.tw.lt (fun e => e))).trans c3
        have hgl := (Array.getElem?_eq_some_iff.1 HG3.out).1
        have hsg : sv3.ownBlock ≠ some g2 := fun e => typ_ne HG3.out HT3.out.tw.row (by decide) e rfl
        have j1d := (World.cell?_of_block (w := W3) (w' := wd) (a := ⟨g2, 1, none⟩) (hfd.block g2 hgl (fun e => e))).trans j1
        have j16 := (World.cell?_of_block (w := W3) (w' := w6) (a := ⟨g2, 1, none⟩) (hf6.block g2 hgl (fun e => e))).trans j1
        have j18 := (World.cell?_of_block (w := w6) (w' := w8) (a := ⟨g2, 1, none⟩) (r3.block g2 (Nat.lt_of_lt_of_le hgl hf6.size) (fun e => hsg (by rw [hsv]; exact e.symm)))).trans j16
        clear hsg hgl
        clear hrw r2 r3 r4 hp8 hT8 hfd hf6 hsv
        go_upto_region 12 with fail
        refine D.wp_region_mix [0, 0, 0, 0, 1, 0, 1, 2, 2, 0, 0, 3] (fun W => W.cell? ⟨p, 3, none⟩ = some (.slice sa m.st.length sc) ∧ W.cell? ⟨g2, 1, none⟩ = some (.int .i64 xa)) (by kernel_rfl) (by kernel_rfl) (by rw [← hwd]; exact ⟨c3d, j1d⟩) ?_
        rw [← hwd]
        clear hwd
        repeat (first
          | ((with_reducible refine C.atM ⟨some 73, _, _, _, _, _⟩ ?_); refine C.wpMix_write _ w6 (by decide) rfl (by rw [hw6]; exact exec_one rfl rfl ⟨_, rfl⟩) (fun _ => ⟨c36, j16⟩) ?_; simp only [Act.put, List.setIfInBounds_toArray, List.set_cons_zero, List.set_cons_succ])
          | ((with_reducible refine C.atM ⟨some 74, _, _, _, _, _⟩ ?_); refine C.wpMix_write _ w8 (by decide) rfl (exec_append rfl rfl rfl r1) (fun _ => ⟨d6, j18⟩) ?_; simp only [Act.put, List.setIfInBounds_toArray, List.set_cons_zero, List.set_cons_succ])
          | (refine' C.wpMix_value _ rfl rfl _ _; rotate_left; (solve | (intro W; go_simp) | (intro W; go_simp; with_reducible rfl)); simp only [Act.put, List.setIfInBounds_toArray, List.set_cons_zero, List.set_cons_succ])
          | (refine' C.wpMix_read _ rfl rfl _ _; rotate_left; (solve | (rintro W ⟨h1, h2⟩; go_simp) | (rintro W ⟨h1, h2⟩; go_simp; with_reducible rfl)); simp only [Act.put, List.setIfInBounds_toArray, List.set_cons_zero, List.set_cons_succ]))
        refine C.wpMix_skip (w8.setCell ⟨p, 3, none⟩ (.slice va (m.st ++ [xa]).length vc)) (by decide) rfl (by go_simp) (fun h => by cases h) ?_
        simp only [Act.put]
        refine C.wpMix_end ?_
        clear c3 c3d c36 j1 j1d j16 j18 d6 z6 r1 hw6
        have e1 : (((g.wM m).wP n1).wSt (m.st ++ [xa])) = g.wM (stp g.arg ⟨1, xa, xb⟩ m) := by rw [HN1.out]; rfl
        have HL6 : RowKit.Hid (LpT w1 S p g hh m0 qv (stp g.arg ⟨1, xa, xb⟩ m) _) := hid ⟨_, by rw [← e1]; exact HT6.out, by rw [HCD.out, HAG.out]; exact HAT2.out.stp HRR.out HX.out (show (1 : Int) < 8 by decide), HEQ.out.trans (rest_go (by rw [HCD.out]; exact HX.out) (show (1 : Int) < 8 by decide))⟩
        have hsl := stp_lt g.arg ⟨1, xa, xb⟩ m
        go_wp2_with fail
        go_roundg (n - (stp g.arg ⟨1, xa, xb⟩ m).p)
        case measure => have := HK.out; omega
        case rel => exact ⟨stp g.arg ⟨1, xa, xb⟩ m, rfl, HL6, rfl⟩
    · as_aux_lemma =>
        obtain ⟨sa, sc, hsv⟩ : ∃ sa sc, sv3 = .slice sa m.st.length sc := own_form HT3.out.tw.row
        have c3 : W3.cell? ⟨p, 3, none⟩ = some (.slice sa m.st.length sc) := by rw [HT3.out.tw.c3, hsv]
        have j1 := HT3.out.tw.c1
        have hrw : W3.ownsRow 0 TL 1 (.slice sa m.st.length sc) m.st.length (m.st.map iv) := by have h := HT3.out.tw.row; rw [hsv] at h; exact h
        obtain ⟨wd, hwd⟩ : ∃ wd, wd = W3.drew := ⟨_, rfl⟩
        have hfd : Fr (fun _ => False) W3 wd := by rw [hwd]; exact (Fr.refl _ _).drew
        obtain ⟨w6, hw6⟩ : ∃ w6, w6 = wd.alloc (.cells #[iv g.arg] TL) := ⟨_, rfl⟩
        have hf6 : Fr (fun _ => False) W3 w6 := by rw [hw6]; exact hfd.alloc _
        obtain ⟨v8, w8, r1, r2, r3, r4⟩ := run_pushL (w := w6) 23 0 _ m.st g.arg (hf6.owns hrw (fun _ _ e => e)) wd.heap.size 1 (by rw [hw6, cell_of_row _ _ 0 _ _ _ (heap_alloc_new wd _)]; rfl) (by omega) (Nat.zero_le _)
        obtain ⟨va, vc, hv8⟩ := own_form r2
        subst hv8
        obtain ⟨hp8, hT8⟩ := HT3.out.app (x := g.arg) (o := .cells #[iv g.arg] TL) hfd rfl r2 (by rw [← hw6, hsv]; exact r3) (by rw [← hw6, hsv]; exact r4)
        have HT6 := hid hT8
        have d6 := cell_of_row w8 p 3 _ _ _ hp8
        have z6 := frozen_of_row w8 p 3 _ _ hp8
        simp only [List.getElem?_toArray, List.getElem?_cons_succ, List.getElem?_cons_zero] at d6
        rw [hsv] at d6
        have c3d := (World.cell?_of_block (w := W3) (w' := wd) (a := ⟨p, 3, none⟩) (hfd.block p HT3.out.tw.lt (fun e => e))).trans c3
        have c36 := (World.cell?_of_block (w := W3) (w' := w6) (a := ⟨p, 3, none⟩) (hf6.block p HT3.out.tw.lt (fun e => e))).trans c3
        have j1d := (World.cell?_of_block (w := W3) (w' := wd) (a := ⟨p, 1, none⟩) (hfd.block p HT3.out.tw.lt (fun e => e))).trans j1
        have j16 := (World.cell?_of_block (w := W3) (w' := w6) (a := ⟨p, 1, none⟩) (hf6.block p HT3.out.tw.lt (fun e => e))).trans j1
        have j18 : w8.cell? ⟨p, 1, none⟩ = some (iv g.arg) := by rw [cell_of_row w8 p 1 _ _ _ hp8]; rfl
        clear hrw r2 r3 r4 hp8 hT8 hfd hf6 hsv
        go_upto_region 14 with fail
        refine D.wp_region_mix [0, 0, 0, 0, 1, 0, 0, 0, 1, 2, 2, 0, 0, 3] (fun W => W.cell? ⟨p, 3, none⟩ = some (.slice sa m.st.length sc) ∧ W.cell? ⟨p, 1, none⟩ = some (iv g.arg)) (by kernel_rfl) (by kernel_rfl) (by rw [← hwd]; exact ⟨c3d, j1d⟩) ?_
        rw [← hwd]
        clear hwd
        repeat (first
          | ((with_reducible refine C.atM ⟨some 88, _, _, _, _, _⟩ ?_); refine C.wpMix_write _ w6 (by decide) rfl (by rw [hw6]; exact exec_one rfl rfl ⟨_, rfl⟩) (fun _ => ⟨c36, j16⟩) ?_; simp only [Act.put, List.setIfInBounds_toArray, List.set_cons_zero, List.set_cons_succ])
          | ((with_reducible refine C.atM ⟨some 89, _, _, _, _, _⟩ ?_); refine C.wpMix_write _ w8 (by decide) rfl (exec_append rfl rfl rfl r1) (fun _ => ⟨d6, j18⟩) ?_; simp only [Act.put, List.setIfInBounds_toArray, List.set_cons_zero, List.set_cons_succ])
          | (refine' C.wpMix_value _ rfl rfl _ _; rotate_left; (solve | (intro W; go_simp) | (intro W; go_simp; with_reducible rfl)); simp only [Act.put, List.setIfInBounds_toArray, List.set_cons_zero, List.set_cons_succ])
          | (refine' C.wpMix_read _ rfl rfl _ _; rotate_left; (solve | (rintro W ⟨h1, h2⟩; go_simp) | (rintro W ⟨h1, h2⟩; go_simp; with_reducible rfl)); simp only [Act.put, List.setIfInBounds_toArray, List.set_cons_zero, List.set_cons_succ]))
        refine C.wpMix_skip (w8.setCell ⟨p, 3, none⟩ (.slice va (m.st ++ [g.arg]).length vc)) (by decide) rfl (by go_simp) (fun h => by cases h) ?_
        simp only [Act.put]
        refine C.wpMix_end ?_
        clear c3 c3d c36 j1 j1d j16 j18 d6 z6 r1 hw6
        have e1 : (((g.wM m).wP n1).wSt (m.st ++ [g.arg])) = g.wM (stp g.arg ⟨2, xa, xb⟩ m) := by rw [HN1.out]; rfl
        have HL6 : RowKit.Hid (LpT w1 S p g hh m0 qv (stp g.arg ⟨2, xa, xb⟩ m) _) := hid ⟨_, by rw [← e1]; exact HT6.out, by rw [HCD.out, HAG.out]; exact HAT2.out.stp HRR.out HX.out (show (2 : Int) < 8 by decide), HEQ.out.trans (rest_go (by rw [HCD.out]; exact HX.out) (show (2 : Int) < 8 by decide))⟩
        have hsl := stp_lt g.arg ⟨2, xa, xb⟩ m
        go_wp2_with fail
        go_roundg (n - (stp g.arg ⟨2, xa, xb⟩ m).p)
        case measure => have := HK.out; omega
        case rel => exact ⟨stp g.arg ⟨2, xa, xb⟩ m, rfl, HL6, rfl⟩
    · as_aux_lemma =>
        obtain ⟨sa, sc, hsv⟩ : ∃ sa sc, _ = Value.slice sa (m.st).length sc := own_form HT3.out.tw.row
        have c3 := HT3.out.tw.c3
        rw [hsv] at c3
        have hrw : W3.ownsRow 0 TL 1 (.slice sa (m.st).length sc) (m.st).length ((m.st).map iv) := by have h := HT3.out.tw.row; rw [hsv] at h; exact h
        have HSV := hid hsv
        have HROW := hid hrw
        clear hsv hrw
        go_wp2_with (first
          | ((with_reducible refine at_op ⟨some 101, _, _, _, _, _⟩ ?_); go_loud (refine wpList_appZ rfl (.tmp 98) (.tmp 100) rfl 0 (.slice sa (m.st).length sc) (m.st) [m.v] rfl (World.ownsRow.alloc HROW.out _) W3.heap.size 0 1 1 rfl rfl (fun j y hy => new_one W3 m.v j y hy) (by simp; omega) (Nat.zero_le _) ?_); intro v2 w2 k1 k2 k3; obtain ⟨ln, hln⟩ : ∃ ln, ln = (m.st ++ [m.v]).length := ⟨_, rfl⟩; rw [← hln] at k1; obtain ⟨va, vc, hv2⟩ := own_form k1; subst hv2; obtain ⟨hp2, hT⟩ := HT3.out.app (x := m.v) (o := .cells #[iv m.v] TL) (Fr.refl _ _) hln k1 (by rw [HSV.out]; exact k2) (by rw [HSV.out]; exact k3); have HT6 := hid hT; have d6 := cell_of_row w2 p 3 _ _ _ hp2; have z6 := frozen_of_row w2 p 3 _ _ hp2; simp only [List.getElem?_toArray, List.getElem?_cons_succ, List.getElem?_cons_zero] at d6; clear k1 k2 k3 hp2 hT hln)
          | fail)
        have e1 : (((g.wM m).wP n1).wSt (m.st ++ [m.v])) = g.wM (stp g.arg ⟨3, xa, xb⟩ m) := by rw [HN1.out]; rfl
        have HL6 : RowKit.Hid (LpT w1 S p g hh m0 qv (stp g.arg ⟨3, xa, xb⟩ m) _) := hid ⟨_, by rw [← e1]; exact HT6.out, by rw [HCD.out, HAG.out]; exact HAT2.out.stp HRR.out HX.out (show (3 : Int) < 8 by decide), HEQ.out.trans (rest_go (by rw [HCD.out]; exact HX.out) (show (3 : Int) < 8 by decide))⟩
        have hsl := stp_lt g.arg ⟨3, xa, xb⟩ m
        go_roundg (n - (stp g.arg ⟨3, xa, xb⟩ m).p)
        case measure => have := HK.out; omega
        case rel => exact ⟨stp g.arg ⟨3, xa, xb⟩ m, rfl, HL6, rfl⟩
    · as_aux_lemma =>
        have h1 : 1 ≤ m.st.length := hdep (by decide)
        obtain ⟨r2, y, hry, hr, hy, hrl2⟩ := last_split rfl h1
        have HRY := hid hry
        have HRD := hid hr
        have HY := hid hy
        clear hry hr hy h1
        have c3 := HT3.out.tw.c3
        have HTL := hid (show Tl iv W3.heap.size W3 sv3 (r2 ++ [y]) by have h := own_told HT3.out.tw.row; rw [show ((g.wM m).wP n1).st = r2 ++ [y] from HRY.out] at h; exact h)
        go_wp2_with fail
        refine (pop_any HTL.out (by omega)).mono ?_
        rintro e U4 ⟨u4, rfl, hu4⟩
        obtain ⟨q1, q2, _⟩ := HT3.out.cut hu4
        have d3 := cell_of_row U4 p 3 _ _ _ q1
        have z3 := frozen_of_row U4 p 3 _ _ q1
        simp only [List.getElem?_toArray, List.getElem?_cons_succ, List.getElem?_cons_zero] at d3
        have HT6 := hid q2
        obtain ⟨ua4, uc4, rfl⟩ := own_form hu4.1
        clear hu4 q1 q2 c3
        go_wp2_with fail
        have hyv : (stp g.arg ⟨4, xa, xb⟩ m).v = y := HY.out.symm
        have e1 : (((g.wM m).wP n1).wSt r2) = g.wM (stp g.arg ⟨4, xa, xb⟩ m) := by rw [HN1.out, HRD.out]; rfl
        have HL6 : RowKit.Hid (LpT w1 S p g hh m0 qv (stp g.arg ⟨4, xa, xb⟩ m) _) := hid ⟨_, by rw [← e1]; exact HT6.out, by rw [HCD.out, HAG.out]; exact HAT2.out.stp HRR.out HX.out (show (4 : Int) < 8 by decide), HEQ.out.trans (rest_go (by rw [HCD.out]; exact HX.out) (show (4 : Int) < 8 by decide))⟩
        have hsl := stp_lt g.arg ⟨4, xa, xb⟩ m
        go_roundg (n - (stp g.arg ⟨4, xa, xb⟩ m).p)
        case measure => have := HK.out; omega
        case rel => exact ⟨stp g.arg ⟨4, xa, xb⟩ m, by rw [hyv], HL6, rfl⟩
    · as_aux_lemma =>
        have h2 : 2 ≤ m.st.length := hdep5 rfl
        obtain ⟨r2, y, hry, hr, hy, hrl2⟩ := last_split (l := m.st) rfl (by omega)
        obtain ⟨r3, y3, hry2, hr2, hy2, hrl3⟩ := last_split (l := r2) rfl (by omega)
        have HRY := hid hry
        have HRD := hid hr
        have HY := hid hy
        have HRY2 := hid hry2
        have HRD2 := hid hr2
        have HY2 := hid hy2
        obtain ⟨ya, hya⟩ : ∃ t, t = IntKind.u64.wrap y := ⟨_, rfl⟩
        obtain ⟨yb, hyb⟩ : ∃ t, t = IntKind.u64.wrap y3 := ⟨_, rfl⟩
        obtain ⟨yc, hyc⟩ : ∃ t, t = IntKind.u64.wrap (ya + yb) := ⟨_, rfl⟩
        obtain ⟨z, hz⟩ : ∃ t, t = IntKind.i64.wrap yc := ⟨_, rfl⟩
        have HZ := hid (show z = w64 (y + y3) by rw [hz, hyc, hya, hyb]; exact wrap_sum y y3)
        replace hya := hya.symm
        replace hyb := hyb.symm
        replace hyc := hyc.symm
        replace hz := hz.symm
        clear hry hr hy h2 hry2 hr2 hy2
        have c3 := HT3.out.tw.c3
        have HTL := hid (show Tl iv W3.heap.size W3 _ (r2 ++ [y]) by have h := own_told HT3.out.tw.row; rw [show ((g.wM m).wP n1).st = r2 ++ [y] from HRY.out] at h; exact h)
        go_wp2_with fail
        refine (pop_any HTL.out (by omega)).mono ?_
        rintro e U4 ⟨u4, rfl, hu4⟩
        obtain ⟨ua4, uc4, rfl⟩ := own_form hu4.1
        obtain ⟨q1, q2, q3⟩ := HT3.out.cut hu4
        have d3 := cell_of_row U4 p 3 _ _ _ q1
        have z3 := frozen_of_row U4 p 3 _ _ q1
        simp only [List.getElem?_toArray, List.getElem?_cons_succ, List.getElem?_cons_zero] at d3
        obtain ⟨W4, hW4⟩ : ∃ W4, W4 = U4.setCell ⟨p, 3, none⟩ (.slice ua4 r2.length uc4) := ⟨_, rfl⟩
        rw [← hW4] at q2 q3
        have hg4 : InI W4 g2 _ := (q3.block g2 (Array.getElem?_eq_some_iff.1 HG3.out).1 (fun e => hgp e)).trans HG3.out
        have HT4 := hid q2
        have HG4 := hid hg4
        have HW4 := hid hW4
        clear hu4 q1 q2 q3 hW4 hg4 c3 HTL
        go_upto_region 21 with fail
        change Code.wp _ _ _ _ (U4.setCell ⟨p, 3, none⟩ (.slice ua4 r2.length uc4))
        rw [← HW4.out]
        clear d3 z3
        have c3 := HT4.out.tw.c3
        have HTL := hid (show Tl iv W4.heap.size W4 _ (r3 ++ [y3]) by have h := own_told HT4.out.tw.row; rw [show (((g.wM m).wP n1).wSt r2).st = r3 ++ [y3] from HRY2.out] at h; exact h)
        go_wp2_with fail
        refine (pop_any HTL.out (by omega)).mono ?_
        rintro e U5 ⟨u5, rfl, hu5⟩
        obtain ⟨ua5, uc5, rfl⟩ := own_form hu5.1
        obtain ⟨q1, q2, q3⟩ := HT4.out.cut hu5
        have d3 := cell_of_row U5 p 3 _ _ _ q1
        have z3 := frozen_of_row U5 p 3 _ _ q1
        simp only [List.getElem?_toArray, List.getElem?_cons_succ, List.getElem?_cons_zero] at d3
        obtain ⟨W5, hW5⟩ : ∃ W5, W5 = U5.setCell ⟨p, 3, none⟩ (.slice ua5 r3.length uc5) := ⟨_, rfl⟩
        rw [← hW5] at q2 q3
        have hg5 : InI W5 g2 _ := (q3.block g2 (Array.getElem?_eq_some_iff.1 HG4.out).1 (fun e => hgp e)).trans HG4.out
        have HT5 := hid q2
        have HG5 := hid hg5
        have HW5 := hid hW5
        clear hu5 q1 q2 q3 hW5 hg5 c3 HTL
        go_upto_region 22 with fail
        change Code.wp _ _ _ _ (U5.setCell ⟨p, 3, none⟩ (.slice ua5 r3.length uc5))
        rw [← HW5.out]
        clear d3 z3
        obtain ⟨sa, sc, hsv⟩ : ∃ sa sc, _ = Value.slice sa (r3).length sc := own_form HT5.out.tw.row
        have c3 := HT5.out.tw.c3
        rw [hsv] at c3
        have hrw : W5.ownsRow 0 TL 1 (.slice sa (r3).length sc) (r3).length ((r3).map iv) := by have h := HT5.out.tw.row; rw [hsv] at h; exact h
        have HSV := hid hsv
        have HROW := hid hrw
        clear hsv hrw
        go_wp2_with (first
          | ((with_reducible refine at_op ⟨some 153, _, _, _, _, _⟩ ?_); go_loud (refine wpList_appZ rfl (.tmp 145) (.tmp 152) rfl 0 (.slice sa (r3).length sc) (r3) [z] rfl (World.ownsRow.alloc HROW.out _) W5.heap.size 0 1 1 rfl rfl (fun j y hy => new_one W5 z j y hy) (by simp; omega) (Nat.zero_le _) ?_); intro v2 w2 k1 k2 k3; obtain ⟨ln, hln⟩ : ∃ ln, ln = (r3 ++ [z]).length := ⟨_, rfl⟩; rw [← hln] at k1; obtain ⟨va, vc, hv2⟩ := own_form k1; subst hv2; obtain ⟨hp2, hT⟩ := HT5.out.app (x := z) (o := .cells #[iv z] TL) (Fr.refl _ _) hln k1 (by rw [HSV.out]; exact k2) (by rw [HSV.out]; exact k3); have HT6 := hid hT; have d6 := cell_of_row w2 p 3 _ _ _ hp2; have z6 := frozen_of_row w2 p 3 _ _ hp2; simp only [List.getElem?_toArray, List.getElem?_cons_succ, List.getElem?_cons_zero] at d6; clear k1 k2 k3 hp2 hT hln)
          | fail)
        have e1 : (((((g.wM m).wP n1).wSt r2).wSt r3).wSt (r3 ++ [z])) = g.wM (stp g.arg ⟨5, xa, xb⟩ m) := by rw [HN1.out, HZ.out, HY.out, HY2.out, HRD2.out, HRD.out]; rfl
        have HL6 : RowKit.Hid (LpT w1 S p g hh m0 qv (stp g.arg ⟨5, xa, xb⟩ m) _) := hid ⟨_, by rw [← e1]; exact HT6.out, by rw [HCD.out, HAG.out]; exact HAT2.out.stp HRR.out HX.out (show (5 : Int) < 8 by decide), HEQ.out.trans (rest_go (by rw [HCD.out]; exact HX.out) (show (5 : Int) < 8 by decide))⟩
        have hsl := stp_lt g.arg ⟨5, xa, xb⟩ m
        go_roundg (n - (stp g.arg ⟨5, xa, xb⟩ m).p)
        case measure => have := HK.out; omega
        case rel => exact ⟨stp g.arg ⟨5, xa, xb⟩ m, rfl, HL6, rfl⟩
    · as_aux_lemma =>
        have h1 : 1 ≤ m.st.length := hdep (by decide)
        obtain ⟨r2, y, hry, hr, hy, hrl2⟩ := last_split rfl h1
        have HRY := hid hry
        have HRD := hid hr
        have HY := hid hy
        clear hry hr hy h1
        obtain ⟨ya, hya⟩ : ∃ t, t = IntKind.u64.wrap y := ⟨_, rfl⟩
        obtain ⟨yc, hyc⟩ : ∃ t, t = IntKind.u64.wrap (0 - ya) := ⟨_, rfl⟩
        obtain ⟨z, hz⟩ : ∃ t, t = IntKind.i64.wrap yc := ⟨_, rfl⟩
        have HZ := hid (show z = w64 (-y) by rw [hz, hyc, hya]; exact wrap_neg y)
        replace hya := hya.symm
        have hyc2 : IntKind.u64.wrap (-ya) = yc := by rw [hyc]; congr 1; omega
        replace hyc := hyc.symm
        replace hz := hz.symm
        have c3 := HT3.out.tw.c3
        have HTL := hid (show Tl iv W3.heap.size W3 _ (r2 ++ [y]) by have h := own_told HT3.out.tw.row; rw [show ((g.wM m).wP n1).st = r2 ++ [y] from HRY.out] at h; exact h)
        go_wp2_with fail
        refine (pop_any HTL.out (by omega)).mono ?_
        rintro e U4 ⟨u4, rfl, hu4⟩
        obtain ⟨ua4, uc4, rfl⟩ := own_form hu4.1
        obtain ⟨q1, q2, q3⟩ := HT3.out.cut hu4
        have d3 := cell_of_row U4 p 3 _ _ _ q1
        have z3 := frozen_of_row U4 p 3 _ _ q1
        simp only [List.getElem?_toArray, List.getElem?_cons_succ, List.getElem?_cons_zero] at d3
        obtain ⟨W4, hW4⟩ : ∃ W4, W4 = U4.setCell ⟨p, 3, none⟩ (.slice ua4 r2.length uc4) := ⟨_, rfl⟩
        rw [← hW4] at q2 q3
        have hg4 : InI W4 g2 _ := (q3.block g2 (Array.getElem?_eq_some_iff.1 HG3.out).1 (fun e => hgp e)).trans HG3.out
        have HT4 := hid q2
        have HG4 := hid hg4
        have HW4 := hid hW4
        clear hu4 q1 q2 q3 hW4 hg4 c3 HTL
        go_upto_region 25 with fail
        change Code.wp _ _ _ _ (U4.setCell ⟨p, 3, none⟩ (.slice ua4 r2.length uc4))
        rw [← HW4.out]
        clear d3 z3
        obtain ⟨sa, sc, hsv⟩ : ∃ sa sc, _ = Value.slice sa (r2).length sc := own_form HT4.out.tw.row
        have c3 := HT4.out.tw.c3
        rw [hsv] at c3
        have hrw : W4.ownsRow 0 TL 1 (.slice sa (r2).length sc) (r2).length ((r2).map iv) := by have h := HT4.out.tw.row; rw [hsv] at h; exact h
        have HSV := hid hsv
        have HROW := hid hrw
        clear hsv hrw
        go_wp2_with (first
          | ((with_reducible refine at_op ⟨some 179, _, _, _, _, _⟩ ?_); go_loud (refine wpList_appZ rfl (.tmp 173) (.tmp 178) rfl 0 (.slice sa (r2).length sc) (r2) [z] rfl (World.ownsRow.alloc HROW.out _) W4.heap.size 0 1 1 rfl rfl (fun j y hy => new_one W4 z j y hy) (by simp; omega) (Nat.zero_le _) ?_); intro v2 w2 k1 k2 k3; obtain ⟨ln, hln⟩ : ∃ ln, ln = (r2 ++ [z]).length := ⟨_, rfl⟩; rw [← hln] at k1; obtain ⟨va, vc, hv2⟩ := own_form k1; subst hv2; obtain ⟨hp2, hT⟩ := HT4.out.app (x := z) (o := .cells #[iv z] TL) (Fr.refl _ _) hln k1 (by rw [HSV.out]; exact k2) (by rw [HSV.out]; exact k3); have HT6 := hid hT; have d6 := cell_of_row w2 p 3 _ _ _ hp2; have z6 := frozen_of_row w2 p 3 _ _ hp2; simp only [List.getElem?_toArray, List.getElem?_cons_succ, List.getElem?_cons_zero] at d6; clear k1 k2 k3 hp2 hT hln)
          | fail)
        have e1 : ((((g.wM m).wP n1).wSt r2).wSt (r2 ++ [z])) = g.wM (stp g.arg ⟨6, xa, xb⟩ m) := by rw [HN1.out, HZ.out, HY.out, HRD.out]; rfl
        have HL6 : RowKit.Hid (LpT w1 S p g hh m0 qv (stp g.arg ⟨6, xa, xb⟩ m) _) := hid ⟨_, by rw [← e1]; exact HT6.out, by rw [HCD.out, HAG.out]; exact HAT2.out.stp HRR.out HX.out (show (6 : Int) < 8 by decide), HEQ.out.trans (rest_go (by rw [HCD.out]; exact HX.out) (show (6 : Int) < 8 by decide))⟩
        have hsl := stp_lt g.arg ⟨6, xa, xb⟩ m
        go_roundg (n - (stp g.arg ⟨6, xa, xb⟩ m).p)
        case measure => have := HK.out; omega
        case rel => exact ⟨stp g.arg ⟨6, xa, xb⟩ m, rfl, HL6, rfl⟩
    · as_aux_lemma =>
        obtain ⟨ha1, ha2⟩ := hskp rfl
        obtain ⟨t, rfl⟩ : ∃ t : Nat, xa = t := ⟨xa.toNat, by omega⟩
        obtain ⟨n2, hn2⟩ : ∃ n2, n2 = n1 + t := ⟨_, rfl⟩
        have hs2 : ((n1 : Int) + (t : Int)) = (n2 : Int) := by omega
        have hwn2 := IntWalk.i64_in (n2 : Int) (by have := HN1.out; omega)
        have HN2 := hid hn2
        clear hn2
        have h1 : 1 ≤ m.st.length := hdep (by decide)
        obtain ⟨r2, y, hry, hr, hy, hrl2⟩ := last_split rfl h1
        have HRY := hid hry
        have HRD := hid hr
        have HY := hid hy
        clear hry hr hy h1
        have c3 := HT3.out.tw.c3
        have HTL := hid (show Tl iv W3.heap.size W3 _ (r2 ++ [y]) by have h := own_told HT3.out.tw.row; rw [show ((g.wM m).wP n1).st = r2 ++ [y] from HRY.out] at h; exact h)
        go_wp2_with fail
        refine (pop_any HTL.out (by omega)).mono ?_
        rintro e U4 ⟨u4, rfl, hu4⟩
        obtain ⟨ua4, uc4, rfl⟩ := own_form hu4.1
        obtain ⟨q1, q2, q3⟩ := HT3.out.cut hu4
        have d3 := cell_of_row U4 p 3 _ _ _ q1
        have z3 := frozen_of_row U4 p 3 _ _ q1
        simp only [List.getElem?_toArray, List.getElem?_cons_succ, List.getElem?_cons_zero] at d3
        obtain ⟨W4, hW4⟩ : ∃ W4, W4 = U4.setCell ⟨p, 3, none⟩ (.slice ua4 r2.length uc4) := ⟨_, rfl⟩
        rw [← hW4] at q2 q3
        have hg4 : InI W4 g2 _ := (q3.block g2 (Array.getElem?_eq_some_iff.1 HG3.out).1 (fun e => hgp e)).trans HG3.out
        have HT4 := hid q2
        have HG4 := hid hg4
        have HW4 := hid hW4
        clear hu4 q1 q2 q3 hW4 hg4 c3 HTL
        go_upto_region 28 with fail
        change Code.wp _ _ _ _ (U4.setCell ⟨p, 3, none⟩ (.slice ua4 r2.length uc4))
        rw [← HW4.out]
        clear d3 z3
        by_cases hy0 : y = 0
        · have d0 : (y == 0) = true := by simp [hy0]
          have HY0 := hid hy0
          have c2 := HT4.out.tw.c2
          change W4.cell? ⟨p, 2, none⟩ = some (nI n1) at c2
          have j1 := HG4.out.c1
          simp only at j1
          have z2 := HT4.out.tw.fz 2
          clear hy0
          go_upto_region 29 with fail
          refine D.wp_region_mix [0, 0, 0, 0, 1, 0, 1, 0, 0, 0, 3] (fun W => W.cell? ⟨p, 2, none⟩ = some (nI n1) ∧ W.cell? ⟨g2, 1, none⟩ = some (iv t)) (by kernel_rfl) (by kernel_rfl) ⟨c2, j1⟩ ?_
          repeat (first
            | (refine' C.wpMix_value _ rfl rfl _ _; rotate_left; (solve | (intro W; go_simp) | (intro W; go_simp; with_reducible rfl)); simp only [Act.put, List.setIfInBounds_toArray, List.set_cons_zero, List.set_cons_succ])
            | (refine' C.wpMix_read _ rfl rfl _ _; rotate_left; (solve | (rintro W ⟨h1, h2⟩; go_simp) | (rintro W ⟨h1, h2⟩; go_simp; with_reducible rfl)); simp only [Act.put, List.setIfInBounds_toArray, List.set_cons_zero, List.set_cons_succ]))
          refine C.wpMix_skip (W4.drew.setCell ⟨p, 2, none⟩ (nI n2)) (by decide) rfl (by go_simp) (fun h => by cases h) ?_
          simp only [Act.put]
          refine C.wpMix_end ?_
          obtain ⟨q1, _⟩ := (HT4.out.no ((Fr.refl _ _).drew)).put1 2 (nI n2) (f2 := ((((g.wM m).wP n1).wSt r2).wP n2)) rfl rfl rfl
          have HT6 := hid q1
          clear c2 j1 z2 hs2 hwn2 q1
          have e1 : ((((g.wM m).wP n1).wSt r2).wP n2) = g.wM (stp g.arg ⟨7, (t : Int), xb⟩ m) := by unfold stp; simp only [show ¬ (7 : Int) = 1 by decide, show ¬ (7 : Int) = 2 by decide, show ¬ (7 : Int) = 3 by decide, show ¬ (7 : Int) = 4 by decide, show ¬ (7 : Int) = 5 by decide, show ¬ (7 : Int) = 6 by decide, if_false, if_true]; rw [← HY.out, if_pos HY0.out, HN2.out, HN1.out, HRD.out]; rfl
          have HL6 : RowKit.Hid (LpT w1 S p g hh m0 qv (stp g.arg ⟨7, (t : Int), xb⟩ m) _) := hid ⟨_, by rw [← e1]; exact HT6.out, by rw [HCD.out, HAG.out]; exact HAT2.out.stp HRR.out HX.out (show (7 : Int) < 8 by decide), HEQ.out.trans (rest_go (by rw [HCD.out]; exact HX.out) (show (7 : Int) < 8 by decide))⟩
          have hsl := stp_lt g.arg ⟨7, (t : Int), xb⟩ m
          have hv7 : (stp g.arg ⟨7, (t : Int), xb⟩ m).v = m.v := rfl
          go_wp2_with fail
          go_roundg (n - (stp g.arg ⟨7, (t : Int), xb⟩ m).p)
          case measure => have := HK.out; omega
          case rel => exact ⟨stp g.arg ⟨7, (t : Int), xb⟩ m, by rw [hv7], HL6, rfl⟩
        · have d0 : (y == 0) = false := by simpa using hy0
          have HY0 := hid hy0
          have HT6 := HT4
          clear hy0 hs2 hwn2
          have e1 : (((g.wM m).wP n1).wSt r2) = g.wM (stp g.arg ⟨7, (t : Int), xb⟩ m) := by unfold stp; simp only [show ¬ (7 : Int) = 1 by decide, show ¬ (7 : Int) = 2 by decide, show ¬ (7 : Int) = 3 by decide, show ¬ (7 : Int) = 4 by decide, show ¬ (7 : Int) = 5 by decide, show ¬ (7 : Int) = 6 by decide, if_false, if_true]; rw [← HY.out, if_neg HY0.out, HN1.out, HRD.out]; rfl
          have HL6 : RowKit.Hid (LpT w1 S p g hh m0 qv (stp g.arg ⟨7, (t : Int), xb⟩ m) _) := hid ⟨_, by rw [← e1]; exact HT6.out, by rw [HCD.out, HAG.out]; exact HAT2.out.stp HRR.out HX.out (show (7 : Int) < 8 by decide), HEQ.out.trans (rest_go (by rw [HCD.out]; exact HX.out) (show (7 : Int) < 8 by decide))⟩
          have hsl := stp_lt g.arg ⟨7, (t : Int), xb⟩ m
          have hv7 : (stp g.arg ⟨7, (t : Int), xb⟩ m).v = m.v := rfl
          go_wp2_with fail
          go_roundg (n - (stp g.arg ⟨7, (t : Int), xb⟩ m).p)
          case measure => have := HK.out; omega
          case rel => exact ⟨stp g.arg ⟨7, (t : Int), xb⟩ m, by rw [hv7], HL6, rfl⟩
    · as_aux_lemma =>
        have h1 : 1 ≤ m.st.length := hdep (by decide)
        obtain ⟨r2, y, hry, hr, hy, hrl2⟩ := last_split rfl h1
        have HRY := hid hry
        have HRD := hid hr
        have HY := hid hy
        clear hry hr hy h1
        have c3 := HT3.out.tw.c3
        have HTL := hid (show Tl iv W3.heap.size W3 _ (r2 ++ [y]) by have h := own_told HT3.out.tw.row; rw [show ((g.wM m).wP n1).st = r2 ++ [y] from HRY.out] at h; exact h)
        go_wp2_with fail
        refine (pop_any HTL.out (by omega)).mono ?_
        rintro e U4 ⟨u4, rfl, hu4⟩
        obtain ⟨ua4, uc4, rfl⟩ := own_form hu4.1
        obtain ⟨q1, q2, q3⟩ := HT3.out.cut hu4
        have d3 := cell_of_row U4 p 3 _ _ _ q1
        have z3 := frozen_of_row U4 p 3 _ _ q1
        simp only [List.getElem?_toArray, List.getElem?_cons_succ, List.getElem?_cons_zero] at d3
        obtain ⟨W4, hW4⟩ : ∃ W4, W4 = U4.setCell ⟨p, 3, none⟩ (.slice ua4 r2.length uc4) := ⟨_, rfl⟩
        rw [← hW4] at q2 q3
        have hg4 : InI W4 g2 _ := (q3.block g2 (Array.getElem?_eq_some_iff.1 HG3.out).1 (fun e => hgp e)).trans HG3.out
        have HT4 := hid q2
        have HG4 := hid hg4
        have HW4 := hid hW4
        clear hu4 q1 q2 q3 hW4 hg4 c3 HTL
        go_upto_region 32 with fail
        change Code.wp _ _ _ _ (U4.setCell ⟨p, 3, none⟩ (.slice ua4 r2.length uc4))
        rw [← HW4.out]
        clear d3 z3
        have c4 := HT4.out.tw.c4
        have z4 := HT4.out.tw.fz 4
        obtain ⟨q1, q3⟩ := HT4.out.put1 4 (.bool true) (f2 := (((g.wM m).wP n1).wSt r2).wC true) rfl rfl rfl
        obtain ⟨W5, hW5⟩ : ∃ W5, W5 = W4.setCell ⟨p, 4, none⟩ (.bool true) := ⟨_, rfl⟩
        rw [← hW5] at q1 q3
        have hg5 : InI W5 g2 ⟨8, xa, xb⟩ := (q3.block g2 (Array.getElem?_eq_some_iff.1 HG4.out).1 (fun e => hgp e)).trans HG4.out
        have j1 := hg5.c1
        have j2 := hg5.c2
        simp only at j1 j2
        have HT5 := hid q1
        have HRC5 : RowKit.Hid (W5.heap[rc]? = some (.cells (evA evZ) TEv (0, 0))) := hid ((HT5.out.fr.block rc hrl hrS).trans HR1.out)
        have HW5 := hid hW5
        clear q1 q3 hg5 hW5
        go_upto_region 33 with fail
        change Code.wp _ _ _ _ (W4.setCell ⟨p, 4, none⟩ (.bool true))
        rw [← HW5.out]
        clear c4 z4
        go_wp2_with (first
          | ((with_reducible refine at_op ⟨none, .store TEv (.tmp 6) (.tmp 228), _, _, _, _⟩ ?_); refine wpList_store_row rfl TEv _ _ rfl rc (evA ⟨2, xa, xb, y, 0⟩) (by rw [HRC.out]; rfl) rfl TEv (evA evZ) HRC5.out szEv rfl (evA_one _) ?_)
          | fail)
        have HNX := hid (nx_at (f := f) (r := r) (v := v) HO.out (by have := HEQ.out; rw [HCD.out, HAG.out, HM0.out] at this; exact this) HX.out (show (8 : Int) ≤ 8 by decide))
        obtain ⟨hfin, hffin⟩ := HT5.out.fin HF1.out HRC.out hrl hrS (evA ⟨2, xa, xb, y, 0⟩)
        refine bodyPost_ret (results_cell_tmp (P := Tryd.prog) (fn := Tryd.f12) (p := 6) (q := 7) rfl _ _ rc TEv _ (0, 0) _ (by rw [HRC.out]; rfl) (setRow_heap _ _ _ _ _ _ HRC5.out) Tryd.underlying36 rfl szEv) rfl ⟨?_, ?_, hffin⟩
        · rw [HNX.out.1, HNX.out.2.1]
          have e1 : stopE ⟨8, xa, xb⟩ m = ⟨2, xa, xb, y, 0⟩ := by rw [HY.out]; rfl
          rw [e1]; rfl
        · have e1 : ((((g.wM m).wP n1).wSt r2).wC true) = stopF f ⟨8, xa, xb⟩ m := by rw [HN1.out, HRD.out]; simp only [stopF, Fs.wM, Fs.wP, Fs.wSt, Fs.wC, HCD.out, HAG.out, HOV.out, HCA.out]; rfl
          rw [HNX.out.2.2, ← e1]
          exact ⟨_, _, hfin⟩
    · as_aux_lemma =>
        obtain ⟨W5, hW5⟩ : ∃ W5, W5 = W3 := ⟨_, rfl⟩
        have HT5 : RowKit.Hid (TwI w1 S p ((g.wM m).wP n1) qv sv3 W5) := hid (by rw [hW5]; exact HT3.out)
        have j1 := HG3.out.c1
        simp only at j1
        rw [← hW5] at i0 j1 ⊢
        have HRC5 : RowKit.Hid (W5.heap[rc]? = some (.cells (evA evZ) TEv (0, 0))) := hid ((HT5.out.fr.block rc hrl hrS).trans HR1.out)
        clear hW5
        go_wp2_with (first
          | ((with_reducible refine at_op ⟨none, .store TEv (.tmp 6) (.tmp 234), _, _, _, _⟩ ?_); refine wpList_store_row rfl TEv _ _ rfl rc (evA ⟨3, xa, 0, 0, 0⟩) (by rw [HRC.out]; rfl) rfl TEv (evA evZ) HRC5.out szEv rfl (evA_one _) ?_)
          | fail)
        have HNX := hid (nx_at (f := f) (r := r) (v := v) HO.out (by have := HEQ.out; rw [HCD.out, HAG.out, HM0.out] at this; exact this) HX.out (show (8 : Int) ≤ 9 by decide))
        obtain ⟨hfin, hffin⟩ := HT5.out.fin HF1.out HRC.out hrl hrS (evA ⟨3, xa, 0, 0, 0⟩)
        refine bodyPost_ret (results_cell_tmp (P := Tryd.prog) (fn := Tryd.f12) (p := 6) (q := 7) rfl _ _ rc TEv _ (0, 0) _ (by rw [HRC.out]; rfl) (setRow_heap _ _ _ _ _ _ HRC5.out) Tryd.underlying36 rfl szEv) rfl ⟨?_, ?_, hffin⟩
        · rw [HNX.out.1, HNX.out.2.1]
          have e1 : stopE ⟨9, xa, xb⟩ m = ⟨3, xa, 0, 0, 0⟩ := by rfl
          rw [e1]; rfl
        · have e1 : ((g.wM m).wP n1) = stopF f ⟨9, xa, xb⟩ m := by rw [HN1.out]; simp only [stopF, Fs.wM, Fs.wP, HCD.out, HAG.out, HOV.out, HCA.out]; rfl
          rw [HNX.out.2.2, ← e1]
          exact ⟨_, _, hfin⟩
    · as_aux_lemma =>
        obtain ⟨W5, hW5⟩ : ∃ W5, W5 = W3 := ⟨_, rfl⟩
        have HT5 : RowKit.Hid (TwI w1 S p ((g.wM m).wP n1) qv sv3 W5) := hid (by rw [hW5]; exact HT3.out)
        have j1 := HG3.out.c1
        simp only at j1
        rw [← hW5] at i0 j1 ⊢
        have HRC5 : RowKit.Hid (W5.heap[rc]? = some (.cells (evA evZ) TEv (0, 0))) := hid ((HT5.out.fr.block rc hrl hrS).trans HR1.out)
        clear hW5
        go_wp2_with (first
          | ((with_reducible refine at_op ⟨none, .store TEv (.tmp 6) (.tmp 240), _, _, _, _⟩ ?_); refine wpList_store_row rfl TEv _ _ rfl rc (evA ⟨4, xa, 0, 0, 0⟩) (by rw [HRC.out]; rfl) rfl TEv (evA evZ) HRC5.out szEv rfl (evA_one _) ?_)
          | fail)
        have HNX := hid (nx_at (f := f) (r := r) (v := v) HO.out (by have := HEQ.out; rw [HCD.out, HAG.out, HM0.out] at this; exact this) HX.out (show (8 : Int) ≤ 10 by decide))
        obtain ⟨hfin, hffin⟩ := HT5.out.fin HF1.out HRC.out hrl hrS (evA ⟨4, xa, 0, 0, 0⟩)
        refine bodyPost_ret (results_cell_tmp (P := Tryd.prog) (fn := Tryd.f12) (p := 6) (q := 7) rfl _ _ rc TEv _ (0, 0) _ (by rw [HRC.out]; rfl) (setRow_heap _ _ _ _ _ _ HRC5.out) Tryd.underlying36 rfl szEv) rfl ⟨?_, ?_, hffin⟩
        · rw [HNX.out.1, HNX.out.2.1]
          have e1 : stopE ⟨10, xa, xb⟩ m = ⟨4, xa, 0, 0, 0⟩ := by rfl
          rw [e1]; rfl
        · have e1 : ((g.wM m).wP n1) = stopF f ⟨10, xa, xb⟩ m := by rw [HN1.out]; simp only [stopF, Fs.wM, Fs.wP, HCD.out, HAG.out, HOV.out, HCA.out]; rfl
          rw [HNX.out.2.2, ← e1]
          exact ⟨_, _, hfin⟩
    · as_aux_lemma =>
        have h1 : 1 ≤ m.st.length := hdep (by decide)
        obtain ⟨r2, y, hry, hr, hy, hrl2⟩ := last_split rfl h1
        have HRY := hid hry
        have HRD := hid hr
        have HY := hid hy
        clear hry hr hy h1
        have c3 := HT3.out.tw.c3
        have HTL := hid (show Tl iv W3.heap.size W3 _ (r2 ++ [y]) by have h := own_told HT3.out.tw.row; rw [show ((g.wM m).wP n1).st = r2 ++ [y] from HRY.out] at h; exact h)
        go_wp2_with fail
        refine (pop_any HTL.out (by omega)).mono ?_
        rintro e U4 ⟨u4, rfl, hu4⟩
        obtain ⟨ua4, uc4, rfl⟩ := own_form hu4.1
        obtain ⟨q1, q2, q3⟩ := HT3.out.cut hu4
        have d3 := cell_of_row U4 p 3 _ _ _ q1
        have z3 := frozen_of_row U4 p 3 _ _ q1
        simp only [List.getElem?_toArray, List.getElem?_cons_succ, List.getElem?_cons_zero] at d3
        obtain ⟨W4, hW4⟩ : ∃ W4, W4 = U4.setCell ⟨p, 3, none⟩ (.slice ua4 r2.length uc4) := ⟨_, rfl⟩
        rw [← hW4] at q2 q3
        have hg4 : InI W4 g2 _ := (q3.block g2 (Array.getElem?_eq_some_iff.1 HG3.out).1 (fun e => hgp e)).trans HG3.out
        have HT4 := hid q2
        have HG4 := hid hg4
        have HW4 := hid hW4
        clear hu4 q1 q2 q3 hW4 hg4 c3 HTL
        go_upto_region 40 with fail
        change Code.wp _ _ _ _ (U4.setCell ⟨p, 3, none⟩ (.slice ua4 r2.length uc4))
        rw [← HW4.out]
        clear d3 z3
        have c2 := HT4.out.tw.c2
        change W4.cell? ⟨p, 2, none⟩ = some (nI n1) at c2
        have z2 := HT4.out.tw.fz 2
        have hs3 : ((n1 : Int) - 1) = (m.p : Int) := by have := HN1.out; omega
        have hs4 : IntKind.i64.wrap (m.p : Int) = (m.p : Int) := IntWalk.i64_in _ (by omega)
        obtain ⟨mp, hmp⟩ : ∃ mp, mp = m.p := ⟨_, rfl⟩
        rw [← hmp] at hs3 hs4
        obtain ⟨q1, q3⟩ := HT4.out.put1 2 (nI mp) (f2 := (((g.wM m).wP n1).wSt r2).wP mp) rfl rfl rfl
        obtain ⟨W6, hW6⟩ : ∃ W6, W6 = W4.setCell ⟨p, 2, none⟩ (nI mp) := ⟨_, rfl⟩
        rw [← hW6] at q1 q3
        have z5 := q1.tw.fz 5
        have c5 := q1.tw.c5
        obtain ⟨q5, _⟩ := q1.put1 5 (.bool true) (f2 := ⟨g.code, g.arg, mp, r2, g.calls, true⟩) rfl rfl rfl
        obtain ⟨W5, hW5⟩ : ∃ W5, W5 = W6.setCell ⟨p, 5, none⟩ (.bool true) := ⟨_, rfl⟩
        rw [← hW5] at q5
        have HT5 := hid q5
        have HRC5 : RowKit.Hid (W5.heap[rc]? = some (.cells (evA evZ) TEv (0, 0))) := hid ((HT5.out.fr.block rc hrl hrS).trans HR1.out)
        have HW5 := hid hW5
        have HW6 := hid hW6
        have HMP := hid hmp
        clear q1 q3 q5 hW5 hW6 hmp
        go_upto_region 41 with fail
        change Code.wp _ _ _ _ (W4.setCell ⟨p, 2, none⟩ (nI mp))
        rw [← HW6.out]
        clear c2 z2 hs3 hs4
        go_upto_region 42 with fail
        change Code.wp _ _ _ _ (W6.setCell ⟨p, 5, none⟩ (.bool true))
        rw [← HW5.out]
        clear c5 z5
        go_wp2_with (first
          | ((with_reducible refine at_op ⟨none, .store TEv (.tmp 6) (.tmp 267), _, _, _, _⟩ ?_); refine wpList_store_row rfl TEv _ _ rfl rc (evA ⟨1, 0, 0, y, 0⟩) (by rw [HRC.out]; rfl) rfl TEv (evA evZ) HRC5.out szEv rfl (evA_one _) ?_)
          | fail)
        have HNX := hid (nx_at (f := f) (r := r) (v := v) HO.out (by have := HEQ.out; rw [HCD.out, HAG.out, HM0.out] at this; exact this) HX.out (show (8 : Int) ≤ 11 by decide))
        obtain ⟨hfin, hffin⟩ := HT5.out.fin HF1.out HRC.out hrl hrS (evA ⟨1, 0, 0, y, 0⟩)
        refine bodyPost_ret (results_cell_tmp (P := Tryd.prog) (fn := Tryd.f12) (p := 6) (q := 7) rfl _ _ rc TEv _ (0, 0) _ (by rw [HRC.out]; rfl) (setRow_heap _ _ _ _ _ _ HRC5.out) Tryd.underlying36 rfl szEv) rfl ⟨?_, ?_, hffin⟩
        · rw [HNX.out.1, HNX.out.2.1]
          have e1 : stopE ⟨11, xa, xb⟩ m = ⟨1, 0, 0, y, 0⟩ := by rw [HY.out]; rfl
          rw [e1]; rfl
        · have e1 : (⟨g.code, g.arg, mp, r2, g.calls, true⟩ : Fs) = stopF f ⟨11, xa, xb⟩ m := by rw [HMP.out, HRD.out]; simp only [stopF, HCD.out, HAG.out, show g.calls = false from HCA.out]; rfl
          rw [HNX.out.2.2, ← e1]
          exact ⟨_, _, hfin⟩
end Go.Proofs.YtcoclaabainibaaDoor
