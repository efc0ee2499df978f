/-
  The program's Next.
-/
import Derived.Test.YtcoclaabainibaaDoorFmE
import Derived.Deep.LoopGhost
namespace Go.Proofs.YtcoclaabainibaaDoor
open Go Go.ChangeShapes Go.WideShapes Go.ChangeAt Go.RowKit

section
variable {w : World} {S : Nat → Prop} {p : Nat} {f : Fs} {qv sv : Value}
theorem do_any {h : List Int} {x : Ins} (v : Int) (hW : FmW w S p f qv sv) (hr : RightC f.code 8 h) (ha : AtH f.code h f.p f.st.length) (hx : f.code[f.p]? = some x) (h8 : x.op < 8) :
    Calls Tryd.prog 22 #[.pointer (some ⟨p, 0, none⟩), .agg (insA x), iv v] w (DoP w S p f qv x v) := by
  obtain ⟨o1, o2, o3, o4, o5, o6⟩ := ha.op hr hx
  have hl := ha.lt
  have h32 := hr.2.1
  have hsk := fun e => ha.skip hr hx e
  obtain ⟨op, a, b⟩ := x
  simp only at o1 o2 o3 o4 o5 h8 hsk
  rcases (show op = 1 ∨ op = 2 ∨ op = 3 ∨ op = 4 ∨ op = 5 ∨ op = 6 ∨ op = 7 by omega) with rfl | rfl | rfl | rfl | rfl | rfl | rfl
  · exact do_1 a b v hW (by omega) (by omega)
  · exact do_2 a b v hW (by omega) (by omega)
  · exact do_3 a b v hW (by omega) (by omega)
  · exact do_4 a b v hW (by omega) (by omega) (o3 (by omega))
  · exact do_5 a b v hW (by omega) (by omega) (o4 rfl)
  · exact do_6 a b v hW (by omega) (by omega) (o3 (by omega))
  · obtain ⟨q1, q2, _⟩ := hsk rfl
    obtain ⟨t, rfl⟩ : ∃ t : Nat, a = t := ⟨a.toNat, by omega⟩
    exact do_7 t b v hW (by omega) (by omega) (o3 (by omega)) (by omega)
end
/-- What Next leaves. -/
def NxP (w : World) (S : Nat → Prop) (p : Nat) (f : Fs) (r v : Int) (e : Ending) (w' : World) : Prop :=
  e = .returned (.tuple #[.agg (evA (nxE f r v)), iv (nxV f r v)]) ∧ (∃ qv2 sv2, FmW w' (exS S w w') p (nxF f r v) qv2 sv2) ∧ Fr S w w'
set_option maxRecDepth 100000 in
set_option maxHeartbeats 4000000 in
theorem Next_nil (w : World) (r v : Int) : Calls Tryd.prog 11 #[.pointer none, iv r, iv v] w fun e w' => e = .returned (.tuple #[.agg (evA ⟨5, 0, 0, 0, 12⟩), iv v]) ∧ Below w.heap.size w w' := by
  obtain ⟨w1, hw1⟩ : ∃ w1, w1 = w.alloc (.cells (evA evZ) TEv) := ⟨_, rfl⟩
  have hb1 : Below w.heap.size w w1 := by rw [hw1]; exact (Below.refl _ _).alloc (Nat.le_refl _) _
  have hr1 : w1.heap[w.heap.size]? = some (.cells (evA evZ) TEv (0, 0)) := by rw [hw1]; exact heap_alloc_new _ _
  have HB := hid hb1
  have HR := hid hr1
  have HW := hid hw1
  clear hb1 hr1 hw1
  go_enter Tryd.func11, Tryd.ntmps11
  go_upto_region 1 with fail
  change Code.wp _ _ _ _ (w.alloc (.cells (evA evZ) TEv))
  rw [← HW.out]
  go_step3
  go_wp2_with (first
    | ((with_reducible refine at_op ⟨none, .store TEv (.tmp 6) (.tmp 19), _, _, _, _⟩ ?_); refine wpList_store_row rfl TEv _ _ rfl w.heap.size (evA ⟨5, 0, 0, 0, 12⟩) rfl rfl TEv (evA evZ) HR.out szEv rfl (evA_one _) ?_)
    | fail)
  try rw [Exit.noGoto_ret]
  exact bodyPost_ret (results_cell_tmp (P := Tryd.prog) (fn := Tryd.f11) (p := 6) (q := 7) rfl _ _ w.heap.size TEv _ (0, 0) _ rfl (setRow_heap _ _ _ _ _ _ HR.out) Tryd.underlying36 rfl szEv) rfl ⟨rfl, below_setRow HB.out _ _ (Nat.le_refl _)⟩
set_option maxRecDepth 100000 in
set_option maxHeartbeats 4000000 in
theorem Next_over {w : World} {S : Nat → Prop} {p : Nat} {f : Fs} {qv sv : Value} (h : FmW w S p f qv sv) (ho : f.over = true) (r v : Int) : Calls Tryd.prog 11 #[.pointer (some ⟨p, 0, none⟩), iv r, iv v] w (NxP w S p f r v) := by
  obtain ⟨w1, hw1⟩ : ∃ w1, w1 = w.alloc (.cells (evA evZ) TEv) := ⟨_, rfl⟩
  have hb1 : Below w.heap.size w w1 := by rw [hw1]; exact (Below.refl _ _).alloc (Nat.le_refl _) _
  have hr1 : w1.heap[w.heap.size]? = some (.cells (evA evZ) TEv (0, 0)) := by rw [hw1]; exact heap_alloc_new _ _
  have h1 := h.no (Fr.of_below hb1)
  have c0 := h1.c0
  have hq : qv = .slice none 0 0 := by
    rcases h.code with ⟨_, e⟩ | ⟨e, _⟩
    · exact e
    · rw [ho] at e; cases e
  rw [hq] at c0
  have HH := hid h
  have HO := hid ho
  have HB := hid hb1
  have HR := hid hr1
  have HW := hid hw1
  clear hb1 hr1 hw1 h h1 ho hq
  go_enter Tryd.func11, Tryd.ntmps11
  go_upto_region 1 with fail
  change Code.wp _ _ _ _ (w.alloc (.cells (evA evZ) TEv))
  rw [← HW.out]
  go_step3
  go_wp2_with (first
    | ((with_reducible refine at_op ⟨none, .store TEv (.tmp 6) (.tmp 19), _, _, _, _⟩ ?_); refine wpList_store_row rfl TEv _ _ rfl w.heap.size (evA ⟨5, 0, 0, 0, 12⟩) rfl rfl TEv (evA evZ) HR.out szEv rfl (evA_one _) ?_)
    | fail)
  try rw [Exit.noGoto_ret]
  refine bodyPost_ret (results_cell_tmp (P := Tryd.prog) (fn := Tryd.f11) (p := 6) (q := 7) rfl _ _ w.heap.size TEv _ (0, 0) _ rfl (setRow_heap _ _ _ _ _ _ HR.out) Tryd.underlying36 rfl szEv) rfl ⟨?_, ⟨qv, sv, ?_⟩, Fr.of_below (below_setRow HB.out _ _ (Nat.le_refl _))⟩
  · unfold nxE nxV; rw [if_pos HO.out, if_pos HO.out]; rfl
  · unfold nxF; rw [if_pos HO.out]
    exact HH.out.ex (Fr.of_below (below_setRow HB.out _ _ (Nat.le_refl _)))
theorem nx_at {f : Fs} {r v : Int} {m : Mo} {x : Ins} (ho : f.over = false) (he : rest f.code f.arg ⟨f.p, laid f r, v⟩ = rest f.code f.arg m) (hx : f.code[m.p]? = some x) (h8 : 8 ≤ x.op) : nxE f r v = stopE x m ∧ nxV f r v = m.v ∧ nxF f r v = stopF f x m := by
  have hm : goM f r v = m := by unfold goM; rw [he]; exact rest_stop hx h8
  have hg : goX f r v = x := by unfold goX; rw [hm, List.getD_eq_getElem?_getD, hx]; rfl
  unfold nxE nxV nxF
  rw [ho, hm, hg]
  exact ⟨rfl, rfl, rfl⟩
/-- Between two rounds: w1 is the world in which the result's cell lies at rc. -/
structure LpI (w1 : World) (S : Nat → Prop) (p rc : Nat) (g : Fs) (h : List Int) (m0 : Mo) (qv : Value) (m : Mo) (wr : World) : Prop where
  fm : ∃ sv2, FmW wr (exS S w1 wr) p (g.wM m) qv sv2
  at_ : AtH g.code h m.p m.st.length
  eq : rest g.code g.arg m0 = rest g.code g.arg m
  fr : Fr S w1 wr
  rc : wr.heap[rc]? = some (.cells (evA evZ) TEv (0, 0))
set_option maxRecDepth 100000 in
set_option maxHeartbeats 8000000 in
theorem Next_go {w : World} {S : Nat → Prop} {p : Nat} {f : Fs} {qv sv : Value} (h : FmW w S p f qv sv) (hf : FsR f) (ho : f.over = false) (r v : Int) : Calls Tryd.prog 11 #[.pointer (some ⟨p, 0, none⟩), iv r, iv v] w (NxP w S p f r v) := by
  obtain ⟨hh, hr, hat⟩ := hf.right
  replace hat := hat ho
  rw [← FsR.laid (result := r)] at hat
  have h32 := hr.2.1
  have hl1 := hr.1
  have hd9 := hf.deep
  obtain ⟨w1, hw1⟩ : ∃ w1, w1 = w.alloc (.cells (evA evZ) TEv) := ⟨_, rfl⟩
  have hf1 : Fr (fun _ => False) w w1 := by rw [hw1]; exact (Fr.refl _ _).alloc _
  obtain ⟨rc, hrc⟩ : ∃ rc, rc = w.heap.size := ⟨_, rfl⟩
  have hr1 : w1.heap[rc]? = some (.cells (evA evZ) TEv (0, 0)) := by rw [hw1, hrc]; exact heap_alloc_new _ _
  have h1 := h.no hf1
  obtain ⟨b, o, c, hqv, _, _, _⟩ := h.ins ho (i := 0) (x := f.code[0]'(by omega)) (List.getElem?_eq_getElem _)
  obtain ⟨n, hn⟩ : ∃ n, n = f.code.length := ⟨_, rfl⟩
  have c0 := h1.c0
  rw [hqv, ← hn] at c0
  have c4 := h1.c4
  have dn : ((n : Int) == 0) = false := by simp; omega
  have hrS : ¬ S rc := fun e => by have := h.sl rc e; omega
  have hrl : rc < w1.heap.size := (Array.getElem?_eq_some_iff.1 hr1).1
  obtain ⟨g, hg⟩ : ∃ g : Fs, g = ⟨f.code, f.arg, f.p, f.st, false, false⟩ := ⟨_, rfl⟩
  obtain ⟨m0, hm0⟩ : ∃ m0 : Mo, m0 = ⟨f.p, laid f r, v⟩ := ⟨_, rfl⟩
  have HM0 := hid hm0
  have HG := hid hg
  have HRR := hid hr
  have HAT := hid hat
  have HO := hid ho
  have HH1 := hid h1
  have HF1 := hid hf1
  have HR1 := hid hr1
  have HW1 := hid hw1
  have HRC := hid hrc
  have HQV := hid hqv
  have HSL := hid h.sl
  have HDP := hid hd9
  have HN := hid hn
  clear hf hr hat ho h h1 hf1 hr1 hw1 hrc hqv hg hm0 hd9 hn
  go_enter Tryd.func11, Tryd.ntmps11
  go_upto_region 1 with fail
  change Code.wp _ _ _ _ (w.alloc (.cells (evA evZ) TEv))
  rw [← HW1.out]
  go_step3
  cases hc : f.calls with
  | false =>
    rw [hc] at c4
    have HC := hid hc
    have hst : laid f r = f.st := by unfold laid; rw [hc]; rfl
    have HI : RowKit.Hid (LpI w1 S p rc g hh m0 qv m0 w1) := hid ⟨⟨sv, by
      have e : g.wM m0 = f := by
        rw [HG.out, HM0.out, hst]
        rcases f with ⟨f1, f2, f3, f4, f5, f6⟩
        have := HO.out
        simp only at this hc
        subst this hc
        rfl
      rw [e]
      exact HH1.out.ex (Fr.refl _ _)⟩, by rw [HG.out, HM0.out]; exact HAT.out, rfl, Fr.refl _ _, HR1.out⟩
    clear hst hc
    go_wp2
    refine wp_label ?_
    go_wp2_with fail
    go_loopg [2] (n - m0.p) (fun k vv wr => ∃ m : Mo, vv = iv m.v ∧ RowKit.Hid (LpI w1 S p rc g hh m0 qv m wr) ∧ k = n - m.p)
    case atStart => exact ⟨m0, by rw [HM0.out], HI, rfl⟩
    case round =>
      obtain ⟨m, rfl, HL, hk⟩ := hrel
      obtain ⟨sv3, hW⟩ := HL.out.fm
      have hcd : g.code = f.code := by rw [HG.out]
      have hag : g.arg = f.arg := by rw [HG.out]
      have hov : (g.wM m).over = false := by rw [HG.out]; rfl
      have hca : (g.wM m).calls = false := by rw [HG.out]; rfl
      have hat := HL.out.at_
      rw [hcd] at hat
      have hx := List.getElem?_eq_getElem hat.lt
      generalize f.code[m.p]'hat.lt = x at hx
      have hxg : (g.wM m).code[(g.wM m).p]? = some x := by show g.code[m.p]? = some x; rw [hcd]; exact hx
      obtain ⟨b3, o3, c3, hq3, _, _, hat3⟩ := hW.ins hov hxg
      have hqv := HQV.out
      rw [hq3] at hqv
      simp only [Value.slice.injEq, Option.some.injEq, Addr.mk.injEq, and_true] at hqv
      obtain ⟨⟨e1, e2⟩, _, _⟩ := hqv
      have hat4 : AtL wr b (o + m.p * 3) (insc x) := by rw [← e1, ← e2]; exact hat3 wr (Fr.refl _ _)
      have hsp : SP wr p b o n c m.p x wr := ⟨by rw [hW.c0, HQV.out, HN.out], hW.c2, hat4, Fr.refl _ _⟩
      obtain ⟨o1, o2, o3x, o4, o5, o6⟩ := hat.op HRR.out hx
      have hmn : m.p < n := by rw [HN.out]; exact hat.lt
      have HSP := hid hsp
      have HX := hid hx
      have HXG := hid hxg
      have HOV := hid hov
      have HCA := hid hca
      have HCD := hid hcd
      have HAG := hid hag
      have HAT2 := hid hat
      have HWM := hid hW
      have HK := hid hk
      clear hsp hx hxg hov hca hcd hag hat hW hq3 hat3 hat4 e1 e2 hk
      go_upto_region 6 with fail
      refine A.wp_region_new' 10 _ _ rfl (SP wr p b o n c m.p x) (fun g W => W.heap[g]? = some (.cells (insA ⟨0, 0, 0⟩) TIn (0, 0)) ∧ wr.heap.size ≤ g) (by kernel_rfl) (by kernel_rfl) rfl rfl (HSP.out.on ((Fr.refl _ _).drew)) ?hT ?hal ?_
      case hT => exact fun g W W' hh hF => ⟨(hF.block g (Array.getElem?_eq_some_iff.1 hh.1).1 (fun h => h)).trans hh.1, hh.2⟩
      case hal =>
        intro a W hS
        refine ⟨W.alloc (.cells (insA ⟨0, 0, 0⟩) TIn), ?_, hS.on ((Fr.refl _ _).alloc _), heap_alloc_new _ _, hS.fr.size⟩
        go_simp
        rfl
      simp only [List.take_succ_cons, List.take_zero]
      repeat (first
        | ((with_reducible refine A.atS ⟨some 40, _, _, _, _, _⟩ ?_); refine A.wpSure_read (.agg (insA x)) rfl (fun W hS => load_ia rfl rfl hS.at_) ?_; simp only [Act.put, List.setIfInBounds_toArray, List.set_cons_zero, List.set_cons_succ])
        | (refine' A.wpSure_value _ rfl _ _; rotate_left; (solve | (intro W; go_simp) | (intro W; go_simp; with_reducible rfl)); simp only [Act.put, List.setIfInBounds_toArray, List.set_cons_zero, List.set_cons_succ])
        | (refine' A.wpSure_read _ rfl _ _; rotate_left; (solve | (intro W hS; have k1 := hS.c0; have k2 := hS.c2; clear hS; go_simp) | (intro W hS; have k1 := hS.c0; have k2 := hS.c2; clear hS; go_simp; with_reducible rfl)); simp only [Act.put, List.setIfInBounds_toArray, List.set_cons_zero, List.set_cons_succ]))
      refine A.wpSure_end ?_
      intro g2 W hS hg
      refine wpList_store_row rfl TIn _ _ rfl g2 (insA x) rfl rfl TIn _ hg.1 (by kernel_rfl) rfl (insA_one x) ?_
      obtain ⟨W2, hW2⟩ : ∃ W2, W2 = W.setRow g2 (insA x) := ⟨_, rfl⟩
      have hg2 : InI W2 g2 x := by rw [hW2]; exact setRow_heap _ _ _ _ _ _ hg.1
      have hf2 : Fr (fun _ => False) wr W2 := by rw [hW2]; exact hS.fr.setRow _ _ (fun hk => absurd hk (by omega))
      rw [← hW2]
      have i0 := hg2.c0
      have hrlr : rc < wr.heap.size := Nat.lt_of_lt_of_le hrl HL.out.fr.size
      have hrc2 : W2.heap[rc]? = some (.cells (evA evZ) TEv (0, 0)) := (hf2.block rc hrlr (fun e => e)).trans HL.out.rc
      have h2 : FmW W2 (exS S w1 W2) p (g.wM m) qv sv3 := (HWM.out.no hf2).up (fun k hk => by rcases hk with e | e; exact .inl e; exact .inr ⟨e.1, Nat.lt_of_lt_of_le e.2 hf2.size⟩) (fun k hk => by
        rcases hk with e | e
        · exact (HWM.out.no hf2).sl k (.inl e)
        · exact e.2)
      have HW2 := hid h2
      have HF2 := hid (HL.out.fr.trans hf2 (fun _ e _ => e.elim))
      have HG2 := hid hg2
      have HRC2 := hid hrc2
      have hrl2 : rc < W2.heap.size := Nat.lt_of_lt_of_le hrlr hf2.size
      have hrE : ¬ exS S w1 W2 rc := fun e => by rcases e with e | e; exact hrS e; exact absurd e.1 (by omega)
      clear hW2 hf2 hS hg hg2 hrc2 h2 HSP HWM hrlr W
      simp only [Act.put, List.setIfInBounds_toArray, List.set_cons_zero, List.set_cons_succ]
      by_cases h8 : x.op < 8
      · have HDO := hid (do_any m.v HW2.out (h := hh) (by show RightC g.code 8 hh; rw [HCD.out]; exact HRR.out) (by show AtH g.code hh m.p m.st.length; rw [HCD.out]; exact HAT2.out) HXG.out h8)
        have d8 : (x.op == 8) = false := by simp; omega
        have d9 : (x.op == 9) = false := by simp; omega
        have d10 : (x.op == 10) = false := by simp; omega
        have d11 : (x.op == 11) = false := by simp; omega
        have H8 := hid h8
        clear h8 o1 o2 o3x o4 o5 o6
        go_wp2_with (first
          | ((with_reducible refine at_op ⟨some 49, _, _, _, _, _⟩ ?_); refine wpList_load_row rfl TIn _ rfl g2 rfl TIn (insA x) (0, 0) _ HG2.out Tryd.underlying45 rfl (by kernel_rfl) ?_)
          | (go_at_call 22; refine HDO.out.mono ?_; rintro e W4 ⟨rfl, ⟨sv4, h4⟩, hf4⟩; have H4 := hid h4; have HF4 := hid hf4; clear h4 hf4)
          | fail)
        have hL4 : LpI w1 S p rc g hh m0 qv (stp g.arg x m) W4 := ⟨⟨sv4, H4.out.up (fun k hk => exS.tr HF2.out.size HF4.out.size hk) (fun k hk => by
            rcases hk with e | e
            · exact H4.out.sl k (.inl (.inl e))
            · exact e.2)⟩, by rw [HCD.out, HAG.out]; exact HAT2.out.stp HRR.out HX.out H8.out, HL.out.eq.trans (rest_go (by rw [HCD.out]; exact HX.out) H8.out), HF2.out.trans HF4.out (fun k hk hl => by rcases hk with e | e; exact e; exact absurd e.1 (by omega)),
          (HF4.out.block rc hrl2 hrE).trans HRC2.out⟩
        have HL4 := hid hL4
        have hsl := stp_lt g.arg x m
        clear hL4 H4 HF4
        go_roundg (n - (stp g.arg x m).p)
        case measure => have := HK.out; omega
        case rel => exact ⟨stp g.arg x m, rfl, HL4, rfl⟩
      · have HST2 := hid (stop_any m.v HW2.out HOV.out HCA.out HXG.out (by show m.p ≤ 1000; have := HN.out; omega) (by show g.code.length ≤ 1000; rw [HCD.out]; omega) (by show m.st.length ≤ 900; omega) (by omega) (fun h => by show 1 ≤ m.st.length; rcases h with h | h; exact o3x (by omega); have := o5 h; omega))
        have HNX := hid (nx_at (f := f) (r := r) (v := v) HO.out (by have := HL.out.eq; rw [HCD.out, HAG.out, HM0.out] at this; exact this) HX.out (by omega))
        obtain ⟨ev, hev⟩ : ∃ ev, ev = stopE x m := ⟨_, rfl⟩
        have HEV := hid hev
        rcases (show x.op = 8 ∨ x.op = 9 ∨ x.op = 10 ∨ x.op = 11 by omega) with hop | hop | hop | hop
        all_goals
          rw [hop] at i0
          clear h8 o1 o2 o3x o4 o5 o6 hop hev
          go_wp2_with (first
            | (go_at_call 23; refine HST2.out.mono ?_; rintro e W4 ⟨he, ⟨qv4, sv4, h4⟩, hf4⟩; have he2 : e = .returned (.agg (evA ev)) := he.trans (by rw [HEV.out]; rfl); subst he2; have hrc4 : W4.heap[rc]? = some (.cells (evA evZ) TEv (0, 0)) := (hf4.block rc hrl2 hrE).trans HRC2.out; have HRC4 := hid hrc4; have H4 := hid h4; have HF4 := hid hf4; clear h4 hf4 hrc4 he)
            | ((with_reducible refine at_op ⟨none, .store TEv (.tmp 6) (.tmp 53), _, _, _, _⟩ ?_); refine wpList_store_row rfl TEv _ _ rfl rc (evA ev) (by rw [HRC.out]; rfl) rfl TEv (evA evZ) HRC4.out szEv rfl (evA_one _) ?_)
            | fail)
          try rw [Exit.noGoto_ret]
          have hf5 : Fr S w (W4.setRow rc (evA ev)) := ((HF1.out.mono (fp2 := S) (fun _ e _ => e.elim)).trans (HF2.out.trans HF4.out (fun k hk hl => by rcases hk with e | e; exact e; exact absurd e.1 (by omega))) (fun k hk _ => hk)).setRow _ _ (fun hk => absurd hk (by rw [HRC.out]; exact Nat.lt_irrefl _))
          have h5 := H4.out.fr (fp := fun b => b = rc) ((Fr.refl _ W4).setRow rc (evA ev) (fun _ => rfl)) (fun k hk e => by
            subst e
            rcases hk with e | e
            · exact hrE e
            · exact absurd e.1 (by omega))
          refine bodyPost_ret (results_cell_tmp (P := Tryd.prog) (fn := Tryd.f11) (p := 6) (q := 7) rfl _ _ rc TEv _ (0, 0) _ (by rw [HRC.out]; rfl) (setRow_heap _ _ _ _ _ _ HRC4.out) Tryd.underlying36 rfl szEv) rfl ⟨?_, ⟨qv4, sv4, ?_⟩, hf5⟩
          · rw [HNX.out.1, HNX.out.2.1, ← HEV.out]; rfl
          · have e5 : stopF (g.wM m) x m = stopF f x m := by simp only [stopF, Fs.wM, HCD.out, HAG.out]
            rw [HNX.out.2.2, ← e5]
            exact h5.up (fun k hk => by
              have hw1l := HF1.out.size
              have hk2 := h5.sl k hk
              rcases hk with (e | e) | e
              · exact .inl e
              · exact .inr ⟨by omega, hk2⟩
              · exact .inr ⟨by have := HF2.out.size; omega, hk2⟩) (fun k hk => by
              rcases hk with e | e
              · exact h5.sl k (.inl (.inl e))
              · exact e.2)
  | true =>
    rw [hc] at c4
    have HC := hid hc
    have HLY := hid (lay_any r HH1.out (by have := HDP.out; omega))
    have hst : laid f r = f.st ++ [r] := by unfold laid; rw [hc]; rfl
    have HST := hid hst
    clear hc hst
    go_upto_region 5 with (first
      | (go_at_call 21; refine HLY.out.mono ?_; rintro e w2 ⟨⟨u, rfl⟩, ⟨sv2, k1⟩, hf2⟩; have c4 := k1.c4; have z4 := k1.fz 4; have HK1 := hid k1; have HF2 := hid hf2; clear k1 hf2)
      | fail)
    have k2 := HK1.out.put1 4 (.bool false) (f2 := ((f.wSt (f.st ++ [r])).wC false)) rfl rfl rfl rfl
    obtain ⟨w3, hw3⟩ : ∃ w3, w3 = w2.setCell ⟨p, 4, none⟩ (.bool false) := ⟨_, rfl⟩
    rw [← hw3] at k2
    have HI : RowKit.Hid (LpI w1 S p rc g hh m0 qv m0 w3) := hid ⟨⟨sv2, by
      have e : g.wM m0 = ((f.wSt (f.st ++ [r])).wC false) := by
        rw [HG.out, HM0.out, HST.out]
        rcases f with ⟨f1, f2, f3, f4, f5, f6⟩
        have := HO.out
        simp only at this
        subst this
        rfl
      rw [e]
      exact k2.1.up (fun k hk => by rcases hk with e | e; exact .inl e; exact .inr ⟨e.1, Nat.lt_of_lt_of_le e.2 k2.2.size⟩) (fun k hk => by
        rcases hk with e | e
        · exact k2.1.sl k (.inl e)
        · exact e.2)⟩, by rw [HG.out, HM0.out]; exact HAT.out, rfl, HF2.out.trans k2.2 (fun k hk hl => by rcases hk with e | e; exact e; exact absurd e.1 (by omega)),
        (k2.2.block rc (Nat.lt_of_lt_of_le hrl HF2.out.size) (fun e => by rcases e with e | e; exact hrS e; exact absurd e.1 (by omega))).trans ((HF2.out.block rc hrl hrS).trans HR1.out)⟩
    have HW3 := hid hw3
    clear hw3 k2
    go_upto_region 6 with fail
    rw [← HW3.out]
    clear c4 z4
    refine wp_label ?_
    go_wp2_with fail
    go_loopg [2] (n - m0.p) (fun k vv wr => ∃ m : Mo, vv = iv m.v ∧ RowKit.Hid (LpI w1 S p rc g hh m0 qv m wr) ∧ k = n - m.p)
    case atStart => exact ⟨m0, by rw [HM0.out], HI, rfl⟩
    case round =>
      obtain ⟨m, rfl, HL, hk⟩ := hrel
      obtain ⟨sv3, hW⟩ := HL.out.fm
      have hcd : g.code = f.code := by rw [HG.out]
      have hag : g.arg = f.arg := by rw [HG.out]
      have hov : (g.wM m).over = false := by rw [HG.out]; rfl
      have hca : (g.wM m).calls = false := by rw [HG.out]; rfl
      have hat := HL.out.at_
      rw [hcd] at hat
      have hx := List.getElem?_eq_getElem hat.lt
      generalize f.code[m.p]'hat.lt = x at hx
      have hxg : (g.wM m).code[(g.wM m).p]? = some x := by show g.code[m.p]? = some x; rw [hcd]; exact hx
      obtain ⟨b3, o3, c3, hq3, _, _, hat3⟩ := hW.ins hov hxg
      have hqv := HQV.out
      rw [hq3] at hqv
      simp only [Value.slice.injEq, Option.some.injEq, Addr.mk.injEq, and_true] at hqv
      obtain ⟨⟨e1, e2⟩, _, _⟩ := hqv
      have hat4 : AtL wr b (o + m.p * 3) (insc x) := by rw [← e1, ← e2]; exact hat3 wr (Fr.refl _ _)
      have hsp : SP wr p b o n c m.p x wr := ⟨by rw [hW.c0, HQV.out, HN.out], hW.c2, hat4, Fr.refl _ _⟩
      obtain ⟨o1, o2, o3x, o4, o5, o6⟩ := hat.op HRR.out hx
      have hmn : m.p < n := by rw [HN.out]; exact hat.lt
      have HSP := hid hsp
      have HX := hid hx
      have HXG := hid hxg
      have HOV := hid hov
      have HCA := hid hca
      have HCD := hid hcd
      have HAG := hid hag
      have HAT2 := hid hat
      have HWM := hid hW
      have HK := hid hk
      clear hsp hx hxg hov hca hcd hag hat hW hq3 hat3 hat4 e1 e2 hk
      go_upto_region 6 with fail
      refine A.wp_region_new' 10 _ _ rfl (SP wr p b o n c m.p x) (fun g W => W.heap[g]? = some (.cells (insA ⟨0, 0, 0⟩) TIn (0, 0)) ∧ wr.heap.size ≤ g) (by kernel_rfl) (by kernel_rfl) rfl rfl (HSP.out.on ((Fr.refl _ _).drew)) ?hT ?hal ?_
      case hT => exact fun g W W' hh hF => ⟨(hF.block g (Array.getElem?_eq_some_iff.1 hh.1).1 (fun h => h)).trans hh.1, hh.2⟩
      case hal =>
        intro a W hS
        refine ⟨W.alloc (.cells (insA ⟨0, 0, 0⟩) TIn), ?_, hS.on ((Fr.refl _ _).alloc _), heap_alloc_new _ _, hS.fr.size⟩
        go_simp
        rfl
      simp only [List.take_succ_cons, List.take_zero]
      repeat (first
        | ((with_reducible refine A.atS ⟨some 40, _, _, _, _, _⟩ ?_); refine A.wpSure_read (.agg (insA x)) rfl (fun W hS => load_ia rfl rfl hS.at_) ?_; simp only [Act.put, List.setIfInBounds_toArray, List.set_cons_zero, List.set_cons_succ])
        | (refine' A.wpSure_value _ rfl _ _; rotate_left; (solve | (intro W; go_simp) | (intro W; go_simp; with_reducible rfl)); simp only [Act.put, List.setIfInBounds_toArray, List.set_cons_zero, List.set_cons_succ])
        | (refine' A.wpSure_read _ rfl _ _; rotate_left; (solve | (intro W hS; have k1 := hS.c0; have k2 := hS.c2; clear hS; go_simp) | (intro W hS; have k1 := hS.c0; have k2 := hS.c2; clear hS; go_simp; with_reducible rfl)); simp only [Act.put, List.setIfInBounds_toArray, List.set_cons_zero, List.set_cons_succ]))
      refine A.wpSure_end ?_
      intro g2 W hS hg
      refine wpList_store_row rfl TIn _ _ rfl g2 (insA x) rfl rfl TIn _ hg.1 (by kernel_rfl) rfl (insA_one x) ?_
      obtain ⟨W2, hW2⟩ : ∃ W2, W2 = W.setRow g2 (insA x) := ⟨_, rfl⟩
      have hg2 : InI W2 g2 x := by rw [hW2]; exact setRow_heap _ _ _ _ _ _ hg.1
      have hf2 : Fr (fun _ => False) wr W2 := by rw [hW2]; exact hS.fr.setRow _ _ (fun hk => absurd hk (by omega))
      rw [← hW2]
      have i0 := hg2.c0
      have hrlr : rc < wr.heap.size := Nat.lt_of_lt_of_le hrl HL.out.fr.size
      have hrc2 : W2.heap[rc]? = some (.cells (evA evZ) TEv (0, 0)) := (hf2.block rc hrlr (fun e => e)).trans HL.out.rc
      have h2 : FmW W2 (exS S w1 W2) p (g.wM m) qv sv3 := (HWM.out.no hf2).up (fun k hk => by rcases hk with e | e; exact .inl e; exact .inr ⟨e.1, Nat.lt_of_lt_of_le e.2 hf2.size⟩) (fun k hk => by
        rcases hk with e | e
        · exact (HWM.out.no hf2).sl k (.inl e)
        · exact e.2)
      have HW2 := hid h2
      have HF2 := hid (HL.out.fr.trans hf2 (fun _ e _ => e.elim))
      have HG2 := hid hg2
      have HRC2 := hid hrc2
      have hrl2 : rc < W2.heap.size := Nat.lt_of_lt_of_le hrlr hf2.size
      have hrE : ¬ exS S w1 W2 rc := fun e => by rcases e with e | e; exact hrS e; exact absurd e.1 (by omega)
      clear hW2 hf2 hS hg hg2 hrc2 h2 HSP HWM hrlr W
      simp only [Act.put, List.setIfInBounds_toArray, List.set_cons_zero, List.set_cons_succ]
      by_cases h8 : x.op < 8
      · have HDO := hid (do_any m.v HW2.out (h := hh) (by show RightC g.code 8 hh; rw [HCD.out]; exact HRR.out) (by show AtH g.code hh m.p m.st.length; rw [HCD.out]; exact HAT2.out) HXG.out h8)
        have d8 : (x.op == 8) = false := by simp; omega
        have d9 : (x.op == 9) = false := by simp; omega
        have d10 : (x.op == 10) = false := by simp; omega
        have d11 : (x.op == 11) = false := by simp; omega
        have H8 := hid h8
        clear h8 o1 o2 o3x o4 o5 o6
        go_wp2_with (first
          | ((with_reducible refine at_op ⟨some 49, _, _, _, _, _⟩ ?_); refine wpList_load_row rfl TIn _ rfl g2 rfl TIn (insA x) (0, 0) _ HG2.out Tryd.underlying45 rfl (by kernel_rfl) ?_)
          | (go_at_call 22; refine HDO.out.mono ?_; rintro e W4 ⟨rfl, ⟨sv4, h4⟩, hf4⟩; have H4 := hid h4; have HF4 := hid hf4; clear h4 hf4)
          | fail)
        have hL4 : LpI w1 S p rc g hh m0 qv (stp g.arg x m) W4 := ⟨⟨sv4, H4.out.up (fun k hk => exS.tr HF2.out.size HF4.out.size hk) (fun k hk => by
            rcases hk with e | e
            · exact H4.out.sl k (.inl (.inl e))
            · exact e.2)⟩, by rw [HCD.out, HAG.out]; exact HAT2.out.stp HRR.out HX.out H8.out, HL.out.eq.trans (rest_go (by rw [HCD.out]; exact HX.out) H8.out), HF2.out.trans HF4.out (fun k hk hl => by rcases hk with e | e; exact e; exact absurd e.1 (by omega)),
          (HF4.out.block rc hrl2 hrE).trans HRC2.out⟩
        have HL4 := hid hL4
        have hsl := stp_lt g.arg x m
        clear hL4 H4 HF4
        go_roundg (n - (stp g.arg x m).p)
        case measure => have := HK.out; omega
        case rel => exact ⟨stp g.arg x m, rfl, HL4, rfl⟩
      · have HST2 := hid (stop_any m.v HW2.out HOV.out HCA.out HXG.out (by show m.p ≤ 1000; have := HN.out; omega) (by show g.code.length ≤ 1000; rw [HCD.out]; omega) (by show m.st.length ≤ 900; omega) (by omega) (fun h => by show 1 ≤ m.st.length; rcases h with h | h; exact o3x (by omega); have := o5 h; omega))
        have HNX := hid (nx_at (f := f) (r := r) (v := v) HO.out (by have := HL.out.eq; rw [HCD.out, HAG.out, HM0.out] at this; exact this) HX.out (by omega))
        obtain ⟨ev, hev⟩ : ∃ ev, ev = stopE x m := ⟨_, rfl⟩
        have HEV := hid hev
        rcases (show x.op = 8 ∨ x.op = 9 ∨ x.op = 10 ∨ x.op = 11 by omega) with hop | hop | hop | hop
        all_goals
          rw [hop] at i0
          clear h8 o1 o2 o3x o4 o5 o6 hop hev
          go_wp2_with (first
            | (go_at_call 23; refine HST2.out.mono ?_; rintro e W4 ⟨he, ⟨qv4, sv4, h4⟩, hf4⟩; have he2 : e = .returned (.agg (evA ev)) := he.trans (by rw [HEV.out]; rfl); subst he2; have hrc4 : W4.heap[rc]? = some (.cells (evA evZ) TEv (0, 0)) := (hf4.block rc hrl2 hrE).trans HRC2.out; have HRC4 := hid hrc4; have H4 := hid h4; have HF4 := hid hf4; clear h4 hf4 hrc4 he)
            | ((with_reducible refine at_op ⟨none, .store TEv (.tmp 6) (.tmp 53), _, _, _, _⟩ ?_); refine wpList_store_row rfl TEv _ _ rfl rc (evA ev) (by rw [HRC.out]; rfl) rfl TEv (evA evZ) HRC4.out szEv rfl (evA_one _) ?_)
            | fail)
          try rw [Exit.noGoto_ret]
          have hf5 : Fr S w (W4.setRow rc (evA ev)) := ((HF1.out.mono (fp2 := S) (fun _ e _ => e.elim)).trans (HF2.out.trans HF4.out (fun k hk hl => by rcases hk with e | e; exact e; exact absurd e.1 (by omega))) (fun k hk _ => hk)).setRow _ _ (fun hk => absurd hk (by rw [HRC.out]; exact Nat.lt_irrefl _))
          have h5 := H4.out.fr (fp := fun b => b = rc) ((Fr.refl _ W4).setRow rc (evA ev) (fun _ => rfl)) (fun k hk e => by
            subst e
            rcases hk with e | e
            · exact hrE e
            · exact absurd e.1 (by omega))
          refine bodyPost_ret (results_cell_tmp (P := Tryd.prog) (fn := Tryd.f11) (p := 6) (q := 7) rfl _ _ rc TEv _ (0, 0) _ (by rw [HRC.out]; rfl) (setRow_heap _ _ _ _ _ _ HRC4.out) Tryd.underlying36 rfl szEv) rfl ⟨?_, ⟨qv4, sv4, ?_⟩, hf5⟩
          · rw [HNX.out.1, HNX.out.2.1, ← HEV.out]; rfl
          · have e5 : stopF (g.wM m) x m = stopF f x m := by simp only [stopF, Fs.wM, HCD.out, HAG.out]
            rw [HNX.out.2.2, ← e5]
            exact h5.up (fun k hk => by
              have hw1l := HF1.out.size
              have hk2 := h5.sl k hk
              rcases hk with (e | e) | e
              · exact .inl e
              · exact .inr ⟨by omega, hk2⟩
              · exact .inr ⟨by have := HF2.out.size; omega, hk2⟩) (fun k hk => by
              rcases hk with e | e
              · exact h5.sl k (.inl (.inl e))
              · exact e.2)
end Go.Proofs.YtcoclaabainibaaDoor
