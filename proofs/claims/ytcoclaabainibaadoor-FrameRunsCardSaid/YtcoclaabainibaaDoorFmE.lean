/-
  The program's stop: an instruction that needs somebody else.
-/
import Derived.Test.YtcoclaabainibaaDoorFmD
import Derived.Test.YtcoclaabainibaaDoorSureA
namespace Go.Proofs.YtcoclaabainibaaDoor
open Go Go.ChangeShapes Go.WideShapes Go.ChangeAt Go.RowKit

abbrev TEv : TypeId := 36
def evA (e : Ev) : Array Value := #[iv e.kind, iv e.slot, iv e.meth, iv e.n, iv e.code]
def evZ : Ev := ⟨0, 0, 0, 0, 0⟩
theorem evA_one (e : Ev) : (evA e).all (·.oneCell') = true := by simp [evA, Value.oneCell']
theorem insA_one (x : Ins) : (insA x).all (·.oneCell') = true := by simp [insA, insc, Value.oneCell']
set_option maxRecDepth 100000 in
theorem szEv : (Tryd.prog.info? TEv).map (·.size) = some 5 := by kernel_rfl
theorem Fr.setRow {fp : Nat → Prop} {a w : World} (h : Fr fp a w) (g : Nat) (cs : Array Value) (hg : g < a.heap.size → fp g) : Fr fp a (w.setRow g cs) :=
  ⟨h.os, h.tape, h.output, Nat.le_trans h.size (by simp), fun k hk hn => (setRow_other w g k cs (fun e => hn (by subst e; exact hg hk))).trans (h.block k hk hn)⟩
section
variable {w w' : World} {S fp : Nat → Prop} {p : Nat} {f : Fs} {qv sv : Value}
/-- The instruction at a place, in memory. -/
theorem FmW.ins (h : FmW w S p f qv sv) (ho : f.over = false) {i : Nat} {x : Ins} (hx : f.code[i]? = some x) : ∃ b o c, qv = .slice (some ⟨b, o, none⟩) f.code.length c ∧ i < f.code.length ∧ S b ∧ ∀ W, Fr (fun _ => False) w W → AtL W b (o + i * 3) (insc x) := by
  have hi := (List.getElem?_eq_some_iff.1 hx).1
  rcases h.code with ⟨h1, _⟩ | ⟨_, h1⟩
  · rw [ho] at h1; cases h1
  · obtain ⟨g, c, rfl, _⟩ := h1.form (by omega)
    exact ⟨g, 0, c, rfl, hi, h.sq g rfl, fun W hW => (RwI.of_own (hW.owns h1 (fun _ _ e => e))).rows g 0 rfl i x hx⟩
end
/-- While the instruction is fetched. -/
structure SP (w1 : World) (p b o n c np : Nat) (x : Ins) (W : World) : Prop where
  c0 : W.cell? ⟨p, 0, none⟩ = some (.slice (some ⟨b, o, none⟩) n c)
  c2 : W.cell? ⟨p, 2, none⟩ = some (nI np)
  at_ : AtL W b (o + np * 3) (insc x)
  fr : Fr (fun _ => False) w1 W
theorem AtL.no {W W' : World} {b o : Nat} {x : Ins} (h : AtL W b o (insc x)) (hf : Fr (fun _ => False) W W') : AtL W' b o (insc x) := fun j u hu => by
  have h1 := h j u hu
  exact (World.cell?_of_block (w := W) (w' := W') (a := ⟨b, o + j, none⟩) (hf.block b (World.block_lt_of_cell? W _ h1) (fun e => e))).trans h1
theorem SP.on {w1 : World} {p b o n c np : Nat} {x : Ins} {W W' : World} (h : SP w1 p b o n c np x W) (hf : Fr (fun _ => False) W W') : SP w1 p b o n c np x W' :=
  ⟨(World.cell?_of_block (w := W) (w' := W') (a := ⟨p, 0, none⟩) (hf.block p (World.block_lt_of_cell? W _ h.c0) (fun e => e))).trans h.c0, (World.cell?_of_block (w := W) (w' := W') (a := ⟨p, 2, none⟩) (hf.block p (World.block_lt_of_cell? W _ h.c2) (fun e => e))).trans h.c2, h.at_.no hf, h.fr.trans hf (fun _ e _ => e)⟩
/-- What stop leaves. -/
def StP (w : World) (S : Nat → Prop) (p : Nat) (f : Fs) (x : Ins) (v : Int) (e : Ending) (w' : World) : Prop :=
  e = .returned (.agg (evA (stopE x ⟨f.p, f.st, v⟩))) ∧ (∃ qv2 sv2, FmW w' (exS S w w') p (stopF f x ⟨f.p, f.st, v⟩) qv2 sv2) ∧ Fr S w w'
theorem StP.of {w W : World} {S : Nat → Prop} {p : Nat} {f f2 : Fs} {x : Ins} {v : Int} {qv2 sv2 : Value} {ev : Ev} (hb : ∀ k, S k → k < w.heap.size) (h : FmW W S p f2 qv2 sv2) (hf : Fr S w W) (he : stopE x ⟨f.p, f.st, v⟩ = ev) (hf2 : stopF f x ⟨f.p, f.st, v⟩ = f2) :
    StP w S p f x v (.returned (.agg (evA ev))) (W.setRow w.heap.size (evA ev)) := by
  have h2 : Fr (fun b => b = w.heap.size) W (W.setRow w.heap.size (evA ev)) := (Fr.refl _ _).setRow _ _ (fun _ => rfl)
  have hff : Fr S w (W.setRow w.heap.size (evA ev)) := hf.setRow _ _ (fun hk => absurd hk (Nat.lt_irrefl _))
  have h3 := h.fr h2 (fun k hk e => by have := hb k hk; omega)
  refine ⟨by rw [he], ⟨qv2, sv2, ?_⟩, hff⟩
  rw [hf2]
  exact h3.up (fun k hk => .inl hk) (fun k hk => by
    rcases hk with e | e
    · exact h3.sl k e
    · exact e.2)
set_option maxRecDepth 100000 in
set_option maxHeartbeats 8000000 in
theorem stop_any {w : World} {S : Nat → Prop} {p : Nat} {f : Fs} {qv sv : Value} {x : Ins} (v : Int) (h : FmW w S p f qv sv) (ho : f.over = false) (hcl : f.calls = false) (hx : f.code[f.p]? = some x) (hp : f.p ≤ 1000) (_hc : f.code.length ≤ 1000) (h9 : f.st.length ≤ 900) (h8 : x.op = 8 ∨ x.op = 9 ∨ x.op = 10 ∨ x.op = 11) (hd : x.op = 8 ∨ x.op = 11 → 1 ≤ f.st.length) :
    Calls Tryd.prog 23 #[.pointer (some ⟨p, 0, none⟩)] w (StP w S p f x v) := by
  obtain ⟨w1, hw1⟩ : ∃ w1, w1 = w.alloc (.cells (evA evZ) TEv) := ⟨_, rfl⟩
  have hf1 : Fr (fun _ => False) w w1 := by rw [hw1]; exact (Fr.refl _ _).alloc _
  have hr1 : w1.heap[w.heap.size]? = some (.cells (evA evZ) TEv (0, 0)) := by rw [hw1]; exact heap_alloc_new _ _
  obtain ⟨b, o, c, hqv, hi, hSb, hat⟩ := h.ins ho hx
  obtain ⟨n, hn⟩ : ∃ n, n = f.code.length := ⟨_, rfl⟩
  obtain ⟨np, hnp⟩ : ∃ np, np = f.p := ⟨_, rfl⟩
  have h1 := h.no hf1
  have hsp : SP w1 p b o n c np x w1 := ⟨by rw [h1.c0, hqv, hn], by rw [h1.c2, hnp], by rw [hnp]; exact hat w1 hf1, Fr.refl _ _⟩
  rw [← hn] at hi _hc
  rw [← hnp] at hi hp
  have HSP := hid hsp
  have HX := hid hx
  have HO := hid ho
  have HCL := hid hcl
  have HH := hid h1
  have HSL := hid h.sl
  have HF1 := hid hf1
  have HR1 := hid hr1
  have HW1 := hid hw1
  have HN := hid hn
  have HNP := hid hnp
  have H8 := hid h8
  have HD := hid hd
  have HQV := hid hqv
  clear h ho hcl hx h1 hw1 hf1 hr1 hqv hSb hat hn hnp hsp h8 hd
  go_enter Tryd.func23, Tryd.ntmps23
  go_upto_region 1 with fail
  change Code.wp _ _ _ _ (w.alloc (.cells (evA evZ) TEv))
  rw [← HW1.out]
  refine A.wp_region_new' 10 _ _ rfl (SP w1 p b o n c np x) (fun g W => W.heap[g]? = some (.cells (insA ⟨0, 0, 0⟩) TIn (0, 0)) ∧ w1.heap.size ≤ g) (by kernel_rfl) (by kernel_rfl) rfl rfl (HSP.out.on ((Fr.refl _ _).drew)) ?hT ?hal ?_
  case hT => exact fun g W W' hh hF => ⟨(hF.block g (Array.getElem?_eq_some_iff.1 hh.1).1 (fun h => h)).trans hh.1, hh.2⟩
  case hal =>
    intro a W hS
    refine ⟨W.alloc (.cells (insA ⟨0, 0, 0⟩) TIn), ?_, hS.on ((Fr.refl _ _).alloc _), heap_alloc_new _ _, hS.fr.size⟩
    go_simp
    rfl
  simp only [List.take_succ_cons, List.take_zero]
  repeat (first
    | ((with_reducible refine A.atS ⟨some 13, _, _, _, _, _⟩ ?_); refine A.wpSure_read (.agg (insA x)) rfl (fun W hS => load_ia rfl rfl hS.at_) ?_; simp only [Act.put, List.setIfInBounds_toArray, List.set_cons_zero, List.set_cons_succ])
    | (refine' A.wpSure_value _ rfl _ _; rotate_left; (solve | (intro W; go_simp) | (intro W; go_simp; with_reducible rfl)); simp only [Act.put, List.setIfInBounds_toArray, List.set_cons_zero, List.set_cons_succ])
    | (refine' A.wpSure_read _ rfl _ _; rotate_left; (solve | (intro W hS; have k1 := hS.c0; have k2 := hS.c2; clear hS; go_simp) | (intro W hS; have k1 := hS.c0; have k2 := hS.c2; clear hS; go_simp; with_reducible rfl)); simp only [Act.put, List.setIfInBounds_toArray, List.set_cons_zero, List.set_cons_succ]))
  refine A.wpSure_end ?_
  intro g W hS hg
  refine wpList_store_row rfl TIn _ _ rfl g (insA x) rfl rfl TIn _ hg.1 (by kernel_rfl) rfl (insA_one x) ?_
  obtain ⟨W2, hW2⟩ : ∃ W2, W2 = W.setRow g (insA x) := ⟨_, rfl⟩
  have hg2 : InI W2 g x := by rw [hW2]; exact setRow_heap _ _ _ _ _ _ hg.1
  have hf2 : Fr (fun _ => False) w1 W2 := by rw [hW2]; exact hS.fr.setRow _ _ (fun hk => absurd hk (by omega))
  rw [← hW2]
  have hrl : w.heap.size < w1.heap.size := (Array.getElem?_eq_some_iff.1 HR1.out).1
  have hrc : W2.heap[w.heap.size]? = some (.cells (evA evZ) TEv (0, 0)) := (hf2.block _ hrl (fun e => e)).trans HR1.out
  have h2 := HH.out.no hf2
  have hpl := h2.sp
  have i0 := hg2.c0
  have i1 := hg2.c1
  have i2 := hg2.c2
  have z0 := h2.fz 0
  have c0 := h2.c0
  rw [HQV.out] at c0
  have hgn : g ≠ w.heap.size := by omega
  have hgS : ¬ S g := fun e => by have := HSL.out g e; omega
  have hgl : g < W2.heap.size := (Array.getElem?_eq_some_iff.1 hg2).1
  have hrS : ¬ S w.heap.size := fun e => absurd (HSL.out _ e) (Nat.lt_irrefl _)
  have hrl2 : w.heap.size < W2.heap.size := Nat.lt_of_lt_of_le hrl hf2.size
  have HH2 := hid h2
  have HF2 := hid (HF1.out.trans hf2 (fun _ e _ => e))
  have HG2 := hid hg2
  have HRC := hid hrc
  clear hW2 hf2 hS hg hg2 hrl hrc h2 hpl HSP HH HF1 HR1 HW1 W
  simp only [Act.put, List.setIfInBounds_toArray, List.set_cons_zero, List.set_cons_succ]
  obtain ⟨rc, hrc⟩ : ∃ rc, rc = w.heap.size := ⟨_, rfl⟩
  rw [← hrc] at HRC hgn hrS hrl2 ⊢
  have HRW := hid hrc
  clear hrc
  obtain ⟨op, xa, xb⟩ := x
  simp only at i0 i1 i2
  have h8 := H8.out
  simp only at h8
  rcases h8 with rfl | rfl | rfl | rfl
  · -- a call
    have h1 : 1 ≤ f.st.length := HD.out (.inl rfl)
    obtain ⟨r, y, hry, hr, hy, hrl⟩ := last_split rfl h1
    have HRY := hid hry
    have HR := hid hr
    have HY := hid hy
    obtain ⟨n1, hn1⟩ : ∃ n1, n1 = np + 1 := ⟨_, rfl⟩
    have hs : ((np : Int) + 1) = (n1 : Int) := by omega
    have hwn := IntWalk.i64_in (n1 : Int) (by omega)
    have c2 := HH2.out.c2
    have z2 := HH2.out.fz 2
    rw [← HNP.out] at c2
    obtain ⟨k1, k2⟩ := HH2.out.put1 2 (nI n1) (f2 := f.wP n1) rfl rfl rfl rfl
    obtain ⟨k3, k4⟩ := k1.put1 4 (.bool true) (f2 := (f.wP n1).wC true) rfl rfl rfl rfl
    have z4 := k1.fz 4
    have c4 := k1.c4
    have HN1 := hid hn1
    obtain ⟨W3, hW3⟩ : ∃ W3, W3 = W2.setCell ⟨p, 2, none⟩ (nI n1) := ⟨_, rfl⟩
    obtain ⟨W4, hW4⟩ : ∃ W4, W4 = W3.setCell ⟨p, 4, none⟩ (.bool true) := ⟨_, rfl⟩
    rw [← hW3] at k1 k2 k3 k4 z4 c4
    rw [← hW4] at k3 k4
    have hfg : Fr S W2 W4 := k2.trans k4 (fun k hk _ => hk)
    have hg3 : InI W3 g ⟨8, xa, xb⟩ := (k2.block g hgl hgS).trans HG2.out
    have hg4 : InI W4 g ⟨8, xa, xb⟩ := (hfg.block g hgl hgS).trans HG2.out
    have j0 := hg3.c0
    have j1 := hg4.c1
    have j2 := hg4.c2
    simp only at j0 j1 j2
    have hrc4 : W4.heap[rc]? = some (.cells (evA evZ) TEv (0, 0)) := (hfg.block rc hrl2 hrS).trans HRC.out
    have HRC4 := hid hrc4
    have hgl4 : g < W4.heap.size := Nat.lt_of_lt_of_le hgl hfg.size
    have hrl4 : rc < W4.heap.size := Nat.lt_of_lt_of_le hrl2 hfg.size
    have HK3 := hid k3
    have HFG := hid ((HF2.out.mono (fp2 := S) (fun _ e _ => e.elim)).trans hfg (fun k hk _ => hk))
    have HG4 := hid hg4
    have HW3 := hid hW3
    have HW4 := hid hW4
    clear hry hr hy h1 k1 k2 k3 k4 hfg hg3 hg4 hW3 hW4 hrc4 hn1 c0 z0
    go_upto_region 6 with fail
    change Code.wp _ _ _ _ (W2.setCell ⟨p, 2, none⟩ (nI n1))
    rw [← HW3.out]
    clear c2 z2 i0 i1 i2
    go_upto_region 12 with fail
    change Code.wp _ _ _ _ (W3.setCell ⟨p, 4, none⟩ (.bool true))
    rw [← HW4.out]
    clear c4 z4 j0 hs hwn
    refine D.wp_region_mix [0, 1, 0, 1, 0, 2, 0, 3] (fun W => W.cell? ⟨g, 1, none⟩ = some (.int .i64 xa) ∧ W.cell? ⟨g, 2, none⟩ = some (.int .i64 xb)) (by kernel_rfl) (by kernel_rfl) ⟨j1, j2⟩ ?_
    repeat (first
      | (refine' C.wpMix_value _ rfl rfl _ _; rotate_left; (solve | (intro W; go_simp) | (intro W; go_simp; with_reducible rfl)); simp only [Act.put, List.setIfInBounds_toArray, List.set_cons_zero, List.set_cons_succ])
      | (refine' C.wpMix_read _ rfl rfl _ _; rotate_left; (solve | (rintro W ⟨h1, h2⟩; go_simp) | (rintro W ⟨h1, h2⟩; go_simp; with_reducible rfl)); simp only [Act.put, List.setIfInBounds_toArray, List.set_cons_zero, List.set_cons_succ]))
    refine C.wpMix_call 27 #[.pointer (some ⟨p, 0, none⟩)] (by decide) rfl (by go_simp) ?_
    refine (take_any (l := r) (x := y) (HK3.out.no ((Fr.refl _ _).drew)) HRY.out (by omega)).mono ?_
    rintro e W5 ⟨rfl, ⟨sv5, h5⟩, hf5⟩
    have hf45 : Fr S W4 W5 := ((Fr.refl S W4).drew).trans hf5 (fun k hk _ => hk)
    have hg5 : InI W5 g ⟨8, xa, xb⟩ := (hf45.block g hgl4 hgS).trans HG4.out
    have hrc5 : W5.heap[rc]? = some (.cells (evA evZ) TEv (0, 0)) := (hf45.block rc hrl4 hrS).trans HRC4.out
    refine ⟨_, rfl, fun _ => ⟨hg5.c1, hg5.c2⟩, ?_⟩
    simp only [Act.put, List.setIfInBounds_toArray, List.set_cons_zero, List.set_cons_succ]
    have HF5 := hid (HFG.out.trans hf45 (fun k hk _ => hk))
    have HRC5 := hid hrc5
    have H5 := hid h5
    clear hf45 hg5 hf5 h5 hrc5 j1 j2
    refine C.wpMix_value (.agg (evA ⟨2, xa, xb, y, 0⟩)) rfl rfl (fun W => by go_simp; rfl) ?_
    simp only [Act.put, List.setIfInBounds_toArray, List.set_cons_zero, List.set_cons_succ]
    refine C.wpMix_skip (W5.setRow rc (evA ⟨2, xa, xb, y, 0⟩)) (by decide) rfl (exec_store_row TEv _ _ rfl rc (evA ⟨2, xa, xb, y, 0⟩) rfl rfl TEv _ HRC5.out szEv rfl (evA_one _)) (fun h => by cases h) ?_
    simp only [Act.put]
    refine C.wpMix_end ?_
    go_wp2_with fail
    refine cells_ret (r := 2) (T := TEv) (g := rc) rfl rfl rfl (run_loadVar_row (P := Tryd.prog) _ _ _ TEv _ (0, 0) _ (setRow_heap _ _ _ _ _ _ HRC5.out) Tryd.underlying36 rfl szEv) ?_
    rw [HRW.out]
    refine StP.of HSL.out H5.out HF5.out ?_ ?_
    · unfold stopE; rw [HY.out]; rfl
    · unfold stopF; rw [HR.out, HN1.out, HNP.out]
      rcases f with ⟨f1, f2, f3, f4, f5, f6⟩
      have := HO.out
      simp only at this
      subst this
      rfl
  · -- laid
    obtain ⟨n1, hn1⟩ : ∃ n1, n1 = np + 1 := ⟨_, rfl⟩
    have hs : ((np : Int) + 1) = (n1 : Int) := by omega
    have hwn := IntWalk.i64_in (n1 : Int) (by omega)
    have c2 := HH2.out.c2
    have z2 := HH2.out.fz 2
    rw [← HNP.out] at c2
    obtain ⟨k1, k2⟩ := HH2.out.put1 2 (nI n1) (f2 := f.wP n1) rfl rfl rfl rfl
    have HN1 := hid hn1
    obtain ⟨W3, hW3⟩ : ∃ W3, W3 = W2.setCell ⟨p, 2, none⟩ (nI n1) := ⟨_, rfl⟩
    rw [← hW3] at k1 k2
    have hg3 : InI W3 g ⟨9, xa, xb⟩ := (k2.block g hgl hgS).trans HG2.out
    have j0 := hg3.c0
    have j1 := hg3.c1
    simp only at j0 j1
    have hrc3 : W3.heap[rc]? = some (.cells (evA evZ) TEv (0, 0)) := (k2.block rc hrl2 hrS).trans HRC.out
    have HRC3 := hid hrc3
    have HK1 := hid k1
    have HFG := hid ((HF2.out.mono (fp2 := S) (fun _ e _ => e.elim)).trans k2 (fun k hk _ => hk))
    have HW3 := hid hW3
    clear k1 k2 hg3 hW3 hrc3 hn1 c0 z0
    go_upto_region 6 with fail
    change Code.wp _ _ _ _ (W2.setCell ⟨p, 2, none⟩ (nI n1))
    rw [← HW3.out]
    clear c2 z2 i0 i1 i2 hs hwn
    go_wp2_with (first
      | ((with_reducible refine at_op ⟨none, .store TEv (.tmp 2) (.tmp 36), _, _, _, _⟩ ?_); refine wpList_store_row rfl TEv _ _ rfl rc (evA ⟨3, xa, 0, 0, 0⟩) rfl rfl TEv (evA evZ) HRC3.out szEv rfl (evA_one _) ?_)
      | fail)
    refine cells_ret (r := 2) (T := TEv) (g := rc) rfl rfl rfl (run_loadVar_row (P := Tryd.prog) _ _ _ TEv _ (0, 0) _ (setRow_heap _ _ _ _ _ _ HRC3.out) Tryd.underlying36 rfl szEv) ?_
    rw [HRW.out]
    refine StP.of HSL.out HK1.out HFG.out rfl ?_
    unfold stopF; rw [HN1.out, HNP.out]
    rcases f with ⟨f1, f2, f3, f4, f5, f6⟩
    have := HO.out
    have hc := HCL.out
    simp only at this hc
    subst this hc
    rfl
  · -- dropped
    obtain ⟨n1, hn1⟩ : ∃ n1, n1 = np + 1 := ⟨_, rfl⟩
    have hs : ((np : Int) + 1) = (n1 : Int) := by omega
    have hwn := IntWalk.i64_in (n1 : Int) (by omega)
    have c2 := HH2.out.c2
    have z2 := HH2.out.fz 2
    rw [← HNP.out] at c2
    obtain ⟨k1, k2⟩ := HH2.out.put1 2 (nI n1) (f2 := f.wP n1) rfl rfl rfl rfl
    have HN1 := hid hn1
    obtain ⟨W3, hW3⟩ : ∃ W3, W3 = W2.setCell ⟨p, 2, none⟩ (nI n1) := ⟨_, rfl⟩
    rw [← hW3] at k1 k2
    have hg3 : InI W3 g ⟨10, xa, xb⟩ := (k2.block g hgl hgS).trans HG2.out
    have j0 := hg3.c0
    have j1 := hg3.c1
    simp only at j0 j1
    have hrc3 : W3.heap[rc]? = some (.cells (evA evZ) TEv (0, 0)) := (k2.block rc hrl2 hrS).trans HRC.out
    have HRC3 := hid hrc3
    have HK1 := hid k1
    have HFG := hid ((HF2.out.mono (fp2 := S) (fun _ e _ => e.elim)).trans k2 (fun k hk _ => hk))
    have HW3 := hid hW3
    clear k1 k2 hg3 hW3 hrc3 hn1 c0 z0
    go_upto_region 6 with fail
    change Code.wp _ _ _ _ (W2.setCell ⟨p, 2, none⟩ (nI n1))
    rw [← HW3.out]
    clear c2 z2 i0 i1 i2 hs hwn
    go_wp2_with (first
      | ((with_reducible refine at_op ⟨none, .store TEv (.tmp 2) (.tmp 41), _, _, _, _⟩ ?_); refine wpList_store_row rfl TEv _ _ rfl rc (evA ⟨4, xa, 0, 0, 0⟩) rfl rfl TEv (evA evZ) HRC3.out szEv rfl (evA_one _) ?_)
      | fail)
    refine cells_ret (r := 2) (T := TEv) (g := rc) rfl rfl rfl (run_loadVar_row (P := Tryd.prog) _ _ _ TEv _ (0, 0) _ (setRow_heap _ _ _ _ _ _ HRC3.out) Tryd.underlying36 rfl szEv) ?_
    rw [HRW.out]
    refine StP.of HSL.out HK1.out HFG.out rfl ?_
    unfold stopF; rw [HN1.out, HNP.out]
    rcases f with ⟨f1, f2, f3, f4, f5, f6⟩
    have := HO.out
    have hc := HCL.out
    simp only at this hc
    subst this hc
    rfl
  · -- given back
    have h1 : 1 ≤ f.st.length := HD.out (.inr rfl)
    obtain ⟨r, y, hry, hr, hy, hrl⟩ := last_split rfl h1
    have HRY := hid hry
    have HR := hid hr
    have HY := hid hy
    have k1 := HH2.out.put 0 (.slice none 0 0)
    obtain ⟨W3, hW3⟩ : ∃ W3, W3 = W2.setCell ⟨p, 0, none⟩ (.slice none 0 0) := ⟨_, rfl⟩
    rw [← hW3] at k1
    obtain ⟨f1, f2, f3, f4⟩ := k1
    have h3 : FmW W3 S p ⟨f.code, f.arg, f.p, f.st, f.calls, true⟩ (.slice none 0 0) sv := ⟨f2, .inl ⟨rfl, rfl⟩, f4, HH2.out.sp, fun k hk => (by cases hk), HH2.out.sr, fun k hk => Nat.lt_of_lt_of_le (HH2.out.sl k hk) f1.size⟩
    have hrc3 : W3.heap[rc]? = some (.cells (evA evZ) TEv (0, 0)) := (f1.block rc hrl2 hrS).trans HRC.out
    have HRC3 := hid hrc3
    have H3 := hid h3
    have HFG := hid ((HF2.out.mono (fp2 := S) (fun _ e _ => e.elim)).trans f1 (fun k hk _ => hk))
    have HS3 := hid f1.size
    have HW3 := hid hW3
    clear hry hr hy h1 f1 f2 f3 f4 h3 hrc3 hW3
    go_upto_region 4 with fail
    change Code.wp _ _ _ _ (W2.setCell ⟨p, 0, none⟩ (.slice none 0 0))
    rw [← HW3.out]
    clear c0 z0 i0 i1 i2
    go_wp2_with (first
      | (go_at_call 27; refine (take_any (l := r) (x := y) H3.out HRY.out (by omega)).mono ?_; rintro e W5 ⟨rfl, ⟨sv5, h5⟩, hf5⟩; have hrc5 : W5.heap[rc]? = some (.cells (evA evZ) TEv (0, 0)) := (hf5.block rc (by have := HS3.out; omega) hrS).trans HRC3.out; have HRC5 := hid hrc5; have H5 := hid h5; have HF5 := hid (HFG.out.trans hf5 (fun k hk _ => hk)); clear h5 hf5 hrc5)
      | ((with_reducible refine at_op ⟨none, .store TEv (.tmp 2) (.tmp 22), _, _, _, _⟩ ?_); refine wpList_store_row rfl TEv _ _ rfl rc (evA ⟨1, 0, 0, y, 0⟩) rfl rfl TEv (evA evZ) HRC5.out szEv rfl (evA_one _) ?_)
      | fail)
    refine cells_ret (r := 2) (T := TEv) (g := rc) rfl rfl rfl (run_loadVar_row (P := Tryd.prog) _ _ _ TEv _ (0, 0) _ (setRow_heap _ _ _ _ _ _ HRC5.out) Tryd.underlying36 rfl szEv) ?_
    rw [HRW.out]
    refine StP.of HSL.out H5.out HF5.out ?_ ?_
    · unfold stopE; rw [HY.out]; rfl
    · unfold stopF; rw [HR.out]
      rcases f with ⟨f1, f2, f3, f4, f5, f6⟩
      have hc := HCL.out
      simp only at hc
      subst hc
      rfl
end Go.Proofs.YtcoclaabainibaaDoor
