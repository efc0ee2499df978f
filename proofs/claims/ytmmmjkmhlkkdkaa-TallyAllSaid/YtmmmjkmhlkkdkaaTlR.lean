/-
  The contract of rising: the tally's entries by rising keys.
-/
import Derived.Test.YtmmmjkmhlkkdkaaTlK
import Derived.Test.YtmmmjkmhlkkdkaaTlS
import Derived.Test.YtmmmjkmhlkkdkaaMixR
import Derived.RangeFuncBox
namespace Go.Proofs.Ytmmmjkmhlkkdkaa
open Go.ChangeShapes Go.WideShapes Go.ChangeAt Go.RowKit Go.Maps Go.Shelf
attribute [local go_sem] Oper.semAt_some

theorem info74 : (Try.prog.info? 74).map (fun i => (i.zero, i.size, i.bytes)) = some (some (.agg #[.int .u64 0, .int .u32 0]), 2, 16) := by kernel_rfl
/-- The entries of these keys. -/
def entK (L : TM) (ks : List Int) : List (Int × Int) := ks.map fun k => (nk k, getM L (nk k))
theorem entK_all {most : Int} {L : TM} (h : Good most L) : entK L (L.map (·.1)) = L := by
  unfold entK
  rw [List.map_map]
  refine (List.map_congr_left fun p hp => ?_).trans (List.map_id _)
  simp only [Function.comp]
  rw [nk_id (h.key p hp), get_of_mem h.rise hp]
  rfl
theorem entK_perm {most : Int} {L : TM} (h : Good most L) {ks : List Int} (hp : ks.Perm (L.map (·.1))) : (entK L ks).Perm L := by
  have := hp.map (fun k => (nk k, getM L (nk k)))
  rw [show (L.map (·.1)).map (fun k => (nk k, getM L (nk k))) = L from entK_all h] at this
  exact this
theorem lookup_run {W : World} {b n : Nat} {L : TM} (h : W.ownsMap Try.prog 31 (plainElem (H := Unit) Try.prog 22) b n (dat L)) {k : Int} (hk : 0 ≤ k ∧ k ≤ 18446744073709551615) : (Instr.lookup 54 (.map (some b)) (.int .u64 k) false).run Try.prog W = .ok (.int .u32 (getM L k)) W := by
  obtain ⟨c, hrun, hat, _⟩ := h.lookup_int law31 Try.underlying54 Try.underlying22 (zero22 _) (keyOf_int_mk (P := Try.prog) Try.underlying31 (wf_u64 hk.1 hk.2))
  rw [dat_get] at hat
  simp only [DataW.lit.injEq, Lit.int.injEq, true_and] at hat
  rw [hrun, hat]
/-- Between two rounds of rising. -/
structure HR (w0 : World) (A2 p b n : Nat) (most : Int) (L : TM) (pre : List Int) (lv : Value) (W : World) : Prop where
  b0 : Boxed W w0.heap.size 24 (.pointer (some ⟨p, 0, none⟩))
  b2 : Boxed W A2 71 lv
  a2 : w0.heap.size < A2
  row : W.ownsRow w0.heap.size 74 2 lv pre.length ((entK L pre).flatMap encE)
  tl : TlW W p b n most L
  shp : ∃ g cap, lv = .slice (some ⟨g, 0, none⟩) pre.length cap
  below : Below w0.heap.size w0 W
def HRs (w0 : World) (A2 p b n : Nat) (most : Int) (L : TM) (pre : List Int) (W : World) : Prop := ∃ lv, HR w0 A2 p b n most L pre lv W
theorem not_cells {W : World} {row : Option Nat} {k : Nat} {cs : Array Value} {t : TypeId} {fz : Nat × Nat} (h : W.heap[k]? = some (.cells cs t fz)) (hr : ∀ r, row = some r → ∃ o : Obj, W.heap[r]? = some o ∧ o.isCells = false) : some k ≠ row := fun e => by
  obtain ⟨o, ho, hc⟩ := hr k e.symm
  rw [h] at ho; cases ho; cases hc
theorem owns_not_cells {W W' : World} {row : Option Nat} {B : Nat} {e : TypeId} {s n : Nat} {v : Value} {xs : List Value} (h : W.ownsRow B e s v n xs) (hg : W.grownBy W' row) (hr : ∀ r, row = some r → ∃ o : Obj, W.heap[r]? = some o ∧ o.isCells = false) : W'.ownsRow B e s v n xs := by
  refine h.kept hg ?_
  rcases h.2 with ⟨rfl, _⟩ | ⟨g, cap, cur, rfl, _, hgb, _⟩
  · exact .inl rfl
  · exact .inr (not_cells hgb hr)
theorem HR.kept {w0 : World} {A2 p b n : Nat} {most : Int} {L : TM} {pre : List Int} {lv : Value} {W W' : World} {row : Option Nat} (hp : p < w0.heap.size) (hb : b < w0.heap.size) (h : HR w0 A2 p b n most L pre lv W) (hg : W.grownBy W' row) (hr : ∀ r, row = some r → w0.heap.size ≤ r ∧ ∃ o : Obj, W.heap[r]? = some o ∧ o.isCells = false) : HR w0 A2 p b n most L pre lv W' :=
  have hr' := fun r e => (hr r e).2
  have hfr : Fr (fun j => row = some j) W W' := (Fr.refl _ W).grown hg (fun _ hk _ => hk)
  ⟨h.b0.kept hg (not_cells h.b0 hr'), h.b2.kept hg (not_cells h.b2 hr'), h.a2, owns_not_cells h.row hg hr', h.tl.fr hfr (fun e => by have := (hr p e).1; omega) (fun e => by have := (hr b e).1; omega), h.shp, h.below.grown hg h.below.size (fun k e => (hr k e).1)⟩
theorem HRs.ownFrom (w0 : World) (A2 p b n : Nat) (most : Int) (L : TM) (hp : p < w0.heap.size) (hb : b < w0.heap.size) (B : Nat) (hB : w0.heap.size ≤ B) : OwnFrom B (HRs w0 A2 p b n most L) := fun _ _ _ _ ⟨lv, h⟩ hg hr =>
  ⟨lv, h.kept hp hb hg (fun r e => ⟨Nat.le_trans hB (hr r e).1, (hr r e).2⟩)⟩

theorem TlW.low {w w' : World} {p b n n0 : Nat} {most : Int} {l : TM} (h : TlW w p b n most l) (hB : Below n0 w w') (hp : p < n0) (hb : b < n0) : TlW w' p b n most l :=
  h.fr (fp := fun k => n0 ≤ k) ⟨hB.os, hB.tape, hB.output, hB.size, fun k _ hn => hB.block k (by omega)⟩ (by omega) (by omega)
def RisePost (w0 : World) (L : TM) (e : Ending) (W' : World) : Prop := ∃ v, e = .returned v ∧ W'.ownsRow w0.heap.size 74 2 v L.length (L.flatMap encE) ∧ Below w0.heap.size w0 W'
set_option maxRecDepth 100000 in
set_option maxHeartbeats 4000000 in
theorem rising_in (n : Nat) (hn : 3 ≤ n) (w : World) (p b nn : Nat) (most : Int) (L : TM) (hT : TlW w p b nn most L) (hN : nn ≤ 1000000) :
    CallsIn Fence.wide n Try.prog 33 #[.pointer (some ⟨p, 0, none⟩)] w (RisePost w L) := by
  have h1 : 1 ≤ n := by omega
  have hlen := hT.length
  obtain ⟨i0, hi, hz0, hz1, hz2⟩ := info_parts info74
  have hb2 : i0.bytes * L.length ≤ 281474976710656 := by rw [hz2]; omega
  have hm3 : L.length ≤ maxLen := by unfold maxLen; omega
  have hi' := hid hi
  have hz0' := hid hz0
  have hz1' := hid hz1
  have hz2' := hid hz2
  have hp := hT.lt
  have hb := hT.ltb
  have HT := hid hT
  have T1 := hid (hT.fr ((Fr.refl (fun _ => False) w).alloc (.cells #[.pointer (some ⟨p, 0, none⟩)] 24)) (fun h => h) (fun h => h))
  have c1 := T1.out.c1
  clear hT hi hz0 hz1 hz2
  refine callsIn_of_wp_marks Try.func33 rfl trivial ?_ rfl
  simp only [Try.ntmps33, List.size_toArray, List.length_cons, List.length_nil, Nat.reduceAdd, Nat.reduceSub, Array.replicate_succ, Array.replicate_zero, List.push_toArray, List.append_toArray, List.nil_append, List.cons_append]
  have B0 := hid (Boxed.new w 24 (.pointer (some ⟨p, 0, none⟩)))
  gi_wp2_with (first
    | (gi_at_len; refine wpListIn_len_own _ rfl _ 54 rfl 31 22 Try.underlying54 _ b nn _ rfl T1.out.hm ?_)
    | (gi_at_make; refine wpListIn_make_own _ rfl _ _ 71 rfl w.heap.size 74 i0 (.agg #[.int .u64 0, .int .u32 0]) 2 Try.underlying71 hi'.out hz0'.out hz1'.out _ _ _ L.length rfl rfl (by simp [dat, Maps.size]) hb2 hm3 (by simp) ?_; intro w1 hown1 hgrow1; have HO1 := hid hown1; have HG1 := hid hgrow1; have q0 : ∀ o, (w1.alloc o).cell? ⟨w.heap.size, 0, none⟩ = some (.pointer (some ⟨p, 0, none⟩)) := (fun o => ((B0.out.kept HG1.out (by simp)).alloc o).cell); have T2 := hid (T1.out.fr ((Fr.refl (fun _ => False) _).grown HG1.out (fun _ h _ => by cases h)) (fun h => h) (fun h => h)); have q1 : ∀ o, (w1.alloc o).cell? ⟨p, 1, none⟩ = some (.map (some b)) := (fun o => (T2.out.fr ((Fr.refl (fun _ => False) w1).alloc o) (fun h => h) (fun h => h)).c1); clear hown1 hgrow1 c1)
    | (gi_at_call 38; refine (Keys_in (n - 1) _ _).mono ?_; rintro e w' ⟨rfl, rfl⟩))
  first
    | refine (Keys_in (n - 1) _ _).mono ?_
    | refine ⟨trivial, (Keys_in (n - 1) _ _).mono ?_⟩
  rintro e w' ⟨rfl, rfl⟩
  gi_wp2
  obtain ⟨A2, hA2⟩ : ∃ A2, A2 = w1.heap.size := ⟨_, rfl⟩
  have hB1 : Below w.heap.size w w1 := ((Below.refl _ w).alloc (Nat.le_refl _) _).grown HG1.out (by simp) (fun k e => by cases e)
  have hA2s : w.heap.size < A2 := by have := HG1.out.size; simp at this; omega
  obtain ⟨w2, hw2⟩ : ∃ w2, w2 = (w1.alloc (.cells #[.slice (some ⟨w.heap.size + 1, 0, none⟩) 0 L.length] 71)).alloc (.cells #[.map (some b)] 54) := ⟨_, rfl⟩
  have hH0 : HR w A2 p b nn most L [] (.slice (some ⟨w.heap.size + 1, 0, none⟩) 0 L.length) w2 := by
    rw [hw2, hA2]
    refine ⟨((B0.out.kept HG1.out (by simp)).alloc _).alloc _, (Boxed.new w1 71 _).alloc _, by omega, ?_, (T2.out.fr ((Fr.refl (fun _ => False) w1).alloc _) (fun h => h) (fun h => h)).fr ((Fr.refl (fun _ => False) _).alloc _) (fun h => h) (fun h => h), ⟨_, _, rfl⟩, (hB1.alloc hB1.size _).alloc (by have := hB1.size; simp; omega) _⟩
    have := (HO1.out.alloc (.cells #[.slice (some ⟨w.heap.size + 1, 0, none⟩) 0 L.length] 71)).alloc (.cells #[.map (some b)] 54)
    rw [World.size_alloc] at this
    exact this
  have c54 : w2.cell? ⟨A2 + 1, 0, none⟩ = some (.map (some b)) := by
    rw [hw2, hA2]
    have := new_cell (w1.alloc (.cells #[.slice (some ⟨w.heap.size + 1, 0, none⟩) 0 L.length] 71)) (.map (some b)) 54
    rw [World.size_alloc] at this
    exact this
  have hsz2 : A2 + 1 < w2.heap.size := by rw [hw2, hA2]; simp
  rw [← hA2, ← hw2]
  clear hw2 q0 q1 T2 HO1 HG1 hA2 B0 T1
  have hst := keys_stops (n - 1) (by omega) (A2 + 1) b nn L HT.out.good.rise w2 hsz2 c54 hH0.tl.hm
  have HST := hid hst
  have HH0 := hid hH0
  clear hst hH0 c54
  refine wpIn_rangeFunc_ownF rfl h1 (gf := 52) (lb := #[.pointer (some ⟨A2 + 1, 0, none⟩)]) rfl trivial (enters_of Try.func52 (by kernel_rfl) rfl)
    HST.out walksK_t (fun W l o o' h h2 h3 h4 => walksK_b (w := w2) W l o o' h h2 h3 h4) (Below.refl _ _) (fun _ => rfl)
    (HRs w A2 p b nn most L) (fun _ _ _ => False) (HRs.ownFrom w A2 p b nn most L hp hb _ (by omega)) (fun _ _ _ _ _ hs _ _ => hs) ⟨_, HH0.out⟩
    (fun x => { tmps := #[.pointer (some ⟨p, 0, none⟩), .pointer (some ⟨w.heap.size, 0, none⟩), .slice none 0 0, .pointer (some ⟨A2, 0, none⟩), .int .u64 (nk x), .pointer (some ⟨p, 0, none⟩), .pointer (some ⟨p, 0, none⟩), .pointer (some ⟨p, 1, none⟩), .map (some b), .int .i64 (Maps.size (dat L)), .slice (some ⟨w.heap.size + 1, 0, none⟩) 0 L.length, .pointer (some ⟨p, 0, none⟩), .pointer (some ⟨p, 0, none⟩), .pointer (some ⟨p, 1, none⟩), .map (some b), .func (.func 52) #[] #[.pointer (some ⟨A2 + 1, 0, none⟩)], .int .u64 (nk x), undef, undef, undef, undef, undef, undef, undef, undef, undef, undef, undef, undef, undef, undef], defers := [] }) ?assign ?body ?done ?stop
  case assign =>
    intro l x W K hK
    gi_wp2
    exact hK
  case body =>
    rintro l pre x W ⟨lv, H⟩ hlen2
    obtain ⟨g, cap, rfl⟩ := H.shp
    have hxb := nk_bd x
    generalize hnx : nk x = y at hxb
    have HX := hid hnx
    have e0 := H.b0.cell
    have e2 := H.b2.cell
    have c1 := H.tl.c1
    have hom := H.tl.hm
    have HH := hid H
    clear H hnx
    gi_wp2
    refine R.wp_region_mix [1, 0, 1, 0, 0, 1, 0, 1, 0, 2, 3, 3] (fun W' => W'.cell? ⟨w.heap.size, 0, none⟩ = some (.pointer (some ⟨p, 0, none⟩)) ∧ W'.cell? ⟨A2, 0, none⟩ = some (.slice (some ⟨g, 0, none⟩) pre.length cap) ∧ W'.cell? ⟨p, 1, none⟩ = some (.map (some b)) ∧ (Instr.lookup 54 (.map (some b)) (.int .u64 y) false).run Try.prog W' = .ok (.int .u32 (getM L y)) W') (by kernel_rfl) (by kernel_rfl) ⟨e0, e2, c1, lookup_run hom.drew hxb⟩ ?_
    repeat (first
      | (refine' E.wpMix_value _ rfl rfl _ _; rotate_left; (solve | (intro W; go_simp) | (intro W; go_simp; with_reducible rfl)); simp only [Act.put, List.setIfInBounds_toArray, List.set_cons_zero, List.set_cons_succ])
      | (refine' E.wpMix_read _ rfl rfl _ _; rotate_left; (solve | (rintro W ⟨h1, h2, h3, h4⟩; go_simp) | (rintro W ⟨h1, h2, h3, h4⟩; go_simp; with_reducible rfl)); simp only [Act.put, List.setIfInBounds_toArray, List.set_cons_zero, List.set_cons_succ]))
    have hrow := HH.out.row.drew
    have hB0 := HH.out.b0
    have hB2 := HH.out.b2
    have hWB := HH.out.below
    have hBL := HH.out.a2
    have hA2lt : A2 < W.heap.size := hB2.lt
    refine E.wpMix_write (.slice (some ⟨W.heap.size, 0, none⟩) 1 1) (W.drew.alloc (.cells #[.int .u64 y, .int .u32 (getM L y)] 74)) (by decide) rfl ?nrun1 ?nS1 ?nrest1
    case nrun1 => go_simp
    case nS1 => exact fun _ => ⟨keep_cell _ e0, keep_cell _ e2, keep_cell _ c1, lookup_run (hom.drew.alloc _) hxb⟩
    simp only [Act.put, List.setIfInBounds_toArray, List.set_cons_zero, List.set_cons_succ]
    have HR1 := hid hrow
    clear e0 e2 c1 hom hrow
    refine R.wpMix_append (by decide) rfl (.tmp 17) (.tmp 26) 71 rfl w.heap.size 74 i0 _ 2 16 Try.underlying71 hi'.out hz0'.out hz1'.out hz2'.out rfl (by decide) (.slice (some ⟨g, 0, none⟩) pre.length cap) pre.length _ rfl (HR1.out.alloc _) ⟨W.heap.size, 0, none⟩ 1 1 [.int .u64 y, .int .u32 (getM L y)] rfl rfl (World.news_of_block (heap_alloc_new W.drew _)) (by simp [Value.oneCell']) (by decide) (by unfold maxLen; omega) (by omega) (by simp; omega) (W.heap.size + 1) (by simp) ?_
    intro g3 k3 w3 hown3 hgrow3 _ _
    refine ⟨(fun h => by cases h), ?_⟩
    obtain ⟨hv1, hv2, hr2, hk2, hb2'⟩ := Boxed.appended (W := W.drew) hB2 (by decide) HR1.out (by simp; omega) (by omega) hown3 hgrow3
    have hc1 := hv1.cell
    have hf1 := hv1.frozen
    have b0' : Boxed (w3.setCell ⟨A2, 0, none⟩ (.slice (some ⟨g3, 0, none⟩) (pre.length + 1) k3)) w.heap.size 24 (.pointer (some ⟨p, 0, none⟩)) :=
      ((((show Boxed W.drew w.heap.size 24 _ from hB0).alloc _).kept hgrow3 ((show Boxed W.drew w.heap.size 24 _ from hB0).not_row (by decide) HR1.out))).kept (grownBy_setCell' w3 A2 _) (by simp; omega)
    have hfin : HRs w A2 p b nn most L (pre ++ [x]) (w3.setCell ⟨A2, 0, none⟩ (.slice (some ⟨g3, 0, none⟩) (pre.length + 1) k3)) := by
      refine ⟨_, b0', hv2, hBL, ?_, ((HH.out.tl.fr (fp := fun _ => False) (Fr.refl _ _).drew (fun h => h) (fun h => h)).low hb2' hp hb), ⟨g3, k3, by simp⟩, (hWB.trans (Below.refl _ _).drew).trans hb2'⟩
      have e1 : (entK L (pre ++ [x])).flatMap encE = (entK L pre).flatMap encE ++ [.int .u64 y, .int .u32 (getM L y)] := by
        unfold entK
        rw [List.map_append, List.flatMap_append]
        simp [encE, HX.out]
      rw [e1, List.length_append]
      exact hr2
    have HK2 := hid hk2
    have HF := hid hfin
    clear hv1 hv2 hr2 hk2 hb2' b0' hfin hown3 hgrow3 HR1
    simp only [Act.put, List.setIfInBounds_toArray, List.set_cons_zero, List.set_cons_succ]
    refine E.wpMix_skip (w3.setCell ⟨A2, 0, none⟩ (.slice (some ⟨g3, 0, none⟩) (pre.length + 1) k3)) (by decide) rfl ?nrun2 (fun h => by cases h) ?nrest2
    case nrun2 => go_simp
    refine E.wpMix_end ?_
    have hk0 : KeepsOthers W (w3.setCell ⟨A2, 0, none⟩ (.slice (some ⟨g3, 0, none⟩) (pre.length + 1) k3)) := ⟨HK2.out.size, HK2.out.same⟩
    exact ⟨hk0, hk0.walks, HF.out⟩
  case done =>
    rintro D ys W hD hperm ⟨lv, H⟩ hK
    obtain ⟨g, cap, rfl⟩ := H.shp
    have hys : ys.length = L.length := by have := hperm.length_eq; simpa using this
    have hek : (entK L ys).length = ys.length := by simp [entK]
    have hent := entK_perm HT.out.good hperm
    have e2 := H.b2.cell
    have hrow := H.row
    rw [← hek] at hrow
    have hs0 := SortE_any hrow hent HT.out.good.rise (by omega)
    rw [hek, hys] at hs0
    rw [hys] at e2
    have HS0 := hid hs0
    have hAg : some A2 ≠ some g := H.b2.not_row (by decide) hrow
    have HRW := hid hrow
    have HH := hid H
    have HK := hid hK
    clear H hrow hs0 hek hent hperm hK
    gi_wp2
    refine ⟨trivial, (callsIn_wide.2 HS0.out).mono ?_⟩
    rintro e W2 ⟨rfl, hrow2, hgr2⟩
    have hDg : some D ≠ some g := fun e => by
      have hk := HK.out
      simp only [Option.some.injEq] at e
      subst e
      rcases HRW.out.2 with ⟨h1, _⟩ | ⟨g', cap', cur, hv, _, hg, _⟩
      · cases h1
      · cases hv
        rw [hk] at hg; cases hg
    have hK2 : W2.heap[D]? = some (.deferred (some [])) := (hgr2.block D (Array.getElem?_eq_some_iff.1 HK.out).1 hDg).trans HK.out
    have e3 : W2.cell? ⟨A2, 0, none⟩ = some (.slice (some ⟨g, 0, none⟩) L.length cap) := by
      have := (HH.out.b2.kept hgr2 hAg).cell
      rw [hys] at this; exact this
    have hgb : w.heap.size ≤ g := (HRW.out.lt g rfl).1
    have hB2 : Below w.heap.size w W2 := HH.out.below.grown hgr2 HH.out.below.size (fun k hk => by simp at hk; omega)
    have HR2 := hid hrow2
    have HG2 := hid hgr2
    have HK2 := hid hK2
    clear hrow2 hgr2 e2 hDg hAg hys hK2
    gi_wp2
    have hK3 : W2.heap[D]? = some (.deferred (some [])) := HK2.out
    refine ⟨by simp, .inl ⟨_, _, rfl, run_takeDeferred hK3, ?_⟩⟩
    exact ⟨_, results_tmp rfl _ _ _, _, rfl, ownsRow_putObj HR2.out _ hK3 rfl, hB2.trans (belowK_b (w := w) (Nat.le_refl _) W2 D _ _ (by omega) hK3 rfl rfl)⟩
  case stop =>
    rintro D c pre W _ _ h _
    exact h.elim
end Go.Proofs.Ytmmmjkmhlkkdkaa
