/-
  A ring's cells grow.
-/
import Derived.Test.YtmkajdfajcodjabRgC
import Derived.Test.YtmkajdfajcodjabRgJ
import Derived.BigRegionIn
namespace Go.Proofs.Ytmkajdfajcodjab
open Go Go.ChangeShapes Go.WideShapes Go.ChangeAt Go.RowKit Go.Shelf
attribute [local go_sem] Oper.semAt_some

/-- What grow makes of a full ring. -/
def GrowPost (w : World) (S : Nat → Prop) (p most m : Nat) (q : List Int) (e : Ending) (w' : World) : Prop :=
  (∃ v, e = .returned v) ∧ ∃ cs' cv' m', m < m' ∧ RgW w' (exS S w w') p most m' 0 cs' q cv' ∧ Fr S w w'
/-- While the new cells are filled. -/
structure GrF (w : World) (q : List Int) (m2 BB BC : Nat) (pre : List (Int × Nat)) (W : World) : Prop where
  b : Boxed W BB 22 (.slice (some ⟨BC, 0, none⟩) m2 m2)
  row : W.ownsRow w.heap.size TI 1 (.slice (some ⟨BC, 0, none⟩) m2 m2) m2 ((q.take pre.length ++ List.replicate (m2 - pre.length) 0).map iv)
  bel : Below w.heap.size w W
  b0 : w.heap.size ≤ BB
structure GrI (w : World) (q : List Int) (m2 BB BC : Nat) (t : Nat → Prop) (n0 : Nat) (pre : List (Int × Nat)) (W : World) : Prop where
  f : GrF w q m2 BB BC pre W
  lb : BB < n0
  lc : BC < n0
  tt : ∀ k, t k → n0 ≤ k
section
variable {w W W' : World} {q : List Int} {m2 BB BC n0 : Nat} {t : Nat → Prop} {pre : List (Int × Nat)}
theorem GrF.kept {row : Option Nat} (h : GrF w q m2 BB BC pre W) (hg : W.grownBy W' row) (hr : ∀ r, row = some r → w.heap.size ≤ r ∧ ∃ o : Obj, W.heap[r]? = some o ∧ o.isCells = false) : GrF w q m2 BB BC pre W' :=
  have hr' := fun r e => (hr r e).2
  ⟨h.b.kept hg (not_cells h.b hr'), owns_not_cells h.row hg hr', h.bel.grown hg h.bel.size (fun k e => (hr k e).1), h.b0⟩
theorem GrI.kept {row : Option Nat} (h : GrI w q m2 BB BC t n0 pre W) (hg : W.grownBy W' row) (hr : ∀ r, row = some r → w.heap.size ≤ r ∧ ∃ o : Obj, W.heap[r]? = some o ∧ o.isCells = false) : GrI w q m2 BB BC t n0 pre W' := ⟨h.f.kept hg hr, h.lb, h.lc, h.tt⟩
theorem GrF.ne (h : GrF w q m2 BB BC pre W) : BB ≠ BC := fun e => by
  subst e
  rcases h.row.2 with ⟨h1, _⟩ | ⟨g, cap, cur, h1, _, h3, _⟩
  · cases h1
  · cases h1
    have h4 : W.heap[BB]? = _ := h.b
    rw [h3] at h4
    simp only [Option.some.injEq, Obj.cells.injEq] at h4
    exact absurd h4.2.1 (by decide)
theorem GrF.put {x1 : Int} {x2 : Nat} (h : GrF w q m2 BB BC pre W) (hx : q[x2]? = some x1) (he : x2 = pre.length) (hl : x2 < m2) : GrF w q m2 BB BC (pre ++ [(x1, x2)]) (W.setCell ⟨BC, x2, none⟩ (iv x1)) := by
  have hil := (List.getElem?_eq_some_iff.1 hx).1
  have hf : Fr (fun b => b = BC) W (W.setCell ⟨BC, x2, none⟩ (iv x1)) := (Fr.refl _ _).setCell _ _ (fun _ => rfl)
  refine ⟨(hf.block BB h.b.lt h.ne).trans h.b, ?_, h.bel.setCell (h.row.lt BC rfl).1 _, h.b0⟩
  have e1 : m2 - x2 = (m2 - (x2 + 1)) + 1 := by omega
  have e2 : (q.take x2).length = x2 := by rw [List.length_take]; omega
  have hst : (q.take x2 ++ List.replicate (m2 - x2) (0 : Int)).set x2 x1 = q.take (x2 + 1) ++ List.replicate (m2 - (x2 + 1)) 0 := by
    rw [e1, List.replicate_succ, List.set_append_right _ _ (by omega), e2, Nat.sub_self, List.set_cons_zero, List.take_add_one, hx]
    simp
  have h2 := own_set (i := x2) h.row x1
  rw [← he, hst] at h2
  rw [List.length_append, List.length_singleton, ← he]
  exact h2
end
section
variable {w w' : World} {S fp : Nat → Prop} {p most m first : Nat} {cs q : List Int} {cv : Value}
set_option maxRecDepth 100000 in
set_option maxHeartbeats 4000000 in
theorem grow_in (n : Nat) (hn : 4 ≤ n) (h : RgW w S p most m first cs q cv) (hq : q.length = m) (hm : m < most) : CallsIn Fence.wide n Try.prog 21 #[.pointer (some ⟨p, 0, none⟩)] w (GrowPost w S p most m q) := by
  have h1 : 1 ≤ n := by omega
  obtain ⟨a, c, hcv⟩ := own_form h.row
  have c1 := h.c1
  have c0 := h.c0
  rw [hcv] at c1
  have hlt := h.lt
  obtain ⟨m2, hm2⟩ : ∃ m2, m2 = min (max 1 (2 * m)) most := ⟨_, rfl⟩
  have hmx := h.mx
  have hb2 : m < m2 ∧ m2 ≤ most ∧ m2 ≤ 65536 := by omega
  have hw1 := IntWalk.i64_in (2 * (m : Int)) (by omega)
  have hmm : min (max 1 (2 * (m : Int))) (most : Int) = (m2 : Int) := by omega
  have hmk : ∀ u : World, (Instr.makeSlice 22 (.int .i64 (m2 : Int)) (.int .i64 (m2 : Int))).run Try.prog u = .ok (.slice (some ⟨u.heap.size, 0, none⟩) m2 m2) (u.alloc (.cells (madeCells #[.int .i64 0] m2) TI)) := fun u => by
    obtain ⟨i0, hi, hz0, hz1, hz2⟩ := info_split infoI
    have hr := run_make (P := Try.prog) u 22 TI i0 _ Try.underlying22 hi hz0 .i64 .i64 m2 m2 (by omega) (Int.le_refl _) (by rw [hz2]; omega) (by omega)
    simp only [Int.toNat_natCast, hz1, Nat.mul_one] at hr
    exact hr
  have c1a : ∀ o : Obj, (w.alloc o).cell? ⟨p, 1, none⟩ = some (.slice a m c) := fun o => (World.cell?_of_block (w := w) (w' := w.alloc o) (a := ⟨p, 1, none⟩) (heap_alloc_old _ _ hlt)).trans c1
  have c0a : ∀ o : Obj, (w.alloc o).cell? ⟨p, 0, none⟩ = some (nI most) := fun o => (World.cell?_of_block (w := w) (w' := w.alloc o) (a := ⟨p, 0, none⟩) (heap_alloc_old _ _ hlt)).trans c0
  refine callsIn_of_wp_marks Try.func21 rfl trivial ?_ rfl
  simp only [Try.ntmps21, List.size_toArray, List.length_cons, List.length_nil, Nat.reduceAdd, Nat.reduceSub, Array.replicate_succ, Array.replicate_zero, List.push_toArray, List.append_toArray, List.nil_append, List.cons_append]
  gi_upto_region 0 with (fail)
  have HH := hid h
  have HB2 := hid hb2
  have HM2 := hid hm2
  have HQ := hid hq
  clear h hq hm hlt hm2 hmx hb2 hcv
  rename_i K hK
  have rest : ∀ (BB BC : Nat) (w1 : World), RowKit.Hid (GrF w q m2 BB BC [] w1) → K { tmps := #[.pointer (some ⟨p, 0, none⟩), undef, .pointer (some ⟨BB, 0, none⟩), undef, undef, .pointer (some ⟨p, 0, none⟩), .pointer (some ⟨p, 0, none⟩), .pointer (some ⟨p, 1, none⟩), .slice a m c, .int .i64 m, .int .i64 (2 * (m : Int)), .int .i64 (max 1 (2 * (m : Int))), .pointer (some ⟨p, 0, none⟩), .pointer (some ⟨p, 0, none⟩), .pointer (some ⟨p, 0, none⟩), nI most, .int .i64 m2, .slice (some ⟨BC, 0, none⟩) m2 m2, undef, undef, undef, undef, undef, undef, undef, undef, undef, undef, undef, undef, undef, undef, undef], defers := [] } w1 := by
    intro BB BC w1 HI
    refine hK _ _ ?_
    clear hK hmk c1a c0a hmm hw1 c1 c0
    gi_wp2_with fail
    refine ⟨trivial, (callsIn_wide.2 (All_any _ _)).mono ?_⟩
    rintro e w2 ⟨rfl, hw2⟩
    obtain ⟨b, hb⟩ : ∃ b, b = w1.heap.size := ⟨_, rfl⟩
    rw [← hb]
    have hbx : Boxed w2 b 23 (.pointer (some ⟨p, 0, none⟩)) := by rw [hw2, hb]; exact Boxed.new _ _ _
    have hb2 : Below w1.heap.size w1 w2 := by rw [hw2]; exact (Below.refl _ _).alloc (Nat.le_refl _) _
    have hI2 : ∀ t W, (∀ k, t k → w2.heap.size ≤ k) → Below w2.heap.size w2 W → GrI w q m2 BB BC t w2.heap.size [] W := fun t W ht hW =>
      ⟨HI.out.kept (grown_of_below (hb2.trans (hW.mono hb2.size))) (fun r e => by cases e), by have := HI.out.b.lt; have := hb2.size; omega, by have := (HI.out.row.lt BC rfl).2; have := hb2.size; omega, ht⟩
    have hrd : RdQ w2 (.pointer (some ⟨p, 0, none⟩)) q := (RgIn.rdq (S := S) (most := most) ⟨p, m, first, cs, cv, rfl, HH.out.no (Fr.of_below (HI.out.bel.trans (hb2.mono HI.out.bel.size)))⟩)
    have HI2 := hid hI2
    have HRD := hid hrd
    have HBX := hid hbx
    have hwz : w.heap.size ≤ w2.heap.size := Nat.le_trans HI.out.bel.size hb2.size
    clear hw2 hb hb2 hI2 hrd hbx HI
    gi_wp2
    refine rangeFunc_x rfl h1 (gf := 25) (lb := #[.pointer (some ⟨b, 0, none⟩)]) rfl trivial (enters_of Try.func25 (by kernel_rfl) rfl)
      (all_tells (n - 1) b HBX.out HRD.out) (fun _ _ _ h => h.1) (fun _ {A B C} h k => KS.t h k) (fun _ W l o o' _ h2 h3 _ => KS.b _ W l o o' h2 h3) (fun _ => rfl)
      (fun t pre W => GrI w q m2 BB BC t w2.heap.size pre W) (fun _ _ _ => False)
      (fun t pre X Y row h hg hr => h.kept hg (fun r e => ⟨by have := (hr r e).1; omega, (hr r e).2⟩)) (fun _ _ _ _ _ h _ _ => h)
      (fun _ _ _ _ => trivial) (fun _ _ => trivial) (fun t W1 W hb _ ⟨h3, h5⟩ => HI2.out t W (fun k hk => Nat.le_trans hb.size (h5 k hk).1) (hb.trans (h3.mono hb.size)))
      (fun t pre x a' W => GrI w q m2 BB BC t w2.heap.size pre W ∧ a' = { tmps := #[.pointer (some ⟨p, 0, none⟩), undef, .pointer (some ⟨BB, 0, none⟩), nI x.2, iv x.1, .pointer (some ⟨p, 0, none⟩), .pointer (some ⟨p, 0, none⟩), .pointer (some ⟨p, 1, none⟩), .slice a m c, .int .i64 m, .int .i64 (2 * (m : Int)), .int .i64 (max 1 (2 * (m : Int))), .pointer (some ⟨p, 0, none⟩), .pointer (some ⟨p, 0, none⟩), .pointer (some ⟨p, 0, none⟩), nI most, .int .i64 m2, .slice (some ⟨BC, 0, none⟩) m2 m2, .pointer (some ⟨p, 0, none⟩), .func (.func 25) #[] #[.pointer (some ⟨b, 0, none⟩)], nI x.2, iv x.1, undef, undef, undef, undef, undef, undef, undef, undef, undef, undef, undef], defers := [] })
      (fun t pre x a' _ X Y row h hg hr => ⟨h.1.kept hg (fun r e => ⟨by have := (hr r e).1; omega, (hr r e).2⟩), h.2⟩)
      ?assign ?body ?done ?stop
    case assign =>
      rintro lo t pre x Wc K hI _ hK
      simp only [encI]
      have HKK := hid hK
      have HII := hid hI
      clear hK hI
      gi_wp2
      exact HKK.out _ _ (KeepsFrom.refl _ _) (KS.refl _ _) ⟨HII.out, rfl⟩
    case body =>
      rintro lo t pre x a' Wc hlo ⟨r, hr⟩ hpx ⟨H, rfl⟩
      have hxi : x.2 = pre.length ∧ q[x.2]? = some x.1 := by
        obtain ⟨r2, hr2⟩ := hpx
        have h3 : q.zipIdx[pre.length]? = some x := by rw [← hr2, List.append_assoc, List.getElem?_append_right (Nat.le_refl _)]; simp
        rw [List.getElem?_zipIdx, Option.map_eq_some_iff] at h3
        obtain ⟨z, hz, rfl⟩ := h3
        simp
        simpa using hz
      obtain ⟨x1, x2⟩ := x
      obtain ⟨hx2, hxq⟩ := hxi
      simp only at hx2 hxq
      have hxl : x2 < m2 := by have := (List.getElem?_eq_some_iff.1 hxq).1; have := HQ.out; have := HB2.out; omega
      have e0 := H.f.b.cell
      have hrow := H.f.row
      have z1 : Wc.frozen? ⟨BC, x2, none⟩ = false ∧ ∃ u, Wc.cell? ⟨BC, x2, none⟩ = some u := by
        rcases hrow.2 with ⟨h2, _⟩ | ⟨g', cap, cur, h2, _, h3, _⟩
        · cases h2
        · cases h2
          refine ⟨frozen_of_row _ _ _ _ _ h3, ?_⟩
          rw [hrow.cellAt x2 (by omega)]
          exact ⟨_, List.getElem?_eq_getElem (by have := hrow.1; omega)⟩
      obtain ⟨z1, u0, z2⟩ := z1
      have hnew : GrI w q m2 BB BC t w2.heap.size (pre ++ [(x1, x2)]) (Wc.setCell ⟨BC, x2, none⟩ (iv x1)) := ⟨H.f.put hxq hx2 hxl, H.lb, H.lc, H.tt⟩
      have HN := hid hnew
      have HH3 := hid H
      clear hlo hr hpx H hrow hnew hx2 hxq
      gi_wp2
      refine ⟨(KeepsOthers.setCell _ _ _).from _, ?_, HN.out⟩
      exact KS.set (KS.refl _ _) _ _ (fun e => by have h5 := HH3.out.tt _ e; have h6 := HH3.out.lc; simp at h5; omega)
    case done =>
      rintro D t Wc hD H hK
      have HF := hid H.f
      have hp : Wc.heap[p]? = some (.cells #[nI most, cv, nI first, nI q.length] TRg (0, 0)) := (H.f.bel.block p HH.out.lt).trans HH.out.hp
      have e0 := H.f.b.cell
      have d1 := cell_of_row Wc p 1 _ _ _ hp
      have z1 := frozen_of_row Wc p 1 _ _ hp
      simp only [List.getElem?_toArray, List.getElem?_cons_succ, List.getElem?_cons_zero] at d1
      have hp2 := heap_setCell_same Wc p 1 _ _ (.slice (some ⟨BC, 0, none⟩) m2 m2) hp
      have d2 := cell_of_row _ p 2 _ _ _ hp2
      have z2 := frozen_of_row _ p 2 _ _ hp2
      simp only [Array.getElem?_setIfInBounds_ne, List.getElem?_toArray, List.getElem?_cons_succ, List.getElem?_cons_zero, ne_eq, Nat.reduceEqDiff, not_false_eq_true] at d2
      have hp3 := heap_setCell_same _ p 2 _ _ (nI 0) hp2
      have HP3 := hid hp3
      have HD := hid hD
      have HK := hid hK
      have HLC := hid H.lc
      clear H hp hp2 hp3 hD hK
      gi_wp2
      obtain ⟨W3, hW3⟩ : ∃ W3, W3 = (Wc.setCell ⟨p, 1, none⟩ (.slice (some ⟨BC, 0, none⟩) m2 m2)).setCell ⟨p, 2, none⟩ (nI 0) := ⟨_, rfl⟩
      have hpl : p < w.heap.size := HH.out.lt
      have hcl := (HF.out.row.lt BC rfl).1
      have hD2 := HD.out
      have hlc := HLC.out
      have hf3 : Fr (fun b => b = p) Wc W3 := by rw [hW3]; exact Fr.setCell (Fr.setCell (Fr.refl (fun b => b = p) Wc) _ _ (fun _ => rfl)) _ _ (fun _ => rfl)
      have hK3 : W3.heap[D]? = some (.deferred (some [])) := (hf3.block D (Array.getElem?_eq_some_iff.1 HK.out).1 (by omega)).trans HK.out
      have hp3 := HP3.out
      have hgoal : ((Wc.setCell ⟨p, 1, none⟩ (.slice (some ⟨BC, 0, none⟩) m2 m2)).setCell ⟨p, 2, none⟩ (.int .i64 0)) = W3 := by rw [hW3]; rfl
      rw [hgoal]
      have hp3' : W3.heap[p]? = some (.cells #[nI most, .slice (some ⟨BC, 0, none⟩) m2 m2, nI 0, nI q.length] TRg (0, 0)) := by rw [hW3, hp3]; rfl
      refine ⟨by simp, .inl ⟨_, _, rfl, run_takeDeferred hK3, ?_⟩⟩
      have hf4 : Fr (fun b => b = D) W3 (W3.putObj D (.deferred none)) := (Fr.refl _ _).grown (grownBy_putObj' _ _ _) (fun k hk _ => by cases hk; rfl)
      have hb2 := HB2.out
      have hrow := hf4.owns (hf3.owns HF.out.row (fun k hk e => by cases hk; simp only at e; omega)) (fun k hk e => by cases hk; simp only at e; omega)
      have hqm := HQ.out
      refine ⟨_, results_none rfl _ _ _, ⟨_, rfl⟩, _, _, m2, hb2.1, ⟨(hf4.block p (Array.getElem?_eq_some_iff.1 hp3').1 (by omega)).trans hp3', own_base (Nat.zero_le _) hrow, by omega, hb2.2.1, HH.out.mx, .inr (by omega), fun i x hx => ?_, .inl HH.out.sp, fun k hk => ?_, fun k hk => ?_⟩, ?_⟩
      · have hil := (List.getElem?_eq_some_iff.1 hx).1
        rw [Nat.zero_add, Nat.mod_eq_of_lt (by omega), List.length_zipIdx, List.take_of_length_le (Nat.le_refl _), List.getElem?_append_left hil]
        exact hx
      · cases hk
        exact .inr ⟨hcl, (hrow.lt BC rfl).2⟩
      · rcases hk with e | e
        · have := HH.out.sl k e
          exact Nat.lt_of_lt_of_le this (Nat.le_trans HF.out.bel.size (Nat.le_trans hf3.size hf4.size))
        · exact e.2
      · exact (((Fr.of_below (fp := S) HF.out.bel).trans hf3 (fun k hk _ => by rw [hk]; exact HH.out.sp)).trans hf4 (fun k hk hl => by omega))
    case stop => rintro D c pre W _ _ h; exact h.elim
  have hmo := made_own w m2 (by have := HB2.out; omega)
  have hmo2 := made_own (w.alloc (.cells #[.slice (some ⟨w.heap.size + 1, 0, none⟩) m2 m2] 22)) m2 (by have := HB2.out; omega)
  rw [World.size_alloc] at hmo2
  have HMO := hid hmo
  have HMO2 := hid hmo2
  clear hmo hmo2
  gi_region
  · refine rest _ _ _ ⟨?_, ?_, ?_, by omega⟩
    · have h := Boxed.new (w.alloc (.cells (madeCells #[.int .i64 0] m2) TI)) 22 (.slice (some ⟨w.heap.size, 0, none⟩) m2 m2)
      rw [World.size_alloc] at h
      exact h
    · exact (HMO.out.alloc _).drew
    · exact (((Below.refl _ _).alloc (Nat.le_refl _) _).alloc (by simp) _).drew
  · refine rest _ _ _ ⟨?_, ?_, ?_, by omega⟩
    · exact (Boxed.new w 22 (.slice (some ⟨w.heap.size + 1, 0, none⟩) m2 m2)).alloc _
    · exact own_base (Nat.le_succ _) HMO2.out.drew
    · exact (((Below.refl _ _).alloc (Nat.le_refl _) _).alloc (by simp) _).drew
theorem grow_any (h : RgW w S p most m first cs q cv) (hq : q.length = m) (hm : m < most) : Calls Try.prog 21 #[.pointer (some ⟨p, 0, none⟩)] w (GrowPost w S p most m q) := (callsIn_wide (n := 4)).1 (grow_in 4 (by omega) h hq hm)
end
end Go.Proofs.Ytmkajdfajcodjab
