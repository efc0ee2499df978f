/-
  The contract of rising.
-/
import Derived.Test.YtbdhjkdojgdhbaaLvG
namespace Go.Proofs.Ytbdhjkdojgdhbaa
open Go Go.ChangeShapes Go.WideShapes Go.ChangeAt Go.RowKit Go.Maps Go.Shelf
attribute [local go_sem] Oper.semAt_some

abbrev TSE : TypeId := 66
set_option maxRecDepth 100000 in
theorem infoEn : (Try.prog.info? TEn).map (fun i => (i.zero, i.size, i.bytes)) = some (some (.agg #[.int .u64 0, .int .i64 0]), 2, 16) := by kernel_rfl
/-- Between two rounds of rising. -/
structure HE (w0 : World) (A2 : Nat) (pre : List On) (lv : Value) (W : World) : Prop where
  b2 : Boxed W A2 TSE lv
  a2 : w0.heap.size < A2
  row : W.ownsRow w0.heap.size TEn 2 lv pre.length (onv pre)
  shp : ∃ g cap, lv = .slice (some ⟨g, 0, none⟩) pre.length cap
  below : Below w0.heap.size w0 W
def HEs (w0 : World) (A2 : Nat) (pre : List On) (W : World) : Prop := ∃ lv, HE w0 A2 pre lv W
theorem HE.kept {w0 : World} {A2 : Nat} {pre : List On} {lv : Value} {W W' : World} {row : Option Nat} (h : HE w0 A2 pre lv W) (hg : W.grownBy W' row) (hr : ∀ r, row = some r → w0.heap.size ≤ r ∧ ∃ o : Obj, W.heap[r]? = some o ∧ o.isCells = false) : HE w0 A2 pre lv W' :=
  have hr' := fun r e => (hr r e).2
  ⟨h.b2.kept hg (not_cells h.b2 hr'), h.a2, owns_not_cells h.row hg hr', h.shp, h.below.grown hg h.below.size (fun k e => (hr k e).1)⟩
theorem HEs.ownFrom (w0 : World) (A2 : Nat) (B : Nat) (hB : w0.heap.size ≤ B) : OwnFrom B (HEs w0 A2) := fun _ _ _ _ ⟨lv, h⟩ hg hr =>
  ⟨lv, h.kept hg (fun r e => ⟨Nat.le_trans hB (hr r e).1, (hr r e).2⟩)⟩
def RiseP (w0 : World) (L : List On) (e : Ending) (W' : World) : Prop := ∃ v, e = .returned v ∧ W'.ownsRow w0.heap.size TEn 2 v L.length (onv L) ∧ Below w0.heap.size w0 W'
set_option maxRecDepth 100000 in
set_option maxHeartbeats 4000000 in
theorem rising_in (n : Nat) (hn : 3 ≤ n) (w : World) (p b nn : Nat) (z : Lz) (hT : LeI w p b nn z) (hr : Rise z.l) (hlen : z.l.length ≤ 100000) :
    CallsIn Fence.wide n Try.prog 32 #[.pointer (some ⟨p, 0, none⟩)] w (RiseP w z.l) := by
  have h1 : 1 ≤ n := by omega
  obtain ⟨L, hL⟩ : ∃ L, L = z.l := ⟨_, rfl⟩
  rw [← hL] at hr hlen ⊢
  obtain ⟨i0, hi, hz0, hz1, hz2⟩ := info_split infoEn
  have hb2 : i0.bytes * L.length ≤ 281474976710656 := by rw [hz2]; omega
  have hm3 : L.length ≤ maxLen := by unfold maxLen; omega
  have hi' := hid hi
  have hz0' := hid hz0
  have hz1' := hid hz1
  have hz2' := hid hz2
  have HR := hid hr
  have hom := hT.hm
  rw [← hL] at hom
  have c2 := hT.c2
  have HOM := hid hom
  have hpl := hT.ltp
  have hcp : ∀ W, Fr (fun _ => False) w W → W.cell? ⟨p, 2, none⟩ = some (.map (some b)) := fun W hf => (hT.no hf).c2
  have HCP := hid hcp
  clear hT hi hz0 hz1 hz2 hom hL hr hcp
  refine callsIn_of_wp_marks Try.func32 rfl trivial ?_ rfl
  simp only [Try.ntmps32, List.size_toArray, List.length_cons, List.length_nil, Nat.reduceAdd, Nat.reduceSub, Array.replicate_succ, Array.replicate_zero, List.push_toArray, List.append_toArray, List.nil_append, List.cons_append]
  gi_wp2_with (first
    | (gi_at_len; refine wpListIn_len_own _ rfl _ TMp rfl TU 3 Try.underlying55 _ b nn _ rfl HOM.out ?_)
    | (gi_at_make; refine wpListIn_make_own _ rfl _ _ TSE rfl w.heap.size TEn i0 (.agg #[.int .u64 0, .int .i64 0]) 2 Try.underlying66 hi'.out hz0'.out hz1'.out _ _ _ L.length rfl rfl (by simp [datO_size]) hb2 hm3 (by simp) ?_; intro w1 hown1 hgrow1; have HO1 := hid hown1; have HG1 := hid hgrow1; have q1 : ∀ o, (w1.alloc o).cell? ⟨p, 2, none⟩ = some (.map (some b)) := (fun o => HCP.out _ (((Fr.refl (fun _ => False) w).grown HG1.out (fun k e _ => by cases e)).alloc o)); clear hown1 hgrow1 c2)
    | fail)
  first
    | refine (mAll_in (n - 1) _ _).mono ?_
    | refine ⟨trivial, (mAll_in (n - 1) _ _).mono ?_⟩
    | refine ⟨trivial, (fun h => by cases h), (mAll_in (n - 1) _ _).mono ?_⟩
  rintro e w' ⟨rfl, rfl⟩
  gi_wp2
  obtain ⟨A2, hA2⟩ : ∃ A2, A2 = w1.heap.size := ⟨_, rfl⟩
  have hB1 : Below w.heap.size w w1 := (Below.refl _ w).grown HG1.out (Nat.le_refl _) (fun k e => by cases e)
  have hA2s : w.heap.size < A2 := by have := (HO1.out.lt w.heap.size rfl).2; omega
  obtain ⟨w2, hw2⟩ : ∃ w2, w2 = (w1.alloc (.cells #[.slice (some ⟨w.heap.size, 0, none⟩) 0 L.length] TSE)).alloc (.cells #[.map (some b)] TMp) := ⟨_, rfl⟩
  have hH0 : HE w A2 [] (.slice (some ⟨w.heap.size, 0, none⟩) 0 L.length) w2 := by
    rw [hw2, hA2]
    exact ⟨(Boxed.new w1 TSE _).alloc _, by omega, (HO1.out.alloc _).alloc _, ⟨_, _, rfl⟩, (hB1.alloc hB1.size _).alloc (by have := hB1.size; simp; omega) _⟩
  have c54 : w2.cell? ⟨A2 + 1, 0, none⟩ = some (.map (some b)) := by
    rw [hw2, hA2]
    have := Boxed.cell (Boxed.new (w1.alloc (.cells #[.slice (some ⟨w.heap.size, 0, none⟩) 0 L.length] TSE)) TMp (.map (some b)))
    rw [World.size_alloc] at this
    exact this
  have hsz2 : A2 + 1 < w2.heap.size := by rw [hw2, hA2]; simp
  have hom2 : w2.ownsMap Try.prog TU (plainElem (H := Unit) Try.prog 3) b nn (datO L) := by
    have hbl := HOM.out.lt
    have hb : Below w.heap.size w w2 := hH0.below
    exact Fr.ownsMap (fp := fun _ => False) (Fr.of_below hb) HOM.out (fun e => e)
  rw [← hA2, ← hw2]
  clear hw2 q1 HO1 HG1 hA2
  have hst := mAll_stops (n - 1) (by omega) (A2 + 1) b nn L HR.out w2 hsz2 c54 hom2
  have HST := hid hst
  have HH0 := hid hH0
  have HSZ2 := hid hsz2
  clear hst hH0 c54 hom2 hB1 hsz2
  refine wpIn_rangeFunc_ownF rfl h1 (gf := 50) (lb := #[.pointer (some ⟨A2 + 1, 0, none⟩)]) rfl trivial (enters_of Try.func50 (by kernel_rfl) rfl)
    HST.out walksK_t (fun W l o o' h h2 h3 h4 => walksK_b (w := w2) W l o o' h h2 h3 h4) (Below.refl _ _) (fun _ => rfl)
    (HEs w A2) (fun _ _ _ => False) (HEs.ownFrom w A2 _ (by have := HSZ2.out; omega)) (fun _ _ _ _ _ hs _ _ => hs) ⟨_, HH0.out⟩
    (fun x => { tmps := #[.pointer (some ⟨p, 0, none⟩), undef, .slice none 0 0, .pointer (some ⟨A2, 0, none⟩), .int .u64 x.1, iv x.2, .pointer (some ⟨p, 0, none⟩), .pointer (some ⟨p, 0, none⟩), .pointer (some ⟨p, 2, none⟩), .map (some b), .int .i64 (Maps.size (datO L)), .slice (some ⟨w.heap.size, 0, none⟩) 0 L.length, .pointer (some ⟨p, 0, none⟩), .pointer (some ⟨p, 0, none⟩), .pointer (some ⟨p, 2, none⟩), .map (some b), .func (.func 50) #[] #[.pointer (some ⟨A2 + 1, 0, none⟩)], .int .u64 x.1, iv x.2, undef, undef, undef, undef, undef, undef, undef, undef, undef], defers := [] }) ?assign ?body ?done ?stop
  case assign =>
    intro l x W K hK
    simp only [encO]
    gi_wp2
    exact hK
  case body =>
    rintro l pre x W ⟨lv, H⟩ hlen2
    obtain ⟨g, cap, rfl⟩ := H.shp
    obtain ⟨N, hN⟩ : ∃ N, N = pre.length := ⟨_, rfl⟩
    have e2 := H.b2.cell
    have f2 := H.b2.frozen
    have hrow := H.row
    have hbx := H.b2
    rw [← hN] at e2 hrow hbx
    have HROW := hid hrow
    have HBX := hid hbx
    have HH := hid H
    have HN := hid hN
    have hN9 : N ≤ 100000 := by omega
    clear H hrow hbx hN hlen2
    gi_wp2_with (first
      | (gi_at_builtin; refine wpListIn_appAt _ rfl _ _ TSE rfl w.heap.size TEn i0 (.agg #[.int .u64 0, .int .i64 0]) 2 16 Try.underlying66 hi'.out hz0'.out hz1'.out hz2'.out rfl (by decide) _ _ _ rfl (HROW.out.alloc _) ⟨W.heap.size, 0, none⟩ 1 1 (onc x) rfl rfl (World.news_of_block (heap_alloc_new W _)) (fun u hu => by simp only [onc, List.mem_cons, List.not_mem_nil, or_false] at hu; rcases hu with rfl | rfl <;> rfl) (by simp only [maxLen]; omega) (by omega) (by have := HH.out.below.size; simp; omega) ?_; intro v' w3 hown' hgrow hat; obtain ⟨g', cap', rfl⟩ := ownsRow_succ hown'; obtain ⟨p1, p2, p3, p4, p5, p6, p7⟩ := box_push HBX.out (by decide) HROW.out hown' hgrow; have hc1 := p1.cell; have hf1 := p1.frozen)
      | fail)
    refine ⟨p4, p4.walks, _, p2, HH.out.a2, ?_, ⟨g', cap', ?_⟩, HH.out.below.trans (p6 _ (by have := hA2s; omega) (by have := HH.out.below.size; omega) HH.out.below.size)⟩
    · have h7 : onv (pre ++ [x]) = onv pre ++ onc x := by simp [onv, onc]
      rw [List.length_append, List.length_singleton, ← HN.out, h7]; exact p3
    · rw [List.length_append, List.length_singleton, ← HN.out]
  case done =>
    rintro D ys W hD hperm ⟨lv, H⟩ hK
    obtain ⟨g, cap, rfl⟩ := H.shp
    have hys : ys.length = L.length := hperm.length_eq
    have e2 := H.b2.cell
    have hs0 := SortO_any H.row hperm HR.out (by omega)
    rw [hys] at hs0 e2
    have HS0 := hid hs0
    have hAg : some A2 ≠ some g := H.b2.not_row (by decide) H.row
    have HH := hid H
    have HK := hid hK
    have HYS := hid hys
    clear H hs0 hperm hK hys
    gi_wp2
    refine ⟨trivial, (callsIn_wide.2 HS0.out).mono ?_⟩
    rintro e W2 ⟨rfl, hrow2, hgr2⟩
    have hDg : some D ≠ some g := fun e => by
      have hk := HK.out
      simp only [Option.some.injEq] at e
      subst e
      rcases HH.out.row.2 with ⟨h1, _⟩ | ⟨g', cap', cur, hv, _, hg, _⟩
      · cases h1
      · cases hv
        rw [hk] at hg; cases hg
    have hK2 : W2.heap[D]? = some (.deferred (some [])) := (hgr2.block D (Array.getElem?_eq_some_iff.1 HK.out).1 hDg).trans HK.out
    have e3 : W2.cell? ⟨A2, 0, none⟩ = some (.slice (some ⟨g, 0, none⟩) L.length cap) := by
      have := (HH.out.b2.kept hgr2 hAg).cell
      rw [HYS.out] at this; exact this
    have hgb : w.heap.size ≤ g := (HH.out.row.lt g rfl).1
    have hB2 : Below w.heap.size w W2 := HH.out.below.grown hgr2 HH.out.below.size (fun k hk => by simp at hk; omega)
    have HR2 := hid hrow2
    have HK2 := hid hK2
    clear hrow2 hgr2 e2 hDg hAg hK2
    gi_wp2
    have hK3 : W2.heap[D]? = some (.deferred (some [])) := HK2.out
    refine ⟨by simp, .inl ⟨_, _, rfl, run_takeDeferred hK3, ?_⟩⟩
    exact ⟨_, results_tmp rfl _ _ _, _, rfl, ownsRow_putObj HR2.out _ hK3 rfl, hB2.trans (belowK_b (w := w) (Nat.le_refl _) W2 D _ _ (by have := HSZ2.out; omega) hK3 rfl rfl)⟩
  case stop =>
    rintro D c pre W _ _ h _
    exact h.elim
end Go.Proofs.Ytbdhjkdojgdhbaa
