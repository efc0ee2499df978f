/-
  The program's Graph.
-/
import Derived.Test.YtmkajdfajcodjaaHuF
namespace Go.Proofs.Ytmkajdfajcodjaa
open Go Go.ChangeShapes Go.WideShapes Go.ChangeAt Go.RowKit Go.Shelf Go.Maps
attribute [local go_sem] Oper.semAt_some run_makeMap

theorem isW_some {L : HL} {x : Int} {o : Ob} (h : fnd L x = some o) : isW L x = decide (o.outer = 0) := by unfold isW; rw [h]
theorem pre_nodup {X pre : List Int} {x : Int} (hn : X.Nodup) (h : pre ++ [x] <+: X) : x ∉ pre := by
  have h2 := h.sublist.nodup hn
  rw [List.nodup_append] at h2
  intro hm
  exact h2.2.2 x hm x (by simp) rfl
theorem exec_mkSI {o : Oper} {f : Operand → Value} {W : World} {p : Operand} {v : Value} (ho : o.op = .buildSlice 40 1 #[(0, p)]) (hp : f p = v) (h1 : ∃ a n c, v = .slice a n c) :
    (execOp f o).run Try.prog W = .ok (.value (.slice (some ⟨W.heap.size, 0, none⟩) 1 1)) (W.alloc (.cells #[v] TSI)) := by
  obtain ⟨a, n, c, rfl⟩ := h1
  unfold execOp
  simp only [ho]
  go_simp
section
variable {w : World} {p pa : Nat} {Sa : Nat → Prop} {AA : Ar} {F0 : Nat → Lab} {B : Int → Nat}
set_option maxRecDepth 100000 in
set_option maxHeartbeats 16000000 in
theorem Graph_in (n : Nat) (hn : 6 ≤ n) (s : Hs) (h : HpW w p pa Sa AA F0 B s.top s.L) (hA : s.A = er AA) (hsi : HsI s) (hmost : s.A.most ≤ 256) :
    CallsIn Fence.wide n Try.prog 17 #[.pointer (some ⟨p, 0, none⟩)] w (GraphPost w s) := by
  have h1 : 1 ≤ n := by omega
  have hnd := allA_nodup hsi.ok.aok
  have hAl := allA_len hsi.ok.aok hmost
  obtain ⟨X, hX⟩ : ∃ X, X = allA s.A := ⟨_, rfl⟩
  rw [← hX] at hnd hAl
  have hfnd : ∀ x ∈ X, ∃ o, fnd s.L x = some o := fun x hx => allA_fnd hsi.ok (by rw [← hX]; exact hx)
  obtain ⟨w1, hw1⟩ : ∃ w1, w1 = (((((w.alloc (.cells #[.pointer (some ⟨p, 0, none⟩)] 24)).alloc (.cells #[.slice none 0 0, .slice none 0 0] TGr)).alloc (.cells #[.slice none 0 0, .slice none 0 0] TGr)).alloc (.cells #[.slice none 0 0] TSU)).alloc (.map #[] 0)).alloc (.cells #[.map (some (w.heap.size + 4))] TMI) := ⟨_, rfl⟩
  have hb1 : Below w.heap.size w w1 := by rw [hw1]; exact (((((((Below.refl _ _).alloc (Nat.le_refl _) _).alloc (by simp) _).alloc (by simp; omega) _).alloc (by simp; omega) _).alloc (by simp; omega) _).alloc (by simp; omega) _)
  have hz1 : w1.heap.size = w.heap.size + 6 := by rw [hw1]; simp
  have x0 : Boxed w1 w.heap.size 24 (.pointer (some ⟨p, 0, none⟩)) := by rw [hw1]; exact (((((Boxed.new w 24 (.pointer (some ⟨p, 0, none⟩))).alloc _).alloc _).alloc _).alloc _).alloc _
  have hkeep : ∀ (W : World) (o : Obj) (k : Nat) (ob : Obj), W.heap[k]? = some ob → (W.alloc o).heap[k]? = some ob := fun W o k ob hk => by rw [Below.heap_alloc _ _ _ (Array.getElem?_eq_some_iff.1 hk).1]; exact hk
  have x1 : w1.heap[w.heap.size + 1]? = some (.cells #[.slice none 0 0, .slice none 0 0] TGr (0, 0)) := by
    rw [hw1]
    refine hkeep _ _ _ _ (hkeep _ _ _ _ (hkeep _ _ _ _ (hkeep _ _ _ _ ?_)))
    have := heap_alloc_new (w.alloc (.cells #[.pointer (some ⟨p, 0, none⟩)] 24)) (.cells #[.slice none 0 0, .slice none 0 0] TGr)
    rwa [World.size_alloc] at this
  have x2 : w1.heap[w.heap.size + 2]? = some (.cells #[.slice none 0 0, .slice none 0 0] TGr (0, 0)) := by
    rw [hw1]
    refine hkeep _ _ _ _ (hkeep _ _ _ _ (hkeep _ _ _ _ ?_))
    have := heap_alloc_new ((w.alloc (.cells #[.pointer (some ⟨p, 0, none⟩)] 24)).alloc (.cells #[.slice none 0 0, .slice none 0 0] TGr)) (.cells #[.slice none 0 0, .slice none 0 0] TGr)
    rwa [World.size_alloc, World.size_alloc] at this
  have x3 : Boxed w1 (w.heap.size + 3) TSU (.slice none 0 0) := by
    rw [hw1]
    refine Boxed.alloc (Boxed.alloc ?_ _) _
    have := Boxed.new (((w.alloc (.cells #[.pointer (some ⟨p, 0, none⟩)] 24)).alloc (.cells #[.slice none 0 0, .slice none 0 0] TGr)).alloc (.cells #[.slice none 0 0, .slice none 0 0] TGr)) TSU (.slice none 0 0)
    rwa [World.size_alloc, World.size_alloc, World.size_alloc] at this
  have x4 : w1.ownsMap Try.prog TU (plainElem (H := Unit) Try.prog TI) (w.heap.size + 4) 0 (.map []) := by
    have := World.ownsMap_made ((((w.alloc (.cells #[.pointer (some ⟨p, 0, none⟩)] 24)).alloc (.cells #[.slice none 0 0, .slice none 0 0] TGr)).alloc (.cells #[.slice none 0 0, .slice none 0 0] TGr)).alloc (.cells #[.slice none 0 0] TSU)) Try.prog TU (plainElem (H := Unit) Try.prog TI)
    rw [World.size_alloc, World.size_alloc, World.size_alloc, World.size_alloc] at this
    rw [hw1]
    exact ((Fr.refl (fun _ => False) _).alloc _).ownsMap this (fun e => e)
  have x5 : Boxed w1 (w.heap.size + 5) TMI (.map (some (w.heap.size + 4))) := by
    rw [hw1]
    have := Boxed.new (((((w.alloc (.cells #[.pointer (some ⟨p, 0, none⟩)] 24)).alloc (.cells #[.slice none 0 0, .slice none 0 0] TGr)).alloc (.cells #[.slice none 0 0, .slice none 0 0] TGr)).alloc (.cells #[.slice none 0 0] TSU)).alloc (.map #[] 0)) TMI (.map (some (w.heap.size + 4)))
    rwa [World.size_alloc, World.size_alloc, World.size_alloc, World.size_alloc, World.size_alloc] at this
  have H := hid h
  have HA := hid hA
  have HSI := hid hsi
  have HX := hid hX
  have HND := hid hnd
  have HFD := hid hfnd
  have HB1 := hid hb1
  have HZ1 := hid hz1
  have HW1 := hid hw1
  have hGr : ∀ W, Below w1.heap.size w1 W → w.heap.size + 7 ≤ W.heap.size → Gr1 w p s.L [] (.slice none 0 0) W := fun W hW hz =>
    ⟨hb1.trans (hW.mono hb1.size), (hW.block _ (by omega)).trans x0, (hW.block _ (by omega)).trans x1, (hW.block _ (by omega)).trans x2, (hW.block _ (by omega)).trans x3, (hW.block _ (by omega)).trans x5, ⟨_, 0, (Fr.of_below (fp := fun _ => False) hW).ownsMap x4 (fun e => e), (MapOf.nil .u64 .i64).congr (fun t => by simp [plc]) rfl, by simp⟩, World.ownsRow_nil _ _ _ _, hz⟩
  have HGR := hid hGr
  clear h hA hsi hmost hX hnd hfnd hb1 hz1 hw1 x0 x1 x2 x3 x4 x5 hkeep hGr
  refine callsIn_of_wp_marks Try.func17 rfl trivial ?_ rfl
  simp only [Try.ntmps17, List.size_toArray, List.length_cons, List.length_nil, Nat.reduceAdd, Nat.reduceSub, Array.replicate_succ, Array.replicate_zero, List.push_toArray, List.append_toArray, List.nil_append, List.cons_append]
  gi_upto_region 4 with (fail)
  simp only [Nat.add_assoc, Nat.reduceAdd]
  rw [← HW1.out]
  have x0c := (HGR.out (w1.alloc (.cells #[.int .u64 0] TU)) ((Below.refl _ _).alloc (Nat.le_refl _) _) (by have := HZ1.out; simp; omega)).b0
  have x0d : w1.cell? ⟨w.heap.size, 0, none⟩ = some (.pointer (some ⟨p, 0, none⟩)) := by
    have h5 := x0c.cell
    rw [World.cell?_of_block (w := w1) (w' := w1.alloc (.cells #[.int .u64 0] TU)) (a := ⟨w.heap.size, 0, none⟩) (Below.heap_alloc _ _ _ (by have := HZ1.out; simp; omega))] at h5
    exact h5
  clear x0c
  gi_wp2_with fail
  refine ⟨trivial, (callsIn_wide.2 (HAll_any w1 p)).mono ?_⟩
  rintro e w2 ⟨rfl, hw2⟩
  have e1 : w1.heap.size = w.heap.size + 6 := HZ1.out
  rw [e1]
  have hb12 : Below w1.heap.size w1 w2 := by rw [hw2]; exact (Below.refl _ _).alloc (Nat.le_refl _) _
  have hz2 : w2.heap.size = w.heap.size + 7 := by rw [hw2]; simp; omega
  have hbx : Boxed w2 (w.heap.size + 6) 24 (.pointer (some ⟨p, 0, none⟩)) := by rw [hw2, ← e1]; exact Boxed.new _ _ _
  have hp2 : HpW w2 p pa Sa AA F0 B s.top s.L := H.out.blw (HB1.out.trans (hb12.mono HB1.out.size))
  have hat := all_tellsX (n - 1) (w.heap.size + 6) p pa (by omega) Sa AA w2 hbx hp2.c0 hp2.ar
  rw [← HA.out, ← HX.out] at hat
  have HAT := hid hat
  have hg2 : ∀ W, Below w2.heap.size w2 W → Gr1 w p s.L [] (.slice none 0 0) W := fun W hW => HGR.out W (hb12.trans (hW.mono hb12.size)) (by have := hW.size; omega)
  have HG2 := hid hg2
  have HZ2 := hid hz2
  clear hw2 e1 hb12 hbx hp2 hat hg2 hz2 HW1 HGR x0d
  gi_wp2
  refine rangeFunc_x rfl h1 (gf := 60) (lb := #[.pointer (some ⟨w.heap.size + 6, 0, none⟩)]) rfl trivial (enters_of Try.func60 (by kernel_rfl) rfl)
    HAT.out (fun _ _ _ h => h) (fun _ {A B C} h k => h.t k) (fun _ W l o o' _ h2 h3 _ => KT.b _ _ W l o o' h2 h3) (fun _ => rfl)
    (fun (_ : Unit) pre W => ∃ wv, Gr1 w p s.L pre wv W) (fun _ _ _ => False)
    (fun _ pre X' Y row ⟨wv, hs⟩ hg hr => ⟨wv, hs.kept hg (fun r e => ⟨by have := (hr r e).1; have := HZ2.out; omega, (hr r e).2⟩)⟩) (fun _ _ _ _ _ hs _ _ => hs)
    (fun _ _ _ _ => trivial) (fun _ _ => trivial) (fun _ W1 W hb _ h => ⟨_, HG2.out W (hb.trans (h.mono hb.size))⟩)
    (fun (_ : Unit) pre x a' W => (∃ wv, Gr1 w p s.L pre wv W) ∧ a' = { tmps := #[.pointer (some ⟨p, 0, none⟩), .pointer (some ⟨w.heap.size, 0, none⟩), .pointer (some ⟨w.heap.size + 1, 0, none⟩), .slice none 0 0, .pointer (some ⟨w.heap.size + 2, 0, none⟩), .pointer (some ⟨w.heap.size + 3, 0, none⟩), .pointer (some ⟨w.heap.size + 5, 0, none⟩), .int .u64 x, undef, undef, undef, undef, .map (some (w.heap.size + 4)), .pointer (some ⟨p, 0, none⟩), .func (.func 60) #[] #[.pointer (some ⟨w.heap.size + 6, 0, none⟩)], .int .u64 x, undef, undef, undef, undef, undef, undef, undef, undef, undef, undef, undef, undef, undef, undef, undef, undef, undef, undef, undef, undef, undef, undef, undef, undef, undef, undef, undef, undef, undef, undef, undef, undef, undef, undef, undef, undef, undef, undef, undef, undef, undef, undef, undef], defers := [] })
    (fun _ pre x a' _ X' Y row ⟨⟨wv, hs⟩, he⟩ hg hr => ⟨⟨wv, hs.kept hg (fun r e => ⟨by have := (hr r e).1; have := HZ2.out; omega, (hr r e).2⟩)⟩, he⟩)
    ?assign ?body ?done ?stop
  case assign =>
    rintro lo _ pre x Wc K hI _ hK
    simp only [encU]
    have HKK := hid hK
    have HII := hid hI
    clear hK hI
    gi_wp2
    exact HKK.out _ _ (KeepsFrom.refl _ _) (fun _ _ _ _ _ h => h) ⟨HII.out, rfl⟩
  case body =>
    rintro lo _ pre x a' Wc hlo ⟨r, hr⟩ hpx ⟨⟨wv, hG⟩, rfl⟩
    have hxX : x ∈ X := hpx.subset (by simp)
    obtain ⟨o, hfo⟩ := HFD.out x hxX
    obtain ⟨hom, hoh⟩ := fnd_some hfo
    have hnp := pre_nodup HND.out hpx
    have hpl : pre.length + 1 ≤ 256 := by
      have := hpx.length_le
      rw [List.length_append, List.length_singleton] at this
      omega
    have hxb : Hn x := by have := HSI.out.inv.nz o hom; rw [hoh] at this; unfold Hn; omega
    have hiw := isW_some hfo
    have d0 := hG.b0.cell
    have HG := hid hG
    have HPC := hid (H.out.blw hG.bel)
    have HIW := hid hiw
    have HNP := hid hnp
    clear hpx hxX hiw hnp hr hlo
    rcases whl_cases HSI.out.inv hfo with ⟨h0, hw⟩ | ⟨h0, y, hy, hy1, hy2, _, hw⟩
    · have HFW := hid (Whole_some HPC.out HSI.out.inv hw)
      rw [hoh] at HFW
      have hisw : isW s.L x = true := by rw [HIW.out]; simpa using h0
      obtain ⟨W1, hrun, hf1, hk1, ht1, hm1, ob, hob, hoc⟩ := hG.place HNP.out hxb (by omega)
      have hsub := List.length_filter_le (isW s.L) pre
      obtain ⟨q, hq⟩ : ∃ q, q = (pre.filter (isW s.L)).length := ⟨_, rfl⟩
      obtain ⟨va, vc, hva⟩ := own_form hG.row
      subst hva
      rw [← hq] at hrun hsub
      have d3 := hG.b3.cell
      have d5 := hG.b5.cell
      rw [← hq] at d3
      have hn4 : ∀ k, k ≠ w.heap.size + 4 → ¬ k = w.heap.size + 4 := fun _ e => e
      have hb31 : Boxed W1 (w.heap.size + 3) TSU (.slice va q vc) := by
        rw [hq]; exact (hf1.block _ hG.b3.lt (by omega)).trans hG.b3
      have hrow1 : W1.ownsRow (w.heap.size + 7) TU 1 (.slice va q vc) q ((pre.filter (isW s.L)).map u64v) := by
        have := hf1.owns hG.row (fun k hk e => by have := (hG.row.lt k hk).1; omega)
        rw [hq]; exact this
      have hbel1 : Below w.heap.size w W1 := hG.bel.trans (hf1.below hG.bel.size (fun k hk => by omega))
      have hz1 : w.heap.size + 7 ≤ W1.heap.size := Nat.le_trans hG.sz hf1.size
      have d31 := hb31.cell
      have f31 := hb31.frozen
      have y0 : Boxed W1 w.heap.size 24 (.pointer (some ⟨p, 0, none⟩)) := (hf1.block _ hG.b0.lt (by omega)).trans hG.b0
      have y1 : W1.heap[w.heap.size + 1]? = some (.cells #[.slice none 0 0, .slice none 0 0] TGr (0, 0)) := (hf1.block _ (Array.getElem?_eq_some_iff.1 hG.g1).1 (by omega)).trans hG.g1
      have y2 : W1.heap[w.heap.size + 2]? = some (.cells #[.slice none 0 0, .slice none 0 0] TGr (0, 0)) := (hf1.block _ (Array.getElem?_eq_some_iff.1 hG.g2).1 (by omega)).trans hG.g2
      have y5 : Boxed W1 (w.heap.size + 5) TMI (.map (some (w.heap.size + 4))) := (hf1.block _ hG.b5.lt (by omega)).trans hG.b5
      obtain ⟨i0, hi, hq0, hq1, hq2⟩ := info_split infoUU
      have HROW := hid hrow1
      have HB3 := hid hb31
      have HK1 := hid hk1
      have HT1 := hid ht1
      have HM1 := hid hm1
      have HBL := hid hbel1
      have HQ := hid hq
      have HISW := hid hisw
      have Y0 := hid y0
      have Y1 := hid y1
      have Y2 := hid y2
      have Y5 := hid y5
      clear hG hfo hom hoh h0 hw hisw hf1 hk1 ht1 hm1 hob hoc hb31 hrow1 hbel1 hq y0 y1 y2 y5 hn4 HG
      gi_wp2_with fail
      refine ⟨trivial, (fun h => by cases h), (CallsIn.inRound lo (callsIn_wide.2 HFW.out)).mono ?_⟩
      rintro e W' ⟨rfl, rfl⟩
      gi_wp2_with (first
        | (gi_at_builtin; refine wpListIn_append_at _ rfl _ _ TSU rfl (w.heap.size + 7) TU i0 (.int .u64 0) 1 8 Try.underlying43 hi hq0 hq1 hq2 rfl (by decide) _ _ _ rfl (HROW.out.alloc _) ⟨W1.heap.size, 0, none⟩ 1 1 [u64v x] rfl rfl (World.news_of_block (heap_alloc_new W1 _)) (by simp [Value.oneCell']) (by simp only [maxLen]; omega) (by omega) (by simp; omega) ?_; intro v' w9 hown' hgrow hat; obtain ⟨g', cap', rfl⟩ := ownsRow_succ hown'; obtain ⟨p1, p2, p3, p4, p5, p6, p7⟩ := box_push HB3.out (by decide) HROW.out hown' hgrow; have hc1 := p1.cell; have hf1 := p1.frozen))
      have hgr : (W1.alloc (.cells #[.int .u64 x] TU)).grownBy w9 (Value.slice va q vc).ownBlock := hgrow
      have hkt := box_pushT HB3.out (T := KTy) (by unfold KTy; decide) (by unfold KTy; decide) HROW.out hgr (p5 (fun _ => False) (fun e => e) (fun _ _ e => e))
      have hks := p5 (fun k => k = w.heap.size + 1 ∨ k = w.heap.size + 2) (fun e => by omega) (fun k hk e => by omega)
      have hfn := filt_next (L := s.L) (pre := pre) HISW.out
      have hfr : Fr (fun k => (Value.slice va q vc).ownBlock = some k ∨ k = w.heap.size + 3) W1 (w9.setCell ⟨w.heap.size + 3, 0, none⟩ (.slice (some ⟨g', 0, none⟩) (q + 1) cap')) := (((Fr.refl _ W1).alloc _).grown hgr (fun k hk _ => .inl hk)).setCell _ _ (fun _ => .inr rfl)
      obtain ⟨D, c, m1, m2, m3⟩ := HM1.out
      have hz9 := p4.size
      refine ⟨?_, HT1.out.t hkt, _, HBL.out.trans (p6 _ (by omega) (by omega) HBL.out.size), p7 _ _ _ Y0.out (by omega) (by omega), hks _ _ _ _ (.inl rfl) Y1.out, hks _ _ _ _ (.inr rfl) Y2.out, p2, p7 _ _ _ Y5.out (by omega) (by omega), ⟨D, c, hfr.ownsMap m1 (fun e => ?_), by rw [hfn]; exact m2, by rw [List.length_append, List.length_singleton]; exact m3⟩, ?_, Nat.le_trans hz1 hz9⟩
      · have h5 : KeepsFrom w2.heap.size Wc W1 := by rw [HZ2.out]; exact HK1.out
        exact h5.trans (p4.from _)
      · rcases e with e | e
        · have := (HROW.out.lt _ e).1; omega
        · omega
      · rw [hfn, List.length_append, List.length_singleton, ← HQ.out, List.map_append]; exact p3
    · have HFW := hid (Whole_some HPC.out HSI.out.inv hw)
      have hne : ¬ y.h = x := fun e => by
        have h6 := fnd_mem HSI.out.inv.nd hy
        rw [e, hfo] at h6
        cases h6
        exact h0 hy2
      have hisw : isW s.L x = false := by rw [HIW.out]; simpa using h0
      have hbq : (y.h == x) = false := by simpa using hne
      obtain ⟨yh, hyh⟩ : ∃ yh, yh = y.h := ⟨_, rfl⟩
      rw [← hyh] at HFW hbq
      have HISW := hid hisw
      clear hG hfo hom hoh h0 hw hisw hy hy1 hy2 hne hyh
      gi_wp2_with fail
      refine ⟨trivial, (fun h => by cases h), (CallsIn.inRound lo (callsIn_wide.2 HFW.out)).mono ?_⟩
      rintro e W' ⟨rfl, rfl⟩
      gi_wp2
      exact ⟨KeepsFrom.refl _ _, fun _ _ _ _ _ h => h, _, HG.out.skip HISW.out⟩
  case done =>
    rintro D _ WA hD ⟨wv, hG⟩ hK
    have hWl : X.filter (isW s.L) = wls s.A s.L := by rw [HX.out]; rfl
    have hfl := List.length_filter_le (isW s.L) X
    obtain ⟨W0, hW0⟩ : ∃ W0, W0 = X.filter (isW s.L) := ⟨_, rfl⟩
    rw [← hW0] at hWl hfl
    have hrow := hG.row
    rw [← hW0] at hrow
    obtain ⟨wa, wc, hwa⟩ := own_form hrow
    subst hwa
    obtain ⟨nw, hnw⟩ : ∃ nw, nw = W0.length := ⟨_, rfl⟩
    obtain ⟨Dm, cm, hm1, hm2, hm3⟩ := hG.mp
    rw [← hW0] at hm2
    rw [← hnw] at hrow hfl
    have hb3 := hG.b3
    rw [← hnw] at hb3
    have d3 := hb3.cell
    obtain ⟨T, hT⟩ : ∃ T : Nat → Prop, T = fun k => (k < w.heap.size + 6 ∧ k ≠ w.heap.size + 2) ∨ k = D ∨ (Value.slice wa nw wc).ownBlock = some k := ⟨_, rfl⟩
    have hDl := (Array.getElem?_eq_some_iff.1 hK).1
    have hD7 : w.heap.size + 7 ≤ D := by have := HZ2.out; omega
    have hTl : ∀ k, T k → k < WA.heap.size := fun k hk => by
      rw [hT] at hk
      rcases hk with ⟨e, _⟩ | e | e
      · have := hG.sz; omega
      · omega
      · exact (hrow.lt k e).2
    have hT2 : ¬ T (w.heap.size + 2) := fun hk => by
      rw [hT] at hk
      rcases hk with ⟨_, e⟩ | e | e
      · exact e rfl
      · omega
      · have := (hrow.lt _ e).1; omega
    have hTlow : ∀ k, k < w.heap.size → T k := fun k hk => by rw [hT]; exact .inl ⟨by omega, by omega⟩
    have hT4 : T (w.heap.size + 4) := by rw [hT]; exact .inl ⟨by omega, by omega⟩
    have hT5 : T (w.heap.size + 5) := by rw [hT]; exact .inl ⟨by omega, by omega⟩
    have hT3 : T (w.heap.size + 3) := by rw [hT]; exact .inl ⟨by omega, by omega⟩
    have hT1 : T (w.heap.size + 1) := by rw [hT]; exact .inl ⟨by omega, by omega⟩
    have hT0 : T w.heap.size := by rw [hT]; exact .inl ⟨by omega, by omega⟩
    have hTD : T D := by rw [hT]; exact .inr (.inl rfl)
    have hTW : ∀ k, (Value.slice wa nw wc).ownBlock = some k → T k := fun k hk => by rw [hT]; exact .inr (.inr hk)
    have hWX : 0 < nw → ∃ g, wa = some ⟨g, 0, none⟩ ∧ T g ∧ ∀ j z, W0[j]? = some z → WA.cell? ⟨g, j, none⟩ = some (u64v z) := fun hp => by
      obtain ⟨g, c', e, _⟩ := hrow.form hp
      simp only [Value.slice.injEq] at e
      obtain ⟨rfl, _, rfl⟩ := e
      refine ⟨g, rfl, hTW g rfl, fun j z hz => ?_⟩
      have hj := (List.getElem?_eq_some_iff.1 hz).1
      rw [hrow.cellAt j (by omega), List.getElem?_map, hz]
      rfl
    have hfm : ∀ x ∈ s.L, x.outer = 0 → plc W0 x.h = some ((W0.idxOf x.h : Nat) : Int) := fun x hx h0 => by
      unfold plc
      rw [if_pos (by rw [hWl]; exact mem_wls HSI.out.ok hx h0)]
    have hG0 : GI (w.heap.size + 2) WA (w.heap.size + 2) (fun k => if k = w.heap.size + 2 then 1 else 7) (.slice none 0 0) (.slice none 0 0) ((W0.take 0).map (cntH s.L)) [] ((W0.take 0).map (lstH s.L W0)) :=
      ⟨hG.g2, World.ownsRow_nil _ _ _ _, World.ownsRow_nil _ _ _ _, by simp, fun i v t h _ => by simp at h, if_pos rfl, fun k hk => by simp [Value.ownBlock] at hk, fun k hk => by simp [Value.ownBlock] at hk, Nat.le_refl _, fun k hk => by show (if k = w.heap.size + 2 then 1 else 7) ≠ 6; rw [if_neg (by omega)]; decide⟩
    have hR0 : Gr2 WA T (fun k => if k = w.heap.size + 2 then 1 else 7) WA := ⟨Fr.refl _ _, fun k hk => if_neg (fun e => hT2 (by rw [← e]; exact hk)), hTl⟩
    have HG0 := hid hG0
    have HR0 := hid hR0
    have HBW := hid hG.bel
    have HX0 := hid hG.b0
    have HX1 := hid hG.g1
    have HX3 := hid hb3
    have HX5 := hid hG.b5
    have HMP := hid hm1
    have HMO := hid hm2
    have HFM := hid hfm
    have HWX := hid hWX
    have HWL := hid hWl
    have HNW := hid hnw
    have HROW := hid hrow
    have HK := hid hK
    have HT0 := hid hT0
    have HT1 := hid hT1
    have HT3 := hid hT3
    have HT4 := hid hT4
    have HT5 := hid hT5
    have HTD := hid hTD
    have HTW := hid hTW
    have HTLW := hid hTlow
    obtain ⟨y, hy⟩ : ∃ y, y = w.heap.size + 2 := ⟨_, rfl⟩
    rw [← hy] at HG0 HR0
    have HY := hid hy
    clear hy hG hK hWl hnw hrow hm1 hm2 hm3 hb3 hT hDl hTl hT2 hTlow hT4 hT5 hT3 hT1 hT0 hTD hTW hWX hfm hG0 hR0 HG2 HAT hD hW0
    rw [← HY.out]
    gi_wp2_with fail
    gi_loopw [35] (fun i wx => ∃ (k : Nat) (F : Nat → Nat) (cv ev : Value) (vs : List Value), k ≤ nw ∧ i = .int .i64 k ∧ RowKit.Hid (GI y wx y F cv ev ((W0.take k).map (cntH s.L)) vs ((W0.take k).map (lstH s.L W0))) ∧ RowKit.Hid (Gr2 WA T F wx)) (fun i _ => nw - (intOf i).toNat)
    case atStart => exact ⟨0, _, _, _, _, by omega, rfl, HG0, HR0⟩
    case round =>
      obtain ⟨wx, hwx⟩ : ∃ x, x = wr := ⟨_, rfl⟩
      subst hwx
      obtain ⟨k, F, cv, ev, vs, hk, rfl, HR, HB⟩ := hrel
      by_cases hkn : k < nw
      · have hlt : k < W0.length := by rw [← HNW.out]; exact hkn
        have hx : W0[k]? = some W0[k] := List.getElem?_eq_getElem hlt
        generalize W0[k] = x at hx
        obtain ⟨b, rfl, hTb, hat⟩ := HWX.out (by omega)
        have cx : wx.cell? ⟨b, k, none⟩ = some (.int .u64 x) := (World.cell?_of_block (w := WA) (w' := wx) (a := ⟨b, k, none⟩) (HB.out.at_ hTb)).trans (hat k x hx)
        have hpwx := H.out.blw (HB.out.below HBW.out HTLW.out)
        obtain ⟨ob, hf, hb0⟩ := wls_is (s := s) (x := x) (by rw [← HWL.out]; exact List.mem_of_getElem? hx)
        obtain ⟨hob1, hob2⟩ := fnd_some hf
        have hw : whl s.L x = some ob := by
          rcases whl_cases HSI.out.inv hf with ⟨_, e⟩ | ⟨e, _⟩
          · exact e
          · exact absurd hb0 e
        have hCnt : cntH s.L x = ob.count := by unfold cntH; rw [hf]
        have hLst : lstH s.L W0 x = edgs s.L W0 (lksW s.L ob) := by unfold lstH; rw [hf]
        have hcv := HSI.out.inv.cnt ob hob1
        obtain ⟨cn, hcn⟩ : ∃ cn, cn = ob.count := ⟨_, rfl⟩
        have hfd : Fr (fun _ => False) wx wx.drew := (Fr.refl _ _).drew
        have HCC := hid (Count_some (hpwx.no hfd) HSI.out.inv hw)
        rw [← hcn] at HCC hCnt
        obtain ⟨wd, hwd⟩ : ∃ wd, wd = wx.drew := ⟨_, rfl⟩
        rw [← hwd] at HCC hfd
        have hGd : GI y wd y F cv ev ((W0.take k).map (cntH s.L)) vs ((W0.take k).map (lstH s.L W0)) := HR.out.call (hfd.mono (fun _ e _ => e.elim)) (fun _ _ => rfl)
        have hBd : Gr2 WA T F wd := HB.out.step hfd (fun _ e _ => e.elim) (fun _ _ => rfl)
        have y0 := HR.out.y0
        have p0 := (HB.out.box HT0.out HX0.out).cell
        have y0d := hGd.y0
        have p0d := (hBd.box HT0.out HX0.out).cell
        have hcl : ((W0.take k).map (cntH s.L)).length = k := by rw [List.length_map, List.length_take]; have := HNW.out; omega
        have hvl : vs.length = k := by rw [hGd.l, List.length_map, List.length_take]; have := HNW.out; omega
        have hydl : y < wd.heap.size := hGd.lt
        obtain ⟨w9, hw9⟩ : ∃ w9, w9 = wd.alloc (.cells #[.int .u32 cn] TU32) := ⟨_, rfl⟩
        have hoc : w9.ownsRow y TU32 1 cv (((W0.take k).map (cntH s.L)).map cU).length (((W0.take k).map (cntH s.L)).map cU) := by rw [hw9, List.length_map]; exact hGd.c.alloc _
        obtain ⟨v10, w10, r1, r2, r3, r4⟩ := run_push1 (w := w9) 39 39 TU32 Try.underlying39 infoU32 rfl (by decide) y cv _ (.int .u32 cn) hoc wd.heap.size 1 (by rw [hw9, cell_of_row _ _ 0 _ _ _ (heap_alloc_new wd _)]; rfl) rfl (by rw [List.length_map, hcl]; omega) (by rw [hw9]; simp; omega)
        have hr2 : w10.ownsRow y TU32 1 v10 ((W0.take k).map (cntH s.L) ++ [cn]).length (((W0.take k).map (cntH s.L) ++ [cn]).map cU) := by
          rw [List.map_append, List.length_append]
          rw [List.length_append, List.length_map] at r2
          exact r2
        obtain ⟨va10, vc10, hv10⟩ := own_form2 hr2
        rw [List.length_append, hcl, List.length_singleton] at hv10
        subst hv10
        have hgc := hGd.growC (x := cn) hr2 (by rw [← hw9]; exact r3) (by rw [← hw9]; exact r4)
        have hfr10 : Fr (fun j => cv.ownBlock = some j) wd w10 := by
          have := ((Fr.refl (fun j => cv.ownBlock = some j) wd).alloc (.cells #[.int .u32 cn] TU32)).grown (by rw [← hw9]; exact r3) (fun j hj _ => hj)
          exact this
        have hB10 : Gr2 WA T (nlb F wd.heap.size 2) w10 := hBd.step hfr10 (fun j hj _ => by rw [hGd.lc j hj]; decide) (fun j hj => nlb_lt hj)
        have hB9 : Gr2 WA T (nlb F wd.heap.size 2) w9 := hBd.step (fp := fun _ => False) (by rw [hw9]; exact (Fr.refl _ _).alloc _) (fun _ e _ => e.elim) (fun j hj => nlb_lt hj)
        have hS9 : w9.cell? ⟨y, 0, none⟩ = some cv ∧ w9.cell? ⟨w.heap.size, 0, none⟩ = some (.pointer (some ⟨p, 0, none⟩)) := by
          refine ⟨?_, (hB9.box HT0.out HX0.out).cell⟩
          rw [hw9]
          exact (World.cell?_of_block (w := wd) (w' := wd.alloc (.cells #[.int .u32 cn] TU32)) (a := ⟨y, 0, none⟩) (Below.heap_alloc _ _ _ hydl)).trans y0d
        have z10 := frozen_of_row w10 y 0 _ _ hgc.1
        have hd10 : w10.cell? ⟨y, 0, none⟩ = some cv := by rw [cell_of_row w10 y 0 _ _ _ hgc.1]; rfl
        have hp10 := (hB10.box HT0.out HX0.out).cell
        obtain ⟨wf, hwf⟩ : ∃ wf, wf = w10.setCell ⟨y, 0, none⟩ (.slice va10 (k + 1) vc10) := ⟨_, rfl⟩
        have hgf := hgc.2
        rw [← hwf] at hgf
        have hBf : Gr2 WA T (nlb F wd.heap.size 2) wf := hB10.step (fp := fun j => j = y) (by rw [hwf]; exact (Fr.refl _ _).setCell _ _ (fun _ => rfl)) (fun j hj _ => by rw [hj, nlb_lt hydl, hGd.ly]; decide) (fun _ _ => rfl)
        obtain ⟨F5, hF5⟩ : ∃ F5, F5 = nlb F wd.heap.size 2 := ⟨_, rfl⟩
        rw [← hF5] at hgf hBf
        have HGF := hid hgf.1
        have HBF := hid hBf
        have HS9 := hid hS9
        have HS10 := hid (show w10.cell? ⟨y, 0, none⟩ = some cv ∧ w10.cell? ⟨w.heap.size, 0, none⟩ = some (.pointer (some ⟨p, 0, none⟩)) from ⟨hd10, hp10⟩)
        have R1 := hid r1
        have HW9 := hid hw9
        have HWF := hid hwf
        have HWD := hid hwd
        have HLST := hid hLst
        have HCNT := hid hCnt
        have HX2 := hid hx
        have HVL := hid hvl
        have HOB := hid hob1
        have HOH := hid hob2
        have HOZ := hid hb0
        clear hx hf hob1 hob2 hb0 hw hCnt hLst hcv hcn hwd hfd hGd hBd hcl hvl hw9 hoc r1 r2 r3 r4 hr2 hgc hfr10 hB10 hB9 hS9 hp10 hwf hgf hBf hF5 hat hTb hlt hpwx y0d p0d
        gi_upto_region 13 with (fail)
        refine G.wp_region_mix [0, 1, 1, 0, 2, 2, 2, 0, 3] (fun W => W.cell? ⟨y, 0, none⟩ = some cv ∧ W.cell? ⟨w.heap.size, 0, none⟩ = some (.pointer (some ⟨p, 0, none⟩))) (by kernel_rfl) (by kernel_rfl) ⟨y0, p0⟩ ?_
        repeat (first
          | (refine' E.wpMix_value _ rfl rfl _ _; rotate_left; (solve | (intro W; go_simp) | (intro W; go_simp; with_reducible rfl)); simp only [Act.put, List.setIfInBounds_toArray, List.set_cons_zero, List.set_cons_succ])
          | (refine' E.wpMix_read _ rfl rfl _ _; rotate_left; (solve | (rintro W ⟨h1, h2⟩; go_simp) | (rintro W ⟨h1, h2⟩; go_simp; with_reducible rfl)); simp only [Act.put, List.setIfInBounds_toArray, List.set_cons_zero, List.set_cons_succ]))
        rw [← HWD.out]
        refine E.wpMix_call 26 #[.pointer (some ⟨p, 0, none⟩), .int .u64 x] (by decide) rfl (by go_simp) ?_
        refine HCC.out.mono ?_
        rintro e w' ⟨rfl, rfl⟩
        refine ⟨_, rfl, fun _ => ?_, ?_⟩
        · rw [HWD.out]; exact ⟨y0, p0⟩
        simp only [Act.put, List.setIfInBounds_toArray, List.set_cons_zero, List.set_cons_succ]
        refine E.wpMix_write (.slice (some ⟨wd.heap.size, 0, none⟩) 1 1) w9 (by decide) rfl (by rw [HW9.out]; exact exec_mkU rfl rfl ⟨_, rfl⟩) (fun _ => HS9.out) ?_
        simp only [Act.put, List.setIfInBounds_toArray, List.set_cons_zero, List.set_cons_succ]
        refine E.wpMix_write (.slice va10 (k + 1) vc10) w10 (by decide) rfl (exec_app rfl rfl rfl R1.out) (fun _ => HS10.out) ?_
        simp only [Act.put, List.setIfInBounds_toArray, List.set_cons_zero, List.set_cons_succ]
        refine E.wpMix_value (.pointer (some ⟨y, 0, none⟩)) rfl rfl (fun W => by go_simp) ?_
        simp only [Act.put, List.setIfInBounds_toArray, List.set_cons_zero, List.set_cons_succ]
        refine E.wpMix_skip (w10.setCell ⟨y, 0, none⟩ (.slice va10 (k + 1) vc10)) (by decide) rfl (by go_simp) (fun h => by cases h) ?_
        simp only [Act.put]
        refine E.wpMix_end ?_
        rw [← HWF.out]
        clear z10 hd10 y0 p0 HWF HW9 HWD HS9 HS10 R1 HCC
        obtain ⟨wg, hwg⟩ : ∃ wg, wg = wf.drew := ⟨_, rfl⟩
        have hfg : Fr (fun _ => False) wf wg := by rw [hwg]; exact (Fr.refl _ _).drew
        have hGg : GI y wg y F5 (.slice va10 (k + 1) vc10) ev ((W0.take k).map (cntH s.L) ++ [cn]) vs ((W0.take k).map (lstH s.L W0)) := HGF.out.call (hfg.mono (fun _ e _ => e.elim)) (fun _ _ => rfl)
        have hBg : Gr2 WA T F5 wg := HBF.out.step hfg (fun _ e _ => e.elim) (fun _ _ => rfl)
        have y1 := HGF.out.y1
        have p0 := (HBF.out.box HT0.out HX0.out).cell
        have m0 := (HBF.out.box HT5.out HX5.out).cell
        have hbel := hBg.below HBW.out HTLW.out
        have hpg := H.out.blw hbel
        have hLl := HSI.out.len
        have hin := inners_len HSI.out.inv HOB.out
        have hlk := lksT_len HSI.out.inv HOB.out ob.inners.length
        rw [lksT_all] at hlk
        have HCE := hid ((callsIn_wide (n := 6)).1 (edges_in 6 (by omega) hpg HSI.out.inv HOB.out HOZ.out (hBg.map HT4.out HMP.out) HMO.out HFM.out (by omega) (by omega)))
        rw [HOH.out, ← HLST.out] at HCE
        have HWG := hid hwg
        have HGG := hid hGg
        have HBG := hid hBg
        obtain ⟨El, hE⟩ : ∃ El, El = lstH s.L W0 x := ⟨_, rfl⟩
        rw [← hE] at HCE
        have HE := hid hE
        clear hwg hfg hGg hBg hbel hpg hLl hin hlk hE
        gi_upto_region 14 with (fail)
        refine G.wp_region_mix [0, 1, 1, 0, 1, 2, 2, 2, 0, 3] (fun W => W.cell? ⟨y, 1, none⟩ = some ev ∧ W.cell? ⟨w.heap.size, 0, none⟩ = some (.pointer (some ⟨p, 0, none⟩)) ∧ W.cell? ⟨w.heap.size + 5, 0, none⟩ = some (.map (some (w.heap.size + 4)))) (by kernel_rfl) (by kernel_rfl) ⟨y1, p0, m0⟩ ?_
        repeat (first
          | (refine' E.wpMix_value _ rfl rfl _ _; rotate_left; (solve | (intro W; go_simp) | (intro W; go_simp; with_reducible rfl)); simp only [Act.put, List.setIfInBounds_toArray, List.set_cons_zero, List.set_cons_succ])
          | (refine' E.wpMix_read _ rfl rfl _ _; rotate_left; (solve | (rintro W ⟨h1, h2, h3⟩; go_simp) | (rintro W ⟨h1, h2, h3⟩; go_simp; with_reducible rfl)); simp only [Act.put, List.setIfInBounds_toArray, List.set_cons_zero, List.set_cons_succ]))
        rw [← HWG.out]
        refine E.wpMix_call 46 #[.pointer (some ⟨p, 0, none⟩), .int .u64 x, .map (some (w.heap.size + 4))] (by decide) rfl (by go_simp) ?_
        refine HCE.out.mono ?_
        rintro e wh ⟨hbh, ve, rfl, hre⟩
        obtain ⟨ea, ec, hea⟩ := own_form2 hre
        obtain ⟨ne, hne⟩ : ∃ ne, ne = El.length := ⟨_, rfl⟩
        rw [← hne] at hre hea
        subst hea
        have hGh : GI y wh y (nlb F5 wg.heap.size 6) (.slice va10 (k + 1) vc10) ev ((W0.take k).map (cntH s.L) ++ [cn]) vs ((W0.take k).map (lstH s.L W0)) := HGG.out.call (Fr.of_below hbh) (fun j hj => nlb_lt hj)
        have hBh : Gr2 WA T (nlb F5 wg.heap.size 6) wh := HBG.out.step (Fr.of_below (fp := fun _ => False) hbh) (fun _ e _ => e.elim) (fun j hj => nlb_lt hj)
        have hEd : Ed wh (nlb F5 wg.heap.size 6) (.slice ea ne ec) El := by
          obtain ⟨a3, c3, e3, h1, h2, h3⟩ := (tl_own (f := nI) (xs := El) hre).ex
          simp only [Value.slice.injEq] at e3
          obtain ⟨rfl, e4, rfl⟩ := e3
          rw [← e4] at h1 h3
          refine ⟨ea, ec, by rw [← hne], by rw [← hne]; exact h1, h2, fun hp => ?_⟩
          rw [← hne] at hp
          obtain ⟨b3, o3, k1, k2, k3⟩ := h3 hp
          refine ⟨b3, o3, k1, k2, ?_, k3⟩
          subst k1
          have hlt3 : wg.heap.size ≤ b3 := (hre.lt b3 (by
            rcases hre.2 with ⟨q1, q2⟩ | ⟨g, cap, cur, q1, _⟩
            · simp at q1
            · simp only [Value.slice.injEq, Option.some.injEq, Addr.mk.injEq] at q1; rw [q1.1.1]; rfl)).1
          exact nlb_ge hlt3
        have yh1 := hGh.y1
        have ph0 := (hBh.box HT0.out HX0.out).cell
        have mh0 := (hBh.box HT5.out HX5.out).cell
        refine ⟨_, rfl, fun _ => ⟨yh1, ph0, mh0⟩, ?_⟩
        simp only [Act.put, List.setIfInBounds_toArray, List.set_cons_zero, List.set_cons_succ]
        obtain ⟨F6, hF6⟩ : ∃ F6, F6 = nlb F5 wg.heap.size 6 := ⟨_, rfl⟩
        rw [← hF6] at hGh hBh hEd
        have hyhl : y < wh.heap.size := hGh.lt
        obtain ⟨w9, hw9⟩ : ∃ w9, w9 = wh.alloc (.cells #[.slice ea ne ec] TSI) := ⟨_, rfl⟩
        have hoe : w9.ownsRow y TSI 1 ev vs.length vs := by rw [hw9]; exact hGh.e.alloc _
        obtain ⟨v10, w10, r1, r2, r3, r4⟩ := run_push1 (w := w9) 40 40 TSI Try.underlying40 infoSI rfl (by decide) y ev vs (.slice ea ne ec) hoe wh.heap.size 1 (by rw [hw9, cell_of_row _ _ 0 _ _ _ (heap_alloc_new wh _)]; rfl) rfl (by rw [HVL.out]; omega) (by rw [hw9]; simp; omega)
        obtain ⟨va11, vc11, hv11⟩ := own_form2 r2
        rw [List.length_append, HVL.out, List.length_singleton] at hv11
        subst hv11
        have hge := hGh.growE hEd r2 (by rw [← hw9]; exact r3) (by rw [← hw9]; exact r4)
        have hfr10 : Fr (fun j => ev.ownBlock = some j) wh w10 := by
          have := ((Fr.refl (fun j => ev.ownBlock = some j) wh).alloc (.cells #[.slice ea ne ec] TSI)).grown (by rw [← hw9]; exact r3) (fun j hj _ => hj)
          exact this
        have hB10 : Gr2 WA T (nlb F6 wh.heap.size 3) w10 := hBh.step hfr10 (fun j hj _ => by rw [hGh.le j hj]; decide) (fun j hj => nlb_lt hj)
        have hB9 : Gr2 WA T (nlb F6 wh.heap.size 3) w9 := hBh.step (fp := fun _ => False) (by rw [hw9]; exact (Fr.refl _ _).alloc _) (fun _ e _ => e.elim) (fun j hj => nlb_lt hj)
        have hS9 : w9.cell? ⟨y, 1, none⟩ = some ev ∧ w9.cell? ⟨w.heap.size, 0, none⟩ = some (.pointer (some ⟨p, 0, none⟩)) ∧ w9.cell? ⟨w.heap.size + 5, 0, none⟩ = some (.map (some (w.heap.size + 4))) := by
          refine ⟨?_, (hB9.box HT0.out HX0.out).cell, (hB9.box HT5.out HX5.out).cell⟩
          rw [hw9]
          exact (World.cell?_of_block (w := wh) (w' := wh.alloc (.cells #[.slice ea ne ec] TSI)) (a := ⟨y, 1, none⟩) (Below.heap_alloc _ _ _ hyhl)).trans yh1
        have z10 := frozen_of_row w10 y 1 _ _ hge.1
        have hd10 : w10.cell? ⟨y, 1, none⟩ = some ev := by rw [cell_of_row w10 y 1 _ _ _ hge.1]; rfl
        have hS10 : w10.cell? ⟨y, 1, none⟩ = some ev ∧ w10.cell? ⟨w.heap.size, 0, none⟩ = some (.pointer (some ⟨p, 0, none⟩)) ∧ w10.cell? ⟨w.heap.size + 5, 0, none⟩ = some (.map (some (w.heap.size + 4))) := ⟨hd10, (hB10.box HT0.out HX0.out).cell, (hB10.box HT5.out HX5.out).cell⟩
        obtain ⟨wk, hwk⟩ : ∃ wk, wk = w10.setCell ⟨y, 1, none⟩ (.slice va11 (k + 1) vc11) := ⟨_, rfl⟩
        have hgo := hge.2.1
        rw [← hwk] at hgo
        have hBk : Gr2 WA T (nlb F6 wh.heap.size 3) wk := hB10.step (fp := fun j => j = y) (by rw [hwk]; exact (Fr.refl _ _).setCell _ _ (fun _ => rfl)) (fun j hj _ => by rw [hj, nlb_lt hyhl, hGh.ly]; decide) (fun _ _ => rfl)
        rw [show (W0.take k).map (cntH s.L) ++ [cn] = (W0.take (k + 1)).map (cntH s.L) by rw [List.take_add_one, HX2.out, List.map_append, ← HCNT.out]; rfl, show (W0.take k).map (lstH s.L W0) ++ [El] = (W0.take (k + 1)).map (lstH s.L W0) by rw [List.take_add_one, HX2.out, List.map_append, HE.out]; rfl] at hgo
        have HGO := hid hgo
        have HBK := hid hBk
        have HS9 := hid hS9
        have HS10 := hid hS10
        have R1 := hid r1
        have HW9 := hid hw9
        have HWK := hid hwk
        clear hbh hre hGh hBh hEd yh1 ph0 mh0 hF6 hw9 hoe r1 r2 r3 r4 hge hfr10 hB10 hB9 hS9 hS10 hwk hgo hBk hne y1 p0 m0
        refine E.wpMix_write (.slice (some ⟨wh.heap.size, 0, none⟩) 1 1) w9 (by decide) rfl (by rw [HW9.out]; exact exec_mkSI rfl rfl ⟨_, _, _, rfl⟩) (fun _ => HS9.out) ?_
        simp only [Act.put, List.setIfInBounds_toArray, List.set_cons_zero, List.set_cons_succ]
        refine E.wpMix_write (.slice va11 (k + 1) vc11) w10 (by decide) rfl (exec_app rfl rfl rfl R1.out) (fun _ => HS10.out) ?_
        simp only [Act.put, List.setIfInBounds_toArray, List.set_cons_zero, List.set_cons_succ]
        refine E.wpMix_value (.pointer (some ⟨y, 1, none⟩)) rfl rfl (fun W => by go_simp) ?_
        simp only [Act.put, List.setIfInBounds_toArray, List.set_cons_zero, List.set_cons_succ]
        refine E.wpMix_skip (w10.setCell ⟨y, 1, none⟩ (.slice va11 (k + 1) vc11)) (by decide) rfl (by go_simp) (fun h => by cases h) ?_
        simp only [Act.put]
        refine E.wpMix_end ?_
        rw [← HWK.out]
        clear z10 hd10 HWK HW9 HS9 HS10 R1
        gi_wp2_with fail
        go_roundw
        case rel => exact ⟨k + 1, _, _, _, _, by omega, by go_num, HGO, HBK⟩
        case measure => simp [intOf]; omega
      · have hke : k = nw := by omega
        have hg := HR.out
        rw [hke, HNW.out, List.take_length] at hg
        obtain ⟨g1, hg1⟩ : ∃ g1, g1 = w.heap.size + 1 := ⟨_, rfl⟩
        have HONE := hid (show (#[cv, ev] : Array Value).all (·.oneCell') = true by
          obtain ⟨ca, cc, e1⟩ := own_form2 hg.c
          obtain ⟨ea, ec, e2⟩ := own_form2 hg.e
          rw [e1, e2]; simp [Value.oneCell'])
        have hfd : Fr (fun _ => False) wx wx.drew := (Fr.refl _ _).drew
        obtain ⟨wd, hwd⟩ : ∃ wd, wd = wx.drew := ⟨_, rfl⟩
        rw [← hwd] at hfd
        have hGd : GI y wd y F cv ev (W0.map (cntH s.L)) vs (W0.map (lstH s.L W0)) := hg.call (hfd.mono (fun _ e _ => e.elim)) (fun _ _ => rfl)
        have hBd : Gr2 WA T F wd := HB.out.step hfd (fun _ e _ => e.elim) (fun _ _ => rfl)
        have hyw : wd.heap[y]? = some (.cells #[cv, ev] TGr (0, 0)) := hGd.hy
        have h1w : wd.heap[w.heap.size + 1]? = some (.cells #[.slice none 0 0, .slice none 0 0] TGr (0, 0)) := (hBd.at_ HT1.out).trans HX1.out
        have h3w := (hBd.box HT3.out HX3.out).cell
        have hKw : wd.heap[D]? = some (.deferred (some [])) := (hBd.at_ HTD.out).trans HK.out
        have hrw : wd.ownsRow (w.heap.size + 7) TU 1 (.slice wa nw wc) nw (W0.map u64v) := hBd.fr.owns HROW.out (fun j hj e => e (HTW.out j hj))
        have hlv : (loadVar 42 ⟨y, 0, none⟩).run Try.prog wd = .ok (.agg #[cv, ev]) wd := run_loadVar_row wd y TGr 42 #[cv, ev] (0, 0) _ hyw Try.underlying42 rfl (by kernel_rfl)
        have hfz0 : Fr (fun b => b = w.heap.size + 1) wd (wd.setRow (w.heap.size + 1) #[cv, ev]) := ⟨rfl, rfl, rfl, by simp [World.setRow], fun k _ hk => setRow_other wd _ k _ hk⟩
        have hyz : (wd.setRow (w.heap.size + 1) #[cv, ev]).heap[y]? = some (.cells #[cv, ev] TGr (0, 0)) := (hfz0.block y hGd.lt (by have := HY.out; omega)).trans hyw
        have HSZ := hid (show (loadVar 42 ⟨y, 0, none⟩).run Try.prog (wd.setRow (w.heap.size + 1) #[cv, ev]) = .ok (.agg #[cv, ev]) (wd.setRow (w.heap.size + 1) #[cv, ev]) ∧ (wd.setRow (w.heap.size + 1) #[cv, ev]).cell? ⟨w.heap.size + 3, 0, none⟩ = some (.slice wa nw wc) from ⟨run_loadVar_row _ y TGr 42 #[cv, ev] (0, 0) _ hyz Try.underlying42 rfl (by kernel_rfl), (World.cell?_of_block (w := wd) (w' := wd.setRow (w.heap.size + 1) #[cv, ev]) (a := ⟨w.heap.size + 3, 0, none⟩) (hfz0.block _ (World.block_lt_of_cell? wd _ h3w) (by simp))).trans h3w⟩)
        have HGD := hid hGd
        have HBD := hid hBd
        have HH1 := hid h1w
        have HKW := hid hKw
        have HRW := hid hrw
        have HLV := hid hlv
        have HWD := hid hwd
        have HYW := hid hyw
        clear hfz0 hyz hg hfd hwd hGd hBd hyw h1w hKw hrw hlv HR HB hke
        gi_upto_region 16 with (fail)
        refine G.wp_region_mix [1, 1, 2, 0] (fun W => (loadVar 42 ⟨y, 0, none⟩).run Try.prog W = .ok (.agg #[cv, ev]) W ∧ W.cell? ⟨w.heap.size + 3, 0, none⟩ = some (.slice wa nw wc)) (by kernel_rfl) (by kernel_rfl) (by rw [← HWD.out]; exact ⟨HLV.out, h3w⟩) ?_
        rw [← HWD.out]
        refine E.wpMix_read (.agg #[cv, ev]) rfl rfl (fun W hS => exec_load_row rfl y #[cv, ev] rfl hS.1) ?_
        simp only [Act.put, List.setIfInBounds_toArray, List.set_cons_zero, List.set_cons_succ]
        refine E.wpMix_read (.slice wa nw wc) rfl rfl (fun W hS => by have h9 := hS.2; go_simp) ?_
        simp only [Act.put, List.setIfInBounds_toArray, List.set_cons_zero, List.set_cons_succ]
        refine E.wpMix_skip (wd.setRow (w.heap.size + 1) #[cv, ev]) (by decide) rfl (exec_store_row 42 (.tmp 2) (.tmp 57) rfl (w.heap.size + 1) #[cv, ev] rfl rfl TGr #[.slice none 0 0, .slice none 0 0] HH1.out (by kernel_rfl) rfl HONE.out) (fun _ => HSZ.out) ?_
        simp only [Act.put]
        refine E.wpMix_value (.slice wa nw wc) rfl rfl (fun W => by go_simp) ?_
        simp only [Act.put, List.setIfInBounds_toArray, List.set_cons_zero, List.set_cons_succ]
        refine E.wpMix_end ?_
        obtain ⟨wz, hwz⟩ : ∃ wz, wz = wd.setRow (w.heap.size + 1) #[cv, ev] := ⟨_, rfl⟩
        rw [← hwz]
        have HWZ := hid hwz
        clear hwz h3w
        gi_wp2
        have hfz : Fr (fun b => b = w.heap.size + 1) wd wz := by rw [HWZ.out]; exact ⟨rfl, rfl, rfl, by simp [World.setRow], fun k _ hk => setRow_other wd _ k _ hk⟩
        have hgz : wz.heap[w.heap.size + 1]? = some (.cells #[cv, ev] TGr (0, 0)) := by rw [HWZ.out]; exact setRow_heap _ _ _ _ _ (0, 0) HH1.out
        have hKz : wz.heap[D]? = some (.deferred (some [])) := (hfz.block D (Array.getElem?_eq_some_iff.1 HKW.out).1 (by omega)).trans HKW.out
        refine ⟨by simp, .inl ⟨_, _, rfl, run_takeDeferred hKz, ?_⟩⟩
        have hfD : Fr (fun b => b = D) wz (wz.putObj D (.deferred none)) := (Fr.refl _ _).grown (grownBy_putObj' _ _ _) (fun k hk _ => by cases hk; rfl)
        have hgD : (wz.putObj D (.deferred none)).heap[w.heap.size + 1]? = some (.cells #[cv, ev] TGr (0, 0)) := (hfD.block _ (Array.getElem?_eq_some_iff.1 hgz).1 (by omega)).trans hgz
        have hGz := (HGD.out.apart hfz (HBD.out.ft _ HT1.out)).apart hfD (HBD.out.ft _ HTD.out)
        have hrz := hfD.owns (hfz.owns HRW.out (fun k hk e => by have := (HRW.out.lt k hk).1; omega)) (fun k hk e => by
          rcases HRW.out.2 with ⟨q1, _⟩ | ⟨g, cap, cur, q1, _, q3, _⟩
          · rw [q1] at hk; cases hk
          · rw [q1] at hk
            cases hk
            simp only at e
            rw [e, HKW.out] at q3
            cases q3)
        refine ⟨.tuple #[.agg #[cv, ev], .slice wa nw wc], ?_, cv, ev, _, rfl, ?_, ?_, ?_⟩
        · exact results_cell_tmp (fn := Try.f17) (p := 2) (q := 3) rfl _ _ (w.heap.size + 1) TGr #[cv, ev] (0, 0) _ rfl hgD Try.underlying42 rfl (by kernel_rfl)
        · rw [← HWL.out]; exact tl_own hrz
        · rw [← HWL.out]; exact hGz.told
        · have hb := HBD.out.below HBW.out HTLW.out
          exact (hb.trans (hfz.below hb.size (fun k hk => by omega))).trans (hfD.below (Nat.le_trans hb.size hfz.size) (fun k hk => by omega))
  case stop => rintro D c pre W _ _ h; exact h.elim
end
/-- The contract of the program's Graph. -/
theorem graphC : GraphC := fun S w v s h hm => by
  obtain ⟨p, pa, Sa, AA, F, B, rfl, h1, h2, h3, _⟩ := h
  exact (callsIn_wide (n := 6)).1 (Graph_in 6 (by omega) s h1 h2 h3 hm)
end Go.Proofs.Ytmkajdfajcodjaa
