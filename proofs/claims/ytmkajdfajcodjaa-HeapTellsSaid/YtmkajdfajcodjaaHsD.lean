/- HrL HrM HsD in one -/
import Derived.Test.YtmkajdfajcodjaaHrK
import Derived.Test.YtmkajdfajcodjaaHsC
namespace Go.Proofs.Ytmkajdfajcodjaa
open Go Go.ChangeShapes Go.WideShapes Go.ChangeAt Go.RowKit

section
variable {w w' : World} {p pa : Nat} {Sa : Nat → Prop} {A A' : Ar} {F : Nat → Lab} {B : Int → Nat} {top : Int} {L : HL} {lv : Value}
set_option maxRecDepth 100000 in
set_option maxHeartbeats 4000000 in
theorem RPut_oth (h : RhW w p pa Sa A F B top L lv) (hf : ∀ o ∈ L, ∃ i sp, Found A o.h i sp) (hi : HIn top L) (htop : top ≤ 4294967295) (hl : L.length ≤ 65536) {o : Ob} (ho : o ∈ L) {j : Nat} (hj : j < o.links.length) {old x : Lk} (hold : o.links[j]? = some old) (hxb : Nm x.kind ∧ Hn x.h) (hk : (x.kind = 0 ∧ x.h = 0) ∨ x.kind = 2) :
    Calls Try.prog 41 #[.pointer (some ⟨p, 0, none⟩), .int .u64 o.h, .int .i64 j, .agg #[.int .i64 x.kind, .int .u64 x.h]] w (REndPost w p pa A F B top (Go.Proofs.Ytmkajdfajcodjaa.setl L o.h j x) old) := by
  obtain ⟨w1, hw1⟩ : ∃ w1, w1 = w.alloc (.cells #[.int .i64 x.kind, .int .u64 x.h] TLk) := ⟨_, rfl⟩
  have hb1 : Below w.heap.size w w1 := by rw [hw1]; exact (Below.refl _ _).alloc (Nat.le_refl _) _
  obtain ⟨F0, hF0⟩ : ∃ F0, F0 = nw F w.heap.size outL := ⟨_, rfl⟩
  have h1 : RhW w1 p pa Sa A F0 B top L lv := h.fr (fp := fun _ => False) (Fr.of_below hb1) (fun e => e) (fun _ _ e => e) (fun _ _ e => e) (fun _ _ _ _ _ e => e) (fun _ hk => by rw [hF0]; exact nw_lt hk)
  have HF := hid (RFind_some h1 (by omega) (fnd_mem hi.nd ho))
  obtain ⟨sv, iv, hob⟩ := h1.ob o ho
  have c4 := hob.c4
  obtain ⟨sa, sc, rfl⟩ := own_form hob.hs
  have b0 : w1.cell? ⟨w.heap.size, 0, none⟩ = some (.int .i64 x.kind) := by rw [hw1, cell_of_row _ _ 0 _ _ _ (heap_alloc_new _ _)]; rfl
  have b1 : w1.cell? ⟨w.heap.size, 1, none⟩ = some (.int .u64 x.h) := by rw [hw1, cell_of_row _ _ 1 _ _ _ (heap_alloc_new _ _)]; rfl
  have hbx : w1.heap[w.heap.size]? = some (.cells #[.int .i64 x.kind, .int .u64 x.h] TLk (0, 0)) := by rw [hw1]; exact heap_alloc_new _ _
  have hoi := hi.lnk o ho
  have d0 : decide ((j : Int) < 0) = false := by simp
  have d1 : decide ((o.links.length : Int) ≤ (j : Int)) = false := by simp; omega
  have dk : (x.kind == 1) = false := by simp; omega
  have d3 : decide (x.kind < 0) = false := by simp; omega
  have d4 : decide (2 < x.kind) = false := by simp; omega
  have d5 : (x.kind == 0 && x.h != 0) = false := by
    rcases hk with ⟨e1, e2⟩ | e <;> simp [*]
  obtain ⟨oh, hoh⟩ : ∃ y, y = o.h := ⟨_, rfl⟩
  rw [← hoh] at HF c4 ⊢
  have HOLD := hid hold
  have HBOLD := hid (hoi.2 old (List.mem_of_getElem? hold))
  have HJ := hid hj
  have HXB := hid hxb
  have HTOP := hid htop
  have HFO := hid hf
  have HLT0 := hid hl
  have HI := hid hi
  have HO := hid ho
  have HOH := hid hoh
  have HH1 := hid h1
  have HBX := hid hbx
  have HW1 := hid hw1
  have HB1 := hid hb1
  have HFX := hid (show F0 w.heap.size = outL by rw [hF0]; exact nw_ge (Nat.le_refl _))
  have HAG0 := hid (show ∀ k, k < w.heap.size → F0 k = F k from fun k hk => by rw [hF0]; exact nw_lt hk)
  clear hob hold hoi hj hxb htop hf hl hi ho hoh h1 hbx hw1 hb1 hF0 h
  go_enter Try.func41, Try.ntmps41
  go_upto_region 1 with fail
  rw [← HW1.out]
  have hg : ((x.kind == 0) = true ∧ (x.h != 0) = false) ∨ (x.kind == 0) = false := by
    rcases hk with ⟨e1, e2⟩ | e
    · exact .inl ⟨by simpa using e1, by simpa using e2⟩
    · right; simp; omega
  clear hk d5
  rcases hg with ⟨g0', g9'⟩ | g0'
  · skip
    go_upto_region 10 with (go_at_call 43; refine HF.out.mono ?_; rintro e w0 ⟨rfl, rfl⟩)
    obtain ⟨wt, hwt⟩ : ∃ wt, wt = w1 := ⟨_, rfl⟩
    obtain ⟨Lt, hLt⟩ : ∃ Lt, Lt = L := ⟨_, rfl⟩
    obtain ⟨o1, ho1⟩ : ∃ o1, o1 = o := ⟨_, rfl⟩
    have HT := hid (show RhW wt p pa Sa A F0 B top Lt lv by rw [hwt, hLt]; exact HH1.out)
    have HIT := hid (show HIn top Lt by rw [hLt]; exact HI.out)
    have HOT := hid (show o1 ∈ Lt by rw [hLt, ho1]; exact HO.out)
    have EOH := hid (show o1.h = oh by rw [ho1]; exact HOH.out.symm)
    have EOL := hid (show o1.links = o.links by rw [ho1])
    have HBT := hid (show wt.heap[w.heap.size]? = some (.cells #[.int .i64 x.kind, .int .u64 x.h] TLk (0, 0)) by rw [hwt]; exact HBX.out)
    have HFT := hid (show FrF F w wt by rw [hwt]; exact Fr.of_below HB1.out)
    have HLT := hid (show Lt.length ≤ 65536 by rw [hLt]; exact HLT0.out)
    have HFOT := hid (show ∀ z ∈ Lt, ∃ i sp, Found A z.h i sp by rw [hLt]; exact HFO.out)
    have HZ := hid (show ∀ z ∈ Lt, 1 ≤ z.h from fun z hz => (HIT.out.nz z hz).1)
    rw [← hwt] at b0 b1 ⊢
    have HLTE := hid hLt
    clear hwt hLt ho1 HFO
    have ht := HT.out
    have hot := HOT.out
    obtain ⟨sv, iv, hob⟩ := ht.ob o1 hot
    have hrow := hob.hs
    obtain ⟨sb, sc, hsv, _⟩ := hrow.form (by rw [EOL.out]; have := HJ.out; omega)
    subst hsv
    rw [EOL.out] at hrow
    have hjl := HJ.out
    have c4 := hob.c4
    rw [EOL.out, EOH.out] at c4
    have m0 : wt.cell? ⟨sb, j * 2, none⟩ = some (.int .i64 old.kind) := by rw [hrow.cellAt _ (by omega)]; exact (lkv_at o.links j old HOLD.out).1
    have m1 : wt.cell? ⟨sb, j * 2 + 1, none⟩ = some (.int .u64 old.h) := by rw [hrow.cellAt _ (by omega)]; exact (lkv_at o.links j old HOLD.out).2
    have hsbl := (hrow.lt sb rfl).2
    have hxl : w.heap.size < wt.heap.size := (Array.getElem?_eq_some_iff.1 HBT.out).1
    have hnx : sb ≠ w.heap.size := fun e => by
      have := hob.fs sb rfl
      rw [e, HFX.out] at this
      have := congrArg Prod.fst this
      have hz := HZ.out o1 hot
      simp [outL] at this
      omega
    obtain ⟨wo, hwo⟩ : ∃ wo, wo = wt.alloc (.cells #[.int .i64 old.kind, .int .u64 old.h] TLk) := ⟨_, rfl⟩
    have hbo : Below wt.heap.size wt wo := by rw [hwo]; exact (Below.refl _ _).alloc (Nat.le_refl _) _
    have hobo : RoC wo F0 (B o1.h) (.slice (some ⟨sb, 0, none⟩) o1.links.length sc) iv o1 := hob.fr (fp := fun _ => False) (Fr.of_below hbo) (fun _ _ _ e => e) (fun _ _ => rfl)
    have hto : RhW wo p pa Sa A F0 B top Lt lv := ht.fr (fp := fun _ => False) (Fr.of_below hbo) (fun e => e) (fun _ _ e => e) (fun _ _ e => e) (fun _ _ _ _ _ e => e) (fun _ _ => rfl)
    have HWO := hid hwo
    have HBO := hid hbo
    have HOBO := hid hobo
    have HTO := hid hto
    generalize hn : o.links.length = n at *
    have HNN := hid hn
    clear ht hot hob hrow hwo hbo hobo hto hn
    go_upto_region 11 with fail
    rw [← HWO.out]
    clear m0 m1 c4 b0 b1
    have q0 : wo.cell? ⟨B oh, 4, none⟩ = some (.slice (some ⟨sb, 0, none⟩) n sc) := by
      have := HOBO.out.c4
      rw [EOH.out, EOL.out, HNN.out] at this
      exact this
    have hbxo := (HBO.out.block _ hxl).trans HBT.out
    have q1 : wo.cell? ⟨w.heap.size, 0, none⟩ = some (.int .i64 x.kind) := by rw [cell_of_row _ _ 0 _ _ _ hbxo]; rfl
    have q2 : wo.cell? ⟨w.heap.size, 1, none⟩ = some (.int .u64 x.h) := by rw [cell_of_row _ _ 1 _ _ _ hbxo]; rfl
    have hro := HOBO.out.hs
    rw [EOL.out, HNN.out] at hro
    have hjn : j < n := HJ.out
    have e1 : wo.cell? ⟨sb, j * 2, none⟩ = some (.int .i64 old.kind) := by rw [hro.cellAt _ (by omega)]; exact (lkv_at o.links j old HOLD.out).1
    have e2 : wo.cell? ⟨sb, j * 2 + 1, none⟩ = some (.int .u64 old.h) := by rw [hro.cellAt _ (by omega)]; exact (lkv_at o.links j old HOLD.out).2
    have z1 := hro.frozenAt (j * 2)
    have z2 := hro.frozenAt (j * 2 + 1)
    have ho0 : wo.heap[wt.heap.size]? = some (.cells #[.int .i64 old.kind, .int .u64 old.h] TLk (0, 0)) := by rw [HWO.out]; exact heap_alloc_new _ _
    have HOO := hid ho0
    clear hbxo hro ho0
    refine wp_region_mix [0, 0, 0, 1, 0, 1, 0, 3] (fun W => W.cell? ⟨B oh, 4, none⟩ = some (.slice (some ⟨sb, 0, none⟩) n sc) ∧ W.cell? ⟨w.heap.size, 0, none⟩ = some (.int .i64 x.kind) ∧ W.cell? ⟨w.heap.size, 1, none⟩ = some (.int .u64 x.h)) (by kernel_rfl) (by kernel_rfl) ⟨by simpa using q0, by simpa using q1, by simpa using q2⟩ ?_
    repeat (first
      | (refine' wpMix_value _ rfl rfl _ _; rotate_left; (solve | (intro W; go_simp) | (intro W; go_simp; with_reducible rfl)); simp only [Act.put, List.setIfInBounds_toArray, List.set_cons_zero, List.set_cons_succ])
      | (refine' wpMix_read _ rfl rfl _ _; rotate_left; (solve | (rintro W ⟨h1, h2, h3⟩; go_simp) | (rintro W ⟨h1, h2, h3⟩; go_simp; with_reducible rfl)); simp only [Act.put, List.setIfInBounds_toArray, List.set_cons_zero, List.set_cons_succ]))
    have g1 : wo.drew.cell? ⟨sb, j * 2, none⟩ = some (.int .i64 old.kind) := by simpa using e1
    have g2 : wo.drew.cell? ⟨sb, j * 2 + 1, none⟩ = some (.int .u64 old.h) := by simpa using e2
    refine wpMix_skip ((wo.drew.setCell ⟨sb, j * 2, none⟩ (.int .i64 x.kind)).setCell ⟨sb, j * 2 + 1, none⟩ (.int .u64 x.h)) (by decide) rfl ?nrun1 (fun h => by cases h) ?nrest1
    case nrun1 => go_simp
    simp only [Act.put]
    refine wpMix_end ?_
    have h4 := HTO.out.drewN 1
    have hob4 : RoC (wo.drewN 1) F0 (B o1.h) (.slice (some ⟨sb, 0, none⟩) o1.links.length sc) iv o1 := HOBO.out.fr (fp := fun _ => False) ((Fr.refl _ _).drewN 1) (fun _ _ _ e => e) (fun _ _ => rfl)
    obtain ⟨h5, hf5⟩ := h4.setl HIT.out.nd HOT.out (HZ.out o1 HOT.out) hob4 rfl (by rw [EOL.out, HNN.out]; exact hjn) x
    rw [EOH.out] at h5
    obtain ⟨w5, hw5⟩ : ∃ w5, w5 = (wo.drew.setCell ⟨sb, j * 2, none⟩ (.int .i64 x.kind)).setCell ⟨sb, j * 2 + 1, none⟩ (.int .u64 x.h) := ⟨_, rfl⟩
    change RhW ((wo.drew.setCell ⟨sb, j * 2, none⟩ (.int .i64 x.kind)).setCell ⟨sb, j * 2 + 1, none⟩ (.int .u64 x.h)) p pa Sa A F0 B top (Go.Proofs.Ytmkajdfajcodjaa.setl Lt oh j x) lv at h5
    change Fr (fun k => k = sb) wo.drew ((wo.drew.setCell ⟨sb, j * 2, none⟩ (.int .i64 x.kind)).setCell ⟨sb, j * 2 + 1, none⟩ (.int .u64 x.h)) at hf5
    rw [← hw5] at h5 hf5 ⊢
    have hlab : F0 sb = (o1.h, 1) := HOBO.out.fs sb rfl
    have hz1 := HZ.out o1 HOT.out
    have hff5 : FrF F0 wt w5 := by
      have ha : FrF F0 wt wo := Fr.of_below HBO.out
      exact FrF.trans ha (F1 := F0) (Fr.trans (fp2 := fun k => k = sb) (Fr.refl (fun k => F0 k ≠ outL) wo).drew hf5 (fun k e _ => by rw [e]; exact lab_out hlab (by omega))) (fun _ _ => rfl)
    have hoo5 : w5.heap[wt.heap.size]? = some (.cells #[.int .i64 old.kind, .int .u64 old.h] TLk (0, 0)) := by
      rw [hf5.block _ (Array.getElem?_eq_some_iff.1 HOO.out).1 (by omega)]
      exact HOO.out
    have p0 : w5.cell? ⟨wt.heap.size, 0, none⟩ = some (.int .i64 old.kind) := by rw [cell_of_row _ _ 0 _ _ _ hoo5]; rfl
    have p1 : w5.cell? ⟨wt.heap.size, 1, none⟩ = some (.int .u64 old.h) := by rw [cell_of_row _ _ 1 _ _ _ hoo5]; rfl
    have hi2 := HIT.out.setl oh j x HXB.out
    have hbold := HBOLD.out
    obtain ⟨w6, hw6⟩ : ∃ w6, w6 = w5.alloc (.cells #[.int .i64 old.kind, .int .u64 old.h] TLk) := ⟨_, rfl⟩
    have hb6 : Below w5.heap.size w5 w6 := by rw [hw6]; exact (Below.refl _ _).alloc (Nat.le_refl _) _
    have hll : (Go.Proofs.Ytmkajdfajcodjaa.setl Lt oh j x).length ≤ 65536 := by unfold Go.Proofs.Ytmkajdfajcodjaa.setl; rw [List.length_map]; exact HLT.out
    have hfs : ∀ z ∈ Go.Proofs.Ytmkajdfajcodjaa.setl Lt oh j x, ∃ i sp, Found A z.h i sp := fun z hz => by
      obtain ⟨q, hq, e, _⟩ := setl_mem hz
      rw [e]; exact HFOT.out q hq
    have hgo := RGo_any (h5.go old hw6) hfs hi2 (WQ.nil _) HTOP.out (by intro l hl; simp at hl; subst hl; exact hbold) hll (by simp)
    have HGO := hid hgo
    have HW6 := hid hw6
    have HB6 := hid hb6
    have HFF5 := hid hff5
    clear hgo hw6 hb6 hff5 hoo5 hi2 hbold hll hfs h5 hf5 h4 hob4 hw5 g1 g2 e1 e2 z1 z2 q0 q1 q2 hlab
    go_wp2_with fail
    rw [← HW6.out]
    refine HGO.out.mono ?_
    intro e w7 hp
    obtain ⟨vg, vf, rfl, vg', vf', Lf, g, f2, Sa1, A1, F1, lv1, hq, k1, k2, k3, k4, k5, k6, k7⟩ := GoP.one HB6.out hp
    cases hq
    have HP := hid (show REndPost w p pa A F B top (Go.Proofs.Ytmkajdfajcodjaa.setl Lt oh j x) old (.returned (.tuple #[vg, vf, .int .i64 0])) w7 from ⟨vg, vf, Lf, g, f2, Sa1, A1, F1, lv1, rfl, k1, k2, k3, k4, k5, fun k hk => by
        rw [k6 k (by have := HFF5.out.size; omega)]; exact HAG0.out k hk, FrF.trans (F1 := F0) HFT.out (FrF.trans HFF5.out (F1 := F0) k7 (fun _ _ => rfl)) HAG0.out⟩)
    clear hp k1 k2 k3 k4 k5 k6 k7
    go_wp2
    go_ret3
    have hfin := HP.out
    rw [HLTE.out] at hfin
    exact hfin
  · skip
    go_upto_region 10 with (go_at_call 43; refine HF.out.mono ?_; rintro e w0 ⟨rfl, rfl⟩)
    obtain ⟨wt, hwt⟩ : ∃ wt, wt = w1 := ⟨_, rfl⟩
    obtain ⟨Lt, hLt⟩ : ∃ Lt, Lt = L := ⟨_, rfl⟩
    obtain ⟨o1, ho1⟩ : ∃ o1, o1 = o := ⟨_, rfl⟩
    have HT := hid (show RhW wt p pa Sa A F0 B top Lt lv by rw [hwt, hLt]; exact HH1.out)
    have HIT := hid (show HIn top Lt by rw [hLt]; exact HI.out)
    have HOT := hid (show o1 ∈ Lt by rw [hLt, ho1]; exact HO.out)
    have EOH := hid (show o1.h = oh by rw [ho1]; exact HOH.out.symm)
    have EOL := hid (show o1.links = o.links by rw [ho1])
    have HBT := hid (show wt.heap[w.heap.size]? = some (.cells #[.int .i64 x.kind, .int .u64 x.h] TLk (0, 0)) by rw [hwt]; exact HBX.out)
    have HFT := hid (show FrF F w wt by rw [hwt]; exact Fr.of_below HB1.out)
    have HLT := hid (show Lt.length ≤ 65536 by rw [hLt]; exact HLT0.out)
    have HFOT := hid (show ∀ z ∈ Lt, ∃ i sp, Found A z.h i sp by rw [hLt]; exact HFO.out)
    have HZ := hid (show ∀ z ∈ Lt, 1 ≤ z.h from fun z hz => (HIT.out.nz z hz).1)
    rw [← hwt] at b0 b1 ⊢
    have HLTE := hid hLt
    clear hwt hLt ho1 HFO
    have ht := HT.out
    have hot := HOT.out
    obtain ⟨sv, iv, hob⟩ := ht.ob o1 hot
    have hrow := hob.hs
    obtain ⟨sb, sc, hsv, _⟩ := hrow.form (by rw [EOL.out]; have := HJ.out; omega)
    subst hsv
    rw [EOL.out] at hrow
    have hjl := HJ.out
    have c4 := hob.c4
    rw [EOL.out, EOH.out] at c4
    have m0 : wt.cell? ⟨sb, j * 2, none⟩ = some (.int .i64 old.kind) := by rw [hrow.cellAt _ (by omega)]; exact (lkv_at o.links j old HOLD.out).1
    have m1 : wt.cell? ⟨sb, j * 2 + 1, none⟩ = some (.int .u64 old.h) := by rw [hrow.cellAt _ (by omega)]; exact (lkv_at o.links j old HOLD.out).2
    have hsbl := (hrow.lt sb rfl).2
    have hxl : w.heap.size < wt.heap.size := (Array.getElem?_eq_some_iff.1 HBT.out).1
    have hnx : sb ≠ w.heap.size := fun e => by
      have := hob.fs sb rfl
      rw [e, HFX.out] at this
      have := congrArg Prod.fst this
      have hz := HZ.out o1 hot
      simp [outL] at this
      omega
    obtain ⟨wo, hwo⟩ : ∃ wo, wo = wt.alloc (.cells #[.int .i64 old.kind, .int .u64 old.h] TLk) := ⟨_, rfl⟩
    have hbo : Below wt.heap.size wt wo := by rw [hwo]; exact (Below.refl _ _).alloc (Nat.le_refl _) _
    have hobo : RoC wo F0 (B o1.h) (.slice (some ⟨sb, 0, none⟩) o1.links.length sc) iv o1 := hob.fr (fp := fun _ => False) (Fr.of_below hbo) (fun _ _ _ e => e) (fun _ _ => rfl)
    have hto : RhW wo p pa Sa A F0 B top Lt lv := ht.fr (fp := fun _ => False) (Fr.of_below hbo) (fun e => e) (fun _ _ e => e) (fun _ _ e => e) (fun _ _ _ _ _ e => e) (fun _ _ => rfl)
    have HWO := hid hwo
    have HBO := hid hbo
    have HOBO := hid hobo
    have HTO := hid hto
    generalize hn : o.links.length = n at *
    have HNN := hid hn
    clear ht hot hob hrow hwo hbo hobo hto hn
    go_upto_region 11 with fail
    rw [← HWO.out]
    clear m0 m1 c4 b0 b1
    have q0 : wo.cell? ⟨B oh, 4, none⟩ = some (.slice (some ⟨sb, 0, none⟩) n sc) := by
      have := HOBO.out.c4
      rw [EOH.out, EOL.out, HNN.out] at this
      exact this
    have hbxo := (HBO.out.block _ hxl).trans HBT.out
    have q1 : wo.cell? ⟨w.heap.size, 0, none⟩ = some (.int .i64 x.kind) := by rw [cell_of_row _ _ 0 _ _ _ hbxo]; rfl
    have q2 : wo.cell? ⟨w.heap.size, 1, none⟩ = some (.int .u64 x.h) := by rw [cell_of_row _ _ 1 _ _ _ hbxo]; rfl
    have hro := HOBO.out.hs
    rw [EOL.out, HNN.out] at hro
    have hjn : j < n := HJ.out
    have e1 : wo.cell? ⟨sb, j * 2, none⟩ = some (.int .i64 old.kind) := by rw [hro.cellAt _ (by omega)]; exact (lkv_at o.links j old HOLD.out).1
    have e2 : wo.cell? ⟨sb, j * 2 + 1, none⟩ = some (.int .u64 old.h) := by rw [hro.cellAt _ (by omega)]; exact (lkv_at o.links j old HOLD.out).2
    have z1 := hro.frozenAt (j * 2)
    have z2 := hro.frozenAt (j * 2 + 1)
    have ho0 : wo.heap[wt.heap.size]? = some (.cells #[.int .i64 old.kind, .int .u64 old.h] TLk (0, 0)) := by rw [HWO.out]; exact heap_alloc_new _ _
    have HOO := hid ho0
    clear hbxo hro ho0
    refine wp_region_mix [0, 0, 0, 1, 0, 1, 0, 3] (fun W => W.cell? ⟨B oh, 4, none⟩ = some (.slice (some ⟨sb, 0, none⟩) n sc) ∧ W.cell? ⟨w.heap.size, 0, none⟩ = some (.int .i64 x.kind) ∧ W.cell? ⟨w.heap.size, 1, none⟩ = some (.int .u64 x.h)) (by kernel_rfl) (by kernel_rfl) ⟨by simpa using q0, by simpa using q1, by simpa using q2⟩ ?_
    repeat (first
      | (refine' wpMix_value _ rfl rfl _ _; rotate_left; (solve | (intro W; go_simp) | (intro W; go_simp; with_reducible rfl)); simp only [Act.put, List.setIfInBounds_toArray, List.set_cons_zero, List.set_cons_succ])
      | (refine' wpMix_read _ rfl rfl _ _; rotate_left; (solve | (rintro W ⟨h1, h2, h3⟩; go_simp) | (rintro W ⟨h1, h2, h3⟩; go_simp; with_reducible rfl)); simp only [Act.put, List.setIfInBounds_toArray, List.set_cons_zero, List.set_cons_succ]))
    have g1 : wo.drew.cell? ⟨sb, j * 2, none⟩ = some (.int .i64 old.kind) := by simpa using e1
    have g2 : wo.drew.cell? ⟨sb, j * 2 + 1, none⟩ = some (.int .u64 old.h) := by simpa using e2
    refine wpMix_skip ((wo.drew.setCell ⟨sb, j * 2, none⟩ (.int .i64 x.kind)).setCell ⟨sb, j * 2 + 1, none⟩ (.int .u64 x.h)) (by decide) rfl ?nrun2 (fun h => by cases h) ?nrest2
    case nrun2 => go_simp
    simp only [Act.put]
    refine wpMix_end ?_
    have h4 := HTO.out.drewN 1
    have hob4 : RoC (wo.drewN 1) F0 (B o1.h) (.slice (some ⟨sb, 0, none⟩) o1.links.length sc) iv o1 := HOBO.out.fr (fp := fun _ => False) ((Fr.refl _ _).drewN 1) (fun _ _ _ e => e) (fun _ _ => rfl)
    obtain ⟨h5, hf5⟩ := h4.setl HIT.out.nd HOT.out (HZ.out o1 HOT.out) hob4 rfl (by rw [EOL.out, HNN.out]; exact hjn) x
    rw [EOH.out] at h5
    obtain ⟨w5, hw5⟩ : ∃ w5, w5 = (wo.drew.setCell ⟨sb, j * 2, none⟩ (.int .i64 x.kind)).setCell ⟨sb, j * 2 + 1, none⟩ (.int .u64 x.h) := ⟨_, rfl⟩
    change RhW ((wo.drew.setCell ⟨sb, j * 2, none⟩ (.int .i64 x.kind)).setCell ⟨sb, j * 2 + 1, none⟩ (.int .u64 x.h)) p pa Sa A F0 B top (Go.Proofs.Ytmkajdfajcodjaa.setl Lt oh j x) lv at h5
    change Fr (fun k => k = sb) wo.drew ((wo.drew.setCell ⟨sb, j * 2, none⟩ (.int .i64 x.kind)).setCell ⟨sb, j * 2 + 1, none⟩ (.int .u64 x.h)) at hf5
    rw [← hw5] at h5 hf5 ⊢
    have hlab : F0 sb = (o1.h, 1) := HOBO.out.fs sb rfl
    have hz1 := HZ.out o1 HOT.out
    have hff5 : FrF F0 wt w5 := by
      have ha : FrF F0 wt wo := Fr.of_below HBO.out
      exact FrF.trans ha (F1 := F0) (Fr.trans (fp2 := fun k => k = sb) (Fr.refl (fun k => F0 k ≠ outL) wo).drew hf5 (fun k e _ => by rw [e]; exact lab_out hlab (by omega))) (fun _ _ => rfl)
    have hoo5 : w5.heap[wt.heap.size]? = some (.cells #[.int .i64 old.kind, .int .u64 old.h] TLk (0, 0)) := by
      rw [hf5.block _ (Array.getElem?_eq_some_iff.1 HOO.out).1 (by omega)]
      exact HOO.out
    have p0 : w5.cell? ⟨wt.heap.size, 0, none⟩ = some (.int .i64 old.kind) := by rw [cell_of_row _ _ 0 _ _ _ hoo5]; rfl
    have p1 : w5.cell? ⟨wt.heap.size, 1, none⟩ = some (.int .u64 old.h) := by rw [cell_of_row _ _ 1 _ _ _ hoo5]; rfl
    have hi2 := HIT.out.setl oh j x HXB.out
    have hbold := HBOLD.out
    obtain ⟨w6, hw6⟩ : ∃ w6, w6 = w5.alloc (.cells #[.int .i64 old.kind, .int .u64 old.h] TLk) := ⟨_, rfl⟩
    have hb6 : Below w5.heap.size w5 w6 := by rw [hw6]; exact (Below.refl _ _).alloc (Nat.le_refl _) _
    have hll : (Go.Proofs.Ytmkajdfajcodjaa.setl Lt oh j x).length ≤ 65536 := by unfold Go.Proofs.Ytmkajdfajcodjaa.setl; rw [List.length_map]; exact HLT.out
    have hfs : ∀ z ∈ Go.Proofs.Ytmkajdfajcodjaa.setl Lt oh j x, ∃ i sp, Found A z.h i sp := fun z hz => by
      obtain ⟨q, hq, e, _⟩ := setl_mem hz
      rw [e]; exact HFOT.out q hq
    have hgo := RGo_any (h5.go old hw6) hfs hi2 (WQ.nil _) HTOP.out (by intro l hl; simp at hl; subst hl; exact hbold) hll (by simp)
    have HGO := hid hgo
    have HW6 := hid hw6
    have HB6 := hid hb6
    have HFF5 := hid hff5
    clear hgo hw6 hb6 hff5 hoo5 hi2 hbold hll hfs h5 hf5 h4 hob4 hw5 g1 g2 e1 e2 z1 z2 q0 q1 q2 hlab
    go_wp2_with fail
    rw [← HW6.out]
    refine HGO.out.mono ?_
    intro e w7 hp
    obtain ⟨vg, vf, rfl, vg', vf', Lf, g, f2, Sa1, A1, F1, lv1, hq, k1, k2, k3, k4, k5, k6, k7⟩ := GoP.one HB6.out hp
    cases hq
    have HP := hid (show REndPost w p pa A F B top (Go.Proofs.Ytmkajdfajcodjaa.setl Lt oh j x) old (.returned (.tuple #[vg, vf, .int .i64 0])) w7 from ⟨vg, vf, Lf, g, f2, Sa1, A1, F1, lv1, rfl, k1, k2, k3, k4, k5, fun k hk => by
        rw [k6 k (by have := HFF5.out.size; omega)]; exact HAG0.out k hk, FrF.trans (F1 := F0) HFT.out (FrF.trans HFF5.out (F1 := F0) k7 (fun _ _ => rfl)) HAG0.out⟩)
    clear hp k1 k2 k3 k4 k5 k6 k7
    go_wp2
    go_ret3
    have hfin := HP.out
    rw [HLTE.out] at hfin
    exact hfin
set_option maxRecDepth 100000 in
set_option maxHeartbeats 4000000 in
theorem RPut_obj (h : RhW w p pa Sa A F B top L lv) (hf : ∀ o ∈ L, ∃ i sp, Found A o.h i sp) (hi : HIn top L) (htop : top ≤ 4294967295) (hl : L.length ≤ 65536) {o : Ob} (ho : o ∈ L) {j : Nat} (hj : j < o.links.length) {old x : Lk} (hold : o.links[j]? = some old) (hxb : Nm x.kind ∧ Hn x.h) (hk : x.kind = 1) {y : Ob} (hy : whl L x.h = some y) (ht : y.count ≠ top) :
    Calls Try.prog 41 #[.pointer (some ⟨p, 0, none⟩), .int .u64 o.h, .int .i64 j, .agg #[.int .i64 x.kind, .int .u64 x.h]] w (REndPost w p pa A F B top (Go.Proofs.Ytmkajdfajcodjaa.setl (Go.Proofs.Ytmkajdfajcodjaa.setc L y.h (y.count + 1)) o.h j x) old) := by
  obtain ⟨w1, hw1⟩ : ∃ w1, w1 = w.alloc (.cells #[.int .i64 x.kind, .int .u64 x.h] TLk) := ⟨_, rfl⟩
  have hb1 : Below w.heap.size w w1 := by rw [hw1]; exact (Below.refl _ _).alloc (Nat.le_refl _) _
  obtain ⟨F0, hF0⟩ : ∃ F0, F0 = nw F w.heap.size outL := ⟨_, rfl⟩
  have h1 : RhW w1 p pa Sa A F0 B top L lv := h.fr (fp := fun _ => False) (Fr.of_below hb1) (fun e => e) (fun _ _ e => e) (fun _ _ e => e) (fun _ _ _ _ _ e => e) (fun _ hk => by rw [hF0]; exact nw_lt hk)
  have HF := hid (RFind_some h1 (by omega) (fnd_mem hi.nd ho))
  obtain ⟨sv, iv, hob⟩ := h1.ob o ho
  have c4 := hob.c4
  obtain ⟨sa, sc, rfl⟩ := own_form hob.hs
  have b0 : w1.cell? ⟨w.heap.size, 0, none⟩ = some (.int .i64 x.kind) := by rw [hw1, cell_of_row _ _ 0 _ _ _ (heap_alloc_new _ _)]; rfl
  have b1 : w1.cell? ⟨w.heap.size, 1, none⟩ = some (.int .u64 x.h) := by rw [hw1, cell_of_row _ _ 1 _ _ _ (heap_alloc_new _ _)]; rfl
  have hbx : w1.heap[w.heap.size]? = some (.cells #[.int .i64 x.kind, .int .u64 x.h] TLk (0, 0)) := by rw [hw1]; exact heap_alloc_new _ _
  have hoi := hi.lnk o ho
  have d0 : decide ((j : Int) < 0) = false := by simp
  have d1 : decide ((o.links.length : Int) ≤ (j : Int)) = false := by simp; omega
  have dk : (x.kind == 1) = true := by simpa using hk
  have dk0 : (x.kind == 0) = false := by simp; omega
  have d3 : decide (x.kind < 0) = false := by simp; omega
  have d4 : decide (2 < x.kind) = false := by simp; omega
  have hup := RUp_ok h1 (by omega) hi htop hy ht
  have hyb := hi.cnt y (whl_some hi hy).1
  have hyz := (hi.nz y (whl_some hi hy).1).1
  have hi2 := hi.setc y.h (y.count + 1) (by omega)
  have hset : ∃ o1 ∈ Go.Proofs.Ytmkajdfajcodjaa.setc L y.h (y.count + 1), o1.h = o.h ∧ o1.links = o.links := by
    unfold Go.Proofs.Ytmkajdfajcodjaa.setc
    exact ⟨_, List.mem_map.2 ⟨o, ho, rfl⟩, by split <;> rfl, by split <;> rfl⟩
  have hnew : y.h ≠ -100 := by omega
  obtain ⟨cn, hcn⟩ : ∃ c, c = y.count + 1 := ⟨_, rfl⟩
  rw [← hcn] at hup hi2 hset ⊢
  obtain ⟨yh, hyh⟩ : ∃ c, c = y.h := ⟨_, rfl⟩
  rw [← hyh] at hup hi2 hset hnew hyz ⊢
  have HYZ := hid hyz
  clear hcn hyh ht hy hyb hyz
  obtain ⟨oh, hoh⟩ : ∃ y, y = o.h := ⟨_, rfl⟩
  rw [← hoh] at HF c4 ⊢
  have HOLD := hid hold
  have HBOLD := hid (hoi.2 old (List.mem_of_getElem? hold))
  have HJ := hid hj
  have HXB := hid hxb
  have HTOP := hid htop
  have HFO := hid hf
  have HLT0 := hid hl
  have HI := hid hi
  have HO := hid ho
  have HOH := hid hoh
  have HH1 := hid h1
  have HBX := hid hbx
  have HW1 := hid hw1
  have HB1 := hid hb1
  have HFX := hid (show F0 w.heap.size = outL by rw [hF0]; exact nw_ge (Nat.le_refl _))
  have HAG0 := hid (show ∀ k, k < w.heap.size → F0 k = F k from fun k hk => by rw [hF0]; exact nw_lt hk)
  have HNEW := hid hnew
  have HUP := hid hup
  have HSET := hid hset
  have HI2 := hid hi2
  clear hup hset hi2 hnew hk hob hold hoi hj hxb htop hf hl hi ho hoh h1 hbx hw1 hb1 hF0 h
  go_enter Try.func41, Try.ntmps41
  go_upto_region 1 with fail
  rw [← HW1.out]
  go_upto_region 10 with (first | (go_at_call 43; refine HF.out.mono ?_; rintro e w0 ⟨rfl, rfl⟩) | (go_at_call 38; refine HUP.out.mono ?_; rintro e wt ⟨rfl, hpt, hft⟩))
  obtain ⟨o1, ho1, eoh, eol⟩ := HSET.out
  obtain ⟨Lt, hLt⟩ : ∃ Lt, Lt = Go.Proofs.Ytmkajdfajcodjaa.setc L yh cn := ⟨_, rfl⟩
  have hbt : wt.heap[w.heap.size]? = some (.cells #[.int .i64 x.kind, .int .u64 x.h] TLk (0, 0)) := by
    rw [hft.block _ (Array.getElem?_eq_some_iff.1 HBX.out).1 (fun e => by
      rw [HFX.out] at e
      have := congrArg Prod.fst e
      simp only [outL] at this
      exact HNEW.out this.symm)]
    exact HBX.out
  have HT := hid (show RhW wt p pa Sa A F0 B top Lt lv by rw [hLt]; exact hpt)
  have HIT := hid (show HIn top Lt by rw [hLt]; exact HI2.out)
  have HOT := hid (show o1 ∈ Lt by rw [hLt]; exact ho1)
  have EOH := hid (show o1.h = oh by rw [eoh]; exact HOH.out.symm)
  have EOL := hid eol
  have HBT := hid hbt
  have HFT := hid (show FrF F w wt from FrF.trans (F1 := F0) (Fr.of_below HB1.out) (hft.mono (fun k e _ => lab_out e (by have := HYZ.out; omega))) HAG0.out)
  have HLT := hid (show Lt.length ≤ 65536 by rw [hLt]; unfold Go.Proofs.Ytmkajdfajcodjaa.setc; rw [List.length_map]; exact HLT0.out)
  have HFOT := hid (show ∀ z ∈ Lt, ∃ i sp, Found A z.h i sp by
    rw [hLt]
    intro z hz
    obtain ⟨q, hq, e, _⟩ := setc_mem hz
    rw [e]; exact HFO.out q hq)
  have HZ := hid (show ∀ z ∈ Lt, 1 ≤ z.h from fun z hz => (HIT.out.nz z hz).1)
  have b0 : wt.cell? ⟨w.heap.size, 0, none⟩ = some (.int .i64 x.kind) := by rw [cell_of_row _ _ 0 _ _ _ hbt]; rfl
  have b1 : wt.cell? ⟨w.heap.size, 1, none⟩ = some (.int .u64 x.h) := by rw [cell_of_row _ _ 1 _ _ _ hbt]; rfl
  have HLTE := hid hLt
  clear hLt ho1 eoh eol hbt hpt hft HFO
  have ht := HT.out
  have hot := HOT.out
  obtain ⟨sv, iv, hob⟩ := ht.ob o1 hot
  have hrow := hob.hs
  obtain ⟨sb, sc, hsv, _⟩ := hrow.form (by rw [EOL.out]; have := HJ.out; omega)
  subst hsv
  rw [EOL.out] at hrow
  have hjl := HJ.out
  have c4 := hob.c4
  rw [EOL.out, EOH.out] at c4
  have m0 : wt.cell? ⟨sb, j * 2, none⟩ = some (.int .i64 old.kind) := by rw [hrow.cellAt _ (by omega)]; exact (lkv_at o.links j old HOLD.out).1
  have m1 : wt.cell? ⟨sb, j * 2 + 1, none⟩ = some (.int .u64 old.h) := by rw [hrow.cellAt _ (by omega)]; exact (lkv_at o.links j old HOLD.out).2
  have hsbl := (hrow.lt sb rfl).2
  have hxl : w.heap.size < wt.heap.size := (Array.getElem?_eq_some_iff.1 HBT.out).1
  have hnx : sb ≠ w.heap.size := fun e => by
    have := hob.fs sb rfl
    rw [e, HFX.out] at this
    have := congrArg Prod.fst this
    have hz := HZ.out o1 hot
    simp [outL] at this
    omega
  obtain ⟨wo, hwo⟩ : ∃ wo, wo = wt.alloc (.cells #[.int .i64 old.kind, .int .u64 old.h] TLk) := ⟨_, rfl⟩
  have hbo : Below wt.heap.size wt wo := by rw [hwo]; exact (Below.refl _ _).alloc (Nat.le_refl _) _
  have hobo : RoC wo F0 (B o1.h) (.slice (some ⟨sb, 0, none⟩) o1.links.length sc) iv o1 := hob.fr (fp := fun _ => False) (Fr.of_below hbo) (fun _ _ _ e => e) (fun _ _ => rfl)
  have hto : RhW wo p pa Sa A F0 B top Lt lv := ht.fr (fp := fun _ => False) (Fr.of_below hbo) (fun e => e) (fun _ _ e => e) (fun _ _ e => e) (fun _ _ _ _ _ e => e) (fun _ _ => rfl)
  have HWO := hid hwo
  have HBO := hid hbo
  have HOBO := hid hobo
  have HTO := hid hto
  generalize hn : o.links.length = n at *
  have HNN := hid hn
  clear ht hot hob hrow hwo hbo hobo hto hn
  go_upto_region 11 with fail
  rw [← HWO.out]
  clear m0 m1 c4 b0 b1
  have q0 : wo.cell? ⟨B oh, 4, none⟩ = some (.slice (some ⟨sb, 0, none⟩) n sc) := by
    have := HOBO.out.c4
    rw [EOH.out, EOL.out, HNN.out] at this
    exact this
  have hbxo := (HBO.out.block _ hxl).trans HBT.out
  have q1 : wo.cell? ⟨w.heap.size, 0, none⟩ = some (.int .i64 x.kind) := by rw [cell_of_row _ _ 0 _ _ _ hbxo]; rfl
  have q2 : wo.cell? ⟨w.heap.size, 1, none⟩ = some (.int .u64 x.h) := by rw [cell_of_row _ _ 1 _ _ _ hbxo]; rfl
  have hro := HOBO.out.hs
  rw [EOL.out, HNN.out] at hro
  have hjn : j < n := HJ.out
  have e1 : wo.cell? ⟨sb, j * 2, none⟩ = some (.int .i64 old.kind) := by rw [hro.cellAt _ (by omega)]; exact (lkv_at o.links j old HOLD.out).1
  have e2 : wo.cell? ⟨sb, j * 2 + 1, none⟩ = some (.int .u64 old.h) := by rw [hro.cellAt _ (by omega)]; exact (lkv_at o.links j old HOLD.out).2
  have z1 := hro.frozenAt (j * 2)
  have z2 := hro.frozenAt (j * 2 + 1)
  have ho0 : wo.heap[wt.heap.size]? = some (.cells #[.int .i64 old.kind, .int .u64 old.h] TLk (0, 0)) := by rw [HWO.out]; exact heap_alloc_new _ _
  have HOO := hid ho0
  clear hbxo hro ho0
  refine wp_region_mix [0, 0, 0, 1, 0, 1, 0, 3] (fun W => W.cell? ⟨B oh, 4, none⟩ = some (.slice (some ⟨sb, 0, none⟩) n sc) ∧ W.cell? ⟨w.heap.size, 0, none⟩ = some (.int .i64 x.kind) ∧ W.cell? ⟨w.heap.size, 1, none⟩ = some (.int .u64 x.h)) (by kernel_rfl) (by kernel_rfl) ⟨by simpa using q0, by simpa using q1, by simpa using q2⟩ ?_
  repeat (first
    | (refine' wpMix_value _ rfl rfl _ _; rotate_left; (solve | (intro W; go_simp) | (intro W; go_simp; with_reducible rfl)); simp only [Act.put, List.setIfInBounds_toArray, List.set_cons_zero, List.set_cons_succ])
    | (refine' wpMix_read _ rfl rfl _ _; rotate_left; (solve | (rintro W ⟨h1, h2, h3⟩; go_simp) | (rintro W ⟨h1, h2, h3⟩; go_simp; with_reducible rfl)); simp only [Act.put, List.setIfInBounds_toArray, List.set_cons_zero, List.set_cons_succ]))
  have g1 : wo.drew.cell? ⟨sb, j * 2, none⟩ = some (.int .i64 old.kind) := by simpa using e1
  have g2 : wo.drew.cell? ⟨sb, j * 2 + 1, none⟩ = some (.int .u64 old.h) := by simpa using e2
  refine wpMix_skip ((wo.drew.setCell ⟨sb, j * 2, none⟩ (.int .i64 x.kind)).setCell ⟨sb, j * 2 + 1, none⟩ (.int .u64 x.h)) (by decide) rfl ?nrun1 (fun h => by cases h) ?nrest1
  case nrun1 => go_simp
  simp only [Act.put]
  refine wpMix_end ?_
  have h4 := HTO.out.drewN 1
  have hob4 : RoC (wo.drewN 1) F0 (B o1.h) (.slice (some ⟨sb, 0, none⟩) o1.links.length sc) iv o1 := HOBO.out.fr (fp := fun _ => False) ((Fr.refl _ _).drewN 1) (fun _ _ _ e => e) (fun _ _ => rfl)
  obtain ⟨h5, hf5⟩ := h4.setl HIT.out.nd HOT.out (HZ.out o1 HOT.out) hob4 rfl (by rw [EOL.out, HNN.out]; exact hjn) x
  rw [EOH.out] at h5
  obtain ⟨w5, hw5⟩ : ∃ w5, w5 = (wo.drew.setCell ⟨sb, j * 2, none⟩ (.int .i64 x.kind)).setCell ⟨sb, j * 2 + 1, none⟩ (.int .u64 x.h) := ⟨_, rfl⟩
  change RhW ((wo.drew.setCell ⟨sb, j * 2, none⟩ (.int .i64 x.kind)).setCell ⟨sb, j * 2 + 1, none⟩ (.int .u64 x.h)) p pa Sa A F0 B top (Go.Proofs.Ytmkajdfajcodjaa.setl Lt oh j x) lv at h5
  change Fr (fun k => k = sb) wo.drew ((wo.drew.setCell ⟨sb, j * 2, none⟩ (.int .i64 x.kind)).setCell ⟨sb, j * 2 + 1, none⟩ (.int .u64 x.h)) at hf5
  rw [← hw5] at h5 hf5 ⊢
  have hlab : F0 sb = (o1.h, 1) := HOBO.out.fs sb rfl
  have hz1 := HZ.out o1 HOT.out
  have hff5 : FrF F0 wt w5 := by
    have ha : FrF F0 wt wo := Fr.of_below HBO.out
    exact FrF.trans ha (F1 := F0) (Fr.trans (fp2 := fun k => k = sb) (Fr.refl (fun k => F0 k ≠ outL) wo).drew hf5 (fun k e _ => by rw [e]; exact lab_out hlab (by omega))) (fun _ _ => rfl)
  have hoo5 : w5.heap[wt.heap.size]? = some (.cells #[.int .i64 old.kind, .int .u64 old.h] TLk (0, 0)) := by
    rw [hf5.block _ (Array.getElem?_eq_some_iff.1 HOO.out).1 (by omega)]
    exact HOO.out
  have p0 : w5.cell? ⟨wt.heap.size, 0, none⟩ = some (.int .i64 old.kind) := by rw [cell_of_row _ _ 0 _ _ _ hoo5]; rfl
  have p1 : w5.cell? ⟨wt.heap.size, 1, none⟩ = some (.int .u64 old.h) := by rw [cell_of_row _ _ 1 _ _ _ hoo5]; rfl
  have hi2 := HIT.out.setl oh j x HXB.out
  have hbold := HBOLD.out
  obtain ⟨w6, hw6⟩ : ∃ w6, w6 = w5.alloc (.cells #[.int .i64 old.kind, .int .u64 old.h] TLk) := ⟨_, rfl⟩
  have hb6 : Below w5.heap.size w5 w6 := by rw [hw6]; exact (Below.refl _ _).alloc (Nat.le_refl _) _
  have hll : (Go.Proofs.Ytmkajdfajcodjaa.setl Lt oh j x).length ≤ 65536 := by unfold Go.Proofs.Ytmkajdfajcodjaa.setl; rw [List.length_map]; exact HLT.out
  have hfs : ∀ z ∈ Go.Proofs.Ytmkajdfajcodjaa.setl Lt oh j x, ∃ i sp, Found A z.h i sp := fun z hz => by
    obtain ⟨q, hq, e, _⟩ := setl_mem hz
    rw [e]; exact HFOT.out q hq
  have hgo := RGo_any (h5.go old hw6) hfs hi2 (WQ.nil _) HTOP.out (by intro l hl; simp at hl; subst hl; exact hbold) hll (by simp)
  have HGO := hid hgo
  have HW6 := hid hw6
  have HB6 := hid hb6
  have HFF5 := hid hff5
  clear hgo hw6 hb6 hff5 hoo5 hi2 hbold hll hfs h5 hf5 h4 hob4 hw5 g1 g2 e1 e2 z1 z2 q0 q1 q2 hlab
  go_wp2_with fail
  rw [← HW6.out]
  refine HGO.out.mono ?_
  intro e w7 hp
  obtain ⟨vg, vf, rfl, vg', vf', Lf, g, f2, Sa1, A1, F1, lv1, hq, k1, k2, k3, k4, k5, k6, k7⟩ := GoP.one HB6.out hp
  cases hq
  have HP := hid (show REndPost w p pa A F B top (Go.Proofs.Ytmkajdfajcodjaa.setl Lt oh j x) old (.returned (.tuple #[vg, vf, .int .i64 0])) w7 from ⟨vg, vf, Lf, g, f2, Sa1, A1, F1, lv1, rfl, k1, k2, k3, k4, k5, fun k hk => by
      rw [k6 k (by have := HFF5.out.size; omega)]; exact HAG0.out k hk, FrF.trans (F1 := F0) HFT.out (FrF.trans HFF5.out (F1 := F0) k7 (fun _ _ => rfl)) HAG0.out⟩)
  clear hp k1 k2 k3 k4 k5 k6 k7
  go_wp2
  go_ret3
  have hfin := HP.out
  rw [HLTE.out] at hfin
  exact hfin
set_option maxRecDepth 100000 in
theorem RPut_up (h : RhW w p pa Sa A F B top L lv) (hi : HIn top L) (hl : L.length ≤ 65536) {o : Ob} (ho : o ∈ L) {j : Nat} (hj : j < o.links.length) {x : Lk} (hk : x.kind = 1) {er : Int} (her : er ≠ 0)
    (hup : ∀ w1, RhW w1 p pa Sa A F B top L lv → Calls Try.prog 38 #[.pointer (some ⟨p, 0, none⟩), .int .u64 x.h] w1 fun e w' => e = .returned (.tuple #[.int .u32 0, .int .i64 er]) ∧ Below w1.heap.size w1 w') :
    Calls Try.prog 41 #[.pointer (some ⟨p, 0, none⟩), .int .u64 o.h, .int .i64 j, .agg #[.int .i64 x.kind, .int .u64 x.h]] w fun e w' => e = .returned (.tuple #[.slice none 0 0, .slice none 0 0, .int .i64 er]) ∧ Below w.heap.size w w' := by
  obtain ⟨w1, hw1⟩ : ∃ w1, w1 = w.alloc (.cells #[.int .i64 x.kind, .int .u64 x.h] TLk) := ⟨_, rfl⟩
  have hb1 : Below w.heap.size w w1 := by rw [hw1]; exact (Below.refl _ _).alloc (Nat.le_refl _) _
  have h1 : RhW w1 p pa Sa A F B top L lv := h.fr (fp := fun _ => False) (Fr.of_below hb1) (fun e => e) (fun _ _ e => e) (fun _ _ e => e) (fun _ _ _ _ _ e => e) (fun _ _ => rfl)
  have HF := hid (RFind_some h1 (by omega) (fnd_mem hi.nd ho))
  have HUP := hid (hup w1 h1)
  obtain ⟨sv, iv, hob⟩ := h1.ob o ho
  have c4 := hob.c4
  obtain ⟨sa, sc, rfl⟩ := own_form hob.hs
  have b0 : w1.cell? ⟨w.heap.size, 0, none⟩ = some (.int .i64 x.kind) := by rw [hw1, cell_of_row _ _ 0 _ _ _ (heap_alloc_new _ _)]; rfl
  have b1 : w1.cell? ⟨w.heap.size, 1, none⟩ = some (.int .u64 x.h) := by rw [hw1, cell_of_row _ _ 1 _ _ _ (heap_alloc_new _ _)]; rfl
  have d0 : decide ((j : Int) < 0) = false := by simp
  have d1 : decide ((o.links.length : Int) ≤ (j : Int)) = false := by simp; omega
  have dk : (x.kind == 1) = true := by simpa using hk
  have dk0 : (x.kind == 0) = false := by simp; omega
  have d3 : decide (x.kind < 0) = false := by simp; omega
  have d4 : decide (2 < x.kind) = false := by simp; omega
  have de : (er != 0) = true := by simpa using her
  have HW1 := hid hw1
  have HB1 := hid hb1
  generalize o.links.length = nl at *
  generalize o.h = oh at *
  clear hw1 hb1 h1 h hl hob hk her hup hi ho
  go_enter Try.func41, Try.ntmps41
  go_upto_region 1 with fail
  rw [← HW1.out]
  go_wp2_with (first | (go_at_call 43; refine HF.out.mono ?_; rintro e w0 ⟨rfl, rfl⟩) | (go_at_call 38; refine HUP.out.mono ?_; rintro e wt ⟨rfl, hbt⟩))
  go_ret3
  exact ⟨rfl, HB1.out.trans (hbt.mono HB1.out.size)⟩
end
end Go.Proofs.Ytmkajdfajcodjaa

namespace Go.Proofs.Ytmkajdfajcodjaa
open Go Go.ChangeShapes Go.WideShapes Go.ChangeAt Go.RowKit

theorem RfPut_any (S : Nat → Prop) (w : World) (v : Value) (s : Hs) (hd slot : Int) (x : Lk) (h : RfH S w v s) (hxk : Nm x.kind) (hxh : Hn x.h) :
    Calls Try.prog 41 #[v, .int .u64 hd, .int .i64 slot, .agg #[.int .i64 x.kind, .int .u64 x.h]] w fun e w' => Fr S w w' ∧
      ∃ s' g f er vg vf, e = .returned (.tuple #[vg, vf, .int .i64 er]) ∧ Told TU u64v w' vg g ∧ Told TU u64v w' vf f ∧ PuR s hd slot x s' g f er ∧ RfH (exS S w w') w' v s' := by
  have hR := h
  obtain ⟨p, pa, Sa, F, B, lv, rfl, h1, h3, h4, h5⟩ := h
  have hl := h3.len
  have same : ∀ er, PuR s hd slot x s [] [] er → ∀ w', Below w.heap.size w w' → Fr S w w' ∧ ∃ s' g f er' vg vf, Ending.returned (.tuple #[.slice none 0 0, .slice none 0 0, .int .i64 er]) = .returned (.tuple #[vg, vf, .int .i64 er']) ∧ Told TU u64v w' vg g ∧ Told TU u64v w' vf f ∧ PuR s hd slot x s' g f er' ∧ RfH (exS S w w') w' (.pointer (some ⟨p, 0, none⟩)) s' :=
    fun er hp w' hb => ⟨Fr.of_below hb, s, [], [], er, _, _, rfl, told_nil _, told_nil _, hp, (hR.fr (fp := fun _ => False) (Fr.of_below hb) (fun _ _ e => e)).ex h5 hb.size⟩
  cases hf : fnd s.L hd with
  | none =>
    refine (RPut_none h1 hl hf).mono ?_
    rintro e w' ⟨rfl, hb⟩
    exact same 2 (.stale hf) w' hb
  | some o =>
    by_cases hbad : slot < 0 ∨ (o.links.length : Int) ≤ slot ∨ x.kind < 0 ∨ 2 < x.kind ∨ (x.kind = 0 ∧ x.h ≠ 0)
    · refine (RPut_arg h1 hl hf hbad).mono ?_
      rintro e w' ⟨rfl, hb⟩
      exact same 1 (.arg o hf hbad) w' hb
    · obtain ⟨ho, he⟩ := fnd_some hf
      subst he
      have hs : 0 ≤ slot ∧ slot < o.links.length := by omega
      obtain ⟨j, rfl⟩ := Int.eq_ofNat_of_zero_le hs.1
      have hj : j < o.links.length := by omega
      have hold : o.links[j]? = some o.links[j] := List.getElem?_eq_getElem hj
      generalize o.links[j] = old at hold
      by_cases hk : x.kind = 1
      · cases hw : whl s.L x.h with
        | none =>
          have hn := (whl_none h3.inv).1 hw
          refine (RPut_up h1 h3.inv hl ho hj hk (er := 2) (by omega) (fun W hW => (RUp_none hW (by omega) hn).mono fun e W' hh => ⟨hh.1, by rw [hh.2]; exact Below.refl _ _⟩)).mono ?_
          rintro e w' ⟨rfl, hb⟩
          exact same 2 (.no o hf hs hk (.stale hw) (by omega)) w' hb
        | some y =>
          by_cases hyt : y.count = s.top
          · refine (RPut_up h1 h3.inv hl ho hj hk (er := 4) (by omega) (fun W hW => (RUp_top hW (by omega) h3.inv hw hyt).mono fun e W' hh => ⟨hh.1, hh.2.below (Nat.le_refl _) (fun _ e => e.elim)⟩)).mono ?_
            rintro e w' ⟨rfl, hb⟩
            exact same 4 (.no o hf hs hk (.top y hw hyt) (by omega)) w' hb
          · refine (RPut_obj h1 h3.ok.has h3.inv h3.t2 hl ho hj hold ⟨hxk, hxh⟩ hk hw hyt).mono ?_
            rintro e w' ⟨vg, vf, Lf, g, f, Sa1, A1, F1, lv1, rfl, t1, t2, hg, k1, k2, k3, k4⟩
            have hpu : PuR s o.h (j : Int) x { s with L := Lf, A := A1 } g _ 0 := .obj o hf hs hk (.ok y hw hyt) (old := old) (by simpa using hold) (f := _) ⟨f, by rw [letg_one]; simpa using hg, by rw [letg_one]⟩ k2
            exact ⟨Fr.mono k4 (fun k hk hl => h4 k hl hk), _, g, _, 0, vg, vf, rfl, t1, by simpa using t2, hpu, p, pa, Sa1, F1, B, lv1, rfl, k1, hpu.hsi h3 ⟨hxk, hxh⟩, exs_lab h4 k3, exs_lt h5 k4.size⟩
      · have hok : (x.kind = 0 ∧ x.h = 0) ∨ x.kind = 2 := by omega
        refine (RPut_oth h1 h3.ok.has h3.inv h3.t2 hl ho hj hold ⟨hxk, hxh⟩ hok).mono ?_
        rintro e w' ⟨vg, vf, Lf, g, f, Sa1, A1, F1, lv1, rfl, t1, t2, hg, k1, k2, k3, k4⟩
        have hpu : PuR s o.h (j : Int) x { s with L := Lf, A := A1 } g _ 0 := .oth o hf hs hok (old := old) (by simpa using hold) (f := _) ⟨f, by rw [letg_one]; simpa using hg, by rw [letg_one]⟩ k2
        exact ⟨Fr.mono k4 (fun k hk hl => h4 k hl hk), _, g, _, 0, vg, vf, rfl, t1, by simpa using t2, hpu, p, pa, Sa1, F1, B, lv1, rfl, k1, hpu.hsi h3 ⟨hxk, hxh⟩, exs_lab h4 k3, exs_lt h5 k4.size⟩
end Go.Proofs.Ytmkajdfajcodjaa

namespace Go.Proofs.Ytmkajdfajcodjaa
open Go Go.ChangeShapes Go.WideShapes Go.ChangeAt Go.RowKit Go.Maps

section
variable {w : World} {p pa : Nat} {Sa : Nat → Prop} {A : Ar} {F : Nat → Lab} {B : Int → Nat} {top : Int} {L : HL} {lv : Value}
theorem RhW.no {w' : World} (h : RhW w p pa Sa A F B top L lv) (hf : Fr (fun _ => False) w w') : RhW w' p pa Sa A F B top L lv :=
  h.fr hf (fun e => e) (fun _ _ e => e) (fun _ _ e => e) (fun _ _ _ _ _ e => e) (fun _ _ => rfl)
theorem whs_take {L : HL} {l : List Int} (h : Whs L l) : l.Nodup ∧ ∀ x ∈ l, ∃ o ∈ L, o.h = x ∧ o.outer = 0 := h
theorem atl_news {w : World} {b off : Nat} {xs : List Value} (h : AtL w b off xs) : ∀ j u, xs[j]? = some u → w.cell? ((⟨b, off, none⟩ : Addr).add j) = some u := fun j u hu => by
  have hadd : (⟨b, off, none⟩ : Addr).add j = ⟨b, off + j, none⟩ := by unfold Addr.add; split <;> simp_all
  rw [hadd]; exact h j u hu
def RRemPost (w : World) (p pa : Nat) (A : Ar) (F : Nat → Lab) (B : Int → Nat) (top : Int) (L1 : HL) (ws : List Int) (e : Ending) (w' : World) : Prop :=
  ∃ vg vf Lf g f Sa1 A1 F1 lv1, e = .returned (.tuple #[vg, vf, .int .i64 0]) ∧ Told TU u64v w' vg g ∧ Told TU u64v w' vf f ∧ Goes L1 ws Lf g f ∧ RhW w' p pa Sa1 A1 F1 B top Lf lv1 ∧ DrR A g A1 ∧ (∀ k, k < w.heap.size → F1 k = F k) ∧ FrF F w w'
set_option maxRecDepth 100000 in
set_option maxHeartbeats 4000000 in
theorem RRemove_whs (h : RhW w p pa Sa A F B top L lv) (hfo : ∀ o ∈ L, ∃ i sp, Found A o.h i sp) (hi : HIn top L) (h0 : 0 ≤ top) (htop : top ≤ 4294967295) (hL : L.length ≤ 65536) {b off c : Nat} {l : List Int} (hat : AtL w b off (l.map u64v)) (hb : b < w.heap.size) (hbF : F b = outL) (hne : 0 < l.length) (hl : l.length ≤ 1000) (hc : l.length ≤ c) (hx : ∀ x ∈ l, Hn x) :
    Calls Try.prog 42 #[.pointer (some ⟨p, 0, none⟩), .slice (some ⟨b, off, none⟩) l.length c] w fun e w' =>
      ((∃ x ∈ l, fnd L x = none) ∧ e = .returned (.tuple #[.slice none 0 0, .slice none 0 0, .int .i64 2]) ∧ Fr (fun _ => False) w w') ∨
      ((∀ x ∈ l, ∃ o ∈ L, o.h = x) ∧ ¬ Whs L l ∧ e = .returned (.tuple #[.slice none 0 0, .slice none 0 0, .int .i64 1]) ∧ Fr (fun _ => False) w w') ∨
      (Whs L l ∧ RRemPost w p pa A F B top (clr L l) l e w') := by
  have H := hid h
  have HFO := hid hfo
  have HI := hid hi
  have HAT := hid hat
  have HT0 := hid h0
  have HTOP := hid htop
  have HBF := hid hbF
  have HX := hid hx
  have HLL := hid hL
  obtain ⟨n, hn⟩ : ∃ n, n = l.length := ⟨_, rfl⟩
  have HN := hid hn
  rw [← hn] at hl hc hne ⊢
  clear h hi hat hn h0 htop hbF hx hfo hL
  go_enter Try.func42, Try.ntmps42
  go_wp2
  go_loopw [7] (fun i wr => ∃ k : Nat, k ≤ n ∧ i = .int .i64 k ∧ w = wr ∧ RowKit.Hid (∀ x ∈ l.take k, ∃ o ∈ L, o.h = x)) (fun i _ => n - (intOf i).toNat)
  case atStart => exact ⟨0, Nat.zero_le _, rfl, rfl, fun x hx => by simp at hx⟩
  case round =>
    obtain ⟨k, hk, rfl, rfl, HR⟩ := hrel
    by_cases hkn : k < n
    · have hn := HN.out
      obtain ⟨x, hx⟩ : ∃ x, l[k]? = some x := ⟨_, List.getElem?_eq_getElem (by omega)⟩
      have hxm : x ∈ l := List.mem_of_getElem? hx
      have hcx : w.cell? ⟨b, off + k, none⟩ = some (.int .u64 x) := atl_u64 HAT.out hx
      have HXX := hid hx
      have HXM := hid hxm
      have hlL := HLL.out
      clear hx hxm hn
      cases hf : fnd L x with
      | none =>
        have HF := hid (RFind_none H.out (by omega) hf)
        have HFN := hid hf
        clear hf hlL
        go_wp2_with (go_at_call 43; refine HF.out.mono ?_; rintro e w2 ⟨rfl, rfl⟩)
        go_ret3
        exact .inl ⟨⟨x, HXM.out, HFN.out⟩, rfl, Fr.refl _ _⟩
      | some o =>
        obtain ⟨ho, he⟩ := fnd_some hf
        have HF := hid (RFind_some H.out (by omega) hf)
        have HO := hid ho
        have HE := hid he
        clear hf ho he hlL
        go_wp2_with (go_at_call 43; refine HF.out.mono ?_; rintro e w2 ⟨rfl, rfl⟩)
        go_roundw
        case rel =>
          have hx := HXX.out
          have het : l.take (k + 1) = l.take k ++ [x] := by rw [List.take_add_one, hx]; rfl
          refine ⟨k + 1, by omega, by go_num, trivial, fun y hy => ?_⟩
          rw [het] at hy
          rcases List.mem_append.1 hy with hy | hy
          · exact HR.out y hy
          · simp at hy
            subst hy
            exact ⟨o, HO.out, HE.out⟩
        case measure => simp [intOf]; omega
    · have hkn2 : k = n := by omega
      subst hkn2
      have hall := HR.out
      rw [HN.out, List.take_length] at hall
      have HALL := hid hall
      clear hall HR hkn hk
      go_wp2
      go_loopw [8] (fun i wr => ∃ j : Nat, j ≤ k ∧ i = .int .i64 j ∧ RowKit.Hid (Fr (fun _ => False) w wr ∧ Whs L (l.take j))) (fun i _ => k - (intOf i).toNat)
      case atStart => exact ⟨0, Nat.zero_le _, rfl, Fr.refl _ _, by simp, by simp⟩
      case round =>
        obtain ⟨j, hj, rfl, HR⟩ := hrel
        by_cases hjn : j < k
        · have hn := HN.out
          obtain ⟨x, hx⟩ : ∃ x, l[j]? = some x := ⟨_, List.getElem?_eq_getElem (by omega)⟩
          have HXX := hid hx
          clear hx hn
          go_wp2
          go_loopw [9] (fun i ws => ∃ m : Nat, m ≤ j ∧ i = .int .i64 m ∧ RowKit.Hid (Fr (fun _ => False) w ws ∧ x ∉ l.take m)) (fun i _ => j - (intOf i).toNat)
          case atStart => exact ⟨0, Nat.zero_le _, rfl, HR.out.1, by simp⟩
          case round =>
            obtain ⟨m, hm, rfl, HR3⟩ := hrel
            have hatr := atl_fr HAT.out hb HR3.out.1 (fun e => e)
            have hcx : wr.cell? ⟨b, off + j, none⟩ = some (.int .u64 x) := atl_u64 hatr HXX.out
            have HATR := hid hatr
            clear hatr
            by_cases hmj : m < j
            · have hn := HN.out
              obtain ⟨y, hy⟩ : ∃ y, l[m]? = some y := ⟨_, List.getElem?_eq_getElem (by omega)⟩
              have hcy : wr.cell? ⟨b, off + m, none⟩ = some (.int .u64 y) := atl_u64 HATR.out hy
              have HYY := hid hy
              clear hy hn
              by_cases hxy : y = x
              · have hmem : y ∈ l.take j := List.mem_of_getElem? (i := m) (by rw [List.getElem?_take, if_pos hmj]; exact HYY.out)
                subst hxy
                have HMEM := hid hmem
                clear hmem
                go_wp2
                go_quiet (fail)
                go_wp2
                go_ret3
                exact .inr (.inl ⟨HALL.out, not_twice HXX.out HMEM.out, rfl, HR3.out.1.drewN _⟩)
              · have dxy : (y == x) = false := by simpa using hxy
                have HXY := hid hxy
                clear hxy
                go_wp2
                go_quiet (fail)
                go_wp2
                go_roundw
                case rel =>
                  have het : l.take (m + 1) = l.take m ++ [y] := by rw [List.take_add_one, HYY.out]; rfl
                  refine ⟨m + 1, by omega, by go_num, HR3.out.1.drewN _, fun hm2 => ?_⟩
                  rw [het] at hm2
                  rcases List.mem_append.1 hm2 with hm2 | hm2
                  · exact HR3.out.2 hm2
                  · simp at hm2; exact HXY.out hm2.symm
                case measure => simp [intOf]; omega
            · have hmj2 : m = j := by omega
              subst hmj2
              have hxm : x ∈ l := List.mem_of_getElem? HXX.out
              obtain ⟨o, ho, he⟩ := HALL.out x hxm
              have h1 := H.out.no HR3.out.1
              have hlL := HLL.out
              have hF := RFind_some h1 (by omega) (fnd_mem HI.out.nd ho)
              rw [he] at hF
              obtain ⟨sv, iv, hob⟩ := h1.ob o ho
              have co := hob.c1
              rw [he] at co
              have HF := hid hF
              have HO := hid ho
              have HE := hid he
              have HXM := hid hxm
              clear hxm ho he h1 hF hob hlL
              by_cases h0 : o.outer = 0
              · rw [h0] at co
                have H0 := hid h0
                clear h0
                go_wp2_with (go_at_call 43; refine HF.out.mono ?_; rintro e w2 ⟨rfl, rfl⟩)
                go_roundw
                case rel =>
                  have het : l.take (m + 1) = l.take m ++ [x] := by rw [List.take_add_one, HXX.out]; rfl
                  refine ⟨m + 1, by omega, by go_num, HR3.out.1, ?_⟩
                  rw [het]
                  have := HR.out.2.snoc HO.out H0.out (by rw [HE.out]; exact HR3.out.2)
                  rwa [HE.out] at this
                case measure => simp [intOf]; omega
              · have d0 : (o.outer == 0) = false := by simpa using h0
                have H0 := hid h0
                clear h0
                go_wp2_with (go_at_call 43; refine HF.out.mono ?_; rintro e w2 ⟨rfl, rfl⟩)
                go_ret3
                exact .inr (.inl ⟨HALL.out, not_inner HI.out HO.out H0.out (by rw [HE.out]; exact HXM.out), rfl, HR3.out.1⟩)
        · have hjn2 : j = k := by omega
          subst hjn2
          have hw := HR.out.2
          rw [HN.out, List.take_length] at hw
          have HW := hid hw
          have HFR := hid HR.out.1
          clear hw HR hj hjn
          have hR0 : RhW wr p pa Sa A F B top (clr L (l.take 0)) lv ∧ FrF F w wr := ⟨H.out.no HFR.out, HFR.out.mono (fun _ e _ => e.elim)⟩
          have HR0 := hid hR0
          clear hR0
          go_wp2
          go_loopw [10] (fun i wr => ∃ m : Nat, m ≤ j ∧ i = .int .i64 m ∧ RowKit.Hid (RhW wr p pa Sa A F B top (clr L (l.take m)) lv ∧ FrF F w wr)) (fun i _ => j - (intOf i).toNat)
          case atStart => exact ⟨0, Nat.zero_le _, rfl, HR0⟩
          case round =>
            obtain ⟨m, hm, rfl, HR⟩ := hrel
            by_cases hmj : m < j
            · have hn := HN.out
              obtain ⟨x, hx⟩ : ∃ x, l[m]? = some x := ⟨_, List.getElem?_eq_getElem (by omega)⟩
              have hxm : x ∈ l := List.mem_of_getElem? hx
              obtain ⟨o, ho, he⟩ := HALL.out x hxm
              obtain ⟨o2, ho2, he2, _, _⟩ := clr_mem (l.take m) ho
              rw [he] at he2
              obtain ⟨k1, k2⟩ := HR.out
              have hcx : wr.cell? ⟨b, off + m, none⟩ = some (.int .u64 x) := atl_u64 (atl_fr HAT.out hb k2 (fun e => e HBF.out)) hx
              have hi2 := clr_in HT0.out (l.take m) HI.out
              have hlL := HLL.out
              have hF := RFind_some k1 (by rw [clr_len]; omega) (fnd_mem hi2.nd ho2)
              obtain ⟨sv, iv, hob⟩ := k1.ob o2 ho2
              have c2 := hob.c2
              have z2 := hob.fz 2
              have hset := k1.setc hi2.nd ho2 (hi2.nz o2 ho2).1 0
              have hfrs : FrF F w (wr.setCell ⟨B o2.h, 2, none⟩ (.int .u32 0)) := Fr.trans k2 ((Fr.refl (fun k => k = B o2.h) wr).setCell ⟨B o2.h, 2, none⟩ (.int .u32 0) (fun _ => rfl)) (fun k e _ => by
                rw [e, hob.fb]
                intro e2
                have h1 := congrArg Prod.fst e2
                have h2 := (hi2.nz o2 ho2).1
                simp [outL] at h1
                omega)
              rw [he2] at hF c2 z2 hset hfrs
              have het : l.take (m + 1) = l.take m ++ [x] := by rw [List.take_add_one, hx]; rfl
              have HF := hid hF
              have HSET := hid hset
              have HFRS := hid hfrs
              have HET := hid het
              clear hn hx hxm ho he ho2 he2 k1 k2 hi2 hlL hF hob hset hfrs het
              go_wp2_with (go_at_call 43; refine HF.out.mono ?_; rintro e w2 ⟨rfl, rfl⟩)
              go_roundw
              case rel =>
                refine ⟨m + 1, by omega, by go_num, ?_, HFRS.out⟩
                rw [HET.out, clr_snoc]; exact HSET.out
              case measure => simp [intOf]; omega
            · have hmj2 : m = j := by omega
              subst hmj2
              obtain ⟨k1, k2⟩ := HR.out
              rw [HN.out, List.take_length] at k1
              have K1 := hid k1
              have K2 := hid k2
              have hatr := atl_fr HAT.out hb k2 (fun e => e HBF.out)
              have HATR := hid hatr
              have hbr : b < wr.heap.size := Nat.lt_of_lt_of_le hb k2.size
              have HBR := hid hbr
              clear k1 k2 hatr HR hbr hm hmj
              obtain ⟨i0, hi0, hz0, hz1, hz2⟩ := info_parts infoU0
              have HI0 := hid hi0
              have HZ0 := hid hz0
              have HZ1 := hid hz1
              have HZ2 := hid hz2
              have hfr1 : Fr (fun _ => False) wr (wr.alloc (.cells #[] TU)) := (Fr.refl _ _).alloc _
              have hrow0 : (wr.alloc (.cells #[] TU)).ownsRow 0 TU 1 (.slice (some ⟨wr.heap.size, 0, none⟩) 0 0) 0 [] := World.ownsRow_lit wr #[] 0 (Nat.zero_le _) (by unfold maxLen; omega) rfl
              have HFR1 := hid hfr1
              have HROW0 := hid hrow0
              have hlu : (l.map u64v).length = m * 1 := by rw [List.length_map, HN.out, Nat.mul_one]
              have hat1 := atl_news (atl_fr HATR.out HBR.out hfr1 (fun e => e))
              have hone : ∀ u ∈ l.map u64v, u.oneCell' = true := fun u hu => by
                obtain ⟨y, _, rfl⟩ := List.mem_map.1 hu
                rfl
              have HLU := hid hlu
              have HAT1 := hid hat1
              have HONE := hid hone
              clear hi0 hz0 hz1 hz2 hfr1 hrow0 hlu hat1 hone
              go_wp2_with (at_builtin; refine wpList_append_lies _ (o := ⟨some 74, _, _, _, _, _⟩) rfl (.tmp 72) (.tmp 73) 43 rfl 0 TU i0 (.int .u64 0) 1 8 Try.underlying43 HI0.out HZ0.out HZ1.out HZ2.out rfl (by decide) (.slice (some ⟨wr.heap.size, 0, none⟩) 0 0) 0 [] rfl HROW0.out ⟨b, off, none⟩ m c (l.map u64v) rfl HLU.out HAT1.out HONE.out hne (by unfold maxLen; omega) (by omega) (Nat.zero_le _) (wr.heap.size + 1) (by simp) ?_; intro g5 k5 W3 hown5 hgrow5 hat5 hlt5)
              have hfr3 : Fr (fun _ => False) wr W3 := HFR1.out.grown hgrow5 (fun i hi hl => by simp [Value.ownBlock] at hi; omega)
              have hg5 : wr.heap.size ≤ g5 := by
                rcases hat5 with e | e
                · simp [Value.ownBlock] at e; omega
                · omega
              rw [Nat.zero_add] at hown5
              have hE : GoE W3 p pa Sa A (nw F wr.heap.size (-4, 0)) B top (clr L l) lv (.slice (some ⟨g5, 0, none⟩) m k5) (.slice none 0 0) (.slice none 0 0) (.slice none 0 0) l [] [] [] :=
                ⟨K1.out.fr hfr3 (fun e => e) (fun _ _ e => e) (fun _ _ e => e) (fun _ _ _ _ _ e => e) (fun _ hk => nw_lt hk), by rw [List.nil_append] at hown5; rw [← HN.out]; exact hown5, fun i hi => by simp [Value.ownBlock] at hi; subst hi; exact nw_ge hg5,
                  World.ownsRow_nil _ _ _ _, fun i hi => by simp [Value.ownBlock] at hi, World.ownsRow_nil _ _ _ _, fun i hi => by simp [Value.ownBlock] at hi, World.ownsRow_nil _ _ _ _, fun i hi => by simp [Value.ownBlock] at hi⟩
              have hgo := RGo_any hE (fun o ho => by
                obtain ⟨q, hq, e, _⟩ := clr_back l ho
                rw [← e]; exact HFO.out q hq) (clr_in HT0.out l HI.out) (WQ.clr HW.out.1 HW.out.2) HTOP.out (by simp) (by rw [clr_len]; exact HLL.out) (by simp)
              have HGO := hid hgo
              have HFR3 := hid hfr3
              clear hgo hfr3 hE hg5 hown5 hgrow5 hat5 hlt5
              refine HGO.out.mono ?_
              rintro e w5 ⟨Lf, g, f, Sa1, A1, F1, lv1, vg, vf, rfl, m1, m2, ⟨f2, m3, rfl⟩, m4, m5, m6, m7⟩
              have M1 := hid m1
              have M2 := hid m2
              have M3 := hid m3
              have M4 := hid m4
              have M5 := hid m5
              have M6 := hid m6
              have M7 := hid m7
              clear m1 m2 m3 m4 m5 m6 m7
              go_wp2
              go_ret3
              have z1 := K2.out.size
              have z3 := HFR3.out.size
              refine .inr (.inr ⟨HW.out, vg, vf, Lf, g, f, Sa1, A1, F1, lv1, rfl, own_told M1.out, own_told M2.out, ?_, M4.out, M5.out, fun i hi => ?_, ?_⟩)
              · have := M3.out
                simpa [letg] using this
              · rw [M6.out i (by omega)]; exact nw_lt (by omega)
              · exact FrF.trans (F1 := nw F wr.heap.size (-4, 0)) (Fr.trans K2.out HFR3.out (fun _ e _ => e.elim)) M7.out (fun i hi => nw_lt (by omega))
end
theorem RRemove_any (S : Nat → Prop) (w : World) (v : Value) (s : Hs) (l : List Int) (h : RfH S w v s) {b off c : Nat} (hat : AtL w b off (l.map u64v)) (hb : b < w.heap.size) (hbS : ¬ S b) (hne : 0 < l.length) (hl : l.length ≤ 1000) (hc : l.length ≤ c) (hx : ∀ x ∈ l, Hn x) :
    Calls Try.prog 42 #[v, .slice (some ⟨b, off, none⟩) l.length c] w fun e w' => Fr S w w' ∧
    ∃ s' g f er vg vf, e = .returned (.tuple #[vg, vf, .int .i64 er]) ∧ Told TU u64v w' vg g ∧ Told TU u64v w' vf f ∧ RmR s l s' g f er ∧ RfH (exS S w w') w' v s' := by
  have hR := h
  obtain ⟨p, pa, Sa, F, B, lv, rfl, h1, h3, h4, h5⟩ := h
  have hbF : F b = outL := Classical.byContradiction fun e => hbS (h4 b hb e)
  refine (RRemove_whs h1 h3.ok.has h3.inv (by have := h3.t1; omega) h3.t2 h3.len hat hb hbF hne hl hc hx).mono ?_
  rintro e w' (⟨⟨x, hx, hf⟩, rfl, hfr⟩ | ⟨ha, hn, rfl, hfr⟩ | ⟨hw, vg, vf, Lf, g, f, Sa1, A1, F1, lv1, rfl, t1, t2, hg, k1, k2, k3, k4⟩)
  · exact ⟨hfr.mono (fun _ e _ => e.elim), s, [], [], 2, _, _, rfl, told_nil _, told_nil _, .stale x hx hf, (hR.fr hfr (fun _ _ e => e)).ex h5 hfr.size⟩
  · exact ⟨hfr.mono (fun _ e _ => e.elim), s, [], [], 1, _, _, rfl, told_nil _, told_nil _, .arg ha hn, (hR.fr hfr (fun _ _ e => e)).ex h5 hfr.size⟩
  · have hrm : RmR s l _ g f 0 := .ok hw.1 hw.2 hg (A' := A1) k2
    exact ⟨Fr.mono k4 (fun k hk hl => h4 k hl hk), _, g, f, 0, vg, vf, rfl, t1, t2, hrm, p, pa, Sa1, F1, B, lv1, rfl, k1, hrm.hsi h3, exs_lab h4 k3, exs_lt h5 k4.size⟩
end Go.Proofs.Ytmkajdfajcodjaa
