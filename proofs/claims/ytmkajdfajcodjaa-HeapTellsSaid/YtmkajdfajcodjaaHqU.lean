/-
  A heap: Put. (Written by wip/tools/genhqu.py.)
-/
import Derived.Test.YtmkajdfajcodjaaHqT
namespace Go.Proofs.Ytmkajdfajcodjaa
open Go Go.ChangeShapes Go.WideShapes Go.ChangeAt Go.RowKit

/-- A link that may be. -/
def isl (x : Lk) : Bool := (x.kind == 0 && x.h == 0) || x.kind == 1 || x.kind == 2
theorem isLink_any (w : World) (x : Lk) : Calls Try.prog 54 #[.agg #[.int .i64 x.kind, .int .u64 x.h]] w fun e w' => e = .returned (.bool (isl x)) ∧ w' = w.alloc (.cells #[.int .i64 x.kind, .int .u64 x.h] 67) := by
  obtain ⟨k, h⟩ := x
  unfold isl
  by_cases k0 : k = 0
  · subst k0
    go_enter Try.func54, Try.ntmps54
    go_wp2
    go_ret
    simp
  · have d0 : (k == 0) = false := by simpa using k0
    by_cases k1 : k = 1
    · subst k1
      go_enter Try.func54, Try.ntmps54
      go_wp2
      go_ret
      simp
    · have d1 : (k == 1) = false := by simpa using k1
      rw [d0, d1]
      go_enter Try.func54, Try.ntmps54
      go_wp2
      go_ret
      simp
section
variable {w : World} {p pa : Nat} {Sa : Nat → Prop} {AA : Ar} {F : Nat → Lab} {B : Int → Nat} {top : Int} {L : HL}
theorem HpW.setl (h : HpW w p pa Sa AA F B top L) (hn : Nd L) {o : Ob} (ho : o ∈ L) {sv iv : Value} {c : Int} (hb : ObC w F (B o.h) sv iv c o) {sb k : Nat} (hsv : sv = .slice (some ⟨sb, 0, none⟩) o.links.length k) {j : Nat} (hj : j < o.links.length) (x : Lk) :
    HpW ((w.setCell ⟨sb, j * 2, none⟩ (.int .i64 x.kind)).setCell ⟨sb, j * 2 + 1, none⟩ (.int .u64 x.h)) p pa Sa AA F B top (Go.Proofs.Ytmkajdfajcodjaa.setl L o.h j x) ∧ Fr (fun k => k = sb) w ((w.setCell ⟨sb, j * 2, none⟩ (.int .i64 x.kind)).setCell ⟨sb, j * 2 + 1, none⟩ (.int .u64 x.h)) := by
  subst hsv
  have hlab : F sb = (o.h, 1) := hb.fs sb rfl
  have hfr : Fr (fun k => k = sb) w ((w.setCell ⟨sb, j * 2, none⟩ (.int .i64 x.kind)).setCell ⟨sb, j * 2 + 1, none⟩ (.int .u64 x.h)) := by
    have h0 : Fr (fun k => k = sb) w (w.setCell ⟨sb, j * 2, none⟩ (.int .i64 x.kind)) := (Fr.refl (fun k => k = sb) w).setCell _ _ (fun _ => rfl)
    exact h0.setCell _ _ (fun _ => rfl)
  have hne : B o.h ≠ sb := fun e => by have := hb.fb; rw [e, hlab] at this; cases this
  refine ⟨h.one hn ho (fun q => { q with links := q.links.set j x }) (fun _ => rfl) hfr (fun k e => ⟨1, by rw [e]; exact hlab⟩) (fun _ _ => rfl) ⟨.slice (some ⟨sb, 0, none⟩) o.links.length k, iv, c, ?_⟩, hfr⟩
  refine ⟨by rw [hfr.block _ hb.lt hne]; exact hb.hb, ?_, hfr.owns hb.hi (fun k hk e => ?_), hb.hc, hb.fb, hb.fs, hb.fi⟩
  · have h1 := (hb.hs.stored (j * 2) (.int .i64 x.kind)).1
    have h2 := (h1.stored (j * 2 + 1) (.int .u64 x.h)).1
    simp only [List.length_set]
    rw [← lkv_set o.links j x hj]
    exact h2
  · subst e
    have := hb.fi _ hk
    rw [hlab] at this
    cases this
theorem Put_none (h : HpW w p pa Sa AA F B top L) {hd slot : Int} {x : Lk} (e : fnd L hd = none) (h0 : Hn hd) :
    Calls Try.prog 27 #[.pointer (some ⟨p, 0, none⟩), .int .u64 hd, .int .i64 slot, .agg #[.int .i64 x.kind, .int .u64 x.h]] w fun e w' => e = .returned (.tuple #[.slice none 0 0, .slice none 0 0, .int .i64 2]) ∧ Below w.heap.size w w' := by
  obtain ⟨w1, hw1⟩ : ∃ w1, w1 = w.alloc (.cells #[.int .i64 x.kind, .int .u64 x.h] 67) := ⟨_, rfl⟩
  have hb1 : Below w.heap.size w w1 := by rw [hw1]; exact (Below.refl _ _).alloc (Nat.le_refl _) _
  have h1 : HpW w1 p pa Sa AA F B top L := h.fr (fp := fun _ => False) (Fr.of_below hb1) (fun e => e) (fun _ _ e => e) (fun _ _ _ _ _ e => e) (fun _ _ => rfl)
  have HF := hid (find_none h1 (fun o ho => fnd_none.1 e o ho) h0)
  have HW1 := hid hw1
  have HB1 := hid hb1
  clear h h0 e h1 hw1 hb1
  go_enter Try.func27, Try.ntmps27
  go_upto_region 1 with fail
  rw [← HW1.out]
  go_wp2_with (refine HF.out.mono ?_; rintro e w1 ⟨rfl, rfl⟩)
  go_ret3
  exact ⟨rfl, HB1.out⟩
theorem Put_arg (h : HpW w p pa Sa AA F B top L) {o : Ob} (ho : o ∈ L) {slot : Int} {x : Lk} (hb : slot < 0 ∨ (o.links.length : Int) ≤ slot ∨ isl x = false) (_h8 : o.links.length ≤ 8) :
    Calls Try.prog 27 #[.pointer (some ⟨p, 0, none⟩), .int .u64 o.h, .int .i64 slot, .agg #[.int .i64 x.kind, .int .u64 x.h]] w fun e w' => e = .returned (.tuple #[.slice none 0 0, .slice none 0 0, .int .i64 1]) ∧ Below w.heap.size w w' := by
  obtain ⟨w1, hw1⟩ : ∃ w1, w1 = w.alloc (.cells #[.int .i64 x.kind, .int .u64 x.h] 67) := ⟨_, rfl⟩
  have hb1 : Below w.heap.size w w1 := by rw [hw1]; exact (Below.refl _ _).alloc (Nat.le_refl _) _
  have h1 : HpW w1 p pa Sa AA F B top L := h.fr (fp := fun _ => False) (Fr.of_below hb1) (fun e => e) (fun _ _ e => e) (fun _ _ _ _ _ e => e) (fun _ _ => rfl)
  have HF := hid (find_some h1 ho)
  obtain ⟨sv, iv, c, hob⟩ := h1.ob o ho
  have c0 := hob.c0
  obtain ⟨sa, sc, rfl⟩ := own_form hob.hs
  have b0 : w1.cell? ⟨w.heap.size, 0, none⟩ = some (.int .i64 x.kind) := by rw [hw1, cell_of_row _ _ 0 _ _ _ (heap_alloc_new _ _)]; rfl
  have b1 : w1.cell? ⟨w.heap.size, 1, none⟩ = some (.int .u64 x.h) := by rw [hw1, cell_of_row _ _ 1 _ _ _ (heap_alloc_new _ _)]; rfl
  have HL := hid (isLink_any w1 x)
  have HW1 := hid hw1
  have HB1 := hid hb1
  have HB := hid hb
  generalize o.links.length = n at *
  generalize o.h = hd at *
  clear h ho h1 hw1 hb1 hob hb
  by_cases s0 : slot < 0
  · have d0 : decide (slot < 0) = true := by simpa using s0
    clear s0
    go_enter Try.func27, Try.ntmps27
    go_upto_region 1 with fail
    rw [← HW1.out]
    go_wp2_with (refine HF.out.mono ?_; rintro e w1 ⟨rfl, rfl⟩)
    go_ret3
    exact ⟨rfl, HB1.out⟩
  · have d0 : decide (slot < 0) = false := by simpa using s0
    by_cases s1 : (n : Int) ≤ slot
    · have d1 : decide ((n : Int) ≤ slot) = true := by simpa using s1
      clear s0 s1
      go_enter Try.func27, Try.ntmps27
      go_upto_region 1 with fail
      rw [← HW1.out]
      go_wp2_with (refine HF.out.mono ?_; rintro e w1 ⟨rfl, rfl⟩)
      go_ret3
      exact ⟨rfl, HB1.out⟩
    · have d1 : decide ((n : Int) ≤ slot) = false := by simpa using s1
      have hi : isl x = false := by
        rcases HB.out with e | e | e
        · exact absurd e s0
        · exact absurd e s1
        · exact e
      rw [hi] at HL
      clear s0 s1 hi
      go_enter Try.func27, Try.ntmps27
      go_upto_region 1 with fail
      rw [← HW1.out]
      go_wp2_with fail
      refine HF.out.mono ?_
      rintro e w1 ⟨rfl, rfl⟩
      go_wp2_with fail
      refine HL.out.mono ?_
      rintro e w2 ⟨rfl, hw2⟩
      have HB2 := hid (HB1.out.trans (show Below w.heap.size w1 w2 by rw [hw2]; exact (Below.refl _ _).alloc HB1.out.size _))
      clear hw2 b0 b1 c0
      go_wp2
      go_ret3
      exact ⟨rfl, HB2.out⟩
set_option maxRecDepth 100000 in
set_option maxHeartbeats 4000000 in
theorem Put_oth (h : HpW w p pa Sa AA F B top L) (hi : HIn top L) (htop : top ≤ 4294967295) {o : Ob} (ho : o ∈ L) {j : Nat} (hj : j < o.links.length) {old x : Lk} (hold : o.links[j]? = some old) (hsl : isl x = true) (hxb : Nm x.kind ∧ Hn x.h) (hk : x.kind ≠ 1) :
    Calls Try.prog 27 #[.pointer (some ⟨p, 0, none⟩), .int .u64 o.h, .int .i64 j, .agg #[.int .i64 x.kind, .int .u64 x.h]] w (EndPost w p pa AA F B top (Go.Proofs.Ytmkajdfajcodjaa.setl L o.h j x) old) := by
  obtain ⟨w1, hw1⟩ : ∃ w1, w1 = w.alloc (.cells #[.int .i64 x.kind, .int .u64 x.h] 67) := ⟨_, rfl⟩
  have hb1 : Below w.heap.size w w1 := by rw [hw1]; exact (Below.refl _ _).alloc (Nat.le_refl _) _
  obtain ⟨F0, hF0⟩ : ∃ F0, F0 = nw F w.heap.size outL := ⟨_, rfl⟩
  have h1 : HpW w1 p pa Sa AA F0 B top L := h.fr (fp := fun _ => False) (Fr.of_below hb1) (fun e => e) (fun _ _ e => e) (fun _ _ _ _ _ e => e) (fun _ hk => by rw [hF0]; exact nw_lt hk)
  have HF := hid (find_some h1 ho)
  obtain ⟨sv, iv, c, hob⟩ := h1.ob o ho
  have c0 := hob.c0
  obtain ⟨sa, sc, rfl⟩ := own_form hob.hs
  have b0 : w1.cell? ⟨w.heap.size, 0, none⟩ = some (.int .i64 x.kind) := by rw [hw1, cell_of_row _ _ 0 _ _ _ (heap_alloc_new _ _)]; rfl
  have b1 : w1.cell? ⟨w.heap.size, 1, none⟩ = some (.int .u64 x.h) := by rw [hw1, cell_of_row _ _ 1 _ _ _ (heap_alloc_new _ _)]; rfl
  have hbx : w1.heap[w.heap.size]? = some (.cells #[.int .i64 x.kind, .int .u64 x.h] 67 (0, 0)) := by rw [hw1]; exact heap_alloc_new _ _
  obtain ⟨w2, hw2⟩ : ∃ w2, w2 = w1.alloc (.cells #[.int .i64 x.kind, .int .u64 x.h] 67) := ⟨_, rfl⟩
  have hb2 : Below w1.heap.size w1 w2 := by rw [hw2]; exact (Below.refl _ _).alloc (Nat.le_refl _) _
  have h2 : HpW w2 p pa Sa AA F0 B top L := h1.fr (fp := fun _ => False) (Fr.of_below hb2) (fun e => e) (fun _ _ e => e) (fun _ _ _ _ _ e => e) (fun _ _ => rfl)
  have hlx : w.heap.size < w1.heap.size := by rw [hw1]; simp
  have hbx2 : w2.heap[w.heap.size]? = some (.cells #[.int .i64 x.kind, .int .u64 x.h] 67 (0, 0)) := (hb2.block _ hlx).trans hbx
  have hlnk := (hi.lnk o ho).1
  have hoi := hi.lnk o ho
  have HLK := hid (isLink_any w1 x)
  rw [hsl] at HLK
  have hfx : F0 w.heap.size = outL := by rw [hF0]; exact nw_ge (Nat.le_refl _)
  have hag0 : ∀ k, k < w.heap.size → F0 k = F k := fun k hk => by rw [hF0]; exact nw_lt hk
  have d0 : decide ((j : Int) < 0) = false := by simp
  have d1 : decide ((o.links.length : Int) ≤ (j : Int)) = false := by simp; omega
  have HW1 := hid hw1
  have HB1 := hid hb1
  have HW2 := hid hw2
  have HB2 := hid hb2
  have H2 := hid h2
  have HBX2 := hid hbx2
  have HFX := hid hfx
  have HAG0 := hid hag0
  have HI := hid hi
  have HTOP := hid htop
  have HO := hid ho
  have HOI := hid hoi
  have HOLD := hid hold
  have HJ := hid hj
  have HXB := hid hxb
  have HL5 := hid (h.len hi.nd)
  have hobd := h.bd ho
  have dk : (x.kind == 1) = false := by simpa using hk
  clear hw1 hb1 hw2 hb2 h2 hbx hbx2 hfx hag0 hi htop ho hoi hold h1 h hob hsl hF0 hj hxb
  go_enter Try.func27, Try.ntmps27
  go_upto_region 1 with fail
  rw [← HW1.out]
  go_wp2_with fail
  refine HF.out.mono ?_
  rintro e w0 ⟨rfl, rfl⟩
  go_wp2_with fail
  refine HLK.out.mono ?_
  rintro e wq ⟨rfl, hwq⟩
  obtain rfl : wq = w2 := hwq.trans HW2.out.symm
  clear hwq b0 b1 c0
  have b0 : wq.cell? ⟨w.heap.size, 0, none⟩ = some (.int .i64 x.kind) := by rw [cell_of_row _ _ 0 _ _ _ HBX2.out]; rfl
  have b1 : wq.cell? ⟨w.heap.size, 1, none⟩ = some (.int .u64 x.h) := by rw [cell_of_row _ _ 1 _ _ _ HBX2.out]; rfl
  obtain ⟨wt, hwt⟩ : ∃ wt, wt = wq := ⟨_, rfl⟩
  obtain ⟨Lt, hLt⟩ : ∃ Lt, Lt = L := ⟨_, rfl⟩
  obtain ⟨o1, ho1⟩ : ∃ o1, o1 = o := ⟨_, rfl⟩
  have ht : HpW wt p pa Sa AA F0 B top Lt := by rw [hwt, hLt]; exact H2.out
  have hit : HIn top Lt := by rw [hLt]; exact HI.out
  have hot : o1 ∈ Lt := by rw [hLt, ho1]; exact HO.out
  have eoh : o1.h = o.h := by rw [ho1]
  have eol : o1.links = o.links := by rw [ho1]
  have hbt : wt.heap[w.heap.size]? = some (.cells #[.int .i64 x.kind, .int .u64 x.h] 67 (0, 0)) := by rw [hwt]; exact HBX2.out
  have hft : FrF F0 w1 wt := by rw [hwt]; exact Fr.of_below HB2.out
  rw [← hwt] at b0 b1 ⊢
  clear hwt ho1
  go_upto_region 10 with fail
  have hbl := ht.bd hot
  obtain ⟨sv, iv, c, hob⟩ := ht.ob o1 hot
  rw [eoh] at hob
  have hrow := hob.hs
  obtain ⟨sb, sc, hsv, _⟩ := hrow.form (by rw [eol]; have := HJ.out; omega)
  subst hsv
  rw [eol] at hrow
  have hjl := HJ.out
  obtain ⟨e1, e2⟩ := lkv_at o.links j old HOLD.out
  have c0 := hob.c0
  rw [eol] at c0
  have m0 : wt.cell? ⟨sb, j * 2, none⟩ = some (.int .i64 old.kind) := by rw [hrow.cellAt _ (by omega)]; exact e1
  have m1 : wt.cell? ⟨sb, j * 2 + 1, none⟩ = some (.int .u64 old.h) := by rw [hrow.cellAt _ (by omega)]; exact e2
  obtain ⟨wo, hwo⟩ : ∃ wo, wo = wt.alloc (.cells #[.int .i64 old.kind, .int .u64 old.h] 67) := ⟨_, rfl⟩
  have hbo : Below wt.heap.size wt wo := by rw [hwo]; exact (Below.refl _ _).alloc (Nat.le_refl _) _
  have hsbl := (hrow.lt sb rfl).2
  have hBl := hob.lt
  have hxl : w.heap.size < wt.heap.size := (Array.getElem?_eq_some_iff.1 hbt).1
  obtain ⟨F1, hF1⟩ : ∃ F1, F1 = nw F0 wt.heap.size outL := ⟨_, rfl⟩
  have ho1 : HpW wo p pa Sa AA F1 B top Lt := ht.fr (fp := fun _ => False) (Fr.of_below hbo) (fun e => e) (fun _ _ e => e) (fun _ _ _ _ _ e => e) (fun _ hk => by rw [hF1]; exact nw_lt hk)
  have hobo : ObC wo F1 (B o1.h) (.slice (some ⟨sb, 0, none⟩) o1.links.length sc) iv c o1 := by
    rw [eoh]
    exact hob.fr (fp := fun _ => False) (Fr.of_below hbo) (fun _ _ _ e => e) (fun _ hk => by rw [hF1]; exact nw_lt hk)
  have hag1 : ∀ k, k < wt.heap.size → F1 k = F0 k := fun k hk => by rw [hF1]; exact nw_lt hk
  have hnx : sb ≠ w.heap.size := fun e => by
    have := hob.fs sb rfl
    rw [e, HFX.out] at this
    have := congrArg Prod.fst this
    simp [outL] at this
    omega
  have HT := hid ht
  have HIT := hid hit
  have HOT := hid hot
  have HBT := hid hbt
  have HFT := hid hft
  have HWO := hid hwo
  have HBO := hid hbo
  have HO1 := hid ho1
  have HOBO := hid hobo
  have HAG1 := hid hag1
  have EOH := hid eoh
  have EOL := hid eol
  have HROW := hid hrow
  generalize hn : o.links.length = n at *
  clear ht hit hot hbt hft hwo hbo ho1 hobo hag1 eoh eol hrow e1 e2 hob hF1
  have HNN := hid hn
  clear hn
  go_upto_region 11 with fail
  rw [← HWO.out]
  clear m0 m1 c0 b0 b1
  have q0 : wo.cell? ⟨B o.h, 0, none⟩ = some (.slice (some ⟨sb, 0, none⟩) n sc) := by
    have := HOBO.out.c0
    rw [EOH.out, EOL.out, HNN.out] at this
    exact this
  have hbxo := (HBO.out.block _ hxl).trans HBT.out
  have q1 : wo.cell? ⟨w.heap.size, 0, none⟩ = some (.int .i64 x.kind) := by rw [cell_of_row _ _ 0 _ _ _ hbxo]; rfl
  have q2 : wo.cell? ⟨w.heap.size, 1, none⟩ = some (.int .u64 x.h) := by rw [cell_of_row _ _ 1 _ _ _ hbxo]; rfl
  have hro := HOBO.out.hs
  rw [EOL.out, HNN.out] at hro
  have hjn : j < n := HJ.out
  have e1 : wo.cell? ⟨sb, j * 2, none⟩ = some (.int .i64 old.kind) := by rw [hro.cellAt _ (by omega)]; exact (lkv_at o.links j old HOLD.out).1
  have e2 : wo.cell? ⟨sb, j * 2 + 1, none⟩ = some (.int .u64 old.h) := by rw [hro.cellAt _ (by omega)]; exact (lkv_at o.links j old HOLD.out).2
  have z1 := hro.frozenAt (j * 2)
  have z2 := hro.frozenAt (j * 2 + 1)
  have ho0 : wo.heap[wt.heap.size]? = some (.cells #[.int .i64 old.kind, .int .u64 old.h] 67 (0, 0)) := by rw [HWO.out]; exact heap_alloc_new _ _
  have HOO := hid ho0
  clear hbxo hro ho0
  refine wp_region_mix [0, 0, 0, 1, 0, 1, 0, 3] (fun W => W.cell? ⟨B o.h, 0, none⟩ = some (.slice (some ⟨sb, 0, none⟩) n sc) ∧ W.cell? ⟨w.heap.size, 0, none⟩ = some (.int .i64 x.kind) ∧ W.cell? ⟨w.heap.size, 1, none⟩ = some (.int .u64 x.h)) (by kernel_rfl) (by kernel_rfl) ⟨by simpa using q0, by simpa using q1, by simpa using q2⟩ ?_
  repeat (first
    | (refine' wpMix_value _ rfl rfl _ _; rotate_left; (solve | (intro W; go_simp) | (intro W; go_simp; with_reducible rfl)); simp only [Act.put, List.setIfInBounds_toArray, List.set_cons_zero, List.set_cons_succ])
    | (refine' wpMix_read _ rfl rfl _ _; rotate_left; (solve | (rintro W ⟨h1, h2, h3⟩; go_simp) | (rintro W ⟨h1, h2, h3⟩; go_simp; with_reducible rfl)); simp only [Act.put, List.setIfInBounds_toArray, List.set_cons_zero, List.set_cons_succ]))
  have g1 : wo.drew.cell? ⟨sb, j * 2, none⟩ = some (.int .i64 old.kind) := by simpa using e1
  have g2 : wo.drew.cell? ⟨sb, j * 2 + 1, none⟩ = some (.int .u64 old.h) := by simpa using e2
  refine wpMix_skip ((wo.drew.setCell ⟨sb, j * 2, none⟩ (.int .i64 x.kind)).setCell ⟨sb, j * 2 + 1, none⟩ (.int .u64 x.h)) (by decide) rfl ?nrun1 (fun h => by cases h) ?nrest1
  case nrun1 => go_simp
  simp only [Act.put]
  refine wpMix_end ?_
  have h4 : HpW wo.drew p pa Sa AA F1 B top Lt := HO1.out.fr (fp := fun _ => False) (Fr.refl _ _).drew (fun e => e) (fun _ _ e => e) (fun _ _ _ _ _ e => e) (fun _ _ => rfl)
  have hob4 : ObC wo.drew F1 (B o1.h) (.slice (some ⟨sb, 0, none⟩) o1.links.length sc) iv c o1 := HOBO.out.fr (fp := fun _ => False) (Fr.refl _ _).drew (fun _ _ _ e => e) (fun _ _ => rfl)
  obtain ⟨h5, hf5⟩ := h4.setl HIT.out.nd HOT.out hob4 rfl (by rw [EOL.out, HNN.out]; exact hjn) x
  rw [EOH.out] at h5
  obtain ⟨w5, hw5⟩ : ∃ w5, w5 = (wo.drew.setCell ⟨sb, j * 2, none⟩ (.int .i64 x.kind)).setCell ⟨sb, j * 2 + 1, none⟩ (.int .u64 x.h) := ⟨_, rfl⟩
  rw [← hw5] at h5 hf5 ⊢
  have hlab : F1 sb = (o.h, 1) := by
    have := HOBO.out.fs sb rfl
    rw [EOH.out] at this
    exact this
  have hff5 : FrF F1 wo w5 := Fr.trans (fp2 := fun k => k = sb) (Fr.refl (fun k => F1 k ≠ outL) wo).drew hf5 (fun k e _ => by
    rw [e, hlab]
    intro e2
    have := congrArg Prod.fst e2
    simp [outL] at this
    omega)
  have hoo5 : w5.heap[wt.heap.size]? = some (.cells #[.int .i64 old.kind, .int .u64 old.h] 67 (0, 0)) := by
    rw [hf5.block _ (Array.getElem?_eq_some_iff.1 HOO.out).1 (by omega)]
    exact HOO.out
  obtain ⟨L2, hL2⟩ : ∃ L2, L2 = Go.Proofs.Ytmkajdfajcodjaa.setl Lt o.h j x := ⟨_, rfl⟩
  rw [← hL2] at h5
  have hi2 : HIn top L2 := by rw [hL2]; exact HIT.out.setl o.h j x HXB.out
  have hbold : Nm old.kind ∧ Hn old.h := HOI.out.2 old (List.mem_of_getElem? HOLD.out)
  obtain ⟨w6, hw6⟩ : ∃ w6, w6 = w5.alloc (.cells #[.pointer (some ⟨p, 0, none⟩), .slice none 0 0, .slice none 0 0, .slice none 0 0] 118) := ⟨_, rfl⟩
  have hb6 : Below w5.heap.size w5 w6 := by rw [hw6]; exact (Below.refl _ _).alloc (Nat.le_refl _) _
  have hs6 : SwW w6 w5.heap.size p (nw F1 w5.heap.size (-2, 0)) (.slice none 0 0) (.slice none 0 0) (.slice none 0 0) [] [] [] := SwW.new (by rw [hw6]; exact heap_alloc_new _ _)
  have h6 : HpW w6 p pa Sa AA (nw F1 w5.heap.size (-2, 0)) B top L2 := h5.fr (fp := fun _ => False) (Fr.of_below hb6) (fun e => e) (fun _ _ e => e) (fun _ _ _ _ _ e => e) (fun _ hk => nw_lt hk)
  have hol : wt.heap.size < w5.heap.size := (Array.getElem?_eq_some_iff.1 hoo5).1
  have hoo6 := (hb6.block _ hol).trans hoo5
  have r0 : w6.cell? ⟨wt.heap.size, 0, none⟩ = some (.int .i64 old.kind) := by rw [cell_of_row _ _ 0 _ _ _ hoo6]; rfl
  have r1 : w6.cell? ⟨wt.heap.size, 1, none⟩ = some (.int .u64 old.h) := by rw [cell_of_row _ _ 1 _ _ _ hoo6]; rfl
  have hlet := letGo_any h6 hs6 hi2 HTOP.out old hbold.2 hbold.1 (by simp) (by simp)
  obtain ⟨q, hq⟩ : ∃ q, q = w5.heap.size := ⟨_, rfl⟩
  rw [← hq] at hlet
  have HLET := hid hlet
  have HW6 := hid hw6
  have HB6 := hid hb6
  have HFF5 := hid hff5
  have HI2 := hid hi2
  have HQ := hid hq
  have HL2 := hid hL2
  have HLL := hid (show L2.length ≤ 65536 from h5.len hi2.nd)
  have hwt5 := hf5.size
  clear h4 hob4 h5 hf5 hw5 hlab hff5 hoo5 hL2 hi2 hbold hw6 hb6 hs6 h6 hoo6 hlet hq q0 q1 q2 e1 e2 z1 z2 g1 g2
  go_upto_region 13 with fail
  rw [← HW6.out, ← HQ.out]
  go_wp2_with fail
  refine HLET.out.mono ?_
  rintro e w7 ⟨⟨v, rfl⟩, F2, wv2, fv2, k1, k2, k3, k4⟩
  have hi3 := HI2.out.let1 old
  have hwq := (WQ.nil L2).let1 HI2.out old
  have hll := len_let1 L2 old
  have htl := totl_let1 L2 old
  have hto := totl_le HI2.out
  have hle := HLL.out
  rw [List.nil_append] at hwq k2
  have hrun := run_any k1 k2 hi3.1 hwq HTOP.out (by rw [hll.1]; simp; omega) (by rw [htl]; simp; omega)
  have HRUN := hid hrun
  have K3 := hid k3
  have K4 := hid k4
  clear hrun k1 k2 k3 k4 hi3 hwq hll htl hto hle r0 r1
  go_wp2_with fail
  refine HRUN.out.mono ?_
  rintro e w8 ⟨⟨v2, rfl⟩, Lf, g, f, Sa3, AA3, F3, wv3, gv3, fv3, m1, m2, m3, m4, m5, m6⟩
  have c2 := m3.c2
  have c3 := m3.c3
  have M1 := hid m1
  have M2 := hid m2
  have M3 := hid m3
  have M4 := hid m4
  have M5 := hid m5
  have M6 := hid m6
  clear m1 m2 m3 m4 m5 m6
  go_wp2
  go_quiet (fail)
  go_wp2
  have hq := HQ.out
  have z1 := HB1.out.size
  have z2 := HFT.out.size
  have z3 := HBO.out.size
  have z4 := HFF5.out.size
  have z5 := HB6.out.size
  have z6 := K4.out.size
  have hag : ∀ k, k < w.heap.size → F3 k = F k := fun k hk => by
    rw [M5.out k (by omega), K3.out k (by omega), nw_lt (by omega), HAG1.out k (by omega)]
    exact HAG0.out k hk
  have hfr : ∀ nn, FrF F w (w8.drewN nn) := fun nn => by
    have f1 : FrF F w w1 := Fr.of_below HB1.out
    have f2 : FrF F w wt := FrF.trans f1 HFT.out HAG0.out
    have f3 : FrF F w wo := FrF.trans (F1 := F0) f2 (Fr.of_below HBO.out) HAG0.out
    have f4 : FrF F w w5 := FrF.trans f3 HFF5.out (fun k hk => (HAG1.out k (by omega)).trans (HAG0.out k hk))
    have f5 : FrF F w w6 := FrF.trans (F1 := F1) f4 (Fr.of_below HB6.out) (fun k hk => (HAG1.out k (by omega)).trans (HAG0.out k hk))
    have f6 : FrF F w w7 := FrF.trans f5 K4.out (fun k hk => by rw [nw_lt (by omega)]; exact (HAG1.out k (by omega)).trans (HAG0.out k hk))
    exact Fr.drewN (FrF.trans f6 M6.out (fun k hk => by rw [K3.out k (by omega), nw_lt (by omega)]; exact (HAG1.out k (by omega)).trans (HAG0.out k hk))) nn
  have HFR := hid hfr
  have HAG := hid hag
  clear hfr hag
  go_ret3
  have t1 : Told TU u64v w8 gv3 g := (⟨by simpa using M3.out.hg, fun _ _ e => e⟩ : RowS TU u64v (fun _ => False) 0 w8 gv3 g).told
  have t2 : Told TU u64v w8 fv3 ((let1 L2 old).2.2 ++ f) := (⟨by simpa using M3.out.hf, fun _ _ e => e⟩ : RowS TU u64v (fun _ => False) 0 w8 fv3 _).told
  have m1 := M1.out
  rw [HL2.out, hLt] at m1 t2
  exact ⟨gv3, fv3, Lf, g, f, Sa3, AA3, F3, rfl, t1.below (below_drewN (Below.refl _ _) _), t2.below (below_drewN (Below.refl _ _) _), m1, M2.out.drewN _, M4.out, HAG.out, HFR.out _, M3.out.ownL.1, M3.out.ownL.2⟩
set_option maxRecDepth 100000 in
set_option maxHeartbeats 4000000 in
theorem Put_obj (h : HpW w p pa Sa AA F B top L) (hi : HIn top L) (htop : top ≤ 4294967295) {o : Ob} (ho : o ∈ L) {j : Nat} (hj : j < o.links.length) {old x : Lk} (hold : o.links[j]? = some old) (hsl : isl x = true) (hxb : Nm x.kind ∧ Hn x.h) (hk : x.kind = 1) {y : Ob} (hy : whl L x.h = some y) (hyt : y.count ≠ top) :
    Calls Try.prog 27 #[.pointer (some ⟨p, 0, none⟩), .int .u64 o.h, .int .i64 j, .agg #[.int .i64 x.kind, .int .u64 x.h]] w (EndPost w p pa AA F B top (Go.Proofs.Ytmkajdfajcodjaa.setl (Go.Proofs.Ytmkajdfajcodjaa.setc L y.h (y.count + 1)) o.h j x) old) := by
  obtain ⟨w1, hw1⟩ : ∃ w1, w1 = w.alloc (.cells #[.int .i64 x.kind, .int .u64 x.h] 67) := ⟨_, rfl⟩
  have hb1 : Below w.heap.size w w1 := by rw [hw1]; exact (Below.refl _ _).alloc (Nat.le_refl _) _
  obtain ⟨F0, hF0⟩ : ∃ F0, F0 = nw F w.heap.size outL := ⟨_, rfl⟩
  have h1 : HpW w1 p pa Sa AA F0 B top L := h.fr (fp := fun _ => False) (Fr.of_below hb1) (fun e => e) (fun _ _ e => e) (fun _ _ _ _ _ e => e) (fun _ hk => by rw [hF0]; exact nw_lt hk)
  have HF := hid (find_some h1 ho)
  obtain ⟨sv, iv, c, hob⟩ := h1.ob o ho
  have c0 := hob.c0
  obtain ⟨sa, sc, rfl⟩ := own_form hob.hs
  have b0 : w1.cell? ⟨w.heap.size, 0, none⟩ = some (.int .i64 x.kind) := by rw [hw1, cell_of_row _ _ 0 _ _ _ (heap_alloc_new _ _)]; rfl
  have b1 : w1.cell? ⟨w.heap.size, 1, none⟩ = some (.int .u64 x.h) := by rw [hw1, cell_of_row _ _ 1 _ _ _ (heap_alloc_new _ _)]; rfl
  have hbx : w1.heap[w.heap.size]? = some (.cells #[.int .i64 x.kind, .int .u64 x.h] 67 (0, 0)) := by rw [hw1]; exact heap_alloc_new _ _
  obtain ⟨w2, hw2⟩ : ∃ w2, w2 = w1.alloc (.cells #[.int .i64 x.kind, .int .u64 x.h] 67) := ⟨_, rfl⟩
  have hb2 : Below w1.heap.size w1 w2 := by rw [hw2]; exact (Below.refl _ _).alloc (Nat.le_refl _) _
  have h2 : HpW w2 p pa Sa AA F0 B top L := h1.fr (fp := fun _ => False) (Fr.of_below hb2) (fun e => e) (fun _ _ e => e) (fun _ _ _ _ _ e => e) (fun _ _ => rfl)
  have hlx : w.heap.size < w1.heap.size := by rw [hw1]; simp
  have hbx2 : w2.heap[w.heap.size]? = some (.cells #[.int .i64 x.kind, .int .u64 x.h] 67 (0, 0)) := (hb2.block _ hlx).trans hbx
  have hlnk := (hi.lnk o ho).1
  have hoi := hi.lnk o ho
  have HLK := hid (isLink_any w1 x)
  rw [hsl] at HLK
  have hfx : F0 w.heap.size = outL := by rw [hF0]; exact nw_ge (Nat.le_refl _)
  have hag0 : ∀ k, k < w.heap.size → F0 k = F k := fun k hk => by rw [hF0]; exact nw_lt hk
  have d0 : decide ((j : Int) < 0) = false := by simp
  have d1 : decide ((o.links.length : Int) ≤ (j : Int)) = false := by simp; omega
  have HW1 := hid hw1
  have HB1 := hid hb1
  have HW2 := hid hw2
  have HB2 := hid hb2
  have H2 := hid h2
  have HBX2 := hid hbx2
  have HFX := hid hfx
  have HAG0 := hid hag0
  have HI := hid hi
  have HTOP := hid htop
  have HO := hid ho
  have HOI := hid hoi
  have HOLD := hid hold
  have HJ := hid hj
  have HXB := hid hxb
  have HL5 := hid (h.len hi.nd)
  have hobd := h.bd ho
  have DK := hid (show (x.kind == 1) = true by simpa using hk)
  clear hk
  have HUP := hid (Up_ok h2 hi htop hy hyt)
  have hym := (whl_some hi hy).1
  have hyc := hi.cnt y hym
  have HYB := hid (h.bd hym)
  have HYC := hid (show 0 ≤ y.count + 1 ∧ y.count + 1 ≤ top by omega)
  clear hw1 hb1 hw2 hb2 h2 hbx hbx2 hfx hag0 hi htop ho hoi hold h1 h hob hsl hF0 hj hxb
  go_enter Try.func27, Try.ntmps27
  go_upto_region 1 with fail
  rw [← HW1.out]
  go_wp2_with fail
  refine HF.out.mono ?_
  rintro e w0 ⟨rfl, rfl⟩
  go_wp2_with fail
  refine HLK.out.mono ?_
  rintro e wq ⟨rfl, hwq⟩
  obtain rfl : wq = w2 := hwq.trans HW2.out.symm
  clear hwq b0 b1 c0
  have b0 : wq.cell? ⟨w.heap.size, 0, none⟩ = some (.int .i64 x.kind) := by rw [cell_of_row _ _ 0 _ _ _ HBX2.out]; rfl
  have b1 : wq.cell? ⟨w.heap.size, 1, none⟩ = some (.int .u64 x.h) := by rw [cell_of_row _ _ 1 _ _ _ HBX2.out]; rfl
  have dk := DK.out
  clear hy hyt
  go_wp2_with fail
  refine HUP.out.mono ?_
  rintro e wt ⟨rfl, ht, hfu⟩
  clear dk
  obtain ⟨Lt, hLt⟩ : ∃ Lt, Lt = Go.Proofs.Ytmkajdfajcodjaa.setc L y.h (y.count + 1) := ⟨_, rfl⟩
  rw [← hLt] at ht
  have hit : HIn top Lt := by rw [hLt]; exact HI.out.setc _ _ HYC.out
  obtain ⟨o1, hot0, eoh, eol⟩ : ∃ o1 ∈ Go.Proofs.Ytmkajdfajcodjaa.setc L y.h (y.count + 1), o1.h = o.h ∧ o1.links = o.links := ⟨_, mem_setc.2 ⟨o, HO.out, rfl⟩, by split <;> rfl, by split <;> rfl⟩
  have hot : o1 ∈ Lt := by rw [hLt]; exact hot0
  have hxl0 := (Array.getElem?_eq_some_iff.1 HBX2.out).1
  have hbt : wt.heap[w.heap.size]? = some (.cells #[.int .i64 x.kind, .int .u64 x.h] 67 (0, 0)) := by
    rw [hfu.block _ hxl0 (fun e => by
      rw [HFX.out] at e
      have := congrArg Prod.fst e
      simp [outL] at this
      have := HYB.out
      omega)]
    exact HBX2.out
  have hft : FrF F0 w1 wt := FrF.trans (F1 := F0) (Fr.of_below HB2.out) (hfu.mono (fun k e _ => by
    rw [e]
    intro e2
    have := congrArg Prod.fst e2
    simp [outL] at this
    have := HYB.out
    omega)) (fun _ _ => rfl)
  clear b0 b1
  have b0 : wt.cell? ⟨w.heap.size, 0, none⟩ = some (.int .i64 x.kind) := by rw [cell_of_row _ _ 0 _ _ _ hbt]; rfl
  have b1 : wt.cell? ⟨w.heap.size, 1, none⟩ = some (.int .u64 x.h) := by rw [cell_of_row _ _ 1 _ _ _ hbt]; rfl
  clear hot0 hfu hxl0
  go_upto_region 10 with fail
  have hbl := ht.bd hot
  obtain ⟨sv, iv, c, hob⟩ := ht.ob o1 hot
  rw [eoh] at hob
  have hrow := hob.hs
  obtain ⟨sb, sc, hsv, _⟩ := hrow.form (by rw [eol]; have := HJ.out; omega)
  subst hsv
  rw [eol] at hrow
  have hjl := HJ.out
  obtain ⟨e1, e2⟩ := lkv_at o.links j old HOLD.out
  have c0 := hob.c0
  rw [eol] at c0
  have m0 : wt.cell? ⟨sb, j * 2, none⟩ = some (.int .i64 old.kind) := by rw [hrow.cellAt _ (by omega)]; exact e1
  have m1 : wt.cell? ⟨sb, j * 2 + 1, none⟩ = some (.int .u64 old.h) := by rw [hrow.cellAt _ (by omega)]; exact e2
  obtain ⟨wo, hwo⟩ : ∃ wo, wo = wt.alloc (.cells #[.int .i64 old.kind, .int .u64 old.h] 67) := ⟨_, rfl⟩
  have hbo : Below wt.heap.size wt wo := by rw [hwo]; exact (Below.refl _ _).alloc (Nat.le_refl _) _
  have hsbl := (hrow.lt sb rfl).2
  have hBl := hob.lt
  have hxl : w.heap.size < wt.heap.size := (Array.getElem?_eq_some_iff.1 hbt).1
  obtain ⟨F1, hF1⟩ : ∃ F1, F1 = nw F0 wt.heap.size outL := ⟨_, rfl⟩
  have ho1 : HpW wo p pa Sa AA F1 B top Lt := ht.fr (fp := fun _ => False) (Fr.of_below hbo) (fun e => e) (fun _ _ e => e) (fun _ _ _ _ _ e => e) (fun _ hk => by rw [hF1]; exact nw_lt hk)
  have hobo : ObC wo F1 (B o1.h) (.slice (some ⟨sb, 0, none⟩) o1.links.length sc) iv c o1 := by
    rw [eoh]
    exact hob.fr (fp := fun _ => False) (Fr.of_below hbo) (fun _ _ _ e => e) (fun _ hk => by rw [hF1]; exact nw_lt hk)
  have hag1 : ∀ k, k < wt.heap.size → F1 k = F0 k := fun k hk => by rw [hF1]; exact nw_lt hk
  have hnx : sb ≠ w.heap.size := fun e => by
    have := hob.fs sb rfl
    rw [e, HFX.out] at this
    have := congrArg Prod.fst this
    simp [outL] at this
    omega
  have HT := hid ht
  have HIT := hid hit
  have HOT := hid hot
  have HBT := hid hbt
  have HFT := hid hft
  have HWO := hid hwo
  have HBO := hid hbo
  have HO1 := hid ho1
  have HOBO := hid hobo
  have HAG1 := hid hag1
  have EOH := hid eoh
  have EOL := hid eol
  have HROW := hid hrow
  generalize hn : o.links.length = n at *
  clear ht hit hot hbt hft hwo hbo ho1 hobo hag1 eoh eol hrow e1 e2 hob hF1
  have HNN := hid hn
  clear hn
  go_upto_region 11 with fail
  rw [← HWO.out]
  clear m0 m1 c0 b0 b1
  have q0 : wo.cell? ⟨B o.h, 0, none⟩ = some (.slice (some ⟨sb, 0, none⟩) n sc) := by
    have := HOBO.out.c0
    rw [EOH.out, EOL.out, HNN.out] at this
    exact this
  have hbxo := (HBO.out.block _ hxl).trans HBT.out
  have q1 : wo.cell? ⟨w.heap.size, 0, none⟩ = some (.int .i64 x.kind) := by rw [cell_of_row _ _ 0 _ _ _ hbxo]; rfl
  have q2 : wo.cell? ⟨w.heap.size, 1, none⟩ = some (.int .u64 x.h) := by rw [cell_of_row _ _ 1 _ _ _ hbxo]; rfl
  have hro := HOBO.out.hs
  rw [EOL.out, HNN.out] at hro
  have hjn : j < n := HJ.out
  have e1 : wo.cell? ⟨sb, j * 2, none⟩ = some (.int .i64 old.kind) := by rw [hro.cellAt _ (by omega)]; exact (lkv_at o.links j old HOLD.out).1
  have e2 : wo.cell? ⟨sb, j * 2 + 1, none⟩ = some (.int .u64 old.h) := by rw [hro.cellAt _ (by omega)]; exact (lkv_at o.links j old HOLD.out).2
  have z1 := hro.frozenAt (j * 2)
  have z2 := hro.frozenAt (j * 2 + 1)
  have ho0 : wo.heap[wt.heap.size]? = some (.cells #[.int .i64 old.kind, .int .u64 old.h] 67 (0, 0)) := by rw [HWO.out]; exact heap_alloc_new _ _
  have HOO := hid ho0
  clear hbxo hro ho0
  refine wp_region_mix [0, 0, 0, 1, 0, 1, 0, 3] (fun W => W.cell? ⟨B o.h, 0, none⟩ = some (.slice (some ⟨sb, 0, none⟩) n sc) ∧ W.cell? ⟨w.heap.size, 0, none⟩ = some (.int .i64 x.kind) ∧ W.cell? ⟨w.heap.size, 1, none⟩ = some (.int .u64 x.h)) (by kernel_rfl) (by kernel_rfl) ⟨by simpa using q0, by simpa using q1, by simpa using q2⟩ ?_
  repeat (first
    | (refine' wpMix_value _ rfl rfl _ _; rotate_left; (solve | (intro W; go_simp) | (intro W; go_simp; with_reducible rfl)); simp only [Act.put, List.setIfInBounds_toArray, List.set_cons_zero, List.set_cons_succ])
    | (refine' wpMix_read _ rfl rfl _ _; rotate_left; (solve | (rintro W ⟨h1, h2, h3⟩; go_simp) | (rintro W ⟨h1, h2, h3⟩; go_simp; with_reducible rfl)); simp only [Act.put, List.setIfInBounds_toArray, List.set_cons_zero, List.set_cons_succ]))
  have g1 : wo.drew.cell? ⟨sb, j * 2, none⟩ = some (.int .i64 old.kind) := by simpa using e1
  have g2 : wo.drew.cell? ⟨sb, j * 2 + 1, none⟩ = some (.int .u64 old.h) := by simpa using e2
  refine wpMix_skip ((wo.drew.setCell ⟨sb, j * 2, none⟩ (.int .i64 x.kind)).setCell ⟨sb, j * 2 + 1, none⟩ (.int .u64 x.h)) (by decide) rfl ?nrun1 (fun h => by cases h) ?nrest1
  case nrun1 => go_simp
  simp only [Act.put]
  refine wpMix_end ?_
  have h4 : HpW wo.drew p pa Sa AA F1 B top Lt := HO1.out.fr (fp := fun _ => False) (Fr.refl _ _).drew (fun e => e) (fun _ _ e => e) (fun _ _ _ _ _ e => e) (fun _ _ => rfl)
  have hob4 : ObC wo.drew F1 (B o1.h) (.slice (some ⟨sb, 0, none⟩) o1.links.length sc) iv c o1 := HOBO.out.fr (fp := fun _ => False) (Fr.refl _ _).drew (fun _ _ _ e => e) (fun _ _ => rfl)
  obtain ⟨h5, hf5⟩ := h4.setl HIT.out.nd HOT.out hob4 rfl (by rw [EOL.out, HNN.out]; exact hjn) x
  rw [EOH.out] at h5
  obtain ⟨w5, hw5⟩ : ∃ w5, w5 = (wo.drew.setCell ⟨sb, j * 2, none⟩ (.int .i64 x.kind)).setCell ⟨sb, j * 2 + 1, none⟩ (.int .u64 x.h) := ⟨_, rfl⟩
  rw [← hw5] at h5 hf5 ⊢
  have hlab : F1 sb = (o.h, 1) := by
    have := HOBO.out.fs sb rfl
    rw [EOH.out] at this
    exact this
  have hff5 : FrF F1 wo w5 := Fr.trans (fp2 := fun k => k = sb) (Fr.refl (fun k => F1 k ≠ outL) wo).drew hf5 (fun k e _ => by
    rw [e, hlab]
    intro e2
    have := congrArg Prod.fst e2
    simp [outL] at this
    omega)
  have hoo5 : w5.heap[wt.heap.size]? = some (.cells #[.int .i64 old.kind, .int .u64 old.h] 67 (0, 0)) := by
    rw [hf5.block _ (Array.getElem?_eq_some_iff.1 HOO.out).1 (by omega)]
    exact HOO.out
  obtain ⟨L2, hL2⟩ : ∃ L2, L2 = Go.Proofs.Ytmkajdfajcodjaa.setl Lt o.h j x := ⟨_, rfl⟩
  rw [← hL2] at h5
  have hi2 : HIn top L2 := by rw [hL2]; exact HIT.out.setl o.h j x HXB.out
  have hbold : Nm old.kind ∧ Hn old.h := HOI.out.2 old (List.mem_of_getElem? HOLD.out)
  obtain ⟨w6, hw6⟩ : ∃ w6, w6 = w5.alloc (.cells #[.pointer (some ⟨p, 0, none⟩), .slice none 0 0, .slice none 0 0, .slice none 0 0] 118) := ⟨_, rfl⟩
  have hb6 : Below w5.heap.size w5 w6 := by rw [hw6]; exact (Below.refl _ _).alloc (Nat.le_refl _) _
  have hs6 : SwW w6 w5.heap.size p (nw F1 w5.heap.size (-2, 0)) (.slice none 0 0) (.slice none 0 0) (.slice none 0 0) [] [] [] := SwW.new (by rw [hw6]; exact heap_alloc_new _ _)
  have h6 : HpW w6 p pa Sa AA (nw F1 w5.heap.size (-2, 0)) B top L2 := h5.fr (fp := fun _ => False) (Fr.of_below hb6) (fun e => e) (fun _ _ e => e) (fun _ _ _ _ _ e => e) (fun _ hk => nw_lt hk)
  have hol : wt.heap.size < w5.heap.size := (Array.getElem?_eq_some_iff.1 hoo5).1
  have hoo6 := (hb6.block _ hol).trans hoo5
  have r0 : w6.cell? ⟨wt.heap.size, 0, none⟩ = some (.int .i64 old.kind) := by rw [cell_of_row _ _ 0 _ _ _ hoo6]; rfl
  have r1 : w6.cell? ⟨wt.heap.size, 1, none⟩ = some (.int .u64 old.h) := by rw [cell_of_row _ _ 1 _ _ _ hoo6]; rfl
  have hlet := letGo_any h6 hs6 hi2 HTOP.out old hbold.2 hbold.1 (by simp) (by simp)
  obtain ⟨q, hq⟩ : ∃ q, q = w5.heap.size := ⟨_, rfl⟩
  rw [← hq] at hlet
  have HLET := hid hlet
  have HW6 := hid hw6
  have HB6 := hid hb6
  have HFF5 := hid hff5
  have HI2 := hid hi2
  have HQ := hid hq
  have HL2 := hid hL2
  have HLL := hid (show L2.length ≤ 65536 from h5.len hi2.nd)
  have hwt5 := hf5.size
  clear h4 hob4 h5 hf5 hw5 hlab hff5 hoo5 hL2 hi2 hbold hw6 hb6 hs6 h6 hoo6 hlet hq q0 q1 q2 e1 e2 z1 z2 g1 g2
  go_upto_region 13 with fail
  rw [← HW6.out, ← HQ.out]
  go_wp2_with fail
  refine HLET.out.mono ?_
  rintro e w7 ⟨⟨v, rfl⟩, F2, wv2, fv2, k1, k2, k3, k4⟩
  have hi3 := HI2.out.let1 old
  have hwq := (WQ.nil L2).let1 HI2.out old
  have hll := len_let1 L2 old
  have htl := totl_let1 L2 old
  have hto := totl_le HI2.out
  have hle := HLL.out
  rw [List.nil_append] at hwq k2
  have hrun := run_any k1 k2 hi3.1 hwq HTOP.out (by rw [hll.1]; simp; omega) (by rw [htl]; simp; omega)
  have HRUN := hid hrun
  have K3 := hid k3
  have K4 := hid k4
  clear hrun k1 k2 k3 k4 hi3 hwq hll htl hto hle r0 r1
  go_wp2_with fail
  refine HRUN.out.mono ?_
  rintro e w8 ⟨⟨v2, rfl⟩, Lf, g, f, Sa3, AA3, F3, wv3, gv3, fv3, m1, m2, m3, m4, m5, m6⟩
  have c2 := m3.c2
  have c3 := m3.c3
  have M1 := hid m1
  have M2 := hid m2
  have M3 := hid m3
  have M4 := hid m4
  have M5 := hid m5
  have M6 := hid m6
  clear m1 m2 m3 m4 m5 m6
  go_wp2
  go_quiet (fail)
  go_wp2
  have hq := HQ.out
  have z1 := HB1.out.size
  have z2 := HFT.out.size
  have z3 := HBO.out.size
  have z4 := HFF5.out.size
  have z5 := HB6.out.size
  have z6 := K4.out.size
  have hag : ∀ k, k < w.heap.size → F3 k = F k := fun k hk => by
    rw [M5.out k (by omega), K3.out k (by omega), nw_lt (by omega), HAG1.out k (by omega)]
    exact HAG0.out k hk
  have hfr : ∀ nn, FrF F w (w8.drewN nn) := fun nn => by
    have f1 : FrF F w w1 := Fr.of_below HB1.out
    have f2 : FrF F w wt := FrF.trans f1 HFT.out HAG0.out
    have f3 : FrF F w wo := FrF.trans (F1 := F0) f2 (Fr.of_below HBO.out) HAG0.out
    have f4 : FrF F w w5 := FrF.trans f3 HFF5.out (fun k hk => (HAG1.out k (by omega)).trans (HAG0.out k hk))
    have f5 : FrF F w w6 := FrF.trans (F1 := F1) f4 (Fr.of_below HB6.out) (fun k hk => (HAG1.out k (by omega)).trans (HAG0.out k hk))
    have f6 : FrF F w w7 := FrF.trans f5 K4.out (fun k hk => by rw [nw_lt (by omega)]; exact (HAG1.out k (by omega)).trans (HAG0.out k hk))
    exact Fr.drewN (FrF.trans f6 M6.out (fun k hk => by rw [K3.out k (by omega), nw_lt (by omega)]; exact (HAG1.out k (by omega)).trans (HAG0.out k hk))) nn
  have HFR := hid hfr
  have HAG := hid hag
  clear hfr hag
  go_ret3
  have t1 : Told TU u64v w8 gv3 g := (⟨by simpa using M3.out.hg, fun _ _ e => e⟩ : RowS TU u64v (fun _ => False) 0 w8 gv3 g).told
  have t2 : Told TU u64v w8 fv3 ((let1 L2 old).2.2 ++ f) := (⟨by simpa using M3.out.hf, fun _ _ e => e⟩ : RowS TU u64v (fun _ => False) 0 w8 fv3 _).told
  have m1 := M1.out
  rw [HL2.out, hLt] at m1 t2
  exact ⟨gv3, fv3, Lf, g, f, Sa3, AA3, F3, rfl, t1.below (below_drewN (Below.refl _ _) _), t2.below (below_drewN (Below.refl _ _) _), m1, M2.out.drewN _, M4.out, HAG.out, HFR.out _, M3.out.ownL.1, M3.out.ownL.2⟩
theorem Put_up (h : HpW w p pa Sa AA F B top L) (hi : HIn top L) {o : Ob} (ho : o ∈ L) {j : Nat} (hj : j < o.links.length) {x : Lk} (hk : x.kind = 1) {er : Int} (her : er ≠ 0)
    (hup : ∀ W, HpW W p pa Sa AA F B top L → Calls Try.prog 24 #[.pointer (some ⟨p, 0, none⟩), .int .u64 x.h] W fun e W' => e = .returned (.tuple #[.int .u32 0, .int .i64 er]) ∧ Fr (fun _ => False) W W') :
    Calls Try.prog 27 #[.pointer (some ⟨p, 0, none⟩), .int .u64 o.h, .int .i64 j, .agg #[.int .i64 x.kind, .int .u64 x.h]] w fun e w' => e = .returned (.tuple #[.slice none 0 0, .slice none 0 0, .int .i64 er]) ∧ Below w.heap.size w w' := by
  obtain ⟨w1, hw1⟩ : ∃ w1, w1 = w.alloc (.cells #[.int .i64 x.kind, .int .u64 x.h] 67) := ⟨_, rfl⟩
  have hb1 : Below w.heap.size w w1 := by rw [hw1]; exact (Below.refl _ _).alloc (Nat.le_refl _) _
  have h1 : HpW w1 p pa Sa AA F B top L := h.fr (fp := fun _ => False) (Fr.of_below hb1) (fun e => e) (fun _ _ e => e) (fun _ _ _ _ _ e => e) (fun _ _ => rfl)
  have HF := hid (find_some h1 ho)
  obtain ⟨sv, iv, c, hob⟩ := h1.ob o ho
  have c0 := hob.c0
  obtain ⟨sa, sc, rfl⟩ := own_form hob.hs
  have b0 : w1.cell? ⟨w.heap.size, 0, none⟩ = some (.int .i64 x.kind) := by rw [hw1, cell_of_row _ _ 0 _ _ _ (heap_alloc_new _ _)]; rfl
  have b1 : w1.cell? ⟨w.heap.size, 1, none⟩ = some (.int .u64 x.h) := by rw [hw1, cell_of_row _ _ 1 _ _ _ (heap_alloc_new _ _)]; rfl
  have hbx : w1.heap[w.heap.size]? = some (.cells #[.int .i64 x.kind, .int .u64 x.h] 67 (0, 0)) := by rw [hw1]; exact heap_alloc_new _ _
  have hlx : w.heap.size < w1.heap.size := by rw [hw1]; simp
  have HL := hid (isLink_any w1 x)
  have hsl : isl x = true := by unfold isl; simp [hk]
  rw [hsl] at HL
  have hlnk := (hi.lnk o ho).1
  have d0 : decide ((j : Int) < 0) = false := by simp
  have d1 : decide ((o.links.length : Int) ≤ (j : Int)) = false := by simp; omega
  have DK := hid (show (x.kind == 1) = true by simpa using hk)
  have dr : (er != 0) = true := by simpa using her
  have HW1 := hid hw1
  have HB1 := hid hb1
  have HBX := hid hbx
  have H1 := hid h1
  have HUP := hid hup
  generalize o.links.length = n at *
  generalize o.h = hd at *
  clear h ho h1 hw1 hb1 hob hup hk her hsl hi hbx
  go_enter Try.func27, Try.ntmps27
  go_upto_region 1 with fail
  rw [← HW1.out]
  go_wp2_with fail
  refine HF.out.mono ?_
  rintro e w0 ⟨rfl, rfl⟩
  go_wp2_with fail
  refine HL.out.mono ?_
  rintro e w2 ⟨rfl, hw2⟩
  have hb2 : Below w1.heap.size w1 w2 := by rw [hw2]; exact (Below.refl _ _).alloc (Nat.le_refl _) _
  have hbx2 : w2.heap[w.heap.size]? = some (.cells #[.int .i64 x.kind, .int .u64 x.h] 67 (0, 0)) := (hb2.block _ hlx).trans HBX.out
  have HUP2 := hid (HUP.out w2 (H1.out.fr (fp := fun _ => False) (Fr.of_below hb2) (fun e => e) (fun _ _ e => e) (fun _ _ _ _ _ e => e) (fun _ _ => rfl)))
  have HB2 := hid (HB1.out.trans (hb2.mono HB1.out.size))
  clear hw2 b0 b1 c0 hb2
  have b0 : w2.cell? ⟨w.heap.size, 0, none⟩ = some (.int .i64 x.kind) := by rw [cell_of_row _ _ 0 _ _ _ hbx2]; rfl
  have b1 : w2.cell? ⟨w.heap.size, 1, none⟩ = some (.int .u64 x.h) := by rw [cell_of_row _ _ 1 _ _ _ hbx2]; rfl
  clear hbx2
  have dk := DK.out
  go_wp2_with fail
  refine HUP2.out.mono ?_
  rintro e w3 ⟨rfl, hfr⟩
  have HB3 := hid (HB2.out.trans ((hfr.below (Nat.le_refl _) (fun _ e => e.elim)).mono HB2.out.size))
  clear hfr b0 b1
  go_wp2
  go_ret3
  exact ⟨rfl, HB3.out⟩
end
theorem isl_cases {x : Lk} : isl x = true ↔ ((x.kind = 0 ∧ x.h = 0) ∨ x.kind = 1 ∨ x.kind = 2) := by
  unfold isl
  simp [or_assoc]
/-- Put, whichever way it goes. -/
theorem HPut_in (S : Nat → Prop) (w : World) (v : Value) (s : Hs) (hd slot : Int) (x : Lk) (h : RpH S w v s) (h0 : Hn hd) (hxk : Nm x.kind) (hxh : Hn x.h) :
    Calls Try.prog 27 #[v, .int .u64 hd, .int .i64 slot, .agg #[.int .i64 x.kind, .int .u64 x.h]] w fun e w' => Fr S w w' ∧
      ∃ s' g f er vg vf, e = .returned (.tuple #[vg, vf, .int .i64 er]) ∧ Told TU u64v w' vg g ∧ Told TU u64v w' vf f ∧ PuR s hd slot x s' g f er ∧ RpH (exS S w w') w' v s' ∧ (∀ k, vg.ownBlock = some k → exS S w w' k) ∧ (∀ k, vf.ownBlock = some k → exS S w w' k) := by
  obtain ⟨p, pa, Sa, AA, F, B, rfl, h1, h2, h3, h4, h5⟩ := h
  have hR : RpH S w (.pointer (some ⟨p, 0, none⟩)) s := ⟨p, pa, Sa, AA, F, B, rfl, h1, h2, h3, h4, h5⟩
  have same : ∀ er, PuR s hd slot x s [] [] er → ∀ w', Below w.heap.size w w' → Fr S w w' ∧ ∃ s' g f er' vg vf, Ending.returned (.tuple #[.slice none 0 0, .slice none 0 0, .int .i64 er]) = .returned (.tuple #[vg, vf, .int .i64 er']) ∧ Told TU u64v w' vg g ∧ Told TU u64v w' vf f ∧ PuR s hd slot x s' g f er' ∧ RpH (exS S w w') w' (.pointer (some ⟨p, 0, none⟩)) s' ∧ (∀ k, vg.ownBlock = some k → exS S w w' k) ∧ (∀ k, vf.ownBlock = some k → exS S w w' k) :=
    fun er hp w' hb => ⟨Fr.of_below hb, s, [], [], er, _, _, rfl, told_nil _, told_nil _, hp, (hR.below hb).ex h5 hb.size, by simp [Value.ownBlock], by simp [Value.ownBlock]⟩
  cases hf : fnd s.L hd with
  | none =>
    refine (Put_none h1 hf h0).mono ?_
    rintro e w' ⟨rfl, hb⟩
    exact same 2 (.stale hf) w' hb
  | some o =>
    obtain ⟨ho, he⟩ := fnd_some hf
    subst he
    have hl8 := (h3.inv.lnk o ho).1
    by_cases hbad : slot < 0 ∨ (o.links.length : Int) ≤ slot ∨ isl x = false
    · refine (Put_arg h1 ho hbad hl8).mono ?_
      rintro e w' ⟨rfl, hb⟩
      refine same 1 (.arg o hf ?_) w' hb
      rcases hbad with e | e | e
      · exact .inl e
      · exact .inr (.inl e)
      · have : ¬ ((x.kind = 0 ∧ x.h = 0) ∨ x.kind = 1 ∨ x.kind = 2) := fun k => by rw [isl_cases.2 k] at e; cases e
        omega
    · have hs : 0 ≤ slot ∧ slot < o.links.length := by omega
      have hsl : isl x = true := by
        cases hq : isl x with
        | true => rfl
        | false => exact absurd (.inr (.inr hq)) hbad
      obtain ⟨j, rfl⟩ := Int.eq_ofNat_of_zero_le hs.1
      have hj : j < o.links.length := by omega
      have hold : o.links[j]? = some o.links[j] := List.getElem?_eq_getElem hj
      generalize o.links[j] = old at hold
      by_cases hk : x.kind = 1
      · cases hw : whl s.L x.h with
        | none =>
          have hn := (whl_none h3.inv).1 hw
          refine (Put_up h1 h3.inv ho hj hk (er := 2) (by omega) (fun W hW => (Up_none hW hn hxh).mono fun e W' hh => ⟨hh.1, by rw [hh.2]; exact Fr.refl _ _⟩)).mono ?_
          rintro e w' ⟨rfl, hb⟩
          exact same 2 (.no o hf hs hk (.stale hw) (by omega)) w' hb
        | some y =>
          by_cases hyt : y.count = s.top
          · refine (Put_up h1 h3.inv ho hj hk (er := 4) (by omega) (fun W hW => Up_top hW h3.inv hw hyt)).mono ?_
            rintro e w' ⟨rfl, hb⟩
            exact same 4 (.no o hf hs hk (.top y hw hyt) (by omega)) w' hb
          · refine (Put_obj h1 h3.inv h3.t2 ho hj hold hsl ⟨hxk, hxh⟩ hk hw hyt).mono ?_
            rintro e w' ⟨vg, vf, Lf, g, f, Sa1, AA1, F1, rfl, t1, t2, hg, k1, k2, k3, k4, k5, k6⟩
            have hpu : PuR s o.h (j : Int) x { s with L := Lf, A := er AA1 } g _ 0 := .obj o hf hs hk (.ok y hw hyt) (old := old) (by simpa using hold) (f := _) ⟨f, by rw [letg_one]; simpa using hg, by rw [letg_one]⟩ (by rw [h2]; exact k2)
            exact ⟨Fr.mono k4 (fun k hk hl => h4 k hl hk), _, g, _, 0, vg, vf, rfl, t1, by simpa using t2, hpu, ⟨p, pa, Sa1, AA1, F1, B, rfl, k1, rfl, hpu.hsi h3 ⟨hxk, hxh⟩, exs_lab h4 k3, exs_lt h5 k4.size⟩, k5.exs h4 k3, k6.exs h4 k3⟩
      · refine (Put_oth h1 h3.inv h3.t2 ho hj hold hsl ⟨hxk, hxh⟩ hk).mono ?_
        rintro e w' ⟨vg, vf, Lf, g, f, Sa1, AA1, F1, rfl, t1, t2, hg, k1, k2, k3, k4, k5, k6⟩
        have hpu : PuR s o.h (j : Int) x { s with L := Lf, A := er AA1 } g _ 0 := .oth o hf hs (by have := isl_cases.1 hsl; omega) (old := old) (by simpa using hold) (f := _) ⟨f, by rw [letg_one]; simpa using hg, by rw [letg_one]⟩ (by rw [h2]; exact k2)
        exact ⟨Fr.mono k4 (fun k hk hl => h4 k hl hk), _, g, _, 0, vg, vf, rfl, t1, by simpa using t2, hpu, ⟨p, pa, Sa1, AA1, F1, B, rfl, k1, rfl, hpu.hsi h3 ⟨hxk, hxh⟩, exs_lab h4 k3, exs_lt h5 k4.size⟩, k5.exs h4 k3, k6.exs h4 k3⟩
theorem HPut_any (S : Nat → Prop) (w : World) (v : Value) (s : Hs) (hd slot : Int) (x : Lk) (h : RpH S w v s) (h0 : Hn hd) (hxk : Nm x.kind) (hxh : Hn x.h) :
    Calls Try.prog 27 #[v, .int .u64 hd, .int .i64 slot, .agg #[.int .i64 x.kind, .int .u64 x.h]] w fun e w' => Fr S w w' ∧
      ∃ s' g f er vg vf, e = .returned (.tuple #[vg, vf, .int .i64 er]) ∧ Told TU u64v w' vg g ∧ Told TU u64v w' vf f ∧ PuR s hd slot x s' g f er ∧ RpH (exS S w w') w' v s' :=
  (HPut_in S w v s hd slot x h h0 hxk hxh).mono fun _ _ ⟨h1, s', g, f, er, vg, vf, h2, h3, h4, h5, h6, _⟩ => ⟨h1, s', g, f, er, vg, vf, h2, h3, h4, h5, h6⟩
end Go.Proofs.Ytmkajdfajcodjaa
