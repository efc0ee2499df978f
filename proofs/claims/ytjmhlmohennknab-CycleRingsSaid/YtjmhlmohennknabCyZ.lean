/-
  The contract of the plain Garbage.
-/
import Derived.Test.YtjmhlmohennknabCyO
namespace Go.Proofs.Ytjmhlmohennknab
open Go Go.ChangeShapes Go.WideShapes Go.ChangeAt Go.RowKit

open Classical in
/-- The suspects, as truths. -/
noncomputable def suB (L : List Nat) (i : Nat) : Bool := decide (i ∈ L)
theorem suB_iff {L : List Nat} {i : Nat} : suB L i = true ↔ i ∈ L := by unfold suB; simp
/-- Who is held from outside, by the rows. -/
def hdB (c : Nat → Int) (R : Nat → Bool) (I : Nat → Nat) (i : Nat) : Bool := R i && decide ((I i : Int) < c i)
/-- What is told till a place. -/
def gaB (R L : Nat → Bool) (t : Nat) : List Nat := (List.range t).filter fun i => R i && !L i
theorem gaB_succ (R L : Nat → Bool) (t : Nat) : gaB R L (t + 1) = gaB R L t ++ if (R t && !L t) = true then [t] else [] := by
  unfold gaB
  rw [List.range_succ, List.filter_append]
  congr 1
  by_cases h : (R t && !L t) = true
  · rw [if_pos h]; simp only [List.filter, h]
  · rw [if_neg h]; simp only [List.filter, h]
theorem gaB_len (R L : Nat → Bool) (t : Nat) : (gaB R L t).length ≤ t := by
  unfold gaB
  refine Nat.le_trans (List.length_filter_le _ _) ?_
  simp
/-- The plain rows are the plain graph's. -/
theorem gaB_garb {g : Gr} (hg : GrOk g) {L : List Nat} (hL : ∀ i, g.s i ↔ i ∈ L) :
    gaB (rcB g.n g.e (suB L)) (rcB g.n g.e (hdB g.c (rcB g.n g.e (suB L)) (into g.e (fun i => rcB g.n g.e (suB L) i = true) g.n))) g.n = g.garb := by
  have h1 : ∀ i, rcB g.n g.e (suB L) i = true ↔ g.reach i := fun i => by
    rw [rcB_iff]
    have : ∀ k, (k < g.n ∧ suB L k = true) ↔ g.s k := fun k => by
      rw [suB_iff, ← hL]
      exact ⟨fun h => h.2, fun h => ⟨hg.s k h, h⟩⟩
    exact ⟨fun h => h.mono (fun k hk => (this k).1 hk), fun h => h.mono (fun k hk => (this k).2 hk)⟩
  have h2 : ∀ i, into g.e (fun i => rcB g.n g.e (suB L) i = true) g.n i = into g.e g.reach g.n i := fun i => into_congr (fun k _ => h1 k) i
  have h3 : ∀ i, hdB g.c (rcB g.n g.e (suB L)) (into g.e (fun i => rcB g.n g.e (suB L) i = true) g.n) i = true ↔ g.outer i := fun i => by
    unfold hdB Gr.outer
    rw [Bool.and_eq_true, h1, decide_eq_true_eq, h2]
  have h4 : ∀ i, rcB g.n g.e (hdB g.c (rcB g.n g.e (suB L)) (into g.e (fun i => rcB g.n g.e (suB L) i = true) g.n)) i = true ↔ g.live i := fun i => by
    rw [rcB_iff]
    exact ⟨fun h => h.mono (fun k hk => (h3 k).1 hk.2), fun h => h.mono (fun k hk => ⟨Gr.reach_lt hg hk.1, (h3 k).2 hk⟩)⟩
  unfold gaB Gr.garb
  refine List.filter_congr fun i _ => ?_
  rw [Bool.eq_iff_iff, Bool.and_eq_true, h1]
  simp only [decide_eq_true_eq, Bool.not_eq_true']
  have := h4 i
  constructor
  · rintro ⟨a, b⟩
    exact ⟨a, fun k => by rw [this.2 k] at b; cases b⟩
  · rintro ⟨a, b⟩
    refine ⟨a, ?_⟩
    cases hq : rcB g.n g.e (hdB g.c (rcB g.n g.e (suB L)) (into g.e (fun i => rcB g.n g.e (suB L) i = true) g.n)) i with
    | true => exact absurd (this.1 hq) b
    | false => rfl
theorem BF.fr {α : Type} {T : TypeId} {f : α → Value} {W W' : World} {b n : Nat} {F : Nat → α} {fp : Nat → Prop} (h : BF T f W b n F) (hf : Fr fp W W') (hb : ¬ fp b) : BF T f W' b n F := (hf.block b h.lt hb).trans h
/-- The held ones, some told. -/
def hdT (H : Nat → Bool) (t i : Nat) : Bool := if i < t then H i else false
theorem hdT_step (H : Nat → Bool) (t : Nat) : ∀ i, upd (hdT H t) t (H t) i = hdT H (t + 1) i := fun i => by
  unfold upd hdT
  by_cases hit : i = t
  · subst hit; simp
  · by_cases hlt : i < t
    · simp [hit, hlt, Nat.lt_succ_of_lt hlt]
    · simp [hit, hlt, show ¬ i < t + 1 by omega]
set_option maxRecDepth 100000 in
set_option maxHeartbeats 8000000 in
theorem RGarbage_any (w : World) (cv ev sv : Value) (cs : List Int) (es : List (List Int)) (su : List Int) (hG : GrW w.heap.size w cv ev cs es) (hS : Tl iv w.heap.size w sv su) (hn : cs.length ≤ 1000) (hes : totE es ≤ 1000000) :
    Calls Try.prog 13 #[.agg #[cv, ev], sv] w (RowTold w (grS cs es su).garb) := by
  have HG := hid hG
  have HCB := hid hG.cb
  have HOK := hid (grS_ok (es := es) (su := su) hG.cb)
  obtain ⟨ca, cc, rfl, hcc1, hcc2, hCx⟩ := hG.c.ex
  obtain ⟨ea, ec, rfl, hec1, hec2, _⟩ := hG.e
  obtain ⟨sa, sc, rfl, hsc1, hsc2, hSx⟩ := hS.ex
  obtain ⟨n, hn0⟩ : ∃ n, n = cs.length := ⟨_, rfl⟩
  obtain ⟨ns, hns0⟩ : ∃ ns, ns = su.length := ⟨_, rfl⟩
  rw [← hn0] at hcc1 HG hn hCx ⊢
  rw [← hns0] at hsc1 hSx ⊢
  have HN := hid hn0
  have HNS := hid hns0
  have HES := hid hes
  have HCX := hid hCx
  have HSX := hid hSx
  obtain ⟨fb, hfb⟩ : ∃ fb, fb = w.heap.size + 1 := ⟨_, rfl⟩
  have hfb2 : w.heap.size < fb := by omega
  obtain ⟨m, hm0⟩ : ∃ m, m = es.length := ⟨_, rfl⟩
  rw [← hm0] at HG hec1 ⊢
  clear hm0
  obtain ⟨W1, hW1⟩ : ∃ W1, W1 = (w.alloc (.cells #[.slice ca n cc, .slice ea m ec] TGr)).alloc (.cells (madeCells #[.bool false] n) TB) := ⟨_, rfl⟩
  have HW1 := hid hW1
  have hI1 : ClI w W1 (.slice ca n cc) (.slice ea m ec) fb n (suB (wi n (su.take 0))) := by
    have e1 := heap_alloc_new w (.cells #[.slice ca n cc, .slice ea m ec] TGr)
    have hb : Below w.heap.size w W1 := by rw [hW1]; exact ((Below.refl _ _).alloc (Nat.le_refl _) _).alloc (by simp) _
    refine ⟨by rw [hW1]; exact hkeep _ e1, ?_, hb⟩
    have h2 := BF.made (f := bv) (T := TB) (w.alloc (.cells #[.slice ca n cc, .slice ea m ec] TGr)) n false
    have h3 : (w.alloc (.cells #[.slice ca n cc, .slice ea m ec] TGr)).heap.size = fb := by simp [hfb]
    rw [h3] at h2
    rw [hW1]
    exact h2.congr (fun i _ => by simp [suB, wi])
  have HI1 := hid hI1
  have HFB := hid hfb2
  have HFBE := hid hfb
  clear hG hS hCx hSx hn0 hns0 hes hW1 hI1 hfb2 hfb
  go_enter Try.func13, Try.ntmps13
  go_upto_region 2 with ((with_reducible refine at_op ⟨some 17, _, _, _, _, _⟩ ?_); go_loud (refine wpList_runN rfl _ _ (exec_makeC (n := n) Try.underlying38 infoB (by omega) (by omega) rfl rfl) ?_))
  rw [← HW1.out, ← HFBE.out]
  clear HW1 HFBE
  go_wp2_with fail
  go_loopw [6] (fun i wr => ∃ t : Nat, t ≤ ns ∧ i = .int .i64 t ∧ RowKit.Hid (ClI w wr (.slice ca n cc) (.slice ea m ec) fb n (suB (wi n (su.take t))))) (fun i _ => ns - (intOf i).toNat)
  case atStart => exact ⟨0, by omega, rfl, HI1⟩
  case round =>
    obtain ⟨t, ht, rfl, HR⟩ := hrel
    by_cases htn : t < ns
    · have hlt : t < su.length := by rw [← HNS.out]; exact htn
      have hx : su[t]? = some su[t] := List.getElem?_eq_getElem hlt
      generalize su[t] = x at hx
      obtain ⟨b, o, rfl, hb, hcell⟩ := HSX.out (by omega)
      have cx : wr.cell? ⟨b, o + t, none⟩ = some (.int .i64 x) := (World.cell?_of_block (w := w) (w' := wr) (a := ⟨b, o + t, none⟩) (HR.out.bl.block b hb)).trans (hcell t _ hx)
      have HT := hid (wi_take (n := n) hx)
      clear hx hcell hb hlt
      by_cases hx0 : 0 ≤ x
      · obtain ⟨y, rfl⟩ := Int.eq_ofNat_of_zero_le hx0
        by_cases hyn : y < n
        · have d0 := HR.out.o.cell hyn
          have z0 := HR.out.o.fz y
          have hset := (HR.out.set HFB.out y true).congr (f' := suB (wi n (su.take (t + 1)))) (fun i _ => by
            have ht := HT.out
            rw [if_pos (by omega), Int.toNat_natCast] at ht
            rw [Bool.eq_iff_iff, suB_iff, ht, List.mem_append, List.mem_singleton]
            unfold upd
            by_cases hiy : i = y
            · simp [hiy]
            · rw [if_neg hiy, suB_iff]; simp [hiy])
          have HSET := hid hset
          clear hset
          go_wp2_with fail
          go_roundw
          case rel => exact ⟨t + 1, by omega, by go_num, HSET⟩
          case measure => simp [intOf]; omega
        · have ht := HT.out
          rw [if_neg (by omega), List.append_nil] at ht
          have HR2 := HR
          rw [← ht] at HR2
          clear ht
          go_wp2_with fail
          go_roundw
          case rel => exact ⟨t + 1, by omega, by go_num, HR2⟩
          case measure => simp [intOf]; omega
      · have ht := HT.out
        rw [if_neg (by omega), List.append_nil] at ht
        have HR2 := HR
        rw [← ht] at HR2
        clear ht
        go_wp2_with fail
        go_roundw
        case rel => exact ⟨t + 1, by omega, by go_num, HR2⟩
        case measure => simp [intOf]; omega
    · have hnt : ns = t := by omega
      subst hnt
      have hr := HR.out
      rw [List.take_of_length_le (by rw [HNS.out]; exact Nat.le_refl _)] at hr
      have hat := hid hr.atl
      have HCL := hid (Closed_any wr (.slice ca n cc) (.slice ea m ec) _ cs es (suB (wi n su)) n HN.out ((HG.out.below hr.bl).up hr.bl.size) (hr.o.told (by omega)) hn (fun l hl => Nat.le_trans (len_totE hl) HES.out))
      have HR1 := hid hr
      clear hr HR htn HI1
      go_wp2_with (first
        | ((with_reducible refine at_op ⟨some 44, _, _, _, _, _⟩ ?_); go_loud (refine wpList_run rfl _ (load_cells Try.underlying25 (by rfl) (by kernel_rfl) rfl rfl hat.out) ?_))
        | fail)
      refine HCL.out.mono ?_
      rintro en w2 ⟨rb, rfl, hRB, hb2⟩
      obtain ⟨e, he⟩ : ∃ e, e = fun i => wi n (es.getD i []) := ⟨_, rfl⟩
      rw [← he] at hRB
      have HE := hid he
      obtain ⟨R, hR⟩ : ∃ R, R = rcB n e (suB (wi n su)) := ⟨_, rfl⟩
      rw [← hR] at hRB
      have HRE := hid hR
      have h2 := HR1.out.call hb2
      have hat2 := hid h2.atl
      have hIN := Into_any w2 (.slice ca n cc) (.slice ea m ec) _ cs es R n HN.out ((HG.out.below h2.bl).up h2.bl.size) (hRB.told (by omega)) hn HES.out
      rw [← he] at hIN
      have HIN := hid hIN
      have H2 := hid h2
      have HRB := hid hRB
      clear he hR hRB h2 hb2 hIN HCL hat HR1
      go_wp2_with (first
        | ((with_reducible refine at_op ⟨some 47, _, _, _, _, _⟩ ?_); go_loud (refine wpList_run rfl _ (load_cells Try.underlying25 (by rfl) (by kernel_rfl) rfl rfl hat2.out) ?_))
        | fail)
      refine HIN.out.mono ?_
      rintro en w3 ⟨ib, rfl, hIB, hb3⟩
      obtain ⟨I, hI⟩ : ∃ I, I = into e (fun i => R i = true) n := ⟨_, rfl⟩
      rw [← hI] at hIB
      have HIE := hid hI
      have h3 := H2.out.call hb3
      have hRB3 := HRB.out.below hb3
      obtain ⟨H, hH⟩ : ∃ H, H = hdB (fun i => cs.getD i 0) R I := ⟨_, rfl⟩
      have HHE := hid hH
      obtain ⟨hb, hhb⟩ : ∃ hb, hb = w3.heap.size := ⟨_, rfl⟩
      obtain ⟨w4, hw4⟩ : ∃ w4, w4 = w3.alloc (.cells (madeCells #[.bool false] n) TB) := ⟨_, rfl⟩
      have hb4 : Below w3.heap.size w3 w4 := by rw [hw4]; exact (Below.refl _ _).alloc (Nat.le_refl _) _
      have h4 := h3.call hb4
      have hwl : w.heap.size < hb := by rw [hhb]; exact (Array.getElem?_eq_some_iff.1 h3.gb).1
      have hHB : ClI w w4 (.slice ca n cc) (.slice ea m ec) hb n (hdT H 0) := by
        refine ⟨h4.gb, ?_, h4.bl⟩
        have h5 := BF.made (f := bv) (T := TB) w3 n false
        rw [← hhb] at h5
        rw [hw4]
        exact h5.congr (fun i _ => (if_neg (Nat.not_lt_zero i)).symm)
      have HRB4 := hid (hRB3.below hb4)
      have HIB4 := hid (hIB.below hb4)
      have HNR := hid (show rb ≠ hb by have := hRB3.lt; omega)
      have HNI := hid (show ib ≠ hb by have := hIB.lt; omega)
      have H4 := hid hHB
      have HWL := hid hwl
      have HW4 := hid hw4
      have HHB := hid hhb
      clear hI hIB hb3 h3 hRB3 hH hhb hw4 hb4 h4 hwl hHB H2 HRB HIN hat2
      go_upto_region 10 with ((with_reducible refine at_op ⟨some 52, _, _, _, _, _⟩ ?_); go_loud (refine wpList_runN rfl _ _ (exec_makeC (n := n) Try.underlying38 infoB (by omega) (by omega) rfl rfl) ?_))
      rw [← HW4.out, ← HHB.out]
      clear HW4 HHB
      go_wp2_with fail
      go_loopw [10] (fun i wr => ∃ t : Nat, t ≤ n ∧ i = .int .i64 t ∧ RowKit.Hid (ClI w wr (.slice ca n cc) (.slice ea m ec) hb n (hdT H t)) ∧ RowKit.Hid (Fr (fun b => b = hb) w4 wr)) (fun i _ => n - (intOf i).toNat)
      case atStart => exact ⟨0, by omega, rfl, H4, hid (Fr.refl _ _)⟩
      case round =>
        obtain ⟨t, ht, rfl, HR, HF⟩ := hrel
        by_cases htn : t < n
        · have hlt : t < cs.length := by rw [← HN.out]; exact htn
          have hx : cs[t]? = some (cs.getD t 0) := by rw [List.getD_eq_getElem?_getD, List.getElem?_eq_getElem hlt]; rfl
          obtain ⟨x, hxx⟩ : ∃ x, x = cs.getD t 0 := ⟨_, rfl⟩
          obtain ⟨b, o, rfl, hbb, hcell⟩ := HCX.out (by omega)
          have cc0 : wr.cell? ⟨b, o + t, none⟩ = some (.int .u32 x) := by rw [hxx]; exact (World.cell?_of_block (w := w) (w' := wr) (a := ⟨b, o + t, none⟩) (HR.out.bl.block b hbb)).trans (hcell t _ hx)
          have hxb := HCB.out _ (List.mem_of_getElem? hx)
          rw [← hxx] at hxb
          have cr := (HRB4.out.fr HF.out HNR.out).cell htn
          have ci := (HIB4.out.fr HF.out HNI.out).cell htn
          have g0 := HR.out.g0
          have d0 := HR.out.o.cell htn
          have z0 := HR.out.o.fz t
          have hHt : H t = (R t && decide ((I t : Int) < x)) := by rw [HHE.out, hxx]; rfl
          have hset : ∀ y, H t = y → RowKit.Hid (ClI w (wr.drew.setCell ⟨hb, t, none⟩ (.bool y)) (.slice (some ⟨b, o, none⟩) n cc) (.slice ea m ec) hb n (hdT H (t + 1))) := fun y hy =>
            hid (((HR.out.call (W' := wr.drew) ⟨rfl, rfl, rfl, Nat.le_refl _, fun _ _ => rfl⟩).set HWL.out t y).congr (fun i _ => by rw [← hy]; exact hdT_step H t i))
          have hfx : ∀ y, RowKit.Hid (Fr (fun b => b = hb) w4 (wr.drew.setCell ⟨hb, t, none⟩ (.bool y))) := fun y => hid ((HF.out.drew).setCell _ _ (fun _ => rfl))
          have hwx : IntKind.u64.wrap x = x := IntWalk.u64_in _ ⟨by omega, by omega⟩
          obtain ⟨y, hy⟩ : ∃ y, y = R t := ⟨_, rfl⟩
          rw [← hy] at cr hHt
          generalize I t = it at *
          clear hx hxx hcell hbb hlt hy
          cases y with
          | false =>
            have HSET := hset false (by rw [hHt]; rfl)
            have HF5 := hfx false
            clear hset hfx hHt
            go_upto_region 13 with fail
            refine D.wp_region_mix [0, 0, 0, 0, 0, 1, 0, 0, 1, 0, 0, 1, 0, 0, 0, 0, 1, 0, 0, 0, 3] (fun W => W = wr.drew) (by kernel_rfl) (by kernel_rfl) rfl ?_
            repeat (first
                        | (refine' C.wpMix_value _ rfl rfl _ _; rotate_left; (solve | (intro W; go_simp) | (intro W; go_simp; with_reducible rfl)); simp only [Act.put, List.setIfInBounds_toArray, List.set_cons_zero, List.set_cons_succ])
                        | (refine' C.wpMix_read _ rfl rfl _ _; rotate_left; (solve | (rintro W rfl; go_simp) | (rintro W rfl; go_simp; with_reducible rfl)); simp only [Act.put, List.setIfInBounds_toArray, List.set_cons_zero, List.set_cons_succ])
                        | (refine' C.wpMix_not (by decide) rfl _; simp only [Act.put, List.setIfInBounds_toArray, List.set_cons_zero, List.set_cons_succ]))
            refine C.wpMix_skip (wr.drew.setCell ⟨hb, t, none⟩ (.bool false)) (by decide) rfl (by go_simp) (fun h => by cases h) ?_
            simp only [Act.put]
            refine C.wpMix_end ?_
            clear d0 z0 g0 cr ci cc0
            go_wp2
            go_roundw
            case rel => exact ⟨t + 1, by omega, by go_num, HSET, HF5⟩
            case measure => simp [intOf]; omega
          | true =>
            by_cases hgt : (it : Int) < x
            · have HSET := hset true (by rw [hHt, decide_eq_true hgt]; rfl)
              have HF5 := hfx true
              clear hset hfx hHt
              go_upto_region 13 with fail
              refine D.wp_region_mix [0, 0, 0, 0, 0, 1, 0, 0, 1, 0, 0, 1, 0, 0, 0, 0, 1, 0, 0, 0, 3] (fun W => W = wr.drew) (by kernel_rfl) (by kernel_rfl) rfl ?_
              repeat (first
                          | (refine' C.wpMix_value _ rfl rfl _ _; rotate_left; (solve | (intro W; go_simp) | (intro W; go_simp; with_reducible rfl)); simp only [Act.put, List.setIfInBounds_toArray, List.set_cons_zero, List.set_cons_succ])
                          | (refine' C.wpMix_read _ rfl rfl _ _; rotate_left; (solve | (rintro W rfl; go_simp) | (rintro W rfl; go_simp; with_reducible rfl)); simp only [Act.put, List.setIfInBounds_toArray, List.set_cons_zero, List.set_cons_succ])
                          | (refine' C.wpMix_not (by decide) rfl _; simp only [Act.put, List.setIfInBounds_toArray, List.set_cons_zero, List.set_cons_succ]))
              refine C.wpMix_skip (wr.drew.setCell ⟨hb, t, none⟩ (.bool true)) (by decide) rfl (by go_simp) (fun h => by cases h) ?_
              simp only [Act.put]
              refine C.wpMix_end ?_
              clear d0 z0 g0 cr ci cc0
              go_wp2
              go_roundw
              case rel => exact ⟨t + 1, by omega, by go_num, HSET, HF5⟩
              case measure => simp [intOf]; omega
            · have HSET := hset false (by rw [hHt, decide_eq_false hgt]; rfl)
              have HF5 := hfx false
              clear hset hfx hHt
              go_upto_region 13 with fail
              refine D.wp_region_mix [0, 0, 0, 0, 0, 1, 0, 0, 1, 0, 0, 1, 0, 0, 0, 0, 1, 0, 0, 0, 3] (fun W => W = wr.drew) (by kernel_rfl) (by kernel_rfl) rfl ?_
              repeat (first
                          | (refine' C.wpMix_value _ rfl rfl _ _; rotate_left; (solve | (intro W; go_simp) | (intro W; go_simp; with_reducible rfl)); simp only [Act.put, List.setIfInBounds_toArray, List.set_cons_zero, List.set_cons_succ])
                          | (refine' C.wpMix_read _ rfl rfl _ _; rotate_left; (solve | (rintro W rfl; go_simp) | (rintro W rfl; go_simp; with_reducible rfl)); simp only [Act.put, List.setIfInBounds_toArray, List.set_cons_zero, List.set_cons_succ])
                          | (refine' C.wpMix_not (by decide) rfl _; simp only [Act.put, List.setIfInBounds_toArray, List.set_cons_zero, List.set_cons_succ]))
              refine C.wpMix_skip (wr.drew.setCell ⟨hb, t, none⟩ (.bool false)) (by decide) rfl (by go_simp) (fun h => by cases h) ?_
              simp only [Act.put]
              refine C.wpMix_end ?_
              clear d0 z0 g0 cr ci cc0
              go_wp2
              go_roundw
              case rel => exact ⟨t + 1, by omega, by go_num, HSET, HF5⟩
              case measure => simp [intOf]; omega
        · have hnt : n = t := by omega
          subst hnt
          have hr := HR.out.congr (f' := H) (fun i hi => if_pos hi)
          have hat := hid hr.atl
          have hCL := Closed_any wr (.slice ca n cc) (.slice ea m ec) _ cs es H n HN.out ((HG.out.below hr.bl).up hr.bl.size) (hr.o.told (by omega)) hn (fun l hl => Nat.le_trans (len_totE hl) HES.out)
          rw [← HE.out] at hCL
          have HCL := hid hCL
          have HR1 := hid hr
          have HRBr := hid (HRB4.out.fr HF.out HNR.out)
          clear hr HR htn hCL HF H4 HRB4 HIB4
          go_wp2_with (first
            | ((with_reducible refine at_op ⟨some 79, _, _, _, _, _⟩ ?_); go_loud (refine wpList_run rfl _ (load_cells Try.underlying25 (by rfl) (by kernel_rfl) rfl rfl hat.out) ?_))
            | fail)
          refine HCL.out.mono ?_
          rintro en w5 ⟨lb, rfl, hLB, hb5⟩
          obtain ⟨L, hL⟩ : ∃ L, L = rcB n e H := ⟨_, rfl⟩
          rw [← hL] at hLB
          have hgb : gaB R L n = (grS cs es su).garb := by
            have h1 := gaB_garb (g := grS cs es su) HOK.out (L := wi n su) (fun i => by rw [HN.out]; exact Iff.rfl)
            have e1 : (grS cs es su).e = e := by rw [HE.out, HN.out]; rfl
            have e2 : (grS cs es su).n = n := HN.out.symm
            have e3 : (grS cs es su).c = fun i => cs.getD i 0 := rfl
            rw [e1, e2, e3, ← HRE.out, ← HIE.out, ← HHE.out, ← hL] at h1
            exact h1
          have HGB := hid hgb
          have HLB := hid hLB
          have HRB5 := hid (HRBr.out.below hb5)
          have HBL5 := hid (HR1.out.bl.trans (hb5.mono HR1.out.bl.size))
          have HP0 : RowKit.Hid (PI w5 w5 (.slice none 0 0) (gaB R L 0)) := hid (PI.new w5)
          clear hL hLB hgb hb5 HCL hat HR1 HRBr
          go_wp2_with fail
          go_loopw [13, 12] (fun i v wr => ∃ t : Nat, t ≤ n ∧ i = .int .i64 t ∧ RowKit.Hid (PI w5 wr v (gaB R L t))) (fun i _ _ => n - (intOf i).toNat)
          case atStart => exact ⟨0, by omega, rfl, HP0⟩
          case round =>
            obtain ⟨t, ht, rfl, HR⟩ := hrel
            by_cases htn : t < n
            · have cr := (HRB5.out.below HR.out.2).cell htn
              have cl := (HLB.out.below HR.out.2).cell htn
              have HS := hid (gaB_succ R L t)
              have HL := hid (show (gaB R L t).length ≤ 1000000 from Nat.le_trans (gaB_len R L t) (by omega))
              obtain ⟨y, hy⟩ : ∃ y, y = R t := ⟨_, rfl⟩
              obtain ⟨z, hz⟩ : ∃ z, z = L t := ⟨_, rfl⟩
              rw [← hy] at cr
              rw [← hz] at cl
              rw [← hy, ← hz] at HS
              clear hy hz
              cases y with
              | false =>
                have hs := HS.out
                rw [if_neg (by simp), List.append_nil] at hs
                have HR2 := HR
                rw [← hs] at HR2
                clear hs HS
                go_wp2_with fail
                go_roundw
                case rel => exact ⟨t + 1, by omega, by go_num, HR2⟩
                case measure => simp [intOf]; omega
              | true =>
                cases z with
                | true =>
                  have hs := HS.out
                  rw [if_neg (by simp), List.append_nil] at hs
                  have HR2 := HR
                  rw [← hs] at HR2
                  clear hs HS
                  go_wp2_with fail
                  go_roundw
                  case rel => exact ⟨t + 1, by omega, by go_num, HR2⟩
                  case measure => simp [intOf]; omega
                | false =>
                  have hs := HS.out
                  rw [if_pos (by simp)] at hs
                  have HS2 := hid hs
                  clear hs HS
                  go_wp2_with (first
                    | (at_builtin; refine wpList_pushI (o := ⟨some 102, _, _, _, _, _⟩) rfl (.tmp 99) (.tmp 101) rfl w5.heap.size _ _ t rfl (OwI.alloc HR.out.1 _) wr.heap.size 1 rfl (by rw [cell_of_row _ _ 0 _ _ _ (heap_alloc_new wr _)]; rfl) HL.out (by have := HR.out.2.size; simp; omega) ?_; intro v5 w6 hown5 hgrow5 hat5; have HO5 := hid hown5; have HG5 := hid hgrow5; clear hown5 hgrow5 hat5)
                    | fail)
                  have h5 := HR.out.push HO5.out HG5.out
                  rw [← HS2.out] at h5
                  have HE5 := hid h5
                  clear h5
                  go_roundw
                  case rel => exact ⟨t + 1, by omega, by go_num, HE5⟩
                  case measure => simp [intOf]; omega
            · have hnt : n = t := by omega
              subst hnt
              have hr := HR.out
              rw [HGB.out] at hr
              have HR2 := hid hr
              clear hr HR
              go_wp2
              go_ret
              exact ⟨_, rfl, HR2.out.told, HBL5.out.trans (HR2.out.2.mono HBL5.out.size)⟩
end Go.Proofs.Ytjmhlmohennknab
