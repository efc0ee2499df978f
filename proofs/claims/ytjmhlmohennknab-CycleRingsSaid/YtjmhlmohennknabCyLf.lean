/-
  The walk of CycleSafe.
-/
import Derived.Test.YtjmhlmohennknabCySg
namespace Go.Proofs.Ytjmhlmohennknab
open Go Go.ChangeShapes Go.WideShapes Go.ChangeAt Go.RowKit

theorem GrW.counts {B : Nat} {w : World} {cv cv2 ev : Value} {cs cs2 : List Int} {es : List (List Int)} (h : GrW B w cv ev cs es) (hc : Tl cU B w cv2 cs2) (hb : ∀ c ∈ cs2, 0 ≤ c ∧ c ≤ 4294967295) : GrW B w cv2 ev cs2 es := ⟨hc, h.e, hb, h.eb⟩
/-- Held more than by edges. -/
def exB (ex : List Int) (i : Nat) : Bool := decide (0 < ex.getD i 0)
/-- The counts: the edges, and what is more. -/
noncomputable def cxA (e : Nat → List Nat) (n : Nat) (ex : List Int) (i : Nat) : Int := (into e (fun _ => True) n i : Int) + ex.getD i 0
theorem into_true {e : Nat → List Nat} {n : Nat} : into e (fun i => (fun _ : Nat => true) i = true) n = into e (fun _ => True) n := by
  funext i
  exact into_congr (fun k _ => ⟨fun _ => trivial, fun _ => rfl⟩) i
theorem ex_bd {ex : List Int} (h : ∀ x ∈ ex, 0 ≤ x ∧ x ≤ 255) (i : Nat) : 0 ≤ ex.getD i 0 ∧ ex.getD i 0 ≤ 255 := by
  rw [List.getD_eq_getElem?_getD]
  cases hi : ex[i]? with
  | none => simp
  | some x => exact h x (List.mem_of_getElem? hi)
theorem fL_succ {α : Type} (t : Nat) (f : Nat → α) : fL (t + 1) f = fL t f ++ [f t] := by
  unfold fL; rw [List.range_succ, List.map_append]; rfl
theorem getD_fL {t : Nat} {f : Nat → Int} {i : Nat} (h : i < t) : (fL t f).getD i 0 = f i := by
  rw [List.getD_eq_getElem?_getD, fL_at h]; rfl
theorem cxA_bd {e : Nat → List Nat} {n : Nat} {ex : List Int} (ht : tot e n ≤ 2000) (hx : ∀ x ∈ ex, 0 ≤ x ∧ x ≤ 255) (i : Nat) : 0 ≤ cxA e n ex i ∧ cxA e n ex i ≤ 4294967295 := by
  have h1 := into_le e (fun _ => True) n i
  have h2 := ex_bd hx i
  unfold cxA
  omega
theorem mem_fL {α : Type} {n : Nat} {f : Nat → α} {x : α} (h : x ∈ fL n f) : ∃ i, i < n ∧ f i = x := by
  unfold fL at h
  obtain ⟨i, h1, h2⟩ := List.mem_map.1 h
  exact ⟨i, List.mem_range.1 h1, h2⟩
theorem wi_range (n : Nat) : wi n ((List.range n).map Int.ofNat) = List.range n := by
  unfold wi
  rw [List.filter_eq_self.2 (fun x hx => by
    obtain ⟨i, h1, rfl⟩ := List.mem_map.1 hx
    have := List.mem_range.1 h1
    simp
    omega), List.map_map]
  exact (List.map_congr_left (fun i _ => Int.toNat_natCast i)).trans (List.map_id _)
set_option maxRecDepth 100000 in
set_option maxHeartbeats 16000000 in
theorem CycleSafe_any (w : World) (cv ev sv xv : Value) (cs : List Int) (es : List (List Int)) (su ex : List Int) (hG : GrW w.heap.size w cv ev cs es) (hS : Tl iv w.heap.size w sv su) (hX : Tl (Value.int .u8) w.heap.size w xv ex) (hXb : ∀ x ∈ ex, 0 ≤ x ∧ x ≤ 255) :
    Calls Try.prog 5 #[.agg #[cv, ev], sv, xv] w fun e w' => e = .returned (.bool true) ∧ Below w.heap.size w w' := by
  obtain ⟨w1, hw1⟩ : ∃ w1, w1 = w.alloc (.cells #[cv, ev] TGr) := ⟨_, rfl⟩
  have hb1 : Below w.heap.size w w1 := by rw [hw1]; exact (Below.refl _ _).alloc (Nat.le_refl _) _
  have hg1 := heap_alloc_new w (.cells #[cv, ev] TGr)
  rw [← hw1] at hg1
  have hG1 := (hG.below hb1).up hb1.size
  have hS1 := (hS.below hb1).up hb1.size
  have HGR := hid (great_any w1 cv ev sv cs es su hG1 hS1)
  have HG1 := hid hG1
  have HS1 := hid hS1
  have HGB := hid hg1
  have HB1 := hid hb1
  have HW1 := hid hw1
  have HXB := hid hXb
  have HG0 := hid hG
  have HS0 := hid hS
  obtain ⟨ca, cc, rfl, _⟩ := hG.c.ex
  obtain ⟨ea, ec, rfl, _⟩ := hG.e
  obtain ⟨sa, sc, rfl, hsc1, hsc2, _⟩ := hS.ex
  obtain ⟨xa, xc, rfl, hxc1, hxc2, hXx⟩ := hX.ex
  have HXX := hid hXx
  have hat1 := hid (AtL.row hg1 : AtL w1 w.heap.size 0 _)
  clear hG hS hg1 hb1 hw1 hG1 hS1 hX hXb hXx
  go_enter Try.func5, Try.ntmps5
  go_upto_region 1 with fail
  rw [← HW1.out]
  clear HW1
  go_wp2_with (first
    | ((with_reducible refine at_op ⟨some 22, _, _, _, _, _⟩ ?_); go_loud (refine wpList_run rfl _ (load_cells Try.underlying25 (by rfl) (by kernel_rfl) rfl rfl hat1.out) ?_))
    | fail)
  refine HGR.out.mono ?_
  rintro e w2 ⟨r, rfl, hb2, hsm⟩
  have hB2 := HB1.out.trans (hb2.mono HB1.out.size)
  have hg2 := (hb2.block _ (Array.getElem?_eq_some_iff.1 HGB.out).1).trans HGB.out
  have hat2 := hid (AtL.row hg2 : AtL w2 w.heap.size 0 _)
  have HG2 := hid ((HG1.out.below hb2).up hb2.size)
  have HS2 := hid ((HS1.out.below hb2).up hb2.size)
  have HB2 := hid hB2
  have HGB2 := hid hg2
  have HSM := hid hsm
  clear hb2 hB2 hg2 hsm HGR HG1 HS1 HB1 HGB hat1
  cases r with
  | true =>
    have HA := hid (awake_any w2)
    go_wp2_with fail
    refine HA.out.mono ?_
    rintro e w3 ⟨rfl, hb3⟩
    have HB3 := hid (HB2.out.trans (hb3.mono HB2.out.size))
    clear hb3 HA
    go_wp2_with fail
    go_ret
    exact ⟨rfl, HB3.out⟩
  | false =>
    have HSMA := hid (HSM.out rfl)
    clear HSM
    obtain ⟨n, hn⟩ : ∃ n, n = cs.length := ⟨_, rfl⟩
    obtain ⟨m, hm⟩ : ∃ m, m = es.length := ⟨_, rfl⟩
    obtain ⟨ne, hne⟩ : ∃ ne, ne = ex.length := ⟨_, rfl⟩
    have hnb : n ≤ 100 := by rw [hn]; exact HSMA.out.c
    rw [← hn, ← hm] at HG2 HGB2 hat2 HG0 ⊢
    rw [← hne] at hxc1 HXX ⊢
    have HN := hid hn
    have HNE := hid hne
    obtain ⟨e, he⟩ : ∃ e, e = fun i => wi n (es.getD i []) := ⟨_, rfl⟩
    have HE := hid he
    have g0 : w2.cell? ⟨w.heap.size, 0, none⟩ = some (.slice ca n cc) := by rw [cell_of_row _ _ 0 _ _ _ HGB2.out]; rfl
    obtain ⟨eb, heb⟩ : ∃ eb, eb = w2.heap.size := ⟨_, rfl⟩
    obtain ⟨w3, hw3⟩ : ∃ w3, w3 = w2.alloc (.cells (madeCells #[.bool false] n) TB) := ⟨_, rfl⟩
    have hb3 : Below w2.heap.size w2 w3 := by rw [hw3]; exact (Below.refl _ _).alloc (Nat.le_refl _) _
    have hgb3 := (hb3.block _ (Array.getElem?_eq_some_iff.1 HGB2.out).1).trans HGB2.out
    have hge : w.heap.size < eb := by rw [heb]; exact (Array.getElem?_eq_some_iff.1 HGB2.out).1
    have hI3 : ClI w w3 (.slice ca n cc) (.slice ea m ec) eb n (hdT (fun _ => true) 0) := by
      refine ⟨hgb3, ?_, HB2.out.trans (hb3.mono HB2.out.size)⟩
      have h2 := BF.made (f := bv) (T := TB) w2 n false
      rw [← heb] at h2
      rw [hw3]
      exact h2.congr (fun i _ => (if_neg (Nat.not_lt_zero i)).symm)
    have HI3 := hid hI3
    have HW3 := hid hw3
    have HEBE := hid heb
    have HGE := hid hge
    have HB23 := hid hb3
    have HEQ := hid heb
    clear hn hm hne he heb hw3 hb3 hgb3 hge hI3 HGB2 hat2
    go_upto_region 4 with ((with_reducible refine at_op ⟨some 29, _, _, _, _, _⟩ ?_); go_loud (refine wpList_runN rfl _ _ (exec_makeC (n := n) Try.underlying38 infoB (by omega) (by omega) rfl rfl) ?_))
    rw [← HW3.out, ← HEBE.out]
    clear HW3 HEBE g0
    go_wp2_with fail
    go_loopw [8] (fun i wr => ∃ t : Nat, t ≤ n ∧ i = .int .i64 t ∧ RowKit.Hid (ClI w wr (.slice ca n cc) (.slice ea m ec) eb n (hdT (fun _ => true) t)) ∧ RowKit.Hid (Fr (fun b => b = eb) w3 wr)) (fun i _ => n - (intOf i).toNat)
    case atStart => exact ⟨0, by omega, rfl, HI3, hid (Fr.refl _ _)⟩
    case round =>
      obtain ⟨t, ht, rfl, HR, HF⟩ := hrel
      by_cases htn : t < n
      · have d0 := HR.out.o.cell htn
        have z0 := HR.out.o.fz t
        have HR2 := hid ((HR.out.set HGE.out t true).congr (f' := hdT (fun _ => true) (t + 1)) (fun i _ => hdT_step (fun _ => true) t i))
        have HF2 := hid (HF.out.setCell ⟨eb, t, none⟩ (.bool true) (fun _ => rfl))
        go_wp2_with fail
        go_roundw
        case rel => exact ⟨t + 1, by omega, by go_num, HR2, HF2⟩
        case measure => simp [intOf]; omega
      · have hnt : n = t := by omega
        subst hnt
        have hr := HR.out.congr (f' := fun _ => true) (fun i hi => if_pos hi)
        have hat := hid hr.atl
        have hbr : Below w2.heap.size w2 wr := HB23.out.trans (HF.out.below HB23.out.size (fun k hk => by have := HEQ.out; omega))
        have HGr := hid ((HG2.out.below hbr).up hbr.size)
        have HSr := hid ((HS2.out.below hbr).up hbr.size)
        have hin := Into_any wr (.slice ca n cc) (.slice ea m ec) _ cs es (fun _ => true) n HN.out HGr.out (hr.o.told (by omega)) (by omega) (by have := HSMA.out.t; omega)
        rw [← HE.out] at hin
        have HIN := hid hin
        have HR1 := hid hr
        clear hr hbr hin HR HF htn HI3 HG2 HS2
        go_wp2_with (first
          | ((with_reducible refine at_op ⟨some 39, _, _, _, _, _⟩ ?_); go_loud (refine wpList_run rfl _ (load_cells Try.underlying25 (by rfl) (by kernel_rfl) rfl rfl hat.out) ?_))
          | fail)
        refine HIN.out.mono ?_
        rintro en w5 ⟨ib, rfl, hIB, hb5⟩
        rw [into_true] at hIB
        have h5 := HR1.out.call hb5
        have g1 := h5.g1
        -- the graph that the law lays
        obtain ⟨xb, hxb⟩ : ∃ xb, xb = w5.heap.size := ⟨_, rfl⟩
        obtain ⟨w6, hw6⟩ : ∃ w6, w6 = w5.alloc (.cells #[.slice none 0 0, .slice ea m ec] TGr) := ⟨_, rfl⟩
        have hb6 : Below w5.heap.size w5 w6 := by rw [hw6]; exact (Below.refl _ _).alloc (Nat.le_refl _) _
        have hx6 := heap_alloc_new w5 (.cells #[.slice none 0 0, .slice ea m ec] TGr)
        rw [← hw6, ← hxb] at hx6
        have s6 : w6.heap.size = xb + 1 := by rw [hw6, hxb]; simp
        obtain ⟨ob, hob⟩ : ∃ ob, ob = w6.heap.size := ⟨_, rfl⟩
        obtain ⟨w8, hw8⟩ : ∃ w8, w8 = w6.alloc (.cells (madeCells #[.bool false] n) TB) := ⟨_, rfl⟩
        have hb8 : Below w6.heap.size w6 w8 := by rw [hw8]; exact (Below.refl _ _).alloc (Nat.le_refl _) _
        have hx8 := (hb8.block xb (by omega)).trans hx6
        have s8 : w8.heap.size = ob + 1 := by rw [hw8, hob]; simp
        have ho8 : BF TB bv w8 ob n (hdT (exB ex) 0) := by
          have h2 := BF.made (f := bv) (T := TB) w6 n false
          rw [← hob] at h2
          rw [hw8]
          exact h2.congr (fun i _ => (if_neg (Nat.not_lt_zero i)).symm)
        have hI8 : SfI w8 w8 xb ob n (.slice ea m ec) (.slice none 0 0) (fL 0 (cxA e n ex)) (hdT (exB ex) 0) := ⟨hx8, World.ownsRow_nil _ _ _ _, ho8, Fr.refl _ _, by omega, by omega, by omega⟩
        have hb58 : Below w5.heap.size w5 w8 := hb6.trans (hb8.mono hb6.size)
        have HIB8 := hid (hIB.below hb58)
        have HEB8 := hid ((h5.o).below hb58)
        have HG8 := hid ((((HGr.out.below hb5).up hb5.size).below hb58).up hb58.size)
        have HS8 := hid ((((HSr.out.below hb5).up hb5.size).below hb58).up hb58.size)
        have HB8 := hid (h5.bl.trans (hb58.mono h5.bl.size))
        have HL8 := hid (And.intro (show w.heap.size < xb by rw [hxb]; exact (Array.getElem?_eq_some_iff.1 h5.gb).1) (show ib < xb ∧ eb < xb by have := hIB.lt; have := h5.o.lt; omega))
        have HOB2 := hid (show xb < ob by omega)
        have HI8 := hid hI8
        have HW6 := hid hw6
        have HW8 := hid hw8
        have HXBE := hid hxb
        have HOBE := hid hob
        clear hIB h5 hxb hw6 hb6 hx6 s6 hob hw8 hb8 hx8 s8 ho8 hI8 hb58 HR1 HIN hat hb5 HGr HSr
        go_upto_region 10 with fail
        rw [← HW6.out, ← HXBE.out]
        clear HW6 HXBE g1
        go_upto_region 11 with ((with_reducible refine at_op ⟨some 47, _, _, _, _, _⟩ ?_); go_loud (refine wpList_runN rfl _ _ (exec_makeC (n := n) Try.underlying38 infoB (by omega) (by omega) rfl rfl) ?_))
        rw [← HW8.out, ← HOBE.out]
        clear HW8 HOBE
        go_wp2_with fail
        go_loopw [12] (fun i wr => ∃ (t : Nat) (cv' : Value), t ≤ n ∧ i = .int .i64 t ∧ RowKit.Hid (SfI w8 wr xb ob n (.slice ea m ec) cv' (fL t (cxA e n ex)) (hdT (exB ex) t))) (fun i _ => n - (intOf i).toNat)
        case atStart => exact ⟨0, _, by omega, rfl, HI8⟩
        case round =>
          obtain ⟨t, cv', ht, rfl, HR⟩ := hrel
          by_cases htn : t < n
          · have ci := (HIB8.out.fr HR.out.fr (by have := HL8.out; have := HOB2.out; omega)).cell htn
            obtain ⟨it, hit⟩ : ∃ it, it = into e (fun _ => True) n t := ⟨_, rfl⟩
            have hitb : it ≤ 2000 := by
              have h1 := into_le e (fun _ => True) n t
              have h2 : tot e n ≤ totE es := by rw [HE.out]; exact Nat.le_trans (tot_wi n es n) (totE_take _ _)
              have := HSMA.out.t
              omega
            rw [← hit] at ci
            have hwi : IntKind.u32.wrap (it : Int) = it := IntWalk.u32_in _ ⟨by omega, by omega⟩
            obtain ⟨x, hx⟩ : ∃ x, x = ex.getD t 0 := ⟨_, rfl⟩
            have hxb := ex_bd HXB.out t
            rw [← hx] at hxb
            have hcx : cxA e n ex t = (it : Int) + x := by unfold cxA; rw [← hit, ← hx]
            have hbl : Below w.heap.size w wr := HB8.out.trans (HR.out.fr.below HB8.out.size (fun k hk => by have := HL8.out; have := HOB2.out; omega))
            by_cases hpos : 0 < x
            · have hlt : t < ex.length := by
                by_cases h : t < ex.length
                · exact h
                · rw [List.getD_eq_getElem?_getD, List.getElem?_eq_none (by omega)] at hx
                  simp at hx
                  omega
              have htne : t < ne := by rw [HNE.out]; exact hlt
              have hx2 : ex[t]? = some x := by rw [hx, List.getD_eq_getElem?_getD, List.getElem?_eq_getElem hlt]; rfl
              obtain ⟨b, o, rfl, hb, hcell⟩ := HXX.out (by omega)
              have cx : wr.cell? ⟨b, o + t, none⟩ = some (.int .u8 x) := (World.cell?_of_block (w := w) (w' := wr) (a := ⟨b, o + t, none⟩) (hbl.block b hb)).trans (hcell t x hx2)
              have d0 := HR.out.o.cell htn
              have z0 := HR.out.o.fz t
              have hw1 : IntKind.u32.wrap x = x := IntWalk.u32_in _ ⟨by omega, by omega⟩
              have hw2 : IntKind.u32.wrap ((it : Int) + x) = (it : Int) + x := IntWalk.u32_in _ ⟨by omega, by omega⟩
              have hA := (HR.out.mark t true).congr (f' := hdT (exB ex) (t + 1)) (fun i _ => by
                have h := hdT_step (exB ex) t i
                rw [show exB ex t = true from decide_eq_true (by rw [← hx]; exact hpos)] at h
                exact h)
              obtain ⟨wa, hwa⟩ : ∃ wa, wa = wr.setCell ⟨ob, t, none⟩ (.bool true) := ⟨_, rfl⟩
              rw [← hwa] at hA
              have HA := hid hA
              have HWA := hid hwa
              have HYY := hid hcx.symm
              clear hit hx hcx hlt hx2 hb hcell hbl hA hwa HR
              go_upto_region 18 with fail
              rw [← HWA.out]
              clear HWA cx d0 z0 ci
              have c0 := HA.out.c0
              obtain ⟨va, vc, hva⟩ := own_form HA.out.c
              subst hva
              have hfl : (fL t (cxA e n ex)).length = t := fL_len _ _
              rw [hfl] at c0
              have HFL := hid hfl
              clear hfl
              go_wp2_with (first
                | (at_builtin; go_loud (refine wpList_pushC (o := ⟨some 84, _, _, _, _, _⟩) rfl (.tmp 81) (.tmp 83) rfl w8.heap.size (.slice va t vc) (fL t (cxA e n ex)) ((it : Int) + x) rfl (by have h := World.ownsRow.alloc HA.out.c (.cells #[cU ((it : Int) + x)] TU32); rw [HFL.out] at h ⊢; exact h) wa.heap.size 1 rfl (by rw [cell_of_row _ _ 0 _ _ _ (heap_alloc_new wa _)]; rfl) (by rw [HFL.out]; omega) (by have := HA.out.fr.size; simp; omega) ?_); intro v5 w9 k1 k2 k3; have K1 := hid k1; have K2 := hid k2; have hpb := HA.out.grow (by rw [HFL.out]; exact k2); have c0' := cell_of_row w9 xb 0 _ _ _ hpb; have z0' := frozen_of_row w9 xb 0 _ _ hpb; obtain ⟨v5a, v5c, rfl⟩ := own_form k1; simp only [List.getElem?_toArray, List.getElem?_cons_zero] at c0'; clear k1 k2 k3 hpb)
                | fail)
              have hp := HA.out.push K1.out (by rw [HFL.out]; exact K2.out)
              rw [List.length_append, List.length_singleton, HYY.out, ← fL_succ] at hp
              have HP := hid hp
              clear hp K1 K2
              go_roundw
              case rel => exact ⟨t + 1, _, by omega, by go_num, HP⟩
              case measure => simp [intOf]; omega
            · have hx0 : x = 0 := by omega
              subst hx0
              have hA := HR.out.congr (f' := hdT (exB ex) (t + 1)) (fun i _ => by
                have hf : exB ex t = false := decide_eq_false (by rw [← hx]; omega)
                unfold hdT
                by_cases h1 : i < t
                · rw [if_pos h1, if_pos (by omega)]
                · rw [if_neg h1]
                  by_cases h2 : i = t
                  · rw [h2, if_pos (by omega), hf]
                  · rw [if_neg (by omega)])
              have HA := hid hA
              have HYY : RowKit.Hid ((it : Int) = cxA e n ex t) := hid (by rw [hcx]; omega)
              obtain ⟨wa, hwa⟩ : ∃ wa, wa = wr := ⟨_, rfl⟩
              rw [← hwa] at HA
              have HWA := hid hwa
              by_cases htne : t < ne
              · have hlt : t < ex.length := by rw [← HNE.out]; exact htne
                have hx2 : ex[t]? = some 0 := by rw [hx, List.getD_eq_getElem?_getD, List.getElem?_eq_getElem hlt]; rfl
                obtain ⟨b, o, rfl, hb, hcell⟩ := HXX.out (by omega)
                have cx : wr.cell? ⟨b, o + t, none⟩ = some (.int .u8 0) := (World.cell?_of_block (w := w) (w' := wr) (a := ⟨b, o + t, none⟩) (hbl.block b hb)).trans (hcell t 0 hx2)
                clear hit hx hcx hlt hx2 hb hcell hbl hA hwa HR hpos
                go_upto_region 18 with fail
                rw [← HWA.out]
                clear HWA cx ci
                have c0 := HA.out.c0
                obtain ⟨va, vc, hva⟩ := own_form HA.out.c
                subst hva
                have hfl : (fL t (cxA e n ex)).length = t := fL_len _ _
                rw [hfl] at c0
                have HFL := hid hfl
                clear hfl
                go_wp2_with (first
                  | (at_builtin; go_loud (refine wpList_pushC (o := ⟨some 84, _, _, _, _, _⟩) rfl (.tmp 81) (.tmp 83) rfl w8.heap.size (.slice va t vc) (fL t (cxA e n ex)) (it : Int) rfl (by have h := World.ownsRow.alloc HA.out.c (.cells #[cU (it : Int)] TU32); rw [HFL.out] at h ⊢; exact h) wa.heap.size 1 rfl (by rw [cell_of_row _ _ 0 _ _ _ (heap_alloc_new wa _)]; rfl) (by rw [HFL.out]; omega) (by have := HA.out.fr.size; simp; omega) ?_); intro v5 w9 k1 k2 k3; have K1 := hid k1; have K2 := hid k2; have hpb := HA.out.grow (by rw [HFL.out]; exact k2); have c0' := cell_of_row w9 xb 0 _ _ _ hpb; have z0' := frozen_of_row w9 xb 0 _ _ hpb; obtain ⟨v5a, v5c, rfl⟩ := own_form k1; simp only [List.getElem?_toArray, List.getElem?_cons_zero] at c0'; clear k1 k2 k3 hpb)
                  | fail)
                have hp := HA.out.push K1.out (by rw [HFL.out]; exact K2.out)
                rw [List.length_append, List.length_singleton, HYY.out, ← fL_succ] at hp
                have HP := hid hp
                clear hp K1 K2
                go_roundw
                case rel => exact ⟨t + 1, _, by omega, by go_num, HP⟩
                case measure => simp [intOf]; omega
              · clear hit hx hcx hbl hA hwa HR hpos
                go_upto_region 18 with fail
                rw [← HWA.out]
                clear HWA ci
                have c0 := HA.out.c0
                obtain ⟨va, vc, hva⟩ := own_form HA.out.c
                subst hva
                have hfl : (fL t (cxA e n ex)).length = t := fL_len _ _
                rw [hfl] at c0
                have HFL := hid hfl
                clear hfl
                go_wp2_with (first
                  | (at_builtin; go_loud (refine wpList_pushC (o := ⟨some 84, _, _, _, _, _⟩) rfl (.tmp 81) (.tmp 83) rfl w8.heap.size (.slice va t vc) (fL t (cxA e n ex)) (it : Int) rfl (by have h := World.ownsRow.alloc HA.out.c (.cells #[cU (it : Int)] TU32); rw [HFL.out] at h ⊢; exact h) wa.heap.size 1 rfl (by rw [cell_of_row _ _ 0 _ _ _ (heap_alloc_new wa _)]; rfl) (by rw [HFL.out]; omega) (by have := HA.out.fr.size; simp; omega) ?_); intro v5 w9 k1 k2 k3; have K1 := hid k1; have K2 := hid k2; have hpb := HA.out.grow (by rw [HFL.out]; exact k2); have c0' := cell_of_row w9 xb 0 _ _ _ hpb; have z0' := frozen_of_row w9 xb 0 _ _ hpb; obtain ⟨v5a, v5c, rfl⟩ := own_form k1; simp only [List.getElem?_toArray, List.getElem?_cons_zero] at c0'; clear k1 k2 k3 hpb)
                  | fail)
                have hp := HA.out.push K1.out (by rw [HFL.out]; exact K2.out)
                rw [List.length_append, List.length_singleton, HYY.out, ← fL_succ] at hp
                have HP := hid hp
                clear hp K1 K2
                go_roundw
                case rel => exact ⟨t + 1, _, by omega, by go_num, HP⟩
                case measure => simp [intOf]; omega
          · have hnt2 : n = t := by omega
            subst hnt2
            have HF3 := hid (HR.out.congr (f' := exB ex) (fun i hi => if_pos hi))
            have hbl : Below w.heap.size w wr := HB8.out.trans (HR.out.fr.below HB8.out.size (fun k hk => by have := HL8.out; have := HOB2.out; omega))
            have HTT := hid (show tot e n ≤ 2000 by rw [HE.out]; exact Nat.le_trans (tot_wi n es n) (Nat.le_trans (totE_take _ _) HSMA.out.t))
            have hG9 : GrW wr.heap.size wr cv' (.slice ea m ec) (fL n (cxA e n ex)) es := ((HG0.out.below hbl).up hbl.size).counts HR.out.told (fun c hc => by
              obtain ⟨i, _, rfl⟩ := mem_fL hc
              exact cxA_bd HTT.out HXB.out i)
            have HS9 := hid ((HS0.out.below hbl).up hbl.size)
            have hcl := Closed_any wr cv' (.slice ea m ec) _ (fL n (cxA e n ex)) es (exB ex) n (fL_len _ _).symm hG9 (HF3.out.o.told (by omega)) (by omega) (fun l hl => Nat.le_trans (len_totE hl) (by have := HSMA.out.t; omega))
            rw [← HE.out] at hcl
            have HCL := hid hcl
            have HG9 := hid hG9
            have HX9 := hid HF3.out.x
            have hat9 := hid (AtL.row HF3.out.x : AtL wr xb 0 _)
            obtain ⟨va9, vc9, hva9⟩ := own_form HR.out.c
            subst hva9
            have HB9 := hid hbl
            clear hbl hG9 hcl htn HR HI8 HIB8 HEB8 HG8 HS8 HB8
            go_wp2_with (first
              | ((with_reducible refine at_op ⟨some 86, _, _, _, _, _⟩ ?_); go_loud (refine wpList_run rfl _ (load_cells Try.underlying25 (by rfl) (by kernel_rfl) rfl rfl hat9.out) ?_))
              | fail)
            refine HCL.out.mono ?_
            rintro en w10 ⟨lb, rfl, hLB, hb10⟩
            obtain ⟨L, hL⟩ : ∃ L, L = rcB n e (exB ex) := ⟨_, rfl⟩
            rw [← hL] at hLB
            have hG10 := (HG9.out.below hb10).up hb10.size
            have hS10 := (HS9.out.below hb10).up hb10.size
            have HLB := hid hLB
            have HLE := hid hL
            have HX10 := hid ((hb10.block _ (Array.getElem?_eq_some_iff.1 HX9.out).1).trans HX9.out)
            have HB10 := hid (HB9.out.trans (hb10.mono HB9.out.size))
            have HGA := hid (Garbage_any w10 _ _ _ (fL n (cxA e n ex)) es su hG10 hS10 (by rw [fL_len]; omega) (by have := HSMA.out.t; omega) (Nat.le_trans wi_len (by have := HSMA.out.s; omega)))
            have HG10 := hid hG10
            have hat10 := hid (AtL.row HX10.out : AtL w10 xb 0 _)
            have hsafe : ∀ j ∈ (grS (fL n (cxA e n ex)) es su).garb, j < n ∧ L j = false := by
              have e1 : (grS (fL n (cxA e n ex)) es su).e = e := by show (fun i => wi (fL n (cxA e n ex)).length (es.getD i [])) = e; rw [fL_len, HE.out]
              have e2 : (grS (fL n (cxA e n ex)) es su).n = n := fL_len _ _
              have e3 : ∀ i, i < n → (grS (fL n (cxA e n ex)) es su).c i = cxA e n ex i := fun i hi => getD_fL hi
              have hok : GrOk (grS (fL n (cxA e n ex)) es su) := grS_ok HG10.out.cb
              intro j hj
              have h1 := safe_garb hok (F := exB ex) (fun i hi => by
                rw [e2] at hi
                rw [e1, e2, e3 i hi]
                have := ex_bd HXB.out i
                unfold cxA; omega) (fun i hi hF => by
                rw [e2] at hi
                rw [e1, e2, e3 i hi]
                have h2 : 0 < ex.getD i 0 := of_decide_eq_true hF
                unfold cxA; omega) hj
              rw [e1, e2, ← HLE.out] at h1
              exact h1
            have HSF := hid hsafe
            clear hL hLB hG10 hS10 hb10 hsafe HCL HG9 HX9 HS9 hat9
            go_wp2_with (first
              | ((with_reducible refine at_op ⟨some 89, _, _, _, _, _⟩ ?_); go_loud (refine wpList_run rfl _ (load_cells Try.underlying25 (by rfl) (by kernel_rfl) rfl rfl hat10.out) ?_))
              | fail)
            refine HGA.out.mono ?_
            rintro en w11 ⟨v11, rfl, hT11, hb11⟩
            obtain ⟨GA, hGA⟩ : ∃ GA, GA = (grS (fL n (cxA e n ex)) es su).garb := ⟨_, rfl⟩
            rw [← hGA] at hT11 HSF
            obtain ⟨ga, gc, rfl, hgc1, hgc2, hGx⟩ := hT11.ex
            obtain ⟨ng, hng⟩ : ∃ ng, ng = GA.length := ⟨_, rfl⟩
            rw [← hng] at hgc1 hGx ⊢
            have HNG := hid hng
            have HGX := hid hGx
            have HLB11 := hid (HLB.out.below hb11)
            have HX11 := hid ((hb11.block _ (Array.getElem?_eq_some_iff.1 HX10.out).1).trans HX10.out)
            have HB11 := hid (HB10.out.trans (hb11.mono HB10.out.size))
            have HG11 := hid ((HG10.out.below hb11).up hb11.size)
            clear hGA hT11 hng hGx hb11 HGA HLB HX10 HB10 HG10 hat10
            go_wp2_with fail
            go_loopw [16] (fun i wr => ∃ t : Nat, t ≤ ng ∧ i = .int .i64 t ∧ RowKit.Hid (wr = w11)) (fun i _ => ng - (intOf i).toNat)
            case atStart => exact ⟨0, by omega, rfl, hid rfl⟩
            case round =>
              obtain ⟨t, ht, rfl, HWr⟩ := hrel
              have hwr := HWr.out.symm
              subst hwr
              by_cases htg : t < ng
              · have hlt : t < GA.length := by rw [← HNG.out]; exact htg
                have hx : GA[t]? = some GA[t] := List.getElem?_eq_getElem hlt
                generalize GA[t] = x at hx
                obtain ⟨hxn, hxl⟩ := HSF.out x (List.mem_of_getElem? hx)
                obtain ⟨b, o, rfl, hb, hcell⟩ := HGX.out (by omega)
                have cx := hcell t x hx
                have cl := HLB11.out.cell hxn
                rw [hxl] at cl
                clear hx hcell hb hlt hxl
                go_wp2_with fail
                go_roundw
                case rel => exact ⟨t + 1, by omega, by go_num, by first | exact hid rfl | exact hid trivial⟩
                case measure => simp [intOf]; omega
              · have hng2 : ng = t := by omega
                subst hng2
                clear htg HWr
                go_wp2_with fail
                go_loopw [18, 17] (fun i v wr => ∃ t : Nat, t ≤ n ∧ i = .int .i64 t ∧ RowKit.Hid (PI w11 wr v (List.range t))) (fun i _ _ => n - (intOf i).toNat)
                case atStart => exact ⟨0, by omega, rfl, hid (PI.new w11)⟩
                case round =>
                  obtain ⟨t, ht, rfl, HR⟩ := hrel
                  by_cases htn : t < n
                  · have HLR := hid (show (List.range t).length ≤ 1000000 by rw [List.length_range]; omega)
                    go_wp2_with (first
                      | (at_builtin; refine wpList_pushI (o := ⟨some 130, _, _, _, _, _⟩) rfl (.tmp 127) (.tmp 129) rfl w11.heap.size _ _ t rfl (OwI.alloc HR.out.1 _) wr.heap.size 1 rfl (by rw [cell_of_row _ _ 0 _ _ _ (heap_alloc_new wr _)]; rfl) HLR.out (by have := HR.out.2.size; simp; omega) ?_; intro v5 w6 hown5 hgrow5 hat5; have HO5 := hid hown5; have HG5 := hid hgrow5; clear hown5 hgrow5 hat5)
                      | fail)
                    have h5 := HR.out.push HO5.out HG5.out
                    rw [← List.range_succ] at h5
                    have HE5 := hid h5
                    clear h5
                    go_roundw
                    case rel => exact ⟨t + 1, by omega, by go_num, HE5⟩
                    case measure => simp [intOf]; omega
                  · have hnt3 : n = t := by omega
                    subst hnt3
                    have hb12 := HR.out.2
                    have HX12 := hid ((hb12.block _ (Array.getElem?_eq_some_iff.1 HX11.out).1).trans HX11.out)
                    have hat12 := hid (AtL.row HX12.out : AtL wr xb 0 _)
                    have HG12 := hid ((HG11.out.below hb12).up hb12.size)
                    have HLB12 := hid (HLB11.out.below hb12)
                    have HB12 := hid (HB11.out.trans (hb12.mono HB11.out.size))
                    have hga := Garbage_any wr _ _ _ (fL n (cxA e n ex)) es ((List.range n).map Int.ofNat) HG12.out HR.out.told.ints (by rw [fL_len]; omega) (by have := HSMA.out.t; omega) (by rw [fL_len, wi_range, List.length_range]; omega)
                    have hall : (grS (fL n (cxA e n ex)) es ((List.range n).map Int.ofNat)).garb = noB L n := by
                      have e1 : (grS (fL n (cxA e n ex)) es ((List.range n).map Int.ofNat)).e = e := by show (fun i => wi (fL n (cxA e n ex)).length (es.getD i [])) = e; rw [fL_len, HE.out]
                      have e2 : (grS (fL n (cxA e n ex)) es ((List.range n).map Int.ofNat)).n = n := fL_len _ _
                      have e3 : ∀ i, i < n → (grS (fL n (cxA e n ex)) es ((List.range n).map Int.ofNat)).c i = cxA e n ex i := fun i hi => getD_fL hi
                      have h1 := all_garb (g := grS (fL n (cxA e n ex)) es ((List.range n).map Int.ofNat)) (grS_ok HG12.out.cb) (fun i hi => by
                        rw [e2] at hi
                        show i ∈ wi (fL n (cxA e n ex)).length ((List.range n).map Int.ofNat)
                        rw [fL_len, wi_range]
                        exact List.mem_range.2 hi) (F := exB ex) (fun i hi => by
                        rw [e2] at hi
                        rw [e1, e2, e3 i hi]
                        unfold exB cxA
                        simp only [decide_eq_true_eq]
                        omega)
                      rw [e1, e2, ← HLE.out] at h1
                      exact h1
                    rw [hall] at hga
                    have HGA := hid hga
                    obtain ⟨ra, rc, hra⟩ := own_form HR.out.1
                    subst hra
                    rw [List.length_range] at HGA
                    clear hb12 hga hall htn HR HX11 HLB11 HB11 HG11
                    go_wp2_with (first
                      | ((with_reducible refine at_op ⟨some 131, _, _, _, _, _⟩ ?_); go_loud (refine wpList_run rfl _ (load_cells Try.underlying25 (by rfl) (by kernel_rfl) rfl rfl hat12.out) ?_))
                      | fail)
                    refine HGA.out.mono ?_
                    rintro en w13 ⟨v13, rfl, hT13, hb13⟩
                    obtain ⟨ma, mc, rfl, hmc1, hmc2, hMx⟩ := hT13.ex
                    obtain ⟨nm, hnm⟩ : ∃ nm, nm = (noB L n).length := ⟨_, rfl⟩
                    rw [← hnm] at hmc1 hMx ⊢
                    have HNM := hid hnm
                    have HMX := hid hMx
                    have hnmb : nm ≤ n := by rw [hnm]; exact noB_len L n
                    have HLB13 := hid (HLB12.out.below hb13)
                    have HB13 := hid (HB12.out.trans (hb13.mono HB12.out.size))
                    clear hT13 hnm hMx hb13 HGA HLB12 HX12 HB12 HG12 hat12
                    go_wp2_with fail
                    go_loopw [21, 20] (fun i v wr => ∃ (t : Nat) (c : Nat), t ≤ n ∧ i = .int .i64 t ∧ v = .int .i64 c ∧ RowKit.Hid (c = (noB L t).length) ∧ RowKit.Hid (wr = w13)) (fun i _ _ => n - (intOf i).toNat)
                    case atStart => exact ⟨0, 0, by omega, rfl, rfl, hid rfl, hid rfl⟩
                    case round =>
                      obtain ⟨t, c, ht, rfl, rfl, HC, HWr⟩ := hrel
                      have hwr := HWr.out.symm
                      subst hwr
                      by_cases htn : t < n
                      · have cl := HLB13.out.cell htn
                        have hsucc := noB_succ L t
                        obtain ⟨y, hy⟩ : ∃ y, y = L t := ⟨_, rfl⟩
                        rw [← hy] at cl hsucc
                        have hcb := noB_len L t
                        have hcc := HC.out
                        cases y with
                        | true =>
                          have HC2 := hid (show c = (noB L (t + 1)).length by rw [hsucc, if_neg (by simp), List.append_nil]; exact hcc)
                          clear hsucc hy hcb hcc
                          go_wp2_with fail
                          go_roundw
                          case rel => exact ⟨t + 1, c, by omega, by go_num, rfl, HC2, by first | exact hid rfl | exact hid trivial⟩
                          case measure => simp [intOf]; omega
                        | false =>
                          have hx := noB_at L htn hy.symm
                          rw [← hcc] at hx
                          have hcn : c < nm := by rw [HNM.out]; exact (List.getElem?_eq_some_iff.1 hx).1
                          obtain ⟨b, o, rfl, hb, hcell⟩ := HMX.out (by omega)
                          have cx := hcell c t hx
                          have HC2 := hid (show c + 1 = (noB L (t + 1)).length by rw [hsucc, if_pos rfl, List.length_append]; simp; exact hcc)
                          have hwc : IntKind.i64.wrap ((c : Int) + 1) = (c : Int) + 1 := IntWalk.i64_in _ ⟨by omega, by omega⟩
                          clear hsucc hy hcb hcc hx hcell hb
                          go_wp2_with fail
                          go_roundw
                          case rel => exact ⟨t + 1, c + 1, by omega, by go_num, by go_num, HC2, by first | exact hid rfl | exact hid trivial⟩
                          case measure => simp [intOf]; omega
                      · have hnt4 : n = t := by omega
                        subst hnt4
                        have hcm : c = nm := by rw [HC.out, HNM.out]
                        subst hcm
                        clear htn HWr
                        go_wp2_with (first
                          | (go_at_call 10; refine (awake_any _).mono ?_; rintro e w24 ⟨rfl, hb24⟩; have HB24 := hid (HB13.out.trans (hb24.mono HB13.out.size)); clear hb24)
                          | fail)
                        go_ret
                        exact ⟨rfl, HB24.out⟩
end Go.Proofs.Ytjmhlmohennknab
