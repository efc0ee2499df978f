/-
  The walk of CycleRest.
-/
import Derived.Test.YtjmhlmohennknabCySh
namespace Go.Proofs.Ytjmhlmohennknab
open Go Go.ChangeShapes Go.WideShapes Go.ChangeAt Go.RowKit

/-- The counts, some lessened. -/
noncomputable def cyT (e : Nat → List Nat) (n : Nat) (ex : List Int) (L : Nat → Bool) (t i : Nat) : Int := if i < t then cxA e n ex i - (into e (fun k => (!L k) = true) n i : Int) else cxA e n ex i
theorem off_le {e : Nat → List Nat} {n : Nat} {L : Nat → Bool} (i : Nat) : into e (fun k => (!L k) = true) n i ≤ into e (fun _ => True) n i := into_mono (fun _ _ _ => trivial) i
theorem cyT_bd {e : Nat → List Nat} {n : Nat} {ex : List Int} {L : Nat → Bool} (ht : tot e n ≤ 2000) (hx : ∀ x ∈ ex, 0 ≤ x ∧ x ≤ 255) (t i : Nat) : 0 ≤ cyT e n ex L t i ∧ cyT e n ex L t i ≤ 4294967295 := by
  have h1 := cxA_bd ht hx i
  have h2 := off_le (e := e) (n := n) (L := L) i
  have h3 := ex_bd hx i
  unfold cyT
  split
  · unfold cxA at h1 ⊢; omega
  · exact h1
/-- The edges that stay. -/
def edL (e : Nat → List Nat) (L : Nat → Bool) (i : Nat) : List Nat := if L i = true then e i else []
/-- Who stays, till a place. -/
def reB (L : Nat → Bool) (t : Nat) : List Nat := (List.range t).filter fun i => L i
theorem reB_succ (L : Nat → Bool) (t : Nat) : reB L (t + 1) = reB L t ++ if L t = true then [t] else [] := by
  unfold reB
  rw [List.range_succ, List.filter_append]
  congr 1
  cases h : L t <;> simp [List.filter, h]
theorem reB_len (L : Nat → Bool) (t : Nat) : (reB L t).length ≤ t := by
  unfold reB
  refine Nat.le_trans (List.length_filter_le _ _) ?_
  simp
theorem mem_reB {L : Nat → Bool} {t i : Nat} : i ∈ reB L t ↔ i < t ∧ L i = true := by
  unfold reB
  rw [List.mem_filter, List.mem_range]
theorem edL_lt {e : Nat → List Nat} {L : Nat → Bool} {n : Nat} (he : ∀ i, ∀ j ∈ e i, j < n) (i : Nat) : ∀ j ∈ edL e L i, j < n := fun j hj => by
  unfold edL at hj
  split at hj
  · exact he i j hj
  · cases hj
/-- Of the graph that is left nothing is garbage. -/
theorem rest_none {e : Nat → List Nat} {n : Nat} {ex : List Int} (he : ∀ i, ∀ j ∈ e i, j < n) :
    (grS (fL n (cyT e n ex (rcB n e (exB ex)) n)) ((fL n (edL e (rcB n e (exB ex)))).map fun xs => xs.map Int.ofNat) ((reB (rcB n e (exB ex)) n).map Int.ofNat)).garb = [] := by
  obtain ⟨L, hL⟩ : ∃ L, L = rcB n e (exB ex) := ⟨_, rfl⟩
  rw [← hL]
  have hlen : (fL n (cyT e n ex L n)).length = n := fL_len _ _
  have hed : ∀ i, i < n → wi n (((fL n (edL e L)).map fun xs => xs.map Int.ofNat).getD i []) = edL e L i := fun i hi => by
    rw [List.getD_eq_getElem?_getD, List.getElem?_map, fL_at hi]
    exact wi_nat (edL_lt he i)
  have hre : wi n ((reB L n).map Int.ofNat) = reB L n := wi_nat (fun x hx => (mem_reB.1 hx).1)
  have key := rest_garb (n := n) (e := e) (e2 := fun i => wi n (((fL n (edL e L)).map fun xs => xs.map Int.ofNat).getD i [])) (c2 := fun i => (fL n (cyT e n ex L n)).getD i 0) (F := exB ex) (s2 := fun i => i ∈ wi n ((reB L n).map Int.ofNat)) he
    (fun i hi => by rw [hre, mem_reB, ← hL]; exact ⟨fun h => h.2, fun h => ⟨hi, h⟩⟩) (fun i h => by rw [hre] at h; exact (mem_reB.1 h).1) (fun i hi => by rw [hed i hi, ← hL]; rfl) (fun i hi hF => by
      have h1 : (fL n (cyT e n ex L n)).getD i 0 = cyT e n ex L n i := getD_fL hi
      rw [h1, ← hL]
      unfold cyT cxA
      rw [if_pos hi]
      have h2 := into_or (e := e) (P := fun k => L k = true) (Q := fun k => (!L k) = true) (R := fun _ => True) (n := n) (fun k _ => ⟨fun _ => by cases L k <;> simp, fun _ => trivial⟩) (fun k _ h h2 => by rw [h] at h2; cases h2) i
      have h3 : 0 < ex.getD i 0 := of_decide_eq_true hF
      omega)
  have h4 : grS (fL n (cyT e n ex L n)) ((fL n (edL e L)).map fun xs => xs.map Int.ofNat) ((reB L n).map Int.ofNat) = Gr.mk n (fun i => (fL n (cyT e n ex L n)).getD i 0) (fun i => wi n (((fL n (edL e L)).map fun xs => xs.map Int.ofNat).getD i [])) (fun i => i ∈ wi n ((reB L n).map Int.ofNat)) := by
    unfold grS grOf
    rw [hlen]
  rw [h4]
  exact key
set_option maxRecDepth 100000 in
set_option maxHeartbeats 16000000 in
theorem CycleRest_any (w : World) (cv ev xv : Value) (cs : List Int) (es : List (List Int)) (ex0 : List Int) (hG : GrW w.heap.size w cv ev cs es) (hX : Tl (Value.int .u8) w.heap.size w xv ex0) (hXb : ∀ x ∈ ex0, 0 ≤ x ∧ x ≤ 255) :
    Calls Try.prog 8 #[.agg #[cv, ev], xv] w fun e w' => e = .returned (.bool true) ∧ Below w.heap.size w w' := by
  obtain ⟨w1, hw1⟩ : ∃ w1, w1 = w.alloc (.cells #[cv, ev] TGr) := ⟨_, rfl⟩
  have hb1 : Below w.heap.size w w1 := by rw [hw1]; exact (Below.refl _ _).alloc (Nat.le_refl _) _
  have hg1 := heap_alloc_new w (.cells #[cv, ev] TGr)
  rw [← hw1] at hg1
  have hG1 := (hG.below hb1).up hb1.size
  have HGR := hid (great_any w1 cv ev (.slice none 0 0) cs es [] hG1 (Tl.nil _ _ _))
  have HG1 := hid hG1
  have HGB := hid hg1
  have HB1 := hid hb1
  have HW1 := hid hw1
  have HXB := hid hXb
  have HG0 := hid hG
  obtain ⟨ca, cc, rfl, _⟩ := hG.c.ex
  obtain ⟨ea, ec, rfl, _⟩ := hG.e
  obtain ⟨xa, xc, rfl, hxc1, hxc2, hXx⟩ := hX.ex
  have HXX := hid hXx
  have hat1 := hid (AtL.row hg1 : AtL w1 w.heap.size 0 _)
  clear hG hg1 hb1 hw1 hG1 hX hXb hXx
  go_enter Try.func8, Try.ntmps8
  go_upto_region 1 with fail
  rw [← HW1.out]
  clear HW1
  go_wp2_with (first
    | ((with_reducible refine at_op ⟨some 21, _, _, _, _, _⟩ ?_); go_loud (refine wpList_run rfl _ (load_cells Try.underlying25 (by rfl) (by kernel_rfl) rfl rfl hat1.out) ?_))
    | fail)
  refine HGR.out.mono ?_
  rintro e w2 ⟨r, rfl, hb2, hsm⟩
  have hB2 := HB1.out.trans (hb2.mono HB1.out.size)
  have hg2 := (hb2.block _ (Array.getElem?_eq_some_iff.1 HGB.out).1).trans HGB.out
  have hat2 := hid (AtL.row hg2 : AtL w2 w.heap.size 0 _)
  have HG2 := hid ((HG1.out.below hb2).up hb2.size)
  have HB2 := hid hB2
  have HGB2 := hid hg2
  have HSM := hid hsm
  clear hb2 hB2 hg2 hsm HGR HG1 HB1 HGB hat1
  cases r with
  | true =>
    have HA := hid (awake_any w2)
    go_wp2_with fail
    refine HA.out.mono ?_
    rintro e w3 ⟨rfl, hb3⟩
    have HB3 := hid (HB2.out.trans (hb3.mono HB2.out.size))
    clear hb3 HA
    go_wp2_with fail
    go_ret
    exact ⟨rfl, HB3.out⟩
  | false =>
    have HSMA := hid (HSM.out rfl)
    clear HSM
    obtain ⟨ex, hex⟩ : ∃ ex, ex = ex0.map fun x : Int => x % 2 := ⟨_, rfl⟩
    have HEX := hid hex
    have HXB2 := hid (show ∀ x ∈ ex, 0 ≤ x ∧ x ≤ 255 from fun x hx => by
      rw [hex] at hx
      obtain ⟨y, _, rfl⟩ := List.mem_map.1 hx
      omega)
    clear hex
    obtain ⟨n, hn⟩ : ∃ n, n = cs.length := ⟨_, rfl⟩
    obtain ⟨m, hm⟩ : ∃ m, m = es.length := ⟨_, rfl⟩
    obtain ⟨ne, hne⟩ : ∃ ne, ne = ex0.length := ⟨_, rfl⟩
    have hnb : n ≤ 100 := by rw [hn]; exact HSMA.out.c
    rw [← hn, ← hm] at HG2 HGB2 hat2 HG0 ⊢
    rw [← hne] at hxc1 HXX ⊢
    have HN := hid hn
    have HNE := hid hne
    obtain ⟨e, he⟩ : ∃ e, e = fun i => wi n (es.getD i []) := ⟨_, rfl⟩
    have HE := hid he
    have g0 : w2.cell? ⟨w.heap.size, 0, none⟩ = some (.slice ca n cc) := by rw [cell_of_row _ _ 0 _ _ _ HGB2.out]; rfl
    obtain ⟨eb, heb⟩ : ∃ eb, eb = w2.heap.size := ⟨_, rfl⟩
    obtain ⟨w3, hw3⟩ : ∃ w3, w3 = w2.alloc (.cells (madeCells #[.bool false] n) TB) := ⟨_, rfl⟩
    have hb3 : Below w2.heap.size w2 w3 := by rw [hw3]; exact (Below.refl _ _).alloc (Nat.le_refl _) _
    have hgb3 := (hb3.block _ (Array.getElem?_eq_some_iff.1 HGB2.out).1).trans HGB2.out
    have hge : w.heap.size < eb := by rw [heb]; exact (Array.getElem?_eq_some_iff.1 HGB2.out).1
    have hI3 : ClI w w3 (.slice ca n cc) (.slice ea m ec) eb n (hdT (fun _ => true) 0) := by
      refine ⟨hgb3, ?_, HB2.out.trans (hb3.mono HB2.out.size)⟩
      have h2 := BF.made (f := bv) (T := TB) w2 n false
      rw [← heb] at h2
      rw [hw3]
      exact h2.congr (fun i _ => (if_neg (Nat.not_lt_zero i)).symm)
    have HI3 := hid hI3
    have HW3 := hid hw3
    have HEBE := hid heb
    have HGE := hid hge
    have HB23 := hid hb3
    have HEQ := hid heb
    clear hn hm hne he heb hw3 hb3 hgb3 hge hI3 HGB2 hat2 HG2
    go_upto_region 4 with ((with_reducible refine at_op ⟨some 27, _, _, _, _, _⟩ ?_); go_loud (refine wpList_runN rfl _ _ (exec_makeC (n := n) Try.underlying38 infoB (by omega) (by omega) rfl rfl) ?_))
    rw [← HW3.out, ← HEBE.out]
    clear HW3 HEBE g0
    go_wp2_with fail
    go_loopw [7, 6] (fun i v wr => ∃ t : Nat, t ≤ n ∧ i = .int .i64 t ∧ RowKit.Hid (ClI w wr (.slice ca n cc) (.slice ea m ec) eb n (hdT (fun _ => true) t)) ∧ RowKit.Hid (OwI w3.heap.size wr v (List.range t)) ∧ RowKit.Hid (Fr (fun b => b = eb) w3 wr)) (fun i _ _ => n - (intOf i).toNat)
    case atStart => exact ⟨0, by omega, rfl, HI3, hid (World.ownsRow_nil _ _ _ _), hid (Fr.refl _ _)⟩
    case round =>
      obtain ⟨t, ht, rfl, HR, HA, HF⟩ := hrel
      by_cases htn : t < n
      · have d0 := HR.out.o.cell htn
        have z0 := HR.out.o.fz t
        have HR2 := hid ((HR.out.set HGE.out t true).congr (f' := hdT (fun _ => true) (t + 1)) (fun i _ => hdT_step (fun _ => true) t i))
        have hf2 := HF.out.setCell ⟨eb, t, none⟩ (.bool true) (fun _ => rfl)
        have HF2 := hid hf2
        have HA2 := hid (show OwI w3.heap.size (wr.setCell ⟨eb, t, none⟩ (.bool true)) _ (List.range t) from OwI.fr HA.out ((Fr.refl (fun b => b = eb) wr).setCell ⟨eb, t, none⟩ (.bool true) (fun _ => rfl)) (fun k hk e => by have := (World.ownsRow.lt HA.out k hk).1; have := HI3.out.o.lt; omega))
        obtain ⟨wa, hwa⟩ : ∃ wa, wa = wr.setCell ⟨eb, t, none⟩ (.bool true) := ⟨_, rfl⟩
        rw [← hwa] at HR2 HF2 HA2
        have HWA := hid hwa
        have HLR := hid (show (List.range t).length ≤ 1000000 by rw [List.length_range]; omega)
        obtain ⟨aa, ac, haa⟩ := own_form HA.out
        subst haa
        clear hwa hf2 HR HA HF
        go_upto_region 9 with fail
        rw [← HWA.out]
        clear HWA d0 z0
        go_wp2_with (first
          | (at_builtin; go_loud (refine wpList_pushI (o := ⟨some 40, _, _, _, _, _⟩) rfl (.tmp 37) (.tmp 39) rfl w3.heap.size _ _ t rfl (OwI.alloc HA2.out _) wa.heap.size 1 rfl (by rw [cell_of_row _ _ 0 _ _ _ (heap_alloc_new wa _)]; rfl) HLR.out (by have := HF2.out.size; simp; omega) ?_); intro v5 w6 hown5 hgrow5 hat5; have HO5 := hid hown5; have HG5 := hid hgrow5; clear hown5 hgrow5 hat5)
          | fail)
        have ho5 := HO5.out
        rw [← List.range_succ] at ho5
        have hbg : Below w3.heap.size wa w6 := ((Below.refl _ _).alloc HF2.out.size _).grown HG5.out (by have := HF2.out.size; simp; omega) (fun k hk => (World.ownsRow.lt HA2.out k hk).1)
        have hfg : Fr (fun k => w3.heap.size ≤ k) wa w6 := ⟨hbg.os, hbg.tape, hbg.output, hbg.size, fun k _ hn => hbg.block k (by omega)⟩
        have hebl := HI3.out.o.lt
        have hgbl := (Array.getElem?_eq_some_iff.1 HI3.out.gb).1
        have hR6 : ClI w w6 (.slice ca n cc) (.slice ea m ec) eb n (hdT (fun _ => true) (t + 1)) := ⟨(hbg.block _ hgbl).trans HR2.out.gb, HR2.out.o.fr hfg (by omega), HR2.out.bl.trans (hbg.mono HI3.out.bl.size)⟩
        have HR6 := hid hR6
        have HO6 := hid ho5
        have HF6 := hid (HF2.out.trans hfg (fun k hk hl => by omega))
        clear ho5 hbg hfg hR6
        go_roundw
        case rel => exact ⟨t + 1, by omega, by go_num, HR6, HO6, HF6⟩
        case measure => simp [intOf]; omega
      · have hnt : n = t := by omega
        subst hnt
        have hr := HR.out.congr (f' := fun _ => true) (fun i hi => if_pos hi)
        have hat := hid hr.atl
        have hbr := hr.bl
        have hin := Into_any wr (.slice ca n cc) (.slice ea m ec) _ cs es (fun _ => true) n HN.out ((HG0.out.below hbr).up hbr.size) (hr.o.told (by omega)) (by omega) (by have := HSMA.out.t; omega)
        rw [← HE.out] at hin
        have HIN := hid hin
        have HR1 := hid hr
        have HAO := hid (show OwI w3.heap.size wr _ (List.range n) from HA.out)
        have HE3 := hid HI3.out.o.lt
        obtain ⟨la, lc, hla⟩ := own_form HA.out
        subst hla
        rw [List.length_range] at HAO
        clear hr hbr hin HR HF htn HI3 HA
        go_wp2_with (first
          | ((with_reducible refine at_op ⟨some 41, _, _, _, _, _⟩ ?_); go_loud (refine wpList_run rfl _ (load_cells Try.underlying25 (by rfl) (by kernel_rfl) rfl rfl hat.out) ?_))
          | fail)
        refine HIN.out.mono ?_
        rintro en w5 ⟨ib, rfl, hIB, hb5⟩
        rw [into_true] at hIB
        have h5 := HR1.out.call hb5
        have g1 := h5.g1
        obtain ⟨xb, hxb⟩ : ∃ xb, xb = w5.heap.size := ⟨_, rfl⟩
        obtain ⟨w8, hw8⟩ : ∃ w8, w8 = w5.alloc (.cells #[.slice none 0 0, .slice ea m ec] TGr) := ⟨_, rfl⟩
        have hb8 : Below w5.heap.size w5 w8 := by rw [hw8]; exact (Below.refl _ _).alloc (Nat.le_refl _) _
        have hx8 := heap_alloc_new w5 (.cells #[.slice none 0 0, .slice ea m ec] TGr)
        rw [← hw8, ← hxb] at hx8
        have s8 : w8.heap.size = xb + 1 := by rw [hw8, hxb]; simp
        have hel := h5.o.lt
        have hI8 : SfI w8 w8 xb eb n (.slice ea m ec) (.slice none 0 0) (fL 0 (cxA e n ex)) (fun _ => true) := ⟨hx8, World.ownsRow_nil _ _ _ _, h5.o.below hb8, Fr.refl _ _, by omega, by omega, by omega⟩
        have HIB8 := hid (hIB.below hb8)
        have HB8 := hid (h5.bl.trans (hb8.mono h5.bl.size))
        have HL8 := hid (And.intro (show w.heap.size < xb by rw [hxb]; exact (Array.getElem?_eq_some_iff.1 h5.gb).1) (show ib < xb ∧ eb < xb by have := hIB.lt; omega))
        have HIE := hid (show ib ≠ eb by have := hb5.size; have := hIB.lt; intro e; have h9 := hIB; rw [e] at h9; have h10 : w5.heap[eb]? = _ := h5.o; unfold BF at h9; rw [h10] at h9; injection h9 with h9; injection h9 with _ h11; exact absurd h11 (by decide))
        have HAO8 := hid (OwI.fr (OwI.fr HAO.out (Fr.of_below (fp := fun _ => False) hb5) (fun _ _ e => e)) (Fr.of_below (fp := fun _ => False) hb8) (fun _ _ e => e))
        have HAX := hid (show ∀ k, (Value.slice la n lc).ownBlock = some k → k ≠ xb ∧ k ≠ eb from fun k hk => by
          have h1 := World.ownsRow.lt HAO.out k hk
          have h2 := hb5.size
          have h3 := HE3.out
          omega)
        have HI8 := hid hI8
        have HW8 := hid hw8
        have HXBE := hid hxb
        clear hIB h5 hxb hw8 hb8 hx8 s8 hel hI8 HR1 HIN hat hb5 HAO
        go_upto_region 12 with fail
        rw [← HW8.out, ← HXBE.out]
        clear HW8 HXBE g1
        go_wp2_with fail
        go_loopw [10] (fun i wr => ∃ (t : Nat) (cv' : Value), t ≤ n ∧ i = .int .i64 t ∧ RowKit.Hid (SfI w8 wr xb eb n (.slice ea m ec) cv' (fL t (cxA e n ex)) (fun _ => true))) (fun i _ => n - (intOf i).toNat)
        case atStart => exact ⟨0, _, by omega, rfl, HI8⟩
        case round =>
          obtain ⟨t, cv', ht, rfl, HA⟩ := hrel
          by_cases htn : t < n
          · have ci := (HIB8.out.fr HA.out.fr (by have := HL8.out; have := HIE.out; omega)).cell htn
            obtain ⟨it, hit⟩ : ∃ it, it = into e (fun _ => True) n t := ⟨_, rfl⟩
            have hitb : it ≤ 2000 := by
              have h1 := into_le e (fun _ => True) n t
              have h2 : tot e n ≤ totE es := by rw [HE.out]; exact Nat.le_trans (tot_wi n es n) (totE_take _ _)
              have := HSMA.out.t
              omega
            rw [← hit] at ci
            have hwi : IntKind.u32.wrap (it : Int) = it := IntWalk.u32_in _ ⟨by omega, by omega⟩
            have hbl : Below w.heap.size w wr := HB8.out.trans (HA.out.fr.below HB8.out.size (fun k hk => by have := HL8.out; have := HGE.out; omega))
            by_cases htne : t < ne
            · have hlt : t < ex0.length := by rw [← HNE.out]; exact htne
              have hx2 : ex0[t]? = some ex0[t] := List.getElem?_eq_getElem hlt
              obtain ⟨x, hx⟩ : ∃ x, x = ex0[t] := ⟨_, rfl⟩
              rw [← hx] at hx2
              have hxb := HXB.out x (List.mem_of_getElem? hx2)
              obtain ⟨b, o, rfl, hb, hcell⟩ := HXX.out (by omega)
              have cx : wr.cell? ⟨b, o + t, none⟩ = some (.int .u8 x) := (World.cell?_of_block (w := w) (w' := wr) (a := ⟨b, o + t, none⟩) (hbl.block b hb)).trans (hcell t x hx2)
              obtain ⟨y, rfl⟩ := Int.eq_ofNat_of_zero_le hxb.1
              have hcx : cxA e n ex t = (it : Int) + (y : Int) % 2 := by
                unfold cxA
                rw [← hit, HEX.out, List.getD_eq_getElem?_getD, List.getElem?_map, hx2]
                rfl
              have HYY := hid hcx.symm
              clear hit hx hcx hlt hx2 hb hcell hbl
              go_upto_region 18 with fail
              clear ci cx
              have c0 := HA.out.c0
              obtain ⟨va, vc, hva⟩ := own_form HA.out.c
              subst hva
              have hfl : (fL t (cxA e n ex)).length = t := fL_len _ _
              rw [hfl] at c0
              have HFL := hid hfl
              clear hfl
              go_wp2_with (first
                | (at_builtin; go_loud (refine wpList_pushC (o := ⟨some 74, _, _, _, _, _⟩) rfl (.tmp 71) (.tmp 73) rfl w8.heap.size (.slice va t vc) (fL t (cxA e n ex)) ((it : Int) + (y : Int) % 2) rfl (by have h := World.ownsRow.alloc HA.out.c (.cells #[cU ((it : Int) + (y : Int) % 2)] TU32); rw [HFL.out] at h ⊢; exact h) wr.heap.size 1 rfl (by rw [cell_of_row _ _ 0 _ _ _ (heap_alloc_new wr _)]; rfl) (by rw [HFL.out]; omega) (by have := HA.out.fr.size; simp; omega) ?_); intro v5 w9 k1 k2 k3; have K1 := hid k1; have K2 := hid k2; have hpb := HA.out.grow (by rw [HFL.out]; exact k2); have c0' := cell_of_row w9 xb 0 _ _ _ hpb; have z0' := frozen_of_row w9 xb 0 _ _ hpb; obtain ⟨v5a, v5c, rfl⟩ := own_form k1; simp only [List.getElem?_toArray, List.getElem?_cons_zero] at c0'; clear k1 k2 k3 hpb)
                | fail)
              have hp := HA.out.push K1.out (by rw [HFL.out]; exact K2.out)
              rw [List.length_append, List.length_singleton, HYY.out, ← fL_succ] at hp
              have HP := hid hp
              clear hp K1 K2
              go_roundw
              case rel => exact ⟨t + 1, _, by omega, by go_num, HP⟩
              case measure => simp [intOf]; omega
            · have hcx : cxA e n ex t = (it : Int) := by
                unfold cxA
                rw [← hit, HEX.out, List.getD_eq_getElem?_getD, List.getElem?_map, List.getElem?_eq_none (by rw [← HNE.out]; omega)]
                simp
              have HYY := hid hcx.symm
              clear hit hcx hbl
              go_upto_region 18 with fail
              clear ci
              have c0 := HA.out.c0
              obtain ⟨va, vc, hva⟩ := own_form HA.out.c
              subst hva
              have hfl : (fL t (cxA e n ex)).length = t := fL_len _ _
              rw [hfl] at c0
              have HFL := hid hfl
              clear hfl
              go_wp2_with (first
                | (at_builtin; go_loud (refine wpList_pushC (o := ⟨some 74, _, _, _, _, _⟩) rfl (.tmp 71) (.tmp 73) rfl w8.heap.size (.slice va t vc) (fL t (cxA e n ex)) (it : Int) rfl (by have h := World.ownsRow.alloc HA.out.c (.cells #[cU (it : Int)] TU32); rw [HFL.out] at h ⊢; exact h) wr.heap.size 1 rfl (by rw [cell_of_row _ _ 0 _ _ _ (heap_alloc_new wr _)]; rfl) (by rw [HFL.out]; omega) (by have := HA.out.fr.size; simp; omega) ?_); intro v5 w9 k1 k2 k3; have K1 := hid k1; have K2 := hid k2; have hpb := HA.out.grow (by rw [HFL.out]; exact k2); have c0' := cell_of_row w9 xb 0 _ _ _ hpb; have z0' := frozen_of_row w9 xb 0 _ _ hpb; obtain ⟨v5a, v5c, rfl⟩ := own_form k1; simp only [List.getElem?_toArray, List.getElem?_cons_zero] at c0'; clear k1 k2 k3 hpb)
                | fail)
              have hp := HA.out.push K1.out (by rw [HFL.out]; exact K2.out)
              rw [List.length_append, List.length_singleton, HYY.out, ← fL_succ] at hp
              have HP := hid hp
              clear hp K1 K2
              go_roundw
              case rel => exact ⟨t + 1, _, by omega, by go_num, HP⟩
              case measure => simp [intOf]; omega
          · have hnt2 : n = t := by omega
            subst hnt2
            have hbl : Below w.heap.size w wr := HB8.out.trans (HA.out.fr.below HB8.out.size (fun k hk => by have := HL8.out; have := HGE.out; omega))
            have HTT := hid (show tot e n ≤ 2000 by rw [HE.out]; exact Nat.le_trans (tot_wi n es n) (Nat.le_trans (totE_take _ _) HSMA.out.t))
            have hG9 : GrW wr.heap.size wr cv' (.slice ea m ec) (fL n (cxA e n ex)) es := ((HG0.out.below hbl).up hbl.size).counts HA.out.told (fun c hc => by
              obtain ⟨i, _, rfl⟩ := mem_fL hc
              exact cxA_bd HTT.out HXB2.out i)
            have hal : Tl nI wr.heap.size wr (.slice la n lc) (List.range n) := own_told (OwI.fr HAO8.out HA.out.fr (fun k hk e => by have := HAX.out k hk; omega))
            obtain ⟨L, hL⟩ : ∃ L, L = rcB n e (exB ex) := ⟨_, rfl⟩
            have hall : (grS (fL n (cxA e n ex)) es ((List.range n).map Int.ofNat)).garb = noB L n := by
              have e1 : (grS (fL n (cxA e n ex)) es ((List.range n).map Int.ofNat)).e = e := by show (fun i => wi (fL n (cxA e n ex)).length (es.getD i [])) = e; rw [fL_len, HE.out]
              have e2 : (grS (fL n (cxA e n ex)) es ((List.range n).map Int.ofNat)).n = n := fL_len _ _
              have e3 : ∀ i, i < n → (grS (fL n (cxA e n ex)) es ((List.range n).map Int.ofNat)).c i = cxA e n ex i := fun i hi => getD_fL hi
              have h1 := all_garb (g := grS (fL n (cxA e n ex)) es ((List.range n).map Int.ofNat)) (grS_ok hG9.cb) (fun i hi => by
                rw [e2] at hi
                show i ∈ wi (fL n (cxA e n ex)).length ((List.range n).map Int.ofNat)
                rw [fL_len, wi_range]
                exact List.mem_range.2 hi) (F := exB ex) (fun i hi => by
                rw [e2] at hi
                rw [e1, e2, e3 i hi]
                unfold exB cxA
                simp only [decide_eq_true_eq]
                omega)
              rw [e1, e2, ← hL] at h1
              exact h1
            have hga := Garbage_any wr _ _ _ (fL n (cxA e n ex)) es ((List.range n).map Int.ofNat) hG9 hal.ints (by rw [fL_len]; omega) (by have := HSMA.out.t; omega) (by rw [fL_len, wi_range, List.length_range]; omega)
            rw [hall] at hga
            have HGA := hid hga
            have HLE := hid hL
            obtain ⟨va9, vc9, hva9⟩ := own_form HA.out.c
            subst hva9
            rw [fL_len] at HGA
            have HC9 := hid (show wr.ownsRow w8.heap.size TU32 1 (.slice va9 n vc9) n ((fL n (cxA e n ex)).map cU) by have h := HA.out.c; rw [fL_len] at h; exact h)
            have HX9 := hid (show wr.heap[xb]? = some (.cells #[.slice va9 n vc9, .slice ea m ec] TGr (0, 0)) by have h := HA.out.x; rw [fL_len] at h; exact h)
            have hat9 := hid (AtL.row HX9.out : AtL wr xb 0 _)
            have HB9 := hid hbl
            clear hbl hG9 hal hga hall hL htn HA HI8 HIB8 HB8 HAO8
            go_wp2_with (first
              | ((with_reducible refine at_op ⟨some 76, _, _, _, _, _⟩ ?_); go_loud (refine wpList_run rfl _ (load_cells Try.underlying25 (by rfl) (by kernel_rfl) rfl rfl hat9.out) ?_))
              | fail)
            refine HGA.out.mono ?_
            rintro en w10 ⟨v10, rfl, hT10, hb10⟩
            obtain ⟨ga, gc, rfl, hgc1, hgc2, hGx⟩ := hT10.ex
            obtain ⟨ng, hng⟩ : ∃ ng, ng = (noB L n).length := ⟨_, rfl⟩
            rw [← hng] at hgc1 hGx ⊢
            have HNG := hid hng
            obtain ⟨gk, hgk⟩ : ∃ gk, gk = w10.heap.size := ⟨_, rfl⟩
            obtain ⟨w11, hw11⟩ : ∃ w11, w11 = w10.alloc (.cells (madeCells #[.bool false] n) TB) := ⟨_, rfl⟩
            have hb11 : Below w10.heap.size w10 w11 := by rw [hw11]; exact (Below.refl _ _).alloc (Nat.le_refl _) _
            have ho11 : BF TB bv w11 gk n (suB ((noB L n).take 0)) := by
              have h2 := BF.made (f := bv) (T := TB) w10 n false
              rw [← hgk] at h2
              rw [hw11]
              exact h2.congr (fun i _ => by simp [suB])
            have hb911 : Below wr.heap.size wr w11 := hb10.trans (hb11.mono hb10.size)
            have HC11 := hid ((Fr.of_below (fp := fun _ => False) hb911).owns HC9.out (fun _ _ e => e))
            have HX11 := hid ((hb911.block _ (Array.getElem?_eq_some_iff.1 HX9.out).1).trans HX9.out)
            have HB11 := hid (HB9.out.trans (hb911.mono HB9.out.size))
            have HGX := hid (show 0 < ng → ∃ b o, ga = some ⟨b, o, none⟩ ∧ b < gk ∧ ∀ j x, (noB L n)[j]? = some x → w11.cell? ⟨b, o + j, none⟩ = some (nI x) from fun hl => by
              obtain ⟨b, o, e1, e2, e3⟩ := hGx hl
              exact ⟨b, o, e1, by omega, fun j x hx => (World.cell?_of_block (w := w10) (w' := w11) (a := ⟨b, o + j, none⟩) (hb11.block b e2)).trans (e3 j x hx)⟩)
            have HO11 := hid ho11
            have HXG := hid (show xb < gk ∧ (∀ k, (Value.slice va9 n vc9).ownBlock = some k → k < gk) ∧ w.heap.size < gk from ⟨by have := (Array.getElem?_eq_some_iff.1 HX9.out).1; have := hb10.size; omega, fun k hk => by have := (HC9.out.lt k hk).2; have := hb10.size; omega, by have := HL8.out; have := (Array.getElem?_eq_some_iff.1 HX9.out).1; have := hb10.size; omega⟩)
            have HW11 := hid hw11
            have HGKE := hid hgk
            clear hT10 hng hGx hgk hw11 hb11 ho11 hb911 hb10 HGA HC9 HX9 hat9 HB9
            go_upto_region 21 with ((with_reducible refine at_op ⟨some 81, _, _, _, _, _⟩ ?_); go_loud (refine wpList_runN rfl _ _ (exec_makeC (n := n) Try.underlying38 infoB (by omega) (by omega) rfl rfl) ?_))
            rw [← HW11.out, ← HGKE.out]
            clear HW11 HGKE
            go_wp2_with fail
            go_loopw [14] (fun i wr => ∃ t : Nat, t ≤ ng ∧ i = .int .i64 t ∧ RowKit.Hid (BF TB bv wr gk n (suB ((noB L n).take t))) ∧ RowKit.Hid (Fr (fun b => b = gk) w11 wr)) (fun i _ => ng - (intOf i).toNat)
            case atStart => exact ⟨0, by omega, rfl, HO11, hid (Fr.refl _ _)⟩
            case round =>
              obtain ⟨t, ht, rfl, HR, HF⟩ := hrel
              by_cases htg : t < ng
              · have hlt : t < (noB L n).length := by rw [← HNG.out]; exact htg
                have hx : (noB L n)[t]? = some (noB L n)[t] := List.getElem?_eq_getElem hlt
                have htake : (noB L n).take (t + 1) = (noB L n).take t ++ [(noB L n)[t]] := List.take_succ_eq_append_getElem hlt
                generalize (noB L n)[t] = x at hx htake
                have hxn := (noB_lt (List.mem_of_getElem? hx)).1
                obtain ⟨b, o, rfl, hb, hcell⟩ := HGX.out (by omega)
                have cx : wr.cell? ⟨b, o + t, none⟩ = some (nI x) := (World.cell?_of_block (w := w11) (w' := wr) (a := ⟨b, o + t, none⟩) (HF.out.block b (by have := HO11.out.lt; omega) (by omega))).trans (hcell t x hx)
                have d0 := HR.out.cell hxn
                have z0 := HR.out.fz x
                have HR2 := hid ((HR.out.set x true).congr (F' := suB ((noB L n).take (t + 1))) (fun i _ => by
                  rw [Bool.eq_iff_iff, suB_iff, htake, List.mem_append, List.mem_singleton]
                  unfold upd
                  by_cases hiy : i = x
                  · simp [hiy]
                  · rw [if_neg hiy, suB_iff]; simp [hiy]))
                have HF2 := hid (HF.out.setCell ⟨gk, x, none⟩ (.bool true) (fun _ => rfl))
                clear hx htake hcell hb hlt
                go_wp2_with fail
                go_roundw
                case rel => exact ⟨t + 1, by omega, by go_num, HR2, HF2⟩
                case measure => simp [intOf]; omega
              · have hng2 : ng = t := by omega
                subst hng2
                have hgo := HR.out.congr (F' := fun i => !L i) (fun i hi => by
                  rw [List.take_of_length_le (by rw [HNG.out]; exact Nat.le_refl _), Bool.eq_iff_iff, suB_iff]
                  constructor
                  · intro h; rw [(noB_lt h).2]; rfl
                  · intro h
                    unfold noB
                    rw [List.mem_filter]
                    exact ⟨List.mem_range.2 hi, h⟩)
                have hb12 : Below w.heap.size w wr := HB11.out.trans (HF.out.below HB11.out.size (fun k hk => by have := HXG.out; omega))
                have HC12 := hid (HF.out.owns HC11.out (fun k hk e => by have := HXG.out.2.1 k hk; omega))
                have HX12 := hid ((HF.out.block xb (Array.getElem?_eq_some_iff.1 HX11.out).1 (by have := HXG.out; omega)).trans HX11.out)
                have hat12 := hid (AtL.row HX12.out : AtL wr xb 0 _)
                have hcbd := fun c (hc : c ∈ fL n (cxA e n ex)) => (by
                  obtain ⟨i, _, rfl⟩ := mem_fL hc
                  exact cxA_bd HTT.out HXB2.out i : 0 ≤ c ∧ c ≤ 4294967295)
                have HCBD := hid hcbd
                have hin := Into_any wr (.slice va9 n vc9) (.slice ea m ec) _ (fL n (cxA e n ex)) es (fun i => !L i) n (fL_len _ _).symm (((HG0.out.below hb12).up hb12.size).counts (own_told HC12.out) hcbd) (hgo.told (by omega)) (by omega) (by have := HSMA.out.t; omega)
                rw [← HE.out] at hin
                have HIN := hid hin
                have HGO := hid hgo
                have HB12 := hid hb12
                clear hgo hb12 hcbd hin htg HR HF HO11 HC11 HX11 HB11 HGX
                go_wp2_with (first
                  | ((with_reducible refine at_op ⟨some 108, _, _, _, _, _⟩ ?_); go_loud (refine wpList_run rfl _ (load_cells Try.underlying25 (by rfl) (by kernel_rfl) rfl rfl hat12.out) ?_))
                  | fail)
                refine HIN.out.mono ?_
                rintro en w12 ⟨ofb, rfl, hOB, hb12⟩
                have HGO12 := hid (HGO.out.below hb12)
                have HC13 := hid ((Fr.of_below (fp := fun _ => False) hb12).owns HC12.out (fun _ _ e => e))
                have HX13 := hid ((hb12.block _ (Array.getElem?_eq_some_iff.1 HX12.out).1).trans HX12.out)
                have HB13 := hid (HB12.out.trans (hb12.mono HB12.out.size))
                have c0 : w12.cell? ⟨xb, 0, none⟩ = some (.slice va9 n vc9) := by rw [cell_of_row _ _ 0 _ _ _ HX13.out]; rfl
                obtain ⟨w13, hw13⟩ : ∃ w13, w13 = w12.alloc (.cells #[] TU32) := ⟨_, rfl⟩
                have hb13 : Below w12.heap.size w12 w13 := by rw [hw13]; exact (Below.refl _ _).alloc (Nat.le_refl _) _
                have hr13 : w13.ownsRow w12.heap.size TU32 1 (.slice (some ⟨w12.heap.size, 0, none⟩) 0 0) 0 [] := by rw [hw13]; exact World.ownsRow_made w12 #[] 0 (Nat.le_refl _) (by unfold maxLen; omega) rfl
                have HR13 := hid hr13
                have HC14 := hid ((Fr.of_below (fp := fun _ => False) hb13).owns HC13.out (fun _ _ e => e))
                have HB1213 := hid hb13
                have HW13 := hid hw13
                have HOB := hid hOB
                have c0' : w13.cell? ⟨xb, 0, none⟩ = some (.slice va9 n vc9) := (World.cell?_of_block (w := w12) (w' := w13) (a := ⟨xb, 0, none⟩) (hb13.block xb (Array.getElem?_eq_some_iff.1 HX13.out).1)).trans c0
                have c0a : (w12.alloc (.cells #[] TU32)).cell? ⟨xb, 0, none⟩ = some (.slice va9 n vc9) := by rw [← hw13]; exact c0'
                clear hOB hb12 hw13 hb13 hr13 HGO HC12 HX12 HB12 HIN hat12 c0'
                go_upto_region 29 with (first
                  | ((with_reducible refine at_op ⟨some 114, _, _, _, _, _⟩ ?_); rw [← HW13.out]; go_loud (refine wpList_appC rfl (.tmp 111) (.tmp 113) rfl w12.heap.size w12.heap.size (.slice va9 n vc9) (fL n (cxA e n ex)) n (fL_len _ _).symm rfl HR13.out rfl w8.heap.size HC14.out (by rw [fL_len]; omega) (by have := HB1213.out.size; omega) ?_); intro cb cc2 w13b k1 k2 k3; have K1 := hid k1; have K2 := hid k2; have K3 := hid k3; clear k1 k2 k3)
                  | fail)
                have hb1214 : Below w12.heap.size w12 w13b := HB1213.out.grown K2.out HB1213.out.size (fun k hk => by cases hk; exact Nat.le_refl _)
                have hcbl : w12.heap.size ≤ cb := by
                  have h1 := HB1213.out.size
                  rcases K3.out with e | e <;> omega
                have hcbu : cb < w13b.heap.size := (K1.out.lt cb rfl).2
                obtain ⟨yb, hyb⟩ : ∃ yb, yb = w13b.heap.size := ⟨_, rfl⟩
                obtain ⟨w14, hw14⟩ : ∃ w14, w14 = w13b.alloc (.cells #[.slice (some ⟨cb, 0, none⟩) n cc2, .slice none 0 0] TGr) := ⟨_, rfl⟩
                have hb14 : Below w13b.heap.size w13b w14 := by rw [hw14]; exact (Below.refl _ _).alloc (Nat.le_refl _) _
                have hy14 := heap_alloc_new w13b (.cells #[.slice (some ⟨cb, 0, none⟩) n cc2, .slice none 0 0] TGr)
                rw [← hw14, ← hyb] at hy14
                have s14 : w14.heap.size = yb + 1 := by rw [hw14, hyb]; simp
                have hb1214' : Below w12.heap.size w12 w14 := hb1214.trans (hb14.mono hb1214.size)
                have hI14 : RsI w14 w14 yb cb n cc2 (.slice none 0 0) (cyT e n ex L 0) [] (fL 0 (edL e L)) := by
                  refine ⟨hy14, ?_, World.ownsRow_nil _ _ _ _, by simp [fL], fun i v xs h1 _ => by simp at h1, Fr.refl _ _, by omega, by omega, by omega⟩
                  have h1 := owns_low ((Fr.of_below (fp := fun _ => False) hb14).owns K1.out (fun _ _ e => e)) (Nat.zero_le _)
                  rw [show fL n (cyT e n ex L 0) = fL n (cxA e n ex) from fL_congr (fun i _ => if_neg (Nat.not_lt_zero i))]
                  exact h1
                have HI14 := hid hI14
                have HGO14 := hid (HGO12.out.below hb1214')
                have HOB14 := hid (HOB.out.below hb1214')
                have HC15 := hid ((Fr.of_below (fp := fun _ => False) hb1214').owns HC13.out (fun _ _ e => e))
                have HX15 := hid ((hb1214'.block _ (Array.getElem?_eq_some_iff.1 HX13.out).1).trans HX13.out)
                have HB14 := hid (HB13.out.trans (hb1214'.mono HB13.out.size))
                have HLO := hid (show gk < cb ∧ ofb < cb ∧ xb < cb ∧ (∀ k, (Value.slice va9 n vc9).ownBlock = some k → k < cb) ∧ cb < yb ∧ w.heap.size < cb from ⟨by have := HGO12.out.lt; omega, by have := HOB.out.lt; omega, by have := (Array.getElem?_eq_some_iff.1 HX13.out).1; omega, fun k hk => by have := (HC13.out.lt k hk).2; omega, by omega, by have := HL8.out; have := (Array.getElem?_eq_some_iff.1 HX13.out).1; omega⟩)
                have HW14 := hid hw14
                have HYBE := hid hyb
                clear hb1214 hcbl hcbu hyb hw14 hb14 hy14 s14 hb1214' hI14 K1 K2 K3 HR13 HC14 HB1213 HW13 HOB HGO12 HC13 HX13 HB13 c0 c0a
                rw [← HW14.out, ← HYBE.out]
                clear HW14 HYBE
                go_wp2_with fail
                go_loopw [17] (fun i wr => ∃ (t : Nat) (yev : Value) (vs : List Value), t ≤ n ∧ i = .int .i64 t ∧ RowKit.Hid (RsI w14 wr yb cb n cc2 yev (cyT e n ex L t) vs (fL t (edL e L)))) (fun i _ => n - (intOf i).toNat)
                case atStart => exact ⟨0, _, _, by omega, rfl, HI14⟩
                case round =>
                  obtain ⟨t, yev, vs, ht, rfl, HR⟩ := hrel
                  by_cases htn : t < n
                  · have cg := (HGO14.out.fr HR.out.fr (by have := HLO.out; omega)).cell htn
                    obtain ⟨y, hy⟩ : ∃ y, y = L t := ⟨_, rfl⟩
                    rw [← hy] at cg
                    cases y with
                    | false =>
                      obtain ⟨wz, hwz⟩ : ∃ wz, wz = wr := ⟨_, rfl⟩
                      have hR5 := HR.out
                      rw [← hwz] at hR5
                      have hel : edL e L t = [] := if_neg (by rw [← hy]; simp)
                      have hEd : EdR w14.heap.size wz yev.ownBlock (.slice none 0 0) (edL e L t) := by rw [hel]; exact ⟨none, 0, rfl, by simp, by omega, fun h => by simp at h⟩
                      have HWZ := hid hwz
                      clear hy hwz hel HR
                      go_upto_region 35 with fail
                      rw [← HWZ.out]
                      clear HWZ cg
                      have HR5 := hid hR5
                      have HED := hid hEd
                      have y0 := hR5.y0
                      have cc3 := hR5.cell htn
                      have zc : wz.frozen? ⟨cb, t, none⟩ = false := hR5.c.frozenAt t
                      have co : wz.cell? ⟨ofb, t, none⟩ = some (nU (into e (fun k => (!L k) = true) n t)) := (HOB14.out.fr hR5.fr (by have := HLO.out; omega)).cell htn
                      have hcy : cyT e n ex L t t = cxA e n ex t := if_neg (Nat.lt_irrefl t)
                      rw [hcy] at cc3
                      have hcxb := cxA_bd HTT.out HXB2.out t (e := e) (n := n)
                      have hexb := ex_bd HXB2.out t
                      have hcxe : cxA e n ex t = (into e (fun _ => True) n t : Int) + ex.getD t 0 := rfl
                      have hol := off_le (e := e) (n := n) (L := L) t
                      obtain ⟨x, hx⟩ : ∃ x, x = cxA e n ex t := ⟨_, rfl⟩
                      obtain ⟨of, hof⟩ : ∃ of, of = into e (fun k => (!L k) = true) n t := ⟨_, rfl⟩
                      rw [← hx] at cc3 hcxb hcxe
                      rw [← hof] at co hol
                      have hw1 : IntKind.u32.wrap (of : Int) = of := IntWalk.u32_in _ ⟨by omega, by omega⟩
                      have hw2 : IntKind.u32.wrap (x - (of : Int)) = x - (of : Int) := IntWalk.u32_in _ ⟨by omega, by omega⟩
                      have hR6 := ((hR5.call (W' := wz.drew) ⟨rfl, rfl, rfl, Nat.le_refl _, fun _ _ => rfl⟩).less t (x - (of : Int))).congr (cy' := cyT e n ex L (t + 1)) (fun i hi => by
                        by_cases hit : i = t
                        · subst hit
                          rw [upd_same, hx, hof]
                          exact (if_pos (Nat.lt_succ_self i)).symm
                        · rw [upd_other hit]
                          unfold cyT
                          by_cases hlt : i < t
                          · rw [if_pos hlt, if_pos (by omega)]
                          · rw [if_neg hlt, if_neg (by omega)])
                      have hEd6 : EdR w14.heap.size (wz.drew.setCell ⟨cb, t, none⟩ (cU (x - (of : Int)))) _ _ (edL e L t) := (hEd.fr (fp := fun _ => False) (W' := wz.drew) (ob' := _) ((Fr.refl _ _).drew) (fun _ _ _ _ e => e) (fun _ _ e => e)).fr (fp := fun b => b = cb) ((Fr.refl _ _).setCell _ _ (fun _ => rfl)) (fun k k1 _ _ e => by have := hR5.cl; omega) (fun _ _ e => e)
                      obtain ⟨wy, hwy⟩ : ∃ wy, wy = wz.drew.setCell ⟨cb, t, none⟩ (cU (x - (of : Int))) := ⟨_, rfl⟩
                      rw [← hwy] at hR6 hEd6
                      have HWY := hid hwy
                      have HR6 := hid hR6
                      have HED6 := hid hEd6
                      clear hR5 hEd hcy hcxb hexb hcxe hol hx hof hR6 hEd6 hwy HR5 HED
                      refine D.wp_region_mix [0, 1, 0, 0, 1, 0, 0, 1, 0, 0, 0, 1, 0, 0, 0, 3] (fun W => W = wz.drew) (by kernel_rfl) (by kernel_rfl) rfl ?_
                      repeat (first
                        | (refine' C.wpMix_value _ rfl rfl _ _; rotate_left; (solve | (intro W; go_simp) | (intro W; go_simp; with_reducible rfl)); simp only [Act.put, List.setIfInBounds_toArray, List.set_cons_zero, List.set_cons_succ])
                        | (refine' C.wpMix_read _ rfl rfl _ _; rotate_left; (solve | (rintro W rfl; go_simp) | (rintro W rfl; go_simp; with_reducible rfl)); simp only [Act.put, List.setIfInBounds_toArray, List.set_cons_zero, List.set_cons_succ]))
                      refine C.wpMix_skip (wz.drew.setCell ⟨cb, t, none⟩ (cU (x - (of : Int)))) (by decide) rfl (by go_simp) (fun h => by cases h) ?_
                      simp only [Act.put]
                      refine C.wpMix_end ?_
                      rw [← HWY.out]
                      clear HWY y0 cc3 zc co hw1 hw2
                      have y1 := HR6.out.y1
                      obtain ⟨ya, yc, hya⟩ := own_form HR6.out.e
                      subst hya
                      have hvl : vs.length = t := by rw [HR6.out.l, fL_len]
                      rw [hvl] at y1
                      have HVL := hid hvl
                      have hone := HED6.out.one
                      clear hvl
                      go_wp2_with (first
                        | (at_builtin; go_loud (refine wpList_pushL (o := ⟨some 149, _, _, _, _, _⟩) rfl (.tmp 146) (.tmp 148) rfl w14.heap.size (.slice ya t yc) vs (.slice none 0 0) rfl (by have h := World.ownsRow.alloc HR6.out.e (.cells #[(.slice none 0 0)] TSI); rw [HVL.out] at h ⊢; exact h) wy.heap.size 1 rfl (by rw [cell_of_row _ _ 0 _ _ _ (heap_alloc_new wy _)]; rfl) hone (by rw [HVL.out]; omega) (by have := HR6.out.fr.size; simp; omega) ?_); intro v5 w9 k1 k2 k3; have K1 := hid k1; have K2 := hid k2; have K3 := hid k3; have hpb := HR6.out.grow (by rw [HVL.out]; exact k2); have y1' := cell_of_row w9 yb 1 _ _ _ hpb; have zy' := frozen_of_row w9 yb 1 _ _ hpb; obtain ⟨v5a, v5c, rfl⟩ := own_form k1; simp only [List.getElem?_toArray, List.getElem?_cons_succ, List.getElem?_cons_zero] at y1'; clear k1 k2 k3 hpb)
                        | fail)
                      have hp := HR6.out.push HED6.out K1.out (by rw [HVL.out]; exact K2.out) (by rw [HVL.out]; exact K3.out)
                      rw [List.length_append, List.length_singleton, ← fL_succ] at hp
                      have HP := hid hp
                      clear hp K1 K2 K3
                      go_roundw
                      case rel => exact ⟨t + 1, _, _, by omega, by go_num, HP⟩
                      case measure => simp [intOf]; omega
                    | true =>
                      have hbl : Below w.heap.size w wr := HB14.out.trans (HR.out.fr.below HB14.out.size (fun k hk => by have := HLO.out; omega))
                      have hx15 := (HR.out.fr.block xb (Array.getElem?_eq_some_iff.1 HX15.out).1 (by have := HLO.out; omega)).trans HX15.out
                      have hat15 := hid (AtL.row hx15 : AtL wr xb 0 _)
                      have hc15 := HR.out.fr.owns HC15.out (fun k hk e => by have := HLO.out.2.2.2.1 k hk; have := HLO.out; omega)
                      have hed := REdges_any wr (.slice va9 n vc9) (.slice ea m ec) (fL n (cxA e n ex)) es t (((HG0.out.below hbl).up hbl.size).counts (own_told hc15) HCBD.out) (fun l hl => Nat.le_trans (len_totE hl) (by have := HSMA.out.t; omega))
                      rw [fL_len, show wi n (es.getD t []) = edL e L t from by unfold edL; rw [if_pos hy.symm, HE.out]] at hed
                      have HED := hid hed
                      clear hbl hx15 hc15 hed hy
                      go_wp2_with (first
                        | ((with_reducible refine at_op ⟨some 127, _, _, _, _, _⟩ ?_); go_loud (refine wpList_run rfl _ (load_cells Try.underlying25 (by rfl) (by kernel_rfl) rfl rfl hat15.out) ?_))
                        | fail)
                      refine HED.out.mono ?_
                      rintro en wz ⟨lv, rfl, hPI⟩
                      have hR5 := HR.out.call hPI.2
                      have hw14s := HR.out.fr.size
                      have hEd : EdR w14.heap.size wz yev.ownBlock lv (edL e L t) := by
                        obtain ⟨a, c, h1, h2, h3, h4⟩ := hPI.told.ex
                        refine ⟨a, c, h1, h2, h3, fun hl => ?_⟩
                        obtain ⟨b, o, rfl, h6, h7⟩ := h4 hl
                        have h8 := (World.ownsRow.lt hPI.1 b (by rw [h1]; rfl)).1
                        exact ⟨b, o, rfl, by omega, h6, fun e => by have := (HR.out.e.lt b e).2; omega, h7⟩
                      obtain ⟨lva, lvc, rfl, _⟩ := hPI.1.form
                      obtain ⟨ll, hll⟩ : ∃ ll, ll = (edL e L t).length := ⟨_, rfl⟩
                      rw [← hll] at hEd ⊢
                      clear hPI hw14s HED hat15 HR cg hll
                      go_upto_region 35 with fail
                      have HR5 := hid hR5
                      have HED := hid hEd
                      have y0 := hR5.y0
                      have cc3 := hR5.cell htn
                      have zc : wz.frozen? ⟨cb, t, none⟩ = false := hR5.c.frozenAt t
                      have co : wz.cell? ⟨ofb, t, none⟩ = some (nU (into e (fun k => (!L k) = true) n t)) := (HOB14.out.fr hR5.fr (by have := HLO.out; omega)).cell htn
                      have hcy : cyT e n ex L t t = cxA e n ex t := if_neg (Nat.lt_irrefl t)
                      rw [hcy] at cc3
                      have hcxb := cxA_bd HTT.out HXB2.out t (e := e) (n := n)
                      have hexb := ex_bd HXB2.out t
                      have hcxe : cxA e n ex t = (into e (fun _ => True) n t : Int) + ex.getD t 0 := rfl
                      have hol := off_le (e := e) (n := n) (L := L) t
                      obtain ⟨x, hx⟩ : ∃ x, x = cxA e n ex t := ⟨_, rfl⟩
                      obtain ⟨of, hof⟩ : ∃ of, of = into e (fun k => (!L k) = true) n t := ⟨_, rfl⟩
                      rw [← hx] at cc3 hcxb hcxe
                      rw [← hof] at co hol
                      have hw1 : IntKind.u32.wrap (of : Int) = of := IntWalk.u32_in _ ⟨by omega, by omega⟩
                      have hw2 : IntKind.u32.wrap (x - (of : Int)) = x - (of : Int) := IntWalk.u32_in _ ⟨by omega, by omega⟩
                      have hR6 := ((hR5.call (W' := wz.drew) ⟨rfl, rfl, rfl, Nat.le_refl _, fun _ _ => rfl⟩).less t (x - (of : Int))).congr (cy' := cyT e n ex L (t + 1)) (fun i hi => by
                        by_cases hit : i = t
                        · subst hit
                          rw [upd_same, hx, hof]
                          exact (if_pos (Nat.lt_succ_self i)).symm
                        · rw [upd_other hit]
                          unfold cyT
                          by_cases hlt : i < t
                          · rw [if_pos hlt, if_pos (by omega)]
                          · rw [if_neg hlt, if_neg (by omega)])
                      have hEd6 : EdR w14.heap.size (wz.drew.setCell ⟨cb, t, none⟩ (cU (x - (of : Int)))) _ _ (edL e L t) := (hEd.fr (fp := fun _ => False) (W' := wz.drew) (ob' := _) ((Fr.refl _ _).drew) (fun _ _ _ _ e => e) (fun _ _ e => e)).fr (fp := fun b => b = cb) ((Fr.refl _ _).setCell _ _ (fun _ => rfl)) (fun k k1 _ _ e => by have := hR5.cl; omega) (fun _ _ e => e)
                      obtain ⟨wy, hwy⟩ : ∃ wy, wy = wz.drew.setCell ⟨cb, t, none⟩ (cU (x - (of : Int))) := ⟨_, rfl⟩
                      rw [← hwy] at hR6 hEd6
                      have HWY := hid hwy
                      have HR6 := hid hR6
                      have HED6 := hid hEd6
                      clear hR5 hEd hcy hcxb hexb hcxe hol hx hof hR6 hEd6 hwy HR5 HED
                      refine D.wp_region_mix [0, 1, 0, 0, 1, 0, 0, 1, 0, 0, 0, 1, 0, 0, 0, 3] (fun W => W = wz.drew) (by kernel_rfl) (by kernel_rfl) rfl ?_
                      repeat (first
                        | (refine' C.wpMix_value _ rfl rfl _ _; rotate_left; (solve | (intro W; go_simp) | (intro W; go_simp; with_reducible rfl)); simp only [Act.put, List.setIfInBounds_toArray, List.set_cons_zero, List.set_cons_succ])
                        | (refine' C.wpMix_read _ rfl rfl _ _; rotate_left; (solve | (rintro W rfl; go_simp) | (rintro W rfl; go_simp; with_reducible rfl)); simp only [Act.put, List.setIfInBounds_toArray, List.set_cons_zero, List.set_cons_succ]))
                      refine C.wpMix_skip (wz.drew.setCell ⟨cb, t, none⟩ (cU (x - (of : Int)))) (by decide) rfl (by go_simp) (fun h => by cases h) ?_
                      simp only [Act.put]
                      refine C.wpMix_end ?_
                      rw [← HWY.out]
                      clear HWY y0 cc3 zc co hw1 hw2
                      have y1 := HR6.out.y1
                      obtain ⟨ya, yc, hya⟩ := own_form HR6.out.e
                      subst hya
                      have hvl : vs.length = t := by rw [HR6.out.l, fL_len]
                      rw [hvl] at y1
                      have HVL := hid hvl
                      have hone := HED6.out.one
                      clear hvl
                      go_wp2_with (first
                        | (at_builtin; go_loud (refine wpList_pushL (o := ⟨some 149, _, _, _, _, _⟩) rfl (.tmp 146) (.tmp 148) rfl w14.heap.size (.slice ya t yc) vs (.slice lva ll lvc) rfl (by have h := World.ownsRow.alloc HR6.out.e (.cells #[(.slice lva ll lvc)] TSI); rw [HVL.out] at h ⊢; exact h) wy.heap.size 1 rfl (by rw [cell_of_row _ _ 0 _ _ _ (heap_alloc_new wy _)]; rfl) hone (by rw [HVL.out]; omega) (by have := HR6.out.fr.size; simp; omega) ?_); intro v5 w9 k1 k2 k3; have K1 := hid k1; have K2 := hid k2; have K3 := hid k3; have hpb := HR6.out.grow (by rw [HVL.out]; exact k2); have y1' := cell_of_row w9 yb 1 _ _ _ hpb; have zy' := frozen_of_row w9 yb 1 _ _ hpb; obtain ⟨v5a, v5c, rfl⟩ := own_form k1; simp only [List.getElem?_toArray, List.getElem?_cons_succ, List.getElem?_cons_zero] at y1'; clear k1 k2 k3 hpb)
                        | fail)
                      have hp := HR6.out.push HED6.out K1.out (by rw [HVL.out]; exact K2.out) (by rw [HVL.out]; exact K3.out)
                      rw [List.length_append, List.length_singleton, ← fL_succ] at hp
                      have HP := hid hp
                      clear hp K1 K2 K3
                      go_roundw
                      case rel => exact ⟨t + 1, _, _, by omega, by go_num, HP⟩
                      case measure => simp [intOf]; omega
                  · have hnt3 : n = t := by omega
                    subst hnt3
                    have HR7 := HR
                    have HGO15 := hid (HGO14.out.fr HR.out.fr (by have := HLO.out; omega))
                    have HB15 := hid (HB14.out.trans (HR.out.fr.below HB14.out.size (fun k hk => by have := HLO.out; omega)))
                    have HP0 : RowKit.Hid (PI wr wr (.slice none 0 0) (reB L 0)) := hid (PI.new wr)
                    obtain ⟨w16, hw16⟩ : ∃ w16, w16 = wr := ⟨_, rfl⟩
                    rw [← hw16] at HR7 HGO15 HB15 HP0 ⊢
                    clear htn HR HI14 HGO14 HOB14 HC15 HX15 HB14 hw16
                    go_wp2_with fail
                    go_loopw [20, 19] (fun i v wr => ∃ t : Nat, t ≤ n ∧ i = .int .i64 t ∧ RowKit.Hid (PI w16 wr v (reB L t))) (fun i _ _ => n - (intOf i).toNat)
                    case atStart => exact ⟨0, by omega, rfl, HP0⟩
                    case round =>
                      obtain ⟨t, ht, rfl, HR⟩ := hrel
                      by_cases htn : t < n
                      · have cg := (HGO15.out.below HR.out.2).cell htn
                        have hs := reB_succ L t
                        have HL := hid (show (reB L t).length ≤ 1000000 from Nat.le_trans (reB_len L t) (by omega))
                        obtain ⟨y, hy⟩ : ∃ y, y = L t := ⟨_, rfl⟩
                        rw [← hy] at cg hs
                        clear hy
                        cases y with
                        | false =>
                          rw [if_neg (by simp), List.append_nil] at hs
                          have HR2 := HR
                          rw [← hs] at HR2
                          clear hs
                          go_wp2_with fail
                          go_roundw
                          case rel => exact ⟨t + 1, by omega, by go_num, HR2⟩
                          case measure => simp [intOf]; omega
                        | true =>
                          rw [if_pos rfl] at hs
                          have HS2 := hid hs
                          clear hs
                          go_wp2_with (first
                            | (at_builtin; refine wpList_pushI (o := ⟨some 165, _, _, _, _, _⟩) rfl (.tmp 162) (.tmp 164) rfl w16.heap.size _ _ t rfl (OwI.alloc HR.out.1 _) wr.heap.size 1 rfl (by rw [cell_of_row _ _ 0 _ _ _ (heap_alloc_new wr _)]; rfl) HL.out (by have := HR.out.2.size; simp; omega) ?_; intro v5 w6 hown5 hgrow5 hat5; have HO5 := hid hown5; have HG5 := hid hgrow5; clear hown5 hgrow5 hat5)
                            | fail)
                          have h5 := HR.out.push HO5.out HG5.out
                          rw [← HS2.out] at h5
                          have HE5 := hid h5
                          clear h5
                          go_roundw
                          case rel => exact ⟨t + 1, by omega, by go_num, HE5⟩
                          case measure => simp [intOf]; omega
                      · have hnt5 : n = t := by omega
                        subst hnt5
                        have h17 := HR7.out.call HR.out.2
                        have hat17 := hid (AtL.row h17.y : AtL wr yb 0 _)
                        have hG17 := h17.graph (fun i _ => cyT_bd HTT.out HXB2.out n i) (fun xs hxs x hx => by
                          obtain ⟨i, _, rfl⟩ := mem_fL hxs
                          have := edL_lt (e := e) (L := L) (n := n) (fun i j hj => by rw [HE.out] at hj; exact wi_lt j hj) i x hx
                          omega)
                        have htot : totE ((fL n (edL e L)).map fun xs => xs.map Int.ofNat) ≤ 1000000 := by
                          have h1 : ∀ k, totE ((fL k (edL e L)).map fun xs => xs.map Int.ofNat) ≤ tot e k := fun k => by
                            induction k with
                            | zero => exact Nat.zero_le _
                            | succ k ih =>
                              rw [fL_succ, List.map_append]
                              unfold totE at ih ⊢
                              rw [List.map_append, List.sum_append]
                              have h2 : (edL e L k).length ≤ (e k).length := by unfold edL; split <;> simp
                              show _ ≤ tot e k + (e k).length
                              simp only [List.map_cons, List.map_nil, List.sum_cons, List.sum_nil, List.length_map]
                              omega
                          have := h1 n
                          have := HTT.out
                          omega
                        have hga := Garbage_any wr _ _ _ (fL n (cyT e n ex L n)) ((fL n (edL e L)).map fun xs => xs.map Int.ofNat) ((reB L n).map Int.ofNat) hG17 HR.out.told.ints (by rw [fL_len]; omega) htot (by rw [fL_len, wi_nat (fun x hx => (mem_reB.1 hx).1)]; have := reB_len L n; omega)
                        have hnone : (grS (fL n (cyT e n ex L n)) ((fL n (edL e L)).map fun xs => xs.map Int.ofNat) ((reB L n).map Int.ofNat)).garb = [] := by
                          rw [HLE.out]
                          exact rest_none (fun i j hj => by rw [HE.out] at hj; exact wi_lt j hj)
                        rw [hnone] at hga
                        obtain ⟨ra, rc, hra⟩ := own_form HR.out.1
                        subst hra
                        obtain ⟨ya, yc, hya⟩ := own_form h17.e
                        subst hya
                        obtain ⟨nr, hnr⟩ : ∃ nr, nr = (reB L n).length := ⟨_, rfl⟩
                        obtain ⟨nv, hnv⟩ : ∃ nv, nv = vs.length := ⟨_, rfl⟩
                        rw [← hnr, ← hnv] at hga
                        rw [← hnv] at hat17
                        rw [← hnr]
                        have HGA := hid hga
                        have HB17 := hid (HB15.out.trans (HR.out.2.mono HB15.out.size))
                        clear hG17 htot hga hnone h17 htn HR hnr hnv
                        go_wp2_with (first
                          | ((with_reducible refine at_op ⟨some 166, _, _, _, _, _⟩ ?_); go_loud (refine wpList_run rfl _ (load_cells Try.underlying25 (by rfl) (by kernel_rfl) rfl rfl hat17.out) ?_))
                          | fail)
                        refine HGA.out.mono ?_
                        rintro en w18 ⟨v18, rfl, hT18, hb18⟩
                        obtain ⟨a18, c18, rfl, _⟩ := hT18.ex
                        have HB18 := hid (HB17.out.trans (hb18.mono HB17.out.size))
                        clear hT18 hb18
                        go_wp2_with (first
                          | (go_at_call 10; refine (awake_any _).mono ?_; rintro e w24 ⟨rfl, hb24⟩; have HB24 := hid (HB18.out.trans (hb24.mono HB18.out.size)); clear hb24)
                          | fail)
                        go_ret
                        exact ⟨rfl, HB24.out⟩
end Go.Proofs.Ytjmhlmohennknab
