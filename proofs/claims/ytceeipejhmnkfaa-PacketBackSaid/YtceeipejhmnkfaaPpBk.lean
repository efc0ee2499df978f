/-
  The laws of layer 8: what PacketBack comes to.
-/
import Derived.Test.YtceeipejhmnkfaaPpX
import Derived.Test.YtceeipejhmnkfaaCopy
import Derived.Test.YtceeipejhmnkfaaPick
namespace Go.Proofs.Ytceeipejhmnkfaa
open Go Go.ChangeShapes Go.WideShapes Go.ChangeAt Go.RowKit

theorem decP_no {b : List Int} (h : (decP b).2 = false) : decP b = (pkZ, false) := by
  unfold decP at h ⊢
  split
  · rfl
  · rename_i h1
    rw [if_neg h1] at h
    split
    · rename_i h2; rw [if_pos h2] at h; cases h
    · rfl
theorem formP_small {p : Pk} (hp : PkOk p) (hr : rightP p = true) : 16 ≤ (formP p).length ∧ (formP p).length ≤ 128 := by
  rw [form_len hp hr]
  split
  · have := (rightP_1 hr (by assumption)).1; omega
  · split <;> omega
set_option maxRecDepth 100000 in
set_option maxHeartbeats 8000000 in
theorem PacketBack_any (p : Pk) (ad : Option Addr) (c : Nat) (cut y : Int) (w : World) (hp : PkOk p) (hrw : RwO w w.heap.size ad p.rs) (hc : p.rs.length ≤ c ∧ c ≤ 9223372036854775807) (hcut : -9223372036854775808 ≤ cut ∧ cut ≤ 9223372036854775807) (hy : 0 ≤ y ∧ y ≤ 255) :
    Calls Try.prog 5 #[.agg (pkA p ad c), .int .i64 cut, .int .u8 y] w fun e w' => e = .returned (.bool true) ∧ Below w.heap.size w w' := by
  obtain ⟨w1, hw1⟩ : ∃ w1, w1 = w.alloc (.cells (pkA p ad c) 28) := ⟨_, rfl⟩
  have ho : InP w1 w.heap.size p ad c := by rw [hw1]; exact heap_alloc_new _ _
  have hB : Below w.heap.size w w1 := by rw [hw1]; exact (Below.refl _ _).alloc (Nat.le_refl _) _
  have h16 := hp.ip.len
  have c24 := ho.c24 h16
  have HO := hid ho
  have HB := hid hB
  have HW := hid hw1
  have HR1 := hid (hrw.on hB)
  have HCC := hid hc
  have HP := hid hp
  have HCU := hid hcut
  have HY := hid hy
  have HAW := hid (fun W => pawake_any W)
  have HE : RowKit.Hid (errP p = if rightP p then 0 else 5) := rfl
  clear hw1 ho hB hrw hc hp hcut hy
  by_cases hn : 10 < p.rs.length
  · go_enter Try.func5, Try.ntmps5
    go_upto_region 1 with (fail)
    rw [← HW.out]
    go_wp2_with fail
    refine (HAW.out _).mono ?_
    rintro e w2 ⟨rfl, hb2⟩
    have HB2 := hid (HB.out.trans (hb2.mono HB.out.size))
    clear hb2
    go_wp2
    go_ret
    exact ⟨rfl, HB2.out⟩
  have HEN := hid (encode_any p HP.out ad c w1 HR1.out HCC.out)
  have HL10 := hid (show p.rs.length ≤ 10 by omega)
  go_enter Try.func5, Try.ntmps5
  go_upto_region 1 with (fail)
  rw [← HW.out]
  go_wp2_with (first | ((with_reducible refine at_op ⟨some 21, _, _, _, _, _⟩ ?_); refine wpList_runW rfl (.agg (pkA p ad c)) (load_p rfl rfl HO.out h16) ?_) | fail)
  refine HEN.out.mono ?_
  rintro e w2 hen
  clear HW c24
  rcases hen with ⟨hr, ⟨a, k, rfl, hown⟩, hb2⟩ | ⟨hr, rfl, hb2⟩
  case inr =>
    rw [hr] at HE
    have he : errP p = 5 := HE.out
    have HO2 := hid (HO.out.below hb2)
    have HB2 := hid (HB.out.trans (hb2.mono HB.out.size))
    have HCK := hid (pkCheck_any p HP.out ad c w2 (HR1.out.on hb2) HCC.out)
    unfold ChkP at HCK
    rw [he] at HCK
    clear hb2 hr he HEN HO HR1 HB HE
    go_wp2_with (first | ((with_reducible refine at_op ⟨some 27, _, _, _, _, _⟩ ?_); refine wpList_runW rfl (.agg (pkA p ad c)) (load_p rfl rfl HO2.out h16) ?_) | fail)
    refine HCK.out.mono ?_
    rintro e w4 ⟨rfl, hb4⟩
    have HB4 := hid (HB2.out.trans (hb4.mono HB2.out.size))
    clear hb4 HB2 HCK HO2
    go_wp2_with fail
    refine (HAW.out _).mono ?_
    rintro e w7 ⟨rfl, hb7⟩
    have HB7 := hid (HB4.out.trans (hb7.mono HB4.out.size))
    clear hb7 HB4
    go_wp2
    go_ret
    exact ⟨rfl, HB7.out⟩
  have hsm := formP_small HP.out hr
  have hfb := form_byt HP.out hr
  have HDF := hid (dec_form HP.out hr)
  have HDC := hid (fun k (hk : k < (formP p).length) => decP_no (dec_cut HP.out hr hk))
  have HDM := hid (decP_no (dec_more HP.out hr HY.out))
  obtain ⟨fs, hfs⟩ : ∃ fs, fs = formP p := ⟨_, rfl⟩
  rw [← hfs] at hown hsm hfb HDF HDC HDM ⊢
  obtain ⟨fl, hfl⟩ : ∃ fl, fl = fs.length := ⟨_, rfl⟩
  rw [← hfl] at hown hsm HDC ⊢
  have HFN := hid hfl
  have HFB := hid hfb
  obtain ⟨fl0, fl1⟩ := hsm
  obtain ⟨g, cap, hv, hcap1, hcap2⟩ := own_form1 hown (by omega)
  cases hv
  have HBS := hid (own_bs hown)
  have HO2 := hid (HO.out.below hb2)
  have HR2 := hid (HR1.out.on hb2)
  have HB2 := hid (HB.out.trans (hb2.mono HB.out.size))
  have HD := hid (pkDecode_any w2 (some ⟨g, 0, none⟩) k fl fs HBS.out hfl hfb (fun h => by cases h) (by omega))
  unfold PDecP at HD
  rw [HDF.out] at HD
  clear hr hfs hown hb2 hfb hfl HEN HE HO HR1 HB
  go_wp2_with fail
  refine HD.out.mono ?_
  rintro e w3 ⟨a1, c1, rfl, hro1, hcl1, hb3⟩
  obtain ⟨w4, hw4⟩ : ∃ w4, w4 = (w3.alloc (.cells (pkA pkZ none 0) 28)).setRow w3.heap.size (pkA p a1 c1) := ⟨_, rfl⟩
  have HN3 := hid (show InP (w3.alloc (.cells (pkA pkZ none 0) 28)) w3.heap.size pkZ none 0 from heap_alloc_new _ _)
  have hq4 : InP w4 w3.heap.size p a1 c1 := by rw [hw4]; exact setRow_heap _ _ _ _ _ _ HN3.out
  have hb4 : Below w3.heap.size w3 w4 := by rw [hw4]; exact below_setRow ((Below.refl _ _).alloc (Nat.le_refl _) _) _ _ (Nat.le_refl _)
  have hb24 := hb3.trans (hb4.mono hb3.size)
  have HW4 := hid hw4
  have HQ4 := hid hq4
  have HO4 := hid (HO2.out.below hb24)
  have HBS4 := hid ((HBS.out.below hb24).mono hb24.size)
  have HB4 := hid (HB2.out.trans (hb24.mono HB2.out.size))
  have HPS := hid (pkSame_any p p HP.out HP.out ad a1 c c1 w4 (HR2.out.on hb24) (hro1.on hb4) ⟨by have := HL10.out; omega, by have := HL10.out; omega, HCC.out.1, hcl1.1, HCC.out.2, hcl1.2⟩)
  rw [eqP_self] at HPS
  have HZ1 := hid (szPk h16 a1 c1)
  have HZ2 := hid (szZk h16 a1 c1)
  have HZ3 := hid (fun a c => szPk (q := pkZ) rfl a c)
  have HZ4 := hid (fun a c => szZk (q := pkZ) rfl a c)
  clear hw4 hq4 hb4 hb24 hb3 hro1 hcl1 HO2 HR2 HB2 HBS HD
  go_upto_region 7 with (first | ((with_reducible refine at_op ⟨none, .store 28 (.tmp 9) (.tmp 37), _, _, _, _⟩ ?_); refine wpList_store_row rfl 28 _ _ rfl w3.heap.size (pkA p a1 c1) rfl rfl 28 (pkA pkZ none 0) HN3.out HZ1.out HZ2.out (pkA_one _ _ _) ?_))
  change Code.wp _ _ _ _ ((w3.alloc (.cells (pkA pkZ none 0) 28)).setRow w3.heap.size (pkA p a1 c1))
  rw [← HW4.out]
  clear HW4 HN3
  go_wp2_with (first
    | ((with_reducible refine at_op ⟨some 42, _, _, _, _, _⟩ ?_); refine wpList_runW rfl (.agg (pkA p ad c)) (load_p rfl rfl HO4.out h16) ?_)
    | ((with_reducible refine at_op ⟨some 43, _, _, _, _, _⟩ ?_); refine wpList_runW rfl (.agg (pkA p a1 c1)) (load_p rfl rfl HQ4.out h16) ?_)
    | fail)
  refine HPS.out.mono ?_
  rintro e w5 ⟨rfl, hb5⟩
  have HBS5 := hid ((HBS4.out.below hb5).mono hb5.size)
  have HB5 := hid (HB4.out.trans (hb5.mono HB4.out.size))
  clear hb5 HPS HBS4 HB4 HO4 HQ4
  have hm0 := Int.emod_nonneg cut (show (fl : Int) ≠ 0 by omega)
  have hm1 := Int.emod_lt_of_pos cut (show (0 : Int) < fl by omega)
  obtain ⟨i, hi, hil⟩ : ∃ i : Nat, cut % (fl : Int) = (i : Int) ∧ i < fl := ⟨(cut % (fl : Int)).toNat, by omega, by omega⟩
  have HPK := hid (fun W => Pick_any cut (fl : Int) W HCU.out (by omega) (by omega))
  rw [hi] at HPK
  have hcut2 := HDC.out i hil
  have hti : i = (fs.take i).length := by rw [List.length_take]; have := HFN.out; omega
  have HD5 := hid (pkDecode_any w5 (some ⟨g, 0, none⟩) k i (fs.take i) (HBS5.out.take i) hti (HFB.out.sub fun _ hy => List.mem_of_mem_take hy) (fun h => by cases h) (by omega))
  unfold PDecP at HD5
  rw [hcut2] at HD5
  have HTI := hid hti
  clear hi hcut2 hti HDC HCU hm0 hm1
  go_wp2_with fail
  refine (HPK.out _).mono ?_
  rintro e w6 ⟨rfl, rfl⟩
  go_wp2_with fail
  refine HD5.out.mono ?_
  rintro e w6 ⟨a2, c2, rfl, hro2, hcl2, hb6⟩
  obtain ⟨w7, hw7⟩ : ∃ w7, w7 = (w6.alloc (.cells (pkA pkZ none 0) 28)).setRow w6.heap.size (pkA pkZ a2 c2) := ⟨_, rfl⟩
  have HN6 := hid (show InP (w6.alloc (.cells (pkA pkZ none 0) 28)) w6.heap.size pkZ none 0 from heap_alloc_new _ _)
  have hb7 : Below w6.heap.size w6 w7 := by rw [hw7]; exact below_setRow ((Below.refl _ _).alloc (Nat.le_refl _) _) _ _ (Nat.le_refl _)
  have hb57 := hb6.trans (hb7.mono hb6.size)
  have HW7 := hid hw7
  have HBS7 := hid ((HBS5.out.below hb57).mono hb57.size)
  have HB7 := hid (HB5.out.trans (hb57.mono HB5.out.size))
  have HCP := hid (Copy_any w7 (some ⟨g, 0, none⟩) k fl fs HBS7.out HFN.out (by omega))
  clear hw7 hb7 hb57 hb6 hro2 hcl2 HBS5 HB5 HD5 HPK hil HTI
  go_upto_region 10 with (first | ((with_reducible refine at_op ⟨none, .store 28 (.tmp 11) (.tmp 55), _, _, _, _⟩ ?_); refine wpList_store_row rfl 28 _ _ rfl w6.heap.size (pkA pkZ a2 c2) rfl rfl 28 (pkA pkZ none 0) HN6.out (HZ3.out a2 c2) (HZ4.out a2 c2) (pkA_one _ _ _) ?_))
  change Code.wp _ _ _ _ ((w6.alloc (.cells (pkA pkZ none 0) 28)).setRow w6.heap.size (pkA pkZ a2 c2))
  rw [← HW7.out]
  clear HW7 HN6
  obtain ⟨i0, hi0, hz0, hz1, hz2⟩ := info_parts info5
  have hi' := hid hi0
  have hz0' := hid hz0
  have hz1' := hid hz1
  have hz2' := hid hz2
  clear hi0 hz0 hz1 hz2
  go_wp2_with fail
  refine HCP.out.mono ?_
  rintro e w8 ⟨v8, rfl, hr8, hb8⟩
  rw [← HFN.out] at hr8
  obtain ⟨a8, k8, rfl⟩ := own_form hr8
  have HE8 := hid (show ES w7 w8 (.slice a8 fl k8) fl fs from ⟨hr8, hb8, HFN.out⟩)
  clear hr8 hb8 HCP HBS7
  go_wp2_with (first
    | (at_builtin; refine wpList_append_own_at _ (o := ⟨some 62, _, _, _, _, _⟩) rfl (.tmp 59) (.tmp 61) 30 rfl w7.heap.size 5 i0 (.int .u8 0) 1 1 Try.underlying30 hi'.out hz0'.out hz1'.out hz2'.out rfl (by decide) (.slice a8 fl k8) fl _ rfl (HE8.out.1.alloc _) ⟨w8.heap.size, 0, none⟩ 1 1 (u8l [y]) rfl rfl (World.news_of_block (heap_alloc_new w8 _)) (u8l_one _) (by unfold maxLen; omega) (by omega) (by have := HE8.out.2.1.size; simp; omega) ?_; intro v5 w5 hown5 hgrow5 hnil5 hat5; have HO5 := hid hown5; have HG5 := hid hgrow5; clear hown5 hgrow5 hnil5 hat5; obtain ⟨a5, d5, rfl⟩ := own_form HO5.out)
    | fail)
  have h9 : ES w7 w5 (.slice a5 (fl + 1) d5) (fl + 1) (fs ++ [y]) := HE8.out.push (zs := [y]) (frA w8 _) HO5.out HG5.out
  obtain ⟨w9, hwn⟩ : ∃ w9, w9 = w5 := ⟨_, rfl⟩
  rw [← hwn] at h9 ⊢
  have h00 : a5 = none → d5 = 0 ∧ fl + 1 = 0 := fun ha => by
    obtain ⟨a', k', hv, hz⟩ := own_form0 h9.1
    cases hv; exact hz ha
  have HD9 := hid (pkDecode_any w9 a5 d5 (fl + 1) (fs ++ [y]) (own_bs h9.1) h9.2.2 (HFB.out.app (fun z hz => by
    rw [List.mem_singleton] at hz
    subst hz
    exact HY.out)) h00 (by omega))
  unfold PDecP at HD9
  rw [HDM.out] at HD9
  have HB9 := hid (HB7.out.trans (h9.2.1.mono HB7.out.size))
  clear h9 hwn h00 HO5 HG5 HE8 HB7 HDM
  refine HD9.out.mono ?_
  rintro e w10 ⟨a10, c10, rfl, hro10, hcl10, hb10⟩
  obtain ⟨w11, hw11⟩ : ∃ w11, w11 = (w10.alloc (.cells (pkA pkZ none 0) 28)).setRow w10.heap.size (pkA pkZ a10 c10) := ⟨_, rfl⟩
  have HN10 := hid (show InP (w10.alloc (.cells (pkA pkZ none 0) 28)) w10.heap.size pkZ none 0 from heap_alloc_new _ _)
  have hb11 : Below w10.heap.size w10 w11 := by rw [hw11]; exact below_setRow ((Below.refl _ _).alloc (Nat.le_refl _) _) _ _ (Nat.le_refl _)
  have hb911 := hb10.trans (hb11.mono hb10.size)
  have HW11 := hid hw11
  have HB11 := hid (HB9.out.trans (hb911.mono HB9.out.size))
  clear hw11 hb11 hb911 hb10 hro10 hcl10 HB9 HD9
  unfold codeP
  go_upto_region 11 with (first | ((with_reducible refine at_op ⟨none, .store 28 (.tmp 13) (.tmp 64), _, _, _, _⟩ ?_); refine wpList_store_row rfl 28 _ _ rfl w10.heap.size (pkA pkZ a10 c10) rfl rfl 28 (pkA pkZ none 0) HN10.out (HZ3.out a10 c10) (HZ4.out a10 c10) (pkA_one _ _ _) ?_))
  change Code.wp _ _ _ _ ((w10.alloc (.cells (pkA pkZ none 0) 28)).setRow w10.heap.size (pkA pkZ a10 c10))
  rw [← HW11.out]
  clear HW11 HN10
  go_wp2_with fail
  refine (HAW.out _).mono ?_
  rintro e w12 ⟨rfl, hb12⟩
  have HB12 := hid (HB11.out.trans (hb12.mono HB11.out.size))
  clear hb12 HB11
  go_wp2
  go_ret
  exact ⟨rfl, HB12.out⟩
end Go.Proofs.Ytceeipejhmnkfaa
