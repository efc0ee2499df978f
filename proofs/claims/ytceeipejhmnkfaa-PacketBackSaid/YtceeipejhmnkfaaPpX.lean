/-
  The laws of layer 8: what PacketEncodes comes to.
-/
import Derived.Test.YtceeipejhmnkfaaPpW
namespace Go.Proofs.Ytceeipejhmnkfaa
open Go Go.ChangeShapes Go.WideShapes Go.ChangeAt Go.RowKit

theorem formP_le {p : Pk} (hp : PkOk p) (hr : rightP p = true) : (formP p).length ≤ 140737488351232 := by
  rw [form_len hp hr]
  split
  · have := (rightP_1 hr (by assumption)).1; omega
  · split <;> omega
set_option maxRecDepth 100000 in
set_option maxHeartbeats 4000000 in
theorem PacketEncodes_any (p : Pk) (ad : Option Addr) (c : Nat) (w : World) (hp : PkOk p) (hrw : RwO w w.heap.size ad p.rs) (hc : p.rs.length ≤ c ∧ c ≤ 9223372036854775807) :
    Calls Try.prog 3 #[.agg (pkA p ad c)] w fun e w' => e = .returned (.bool true) ∧ Below w.heap.size w w' := by
  obtain ⟨w1, hw1⟩ : ∃ w1, w1 = w.alloc (.cells (pkA p ad c) 28) := ⟨_, rfl⟩
  have ho : InP w1 w.heap.size p ad c := by rw [hw1]; exact heap_alloc_new _ _
  have hB : Below w.heap.size w w1 := by rw [hw1]; exact (Below.refl _ _).alloc (Nat.le_refl _) _
  have h16 := hp.ip.len
  have c24 := ho.c24 h16
  have HO := hid ho
  have HB := hid hB
  have HW := hid hw1
  have HR1 := hid (hrw.on hB)
  have HCC := hid hc
  have HP := hid hp
  have HAW := hid (fun W => pawake_any W)
  have HE : RowKit.Hid (errP p = if rightP p then 0 else 5) := rfl
  clear hw1 ho hB hrw hc hp
  by_cases hn : 10 < p.rs.length
  · go_enter Try.func3, Try.ntmps3
    go_upto_region 1 with (fail)
    rw [← HW.out]
    go_wp2_with fail
    refine (HAW.out _).mono ?_
    rintro e w2 ⟨rfl, hb2⟩
    have HB2 := hid (HB.out.trans (hb2.mono HB.out.size))
    clear hb2
    go_wp2
    go_ret
    exact ⟨rfl, HB2.out⟩
  have HEN := hid (encode_any p HP.out ad c w1 HR1.out HCC.out)
  go_enter Try.func3, Try.ntmps3
  go_upto_region 1 with (fail)
  rw [← HW.out]
  go_wp2_with (first | ((with_reducible refine at_op ⟨some 11, _, _, _, _, _⟩ ?_); refine wpList_runW rfl (.agg (pkA p ad c)) (load_p rfl rfl HO.out h16) ?_) | fail)
  refine HEN.out.mono ?_
  rintro e w2 hen
  rcases hen with ⟨hr, ⟨a, k, rfl, hown⟩, hb2⟩ | ⟨hr, rfl, hb2⟩
  · have HR := hid hr
    rw [hr] at HE
    have he : errP p = 0 := HE.out
    have HFL := hid (formP_le HP.out hr)
    obtain ⟨fs, hfs⟩ : ∃ fs, fs = formP p := ⟨_, rfl⟩
    rw [← hfs] at hown HFL ⊢
    have HFS := hid hfs
    have HBS := hid (own_bs hown)
    have HO2 := hid (HO.out.below hb2)
    have HR2 := hid (HR1.out.on hb2)
    have HB2 := hid (HB.out.trans (hb2.mono HB.out.size))
    have HCR := hid (pkRight_any p HP.out ad c w2 HR2.out HCC.out)
    rw [hr] at HCR
    obtain ⟨fl, hfl⟩ : ∃ fl, fl = fs.length := ⟨_, rfl⟩
    rw [← hfl]
    have HFN := hid hfl
    have HCK := hid (fun W (hro : RwO W W.heap.size ad p.rs) => pkCheck_any p HP.out ad c W hro HCC.out)
    unfold ChkP at HCK
    rw [he] at HCK
    clear hfs hown hb2 hr he HEN HO HR1 HB HE hfl c24 HW
    go_wp2_with (first | ((with_reducible refine at_op ⟨some 15, _, _, _, _, _⟩ ?_); refine wpList_runW rfl (.agg (pkA p ad c)) (load_p rfl rfl HO2.out h16) ?_) | fail)
    refine HCR.out.mono ?_
    rintro e w3 ⟨rfl, hb3⟩
    have HO3 := hid (HO2.out.below hb3)
    have HR3 := hid (HR2.out.on hb3)
    have HB3 := hid (HB2.out.trans (hb3.mono HB2.out.size))
    have HBS3 := hid ((HBS.out.below hb3).mono hb3.size)
    clear hb3 HO2 HR2 HB2 HBS HCR
    go_wp2_with (first | ((with_reducible refine at_op ⟨some 36, _, _, _, _, _⟩ ?_); refine wpList_runW rfl (.agg (pkA p ad c)) (load_p rfl rfl HO3.out h16) ?_) | fail)
    refine (HCK.out _ HR3.out).mono ?_
    rintro e w4 ⟨rfl, hb4⟩
    have HO4 := hid (HO3.out.below hb4)
    have HR4 := hid (HR3.out.on hb4)
    have HB4 := hid (HB3.out.trans (hb4.mono HB3.out.size))
    have HBS4 := hid ((HBS3.out.below hb4).mono hb4.size)
    clear hb4 HO3 HR3 HB3 HBS3 HCK
    go_wp2_with (first | ((with_reducible refine at_op ⟨some 42, _, _, _, _, _⟩ ?_); refine wpList_runW rfl (.agg (pkA p ad c)) (load_p rfl rfl HO4.out h16) ?_) | fail)
    refine (pkEncode_any p HP.out HR.out ad c w4 HR4.out HCC.out).mono ?_
    rintro e w5 ⟨v, rfl, hown5, hb5⟩
    obtain ⟨a5, k5, rfl⟩ := own_form hown5
    rw [← HFS.out] at hown5 ⊢
    have HB5 := hid (HB4.out.trans (hb5.mono HB4.out.size))
    have hsb := SameBytes_any w5 a a5 k k5 fs.length fs.length fs fs rfl rfl ((HBS4.out.below hb5).mono hb5.size) (own_bs hown5) HFL.out HFL.out
    rw [show (fs == fs) = true by simp, ← HFN.out] at hsb
    rw [← HFN.out]
    have HSB := hid hsb
    clear hown5 hb5 hsb HB4 HO4 HR4 HBS4
    go_wp2_with fail
    refine HSB.out.mono ?_
    rintro e w6 ⟨rfl, hb6⟩
    have HB6 := hid (HB5.out.trans (hb6.mono HB5.out.size))
    clear hb6 HB5 HSB
    go_wp2_with fail
    refine (HAW.out _).mono ?_
    rintro e w7 ⟨rfl, hb7⟩
    have HB7 := hid (HB6.out.trans (hb7.mono HB6.out.size))
    clear hb7 HB6
    go_wp2
    go_ret
    exact ⟨rfl, HB7.out⟩
  · rw [hr] at HE
    have he : errP p = 5 := HE.out
    have HO2 := hid (HO.out.below hb2)
    have HR2 := hid (HR1.out.on hb2)
    have HB2 := hid (HB.out.trans (hb2.mono HB.out.size))
    have HCR := hid (pkRight_any p HP.out ad c w2 HR2.out HCC.out)
    rw [hr] at HCR
    have HCK := hid (fun W (hro : RwO W W.heap.size ad p.rs) => pkCheck_any p HP.out ad c W hro HCC.out)
    unfold ChkP at HCK
    rw [he] at HCK
    clear hb2 hr he HEN HO HR1 HB HE c24 HW
    go_wp2_with (first | ((with_reducible refine at_op ⟨some 15, _, _, _, _, _⟩ ?_); refine wpList_runW rfl (.agg (pkA p ad c)) (load_p rfl rfl HO2.out h16) ?_) | fail)
    refine HCR.out.mono ?_
    rintro e w3 ⟨rfl, hb3⟩
    have HO3 := hid (HO2.out.below hb3)
    have HR3 := hid (HR2.out.on hb3)
    have HB3 := hid (HB2.out.trans (hb3.mono HB2.out.size))
    clear hb3 HO2 HR2 HB2 HCR
    go_wp2_with (first | ((with_reducible refine at_op ⟨some 21, _, _, _, _, _⟩ ?_); refine wpList_runW rfl (.agg (pkA p ad c)) (load_p rfl rfl HO3.out h16) ?_) | fail)
    refine (HCK.out _ HR3.out).mono ?_
    rintro e w4 ⟨rfl, hb4⟩
    have HB4 := hid (HB3.out.trans (hb4.mono HB3.out.size))
    clear hb4 HO3 HR3 HB3 HCK
    go_wp2_with fail
    refine (HAW.out _).mono ?_
    rintro e w7 ⟨rfl, hb7⟩
    have HB7 := hid (HB4.out.trans (hb7.mono HB4.out.size))
    clear hb7 HB4
    go_wp2
    go_ret
    exact ⟨rfl, HB7.out⟩
end Go.Proofs.Ytceeipejhmnkfaa
