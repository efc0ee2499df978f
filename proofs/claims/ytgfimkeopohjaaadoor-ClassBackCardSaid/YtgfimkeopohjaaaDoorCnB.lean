/- CnC CnB in one -/
import Derived.Test.YtgfimkeopohjaaaDoorCmR
import Derived.Test.YtgfimkeopohjaaaDoorClFrame
import Derived.Test.YtgfimkeopohjaaaDoorClEn
import Derived.Test.YtgfimkeopohjaaaDoorClLd
import Derived.Test.YtgfimkeopohjaaaDoorPick
namespace Go.Proofs.YtgfimkeopohjaaaDoor
open Go Go.ChangeShapes Go.WideShapes Go.ChangeAt Go.RowKit

theorem bytA {xs ys : List Int} (h : Byt xs) (k : Byt ys) : Byt (xs ++ ys) := fun x hx => (List.mem_append.1 hx).elim (h x) (k x)
theorem bytF {α : Type} {f : α → List Int} {l : List α} (h : ∀ x ∈ l, Byt (f x)) : Byt (l.flatMap f) := fun y hy => by
  obtain ⟨x, hx, hy⟩ := List.mem_flatMap.1 hy
  exact h x hx y hy
theorem bytM (z : Int) : Byt [z % 256] := fun x hx => by
  rw [List.mem_singleton] at hx
  omega
theorem bytW (z : Int) : Byt [u8w z] := fun x hx => by
  rw [List.mem_singleton] at hx
  have : u8w z = z % 256 := by
    show IntKind.u8.wrap z = _
    rw [IntKind.wrap_u8]
  omega
theorem byt4 (n : Int) : Byt (lay [] n 4) := fun x hx => by
  rw [lay4] at hx
  simp only [List.mem_cons, List.not_mem_nil, or_false] at hx
  omega
theorem form_byt {l : List Cls} (h : ∀ c ∈ l, ClB c) : Byt (formM l) :=
  bytA (bytW _) (bytF fun c hc => bytA (h c hc).1 (bytA (bytW _) (bytA (bytF fun f hf => bytA ((h c hc).2 f hf) (bytM _)) (bytA (bytA (bytW _) (bytW _)) (bytF fun _ _ => bytA (bytW _) (bytF fun _ _ => bytA (bytA (bytW _) (bytW _)) (byt4 _)))))))
set_option maxRecDepth 100000 in
set_option maxHeartbeats 2000000 in
theorem CopyE_any (w : World) (ad : Option Addr) (ka n : Nat) (xs : List Int) (ha : Bs w w.heap.size ad xs) (hn : n = xs.length) (hn2 : n ≤ 1000000) :
    Calls Tryd.prog 23 #[.slice ad n ka] w (RowPost w xs) := by
  obtain ⟨i0, hi, hz0, hz1, hz2⟩ := info_parts info5
  have hi' := hid hi
  have hz0' := hid hz0
  have hz1' := hid hz1
  have hz2' := hid hz2
  have HA := hid ha
  have HN := hid hn
  have h0 : EB w w (.slice none 0 0) (xs.take 0) := ⟨World.ownsRow_nil _ _ _ _, Below.refl _ _⟩
  have H0 := hid h0
  clear ha hn hi hz0 hz1 hz2 h0
  go_enter Tryd.func23, Tryd.ntmps23
  go_wp2_with fail
  go_loopw [3, 4] (fun ov i wr => ∃ q : Nat, q ≤ n ∧ i = .int .i64 q ∧ RowKit.Hid (EB w wr ov (xs.take q))) (fun _ i _ => n - (intOf i).toNat)
  case atStart => exact ⟨0, by omega, rfl, H0⟩
  case round =>
    obtain ⟨q, hq, rfl, HR⟩ := hrel
    by_cases hqn : q < n
    · obtain ⟨b, o, rfl, _⟩ := HA.out.some (by have := HN.out; omega)
      have hla : q < xs.length := by rw [← HN.out]; exact hqn
      have cq := (HA.out.below HR.out.2).cell hla
      have hx : xs[q]? = some (xs.getD q 0) := by rw [List.getD_eq_getElem?_getD, List.getElem?_eq_getElem hla]; rfl
      generalize xs.getD q 0 = x at *
      have HX := hid hx
      have HTL := hid (show (xs.take q).length = q by rw [List.length_take]; omega)
      clear hx hla
      go_wp2_with (first
        | (at_builtin; refine wpList_append_own_at _ (o := ⟨some 17, _, _, _, _, _⟩) rfl (.tmp 11) (.tmp 16) 40 rfl w.heap.size 5 i0 (.int .u8 0) 1 1 Tryd.underlying40 hi'.out hz0'.out hz1'.out hz2'.out rfl (by decide) u3 _ _ rfl (HR.out.1.alloc _) ⟨wr.heap.size, 0, none⟩ 1 1 (u8l [x]) rfl rfl (World.news_of_block (heap_alloc_new wr _)) (u8l_one _) (by rw [HTL.out]; unfold maxLen; omega) (by rw [HTL.out]; omega) (by have := HR.out.2.size; simp; omega) ?_; intro v5 w5 hown5 hgrow5 hnil5 hat5; have HO5 := hid hown5; have HG5 := hid hgrow5; clear hown5 hgrow5 hnil5 hat5)
        | fail)
      have h5 := HR.out.push (zs := [x]) (frA wr _) HO5.out HG5.out
      have htk : xs.take q ++ [x] = xs.take (q + 1) := by rw [List.take_add_one, HX.out]; rfl
      rw [htk] at h5
      have HE5 := hid h5
      clear h5 htk
      go_roundw
      case rel => exact ⟨q + 1, by omega, by go_num, HE5⟩
      case measure => simp [intOf]; omega
    · obtain rfl : q = n := by omega
      have hr := HR.out
      rw [List.take_of_length_le (by rw [HN.out]; omega)] at hr
      have HR2 := hid hr
      clear hr HR
      go_wp2
      go_ret
      exact ⟨_, rfl, HR2.out.1, HR2.out.2⟩
end Go.Proofs.YtgfimkeopohjaaaDoor

namespace Go.Proofs.YtgfimkeopohjaaaDoor
open Go Go.ChangeShapes Go.WideShapes Go.ChangeAt Go.RowKit

theorem decM_no {b : List Int} (h : (decM b).2 = false) : decM b = ([], false) := by
  unfold decM at h ⊢
  split
  · rename_i h1
    rw [if_pos h1] at h; cases h
  · rfl
theorem form_small2 {l : List Cls} (h : (chkM l).2 = 0) (hi : IdsM l) : (formM l).length ≤ 20000 := by
  have hm := mod_ok h hi
  have hc : ∀ c ∈ l, chkC c = 0 := by
    unfold chkM at h
    split at h
    · simp at h
    · exact chk_from l 0 h
  have h2 := flat_le (f := clF) (K := 2000) (l := l) (fun c hcl => cls_small (hc c hcl) (hi c hcl).1 (hi c hcl).2)
  unfold formM
  rw [List.length_append]
  simp only [List.length_cons, List.length_nil]
  have : l.length * 2000 ≤ 8 * 2000 := Nat.mul_le_mul_right 2000 hm.2.1
  omega
set_option maxRecDepth 100000 in
set_option maxHeartbeats 8000000 in
theorem ClassBack_any (w : World) (HE : EnC w) (HD : DeC w) (HA : AwM w) (l : List Cls) (ad : Option Addr) (N cap : Nat) (cut y : Int) (hF : RwC w w.heap.size ad l) (hN : N = l.length) (hc : N ≤ cap) (hcm : cap ≤ 9223372036854775807) (hbl : ∀ c ∈ l, ClB c) (hcut : -9223372036854775808 ≤ cut ∧ cut ≤ 9223372036854775807) (hy : 0 ≤ y ∧ y ≤ 255) :
    Calls Tryd.prog 6 #[.agg #[.slice ad N cap], .int .i64 cut, .int .u8 y] w fun e w' => e = .returned (.bool true) ∧ Below w.heap.size w w' := by
  obtain ⟨w1, hw1⟩ : ∃ w1, w1 = w.alloc (.cells #[.slice ad N cap] 24) := ⟨_, rfl⟩
  have hb1 : Below w.heap.size w w1 := by rw [hw1]; exact (Below.refl _ _).alloc (Nat.le_refl _) _
  have hm1 : Boxed w1 w.heap.size 24 (.slice ad N cap) := by rw [hw1]; exact Boxed.new w _ _
  have HIDS := hid hF.ids
  have HF := hid (hF.on hb1)
  have HN := hid hN
  have HB1 := hid hb1
  have HW := hid hw1
  have HM := hid hm1
  have cm0 := hm1.cell
  have HAW := hid HA
  have HEE := hid HE
  have HDD := hid HD
  have HBL := hid hbl
  have HCU := hid hcut
  have HY := hid hy
  clear hF hN hb1 hm1 hw1 HE HA HD hbl hcut hy
  go_enter Tryd.func6, Tryd.ntmps6
  go_upto_region 1 with (fail)
  change Code.wp _ _ _ _ (w.alloc (.cells #[.slice ad N cap] 24))
  rw [← HW.out]
  go_wp2_with fail
  refine (great_any w1 ad N cap l HF.out HN.out hc).mono ?_
  rintro e w2 ⟨r, rfl, hr, hb2⟩
  have HB2 := hid hb2
  cases r with
  | true =>
    clear hr hb2 cm0
    go_wp2_with fail
    refine (HAW.out w2 (HB1.out.trans (HB2.out.mono HB1.out.size))).mono ?_
    rintro e w3 ⟨rfl, hb3⟩
    have HB3 := hid (HB1.out.trans ((HB2.out.trans (hb3.mono HB2.out.size)).mono HB1.out.size))
    clear hb3
    go_wp2
    go_ret
    exact ⟨rfl, HB3.out⟩
  | false =>
    have HSM := hid (hr rfl)
    clear hr hb2 cm0
    have cm2 : w2.cell? ⟨w.heap.size, 0, none⟩ = some (.slice ad N cap) := Boxed.cell ((HB2.out.block w.heap.size HM.out.lt).trans HM.out)
    have HEX := hid (HEE.out l ad N cap w2 (HB1.out.trans (HB2.out.mono HB1.out.size)) (HF.out.on HB2.out) HN.out hc hcm HSM.out)
    unfold EnP at HEX
    go_wp2_with fail
    refine HEX.out.mono ?_
    rintro e w3 ⟨a3, c3, rfl, hbs, hc3, hm3, hb3⟩
    have HB3 := hid (HB2.out.trans (hb3.mono HB2.out.size))
    clear hb3 cm2 HEX
    by_cases h0 : (chkM l).2 = 0
    case neg =>
      obtain ⟨k2, hk2⟩ : ∃ k, k = (chkM l).2 := ⟨_, rfl⟩
      rw [← hk2] at h0 ⊢
      have d0 : (k2 != 0) = true := by simpa using h0
      clear h0 hk2 hbs
      go_wp2_with fail
      refine (HAW.out w3 (HB1.out.trans (HB3.out.mono HB1.out.size))).mono ?_
      rintro e w4 ⟨rfl, hb4⟩
      have HB4 := hid (HB1.out.trans ((HB3.out.trans (hb4.mono HB3.out.size)).mono HB1.out.size))
      clear hb4
      go_wp2
      go_ret
      exact ⟨rfl, HB4.out⟩
    have hen : encM l = formM l := by unfold encM; rw [if_pos h0]
    have hsm := form_small2 h0 HIDS.out
    have hfb := form_byt HBL.out
    have HDF := hid (decM_form h0 HIDS.out)
    have HDC := hid (fun (c rest : List Int) (hc : formM l = c ++ rest) (hr : rest ≠ []) => decM_no (decM_cut h0 HIDS.out rfl hc hr))
    have HDM := hid (decM_no (decM_more (b := formM l ++ [y]) h0 HIDS.out rfl (by simp)))
    have hpos : 1 ≤ (formM l).length := by unfold formM; simp
    rw [hen, h0]
    rw [hen] at hbs hc3
    obtain ⟨fs, hfs⟩ : ∃ fs, fs = formM l := ⟨_, rfl⟩
    rw [← hfs] at hbs hsm hfb HDF HDC HDM hpos hc3 ⊢
    obtain ⟨fl, hfl⟩ : ∃ fl, fl = fs.length := ⟨_, rfl⟩
    rw [← hfl] at hsm hpos hc3 ⊢
    have HFN := hid hfl
    have HFB := hid hfb
    obtain ⟨bb, oo, rfl, _⟩ := hbs.some (by omega)
    have HBS := hid hbs
    have HDX := hid (HDD.out fs (some ⟨bb, oo, none⟩) fl c3 w3 (HB1.out.trans (HB3.out.mono HB1.out.size)) hbs hfl hfb hc3 hm3 (by omega))
    unfold DeP at HDX
    rw [HDF.out, if_pos rfl] at HDX
    clear hen h0 hfs hfl hfb hbs HEE
    go_wp2_with fail
    refine HDX.out.mono ?_
    rintro e w4 ⟨a4, c4, rfl, hr4, hc4, hm4, hb4⟩
    have HB4 := hid (HB3.out.trans (hb4.mono HB3.out.size))
    have HBS4 := hid ((HBS.out.below hb4).mono hb4.size)
    have HR4 := hid (show RwC w4 w4.heap.size a4 l from hr4)
    have hc4 : l.length ≤ c4 := hc4
    rw [← HN.out]
    rw [← HN.out] at hc4
    clear hr4 hb4 HDX HBS HB3
    go_upto_region 7 with (fail)
    change Code.wp _ _ _ _ (boxM w4 (.slice a4 N c4))
    have hb5 := boxM_below w4 (.slice a4 N c4)
    have hm5 := boxM_boxed w4 (.slice a4 N c4)
    obtain ⟨w5, hw5⟩ : ∃ x, x = boxM w4 (.slice a4 N c4) := ⟨_, rfl⟩
    rw [← hw5] at hb5 hm5 ⊢
    obtain ⟨p5, hp5⟩ : ∃ x, x = w4.heap.size := ⟨_, rfl⟩
    rw [← hp5] at hm5 ⊢
    have HR5 := hid (HR4.out.on hb5)
    have HBS5 := hid ((HBS4.out.below hb5).mono hb5.size)
    have HB5 := hid (HB4.out.trans (hb5.mono HB4.out.size))
    have c5 := hm5.cell
    have cm5 : w5.cell? ⟨w.heap.size, 0, none⟩ = some (.slice ad N cap) := Boxed.cell ((HB5.out.block w.heap.size HM.out.lt).trans HM.out)
    clear hb5 hm5 hw5 hp5 HR4 HBS4 HB4
    go_wp2_with fail
    refine (Same_any l l a4 ad c4 cap N N w5 HR5.out (HF.out.on HB5.out) HN.out HN.out hc4 hc hm4).mono ?_
    rintro e w6 ⟨r, rfl, hr, hb6⟩
    obtain rfl : r = true := hr.2 rfl
    have HBS6 := hid ((HBS5.out.below hb6).mono hb6.size)
    have HB6 := hid (HB5.out.trans (hb6.mono HB5.out.size))
    clear hb6 hr HBS5 HB5 HR5 c5 cm5
    have hm0 := Int.emod_nonneg cut (show (fl : Int) ≠ 0 by omega)
    have hm1 := Int.emod_lt_of_pos cut (show (0 : Int) < fl by omega)
    obtain ⟨i, hi, hil⟩ : ∃ i : Nat, cut % (fl : Int) = (i : Int) ∧ i < fl := ⟨(cut % (fl : Int)).toNat, by omega, by omega⟩
    have HPK := hid (fun W => Pick_any cut (fl : Int) W HCU.out (by omega) (by omega))
    rw [hi] at HPK
    have hcut2 := HDC.out (fs.take i) (fs.drop i) (List.take_append_drop i fs).symm (by
      intro h
      have h2 := congrArg List.length h
      rw [List.length_drop] at h2
      simp at h2
      have := HFN.out
      omega)
    have hti : i = (fs.take i).length := by rw [List.length_take]; have := HFN.out; omega
    have HD6 := hid (HDD.out (fs.take i) (some ⟨bb, oo, none⟩) i c3 w6 (HB1.out.trans (HB6.out.mono HB1.out.size)) (HBS6.out.take i) hti (fun z hz => HFB.out z (List.mem_of_mem_take hz)) (by omega) hm3 (by omega))
    unfold DeP at HD6
    rw [hcut2, if_neg (by simp)] at HD6
    clear hi hcut2 hti HDC HCU hm0 hm1
    go_wp2_with fail
    refine (HPK.out _).mono ?_
    rintro e w7 ⟨rfl, rfl⟩
    go_wp2_with fail
    refine HD6.out.mono ?_
    rintro e w7 ⟨a7, c7, rfl, _, _, _, hb7⟩
    have HB7 := hid (HB6.out.trans (hb7.mono HB6.out.size))
    have HBS7 := hid ((HBS6.out.below hb7).mono hb7.size)
    try rw [show (([] : List Cls), false).1.length = 0 from rfl]
    clear hb7 HD6 HB6 HBS6 HPK
    go_upto_region 10 with (fail)
    change Code.wp _ _ _ _ (boxM w7 (.slice a7 0 c7))
    have hb8 := boxM_below w7 (.slice a7 0 c7)
    obtain ⟨w8, hw8⟩ : ∃ x, x = boxM w7 (.slice a7 0 c7) := ⟨_, rfl⟩
    rw [← hw8] at hb8 ⊢
    have HBS8 := hid ((HBS7.out.below hb8).mono hb8.size)
    have HB8 := hid (HB7.out.trans (hb8.mono HB7.out.size))
    clear hb8 hw8 HBS7 HB7
    obtain ⟨i0, hi0, hz0, hz1, hz2⟩ := info_parts info5
    have hi' := hid hi0
    have hz0' := hid hz0
    have hz1' := hid hz1
    have hz2' := hid hz2
    clear hi0 hz0 hz1 hz2
    go_wp2_with fail
    refine (CopyE_any w8 (some ⟨bb, oo, none⟩) c3 fl fs HBS8.out HFN.out (by omega)).mono ?_
    rintro e w9 ⟨v9, rfl, hr9, hb9⟩
    have HE9 := hid (show EB w8 w9 v9 fs from ⟨hr9, hb9⟩)
    have HFL := hid (show fs.length ≤ 20000 by have := HFN.out; omega)
    obtain ⟨a9, k9, hv9⟩ := own_form hr9
    subst hv9
    clear hr9 hb9 HBS8
    go_wp2_with (first
      | (at_builtin; refine wpList_append_own_at _ (o := ⟨some 54, _, _, _, _, _⟩) rfl (.tmp 51) (.tmp 53) 40 rfl w8.heap.size 5 i0 (.int .u8 0) 1 1 Tryd.underlying40 hi'.out hz0'.out hz1'.out hz2'.out rfl (by decide) (.slice a9 fs.length k9) _ _ rfl (HE9.out.1.alloc _) ⟨w9.heap.size, 0, none⟩ 1 1 (u8l [y]) rfl rfl (World.news_of_block (heap_alloc_new w9 _)) (u8l_one _) (by have := HFL.out; unfold maxLen; omega) (by have := HFL.out; omega) (by have := HE9.out.2.size; simp; omega) ?_; intro vz wz hownz hgrowz hnilz hatz; have HOz := hid hownz; have HGz := hid hgrowz; clear hownz hgrowz hnilz hatz; obtain ⟨a10, k10, rfl⟩ := own_form HOz.out)
      | fail)
    have h10 := HE9.out.push (zs := [y]) (frA w9 _) HOz.out HGz.out
    have hb10 : Below w1.heap.size w1 wz := HB8.out.trans (h10.2.mono HB8.out.size)
    have HL10 := hid (show (fs ++ [y]).length = fs.length + 1 by simp)
    have hbs10 : Bs wz wz.heap.size a10 (fs ++ [y]) := by
      have h := h10.1
      rw [HL10.out] at h
      exact own_bs (n := fs.length + 1) h
    have HDZ := hid (HDD.out (fs ++ [y]) a10 (fs.length + 1) k10 wz (HB1.out.trans (hb10.mono HB1.out.size)) hbs10 HL10.out.symm (bytA HFB.out fun x hx => by
      rw [List.mem_singleton] at hx
      subst hx
      exact HY.out) (own_cap HOz.out) (own_capmax HOz.out) (by have := HFL.out; omega))
    unfold DeP at HDZ
    rw [HDM.out, if_neg (by simp)] at HDZ
    have HB10 := hid hb10
    clear h10 hb10 hbs10 HOz HGz HE9 HB8
    refine HDZ.out.mono ?_
    rintro e w11 ⟨a11, c11, rfl, _, _, _, hb11⟩
    have HB11 := hid (HB10.out.trans (hb11.mono HB10.out.size))
    clear hb11 HDZ HB10
    try rw [show (([] : List Cls), false).1.length = 0 from rfl]
    go_upto_region 11 with (fail)
    change Code.wp _ _ _ _ (boxM w11 (.slice a11 0 c11))
    have hb12 := boxM_below w11 (.slice a11 0 c11)
    obtain ⟨w12, hw12⟩ : ∃ x, x = boxM w11 (.slice a11 0 c11) := ⟨_, rfl⟩
    rw [← hw12] at hb12 ⊢
    have HB12 := hid (HB11.out.trans (hb12.mono HB11.out.size))
    clear hb12 hw12 HB11
    go_wp2_with fail
    refine (HAW.out w12 (HB1.out.trans (HB12.out.mono HB1.out.size))).mono ?_
    rintro e w13 ⟨rfl, hb13⟩
    have HB13 := hid (HB1.out.trans ((HB12.out.trans (hb13.mono HB12.out.size)).mono HB1.out.size))
    clear hb13
    go_wp2
    go_ret
    exact ⟨rfl, HB13.out⟩
end Go.Proofs.YtgfimkeopohjaaaDoor
