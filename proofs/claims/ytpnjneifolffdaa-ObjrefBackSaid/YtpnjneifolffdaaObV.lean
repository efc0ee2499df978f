/-
  The laws of layer 7: what ObjrefBack comes to.
-/
import Derived.Test.YtpnjneifolffdaaObU
namespace Go.Proofs.Ytpnjneifolffdaa
open Go Go.ChangeShapes Go.WideShapes Go.ChangeAt Go.RowKit

theorem xor_byte {v y : Int} (h0 : 0 ≤ v) (h1 : v ≤ 255) (y0 : 0 ≤ y) (y1 : y ≤ 255) : 0 ≤ bits .xor .u8 v y ∧ bits .xor .u8 v y ≤ 255 ∧ (bits .xor .u8 v y = v ↔ y = 0) := by
  obtain ⟨a, rfl⟩ := Int.eq_ofNat_of_zero_le h0
  obtain ⟨b, rfl⟩ := Int.eq_ofNat_of_zero_le y0
  rw [u8_xor_nat a b (by omega) (by omega)]
  have hlt : a ^^^ b < 2 ^ 8 := Nat.xor_lt_two_pow (by omega) (by omega)
  refine ⟨by omega, by omega, fun h => ?_, fun h => ?_⟩
  · have h2 : a ^^^ b = a := by omega
    have h3 : a ^^^ (a ^^^ b) = a ^^^ a := by rw [h2]
    rw [← Nat.xor_assoc, Nat.xor_self, Nat.zero_xor] at h3
    omega
  · have : b = 0 := by omega
    subst this
    simp
/-- With a byte turned it is another one, or none. -/
theorem dec_turned {x : Orf} {b : List Int} (hb : b ≠ frmO x) (hl : b.length = 64) : decO b = (orZ, 5) ∨ ∃ y, decO b = (y, 0) ∧ eqO y x = false := by
  unfold decO
  rw [if_neg (by omega), if_neg (by omega)]
  by_cases h : rightO (rdO b) = true ∧ frmO (rdO b) = b
  · rw [if_pos h]
    refine .inr ⟨_, rfl, ?_⟩
    cases he : eqO (rdO b) x
    · rfl
    · have := eqO_iff.1 he
      rw [this] at h
      exact absurd h.2.symm hb
  · rw [if_neg h]; exact .inl rfl
set_option maxRecDepth 100000 in
theorem exec_zero {o : Oper} {f : Operand → Value} {W : World} (ho : o.op = .build 27 #[]) : (execOp f o).run Try.prog W = .ok (.value (.agg (orA orZ))) W := by
  unfold execOp
  simp only [ho]
  go_simp
  rfl
set_option maxRecDepth 100000 in
set_option maxHeartbeats 4000000 in
theorem ObjrefBack_any (x : Orf) (at_ y : Int) (w : World) (hx : OrfOk x) (ha : -9223372036854775808 ≤ at_ ∧ at_ ≤ 9223372036854775807) (hy : 0 ≤ y ∧ y ≤ 255) :
    Calls Try.prog 5 #[.agg (orA x), .int .i64 at_, .int .u8 y] w fun e w' => e = .returned (.bool true) ∧ Below w.heap.size w w' := by
  have ho : InO (w.alloc (.cells (orA x) 27)) w.heap.size x := heap_alloc_new _ _
  have hB : Below w.heap.size w (w.alloc (.cells (orA x) 27)) := (Below.refl _ _).alloc (Nat.le_refl _) _
  have HO := hid ho
  have HB := hid hB
  have Hx := hid hx
  have HEN := hid (fun W => Encode_any x hx W)
  have HC := hid (fun W => Check_any x W)
  have HAW := hid (fun W => awake_any W)
  have HER : RowKit.Hid (errO x = if rightO x then 0 else 5) := rfl
  have HFL := hid (frmO_len hx)
  have HFB := hid (frmO_byt hx)
  have hq := eqObj x x hx hx
  rw [eqO_self] at hq
  have hg := guardO
  have HIX := hid (infoO hx)
  have HSO := hid (show (orA orZ).size = (orA x).size by rw [orA_size hx, orA_size orZ_ok])
  clear ho hB hx
  go_enter Try.func5, Try.ntmps5
  go_wp2_with (first | ((with_reducible refine at_op ⟨some 14, _, _, _, _, _⟩ ?_); refine wpList_runW rfl (.agg (orA x)) (load_o rfl rfl HO.out Hx.out) ?_) | fail)
  refine (HEN.out _).mono ?_
  rintro e w1 (⟨hr, ⟨g, rfl, hgg, hgl⟩, hb1⟩ | ⟨hr, rfl, hb1⟩)
  · have HDF := hid (decO_frm Hx.out hr)
    have HO1 := hid (HO.out.below hb1)
    have HB1 := hid (HB.out.trans (hb1.mono HB.out.size))
    have hlt := lt_of_heap hgg
    have hgl2 : w.heap.size < g := by
      have : (w.alloc (.cells (orA x) 27)).heap.size = w.heap.size + 1 := by simp
      omega
    have hbs : Bs w1 w1.heap.size (some ⟨g, 0, none⟩) (frmO x) := ⟨fun _ => ⟨_, _, rfl, hlt⟩, fun b o he => by cases he; exact AtL.row (cs := u8l (frmO x)) hgg⟩
    have HD1 := hid (Decode_any w1 (some ⟨g, 0, none⟩) 64 64 (frmO x) hbs HFL.out.symm HFB.out (by omega))
    have HG1 := hid hgg
    clear hb1 hgg hbs HEN HO HB hgl hlt HER HC hr
    go_wp2_with fail
    refine HD1.out.mono ?_
    rintro e w2 ⟨rfl, hb2⟩
    rw [HDF.out]
    have HO2 := hid (HO1.out.below hb2)
    have HB2 := hid (HB1.out.trans (hb2.mono HB1.out.size))
    have hg2 : w2.heap[g]? = some (.cells (u8s (frmO x)) 60 (0, 0)) := by rw [hb2.block g (lt_of_heap HG1.out)]; exact HG1.out
    have HN2 := hid (heap_alloc_new w2 (.cells (orA orZ) 27))
    obtain ⟨w3, hw3⟩ : ∃ w3, w3 = (w2.alloc (.cells (orA orZ) 27)).setRow w2.heap.size (orA x) := ⟨_, rfl⟩
    have ho3 : InO w3 w2.heap.size x := by rw [hw3]; exact setRow_heap _ _ _ _ _ _ HN2.out
    have hb3 : Below w2.heap.size w2 w3 := by rw [hw3]; exact below_setRow ((Below.refl _ _).alloc (Nat.le_refl _) _) _ _ (Nat.le_refl _)
    have hg3 : w3.heap[g]? = some (.cells (u8s (frmO x)) 60 (0, 0)) := by rw [hb3.block g (lt_of_heap hg2)]; exact hg2
    have HW3 := hid hw3
    have HY3 := hid ho3
    have HO3 := hid (HO2.out.below hb3)
    have HB3 := hid (HB2.out.trans (hb3.mono HB2.out.size))
    have HG3 := hid hg3
    clear hb2 hg2 hw3 ho3 hb3 hg3 HO1 HB1 HG1 HD1
    go_upto_region 5 with (first | ((with_reducible refine at_op ⟨none, .store 27 (.tmp 9) (.tmp 30), _, _, _, _⟩ ?_); refine wpList_store_row rfl 27 _ _ rfl w2.heap.size (orA x) rfl rfl 27 (orA orZ) HN2.out HIX.out HSO.out (orA_one _) ?_))
    change Code.wp _ _ _ _ ((w2.alloc (.cells (orA orZ) 27)).setRow w2.heap.size (orA x))
    rw [← HW3.out]
    obtain ⟨Y, hY⟩ : ∃ Y, Y = w2.heap.size := ⟨_, rfl⟩
    rw [← hY] at HY3 ⊢
    obtain ⟨i, hi, hi64⟩ : ∃ i : Nat, at_ % 64 = (i : Int) ∧ i < 64 := ⟨(at_ % 64).toNat, by omega, by omega⟩
    have HPK := hid (fun W => Pick_any at_ 64 W ha (by omega) (by omega))
    rw [hi] at HPK
    obtain ⟨v, hv⟩ : ∃ v, v = (frmO x).getD i 0 := ⟨_, rfl⟩
    have hvb := getD_byt HFB.out i
    rw [← hv] at hvb
    have hxv := xor_byte hvb.1 hvb.2 hy.1 hy.2
    obtain ⟨u, hu⟩ : ∃ u, u = bits .xor .u8 v y := ⟨_, rfl⟩
    rw [← hu] at hxv
    have hci := cell_u8s HG3.out i (by rw [HFL.out]; exact hi64)
    rw [← hv] at hci
    have hzi := frozen_of_row w3 g i _ 60 HG3.out
    have hu2 : bits .xor .u8 v y = u := hu.symm
    have HV := hid hv
    have HXV := hid hxv
    clear hY HW3 HN2 HO2 HB2 hi hv hxv hu
    go_wp2_with (first
      | ((with_reducible refine at_op ⟨some 35, _, _, _, _, _⟩ ?_); refine wpList_runW rfl (.agg (orA x)) (load_o rfl rfl HY3.out Hx.out) ?_)
      | ((with_reducible refine at_op ⟨some 36, _, _, _, _, _⟩ ?_); refine wpList_runW rfl (.agg (orA x)) (load_o rfl rfl HO3.out Hx.out) ?_)
      | fail)
    refine (HPK.out _).mono ?_
    rintro e w4 ⟨rfl, rfl⟩
    go_upto_region 8 with (fail)
    obtain ⟨w5, hw5⟩ : ∃ w5, w5 = w3.setCell ⟨g, i, none⟩ (.int .u8 u) := ⟨_, rfl⟩
    obtain ⟨b, hb⟩ : ∃ b, b = (frmO x).set i u := ⟨_, rfl⟩
    have hg5 : w5.heap[g]? = some (.cells (u8s b) 60 (0, 0)) := by rw [hw5, hb]; exact set_u8s HG3.out i u
    have hf5 : Fr (fun j => j = g) w3 w5 := by rw [hw5]; exact (Fr.refl _ w3).setCell _ _ (fun _ => rfl)
    have ho5 : InO w5 w.heap.size x := HO3.out.fr hf5 (by omega)
    have hB5 : Below w.heap.size w w5 := HB3.out.trans (hf5.below HB3.out.size (fun k hk => by omega))
    have hbl : b.length = 64 := by rw [hb, List.length_set]; exact HFL.out
    have hbb : Byt b := by
      rw [hb]
      intro z hz
      rcases List.mem_or_eq_of_mem_set hz with h | h
      · exact HFB.out z h
      · subst h; exact ⟨HXV.out.1, HXV.out.2.1⟩
    have hbs5 : Bs w5 w5.heap.size (some ⟨g, 0, none⟩) b := ⟨fun _ => ⟨_, _, rfl, lt_of_heap hg5⟩, fun b' o he => by cases he; exact AtL.row (cs := u8l b) hg5⟩
    have hsame : b = frmO x ↔ u = v := by
      have hgd : (frmO x)[i]? = some v := by rw [HV.out]; exact getD_at (by rw [HFL.out]; exact hi64)
      constructor
      · intro h
        have h1 : b[i]? = some u := by rw [hb, List.getElem?_set_self (by rw [HFL.out]; exact hi64)]
        rw [h, hgd] at h1
        exact (Option.some.inj h1).symm
      · intro h
        rw [hb, h]
        apply List.ext_getElem?
        intro j
        by_cases e : i = j
        · subst e; rw [List.getElem?_set_self (by rw [HFL.out]; exact hi64), hgd]
        · rw [List.getElem?_set_ne e]
    rw [← hw5]
    have HD5 := hid (Decode_any w5 (some ⟨g, 0, none⟩) 64 64 b hbs5 hbl.symm hbb (by omega))
    have HO5 := hid ho5
    have HB5 := hid hB5
    have HSM := hid hsame
    have HBL := hid hbl
    have HZZ := hid (decO_ok hbb)
    clear hw5 hb hg5 hf5 ho5 hB5 hbb hbs5 hsame hbl hci hzi hu2 HY3 HO3 HB3 HG3 HPK ha
    go_wp2_with fail
    refine HD5.out.mono ?_
    rintro e w6 ⟨rfl, hb6⟩
    have HO6 := hid (HO5.out.below hb6)
    have HB6 := hid (HB5.out.trans (hb6.mono HB5.out.size))
    have HN6 := hid (heap_alloc_new w6 (.cells (orA orZ) 27))
    clear hb6 HD5 HO5 HB5
    by_cases hy0 : y = 0
    · have hdb : decO b = (x, 0) := by rw [HSM.out.2 (HXV.out.2.2.2 hy0)]; exact HDF.out
      rw [hdb]
      subst hy0
      clear hdb
      have hz7 : InO ((w6.alloc (.cells (orA orZ) 27)).setRow w6.heap.size (orA x)) w6.heap.size x := setRow_heap _ _ _ _ _ _ HN6.out
      have hb7 : Below w6.heap.size w6 ((w6.alloc (.cells (orA orZ) 27)).setRow w6.heap.size (orA x)) := below_setRow ((Below.refl _ _).alloc (Nat.le_refl _) _) _ _ (Nat.le_refl _)
      obtain ⟨w7, hw7⟩ : ∃ w7, w7 = (w6.alloc (.cells (orA orZ) 27)).setRow w6.heap.size (orA x) := ⟨_, rfl⟩
      rw [← hw7] at hz7 hb7
      have HW7 := hid hw7
      have HZ7 := hid hz7
      have HO7 := hid (HO6.out.below hb7)
      have HB7 := hid (HB6.out.trans (hb7.mono HB6.out.size))
      clear hz7 hb7 hw7
      go_upto_region 9 with (first | ((with_reducible refine at_op ⟨none, .store 27 (.tmp 11) (.tmp 55), _, _, _, _⟩ ?_); refine wpList_store_row rfl 27 _ _ rfl w6.heap.size (orA x) rfl rfl 27 (orA orZ) HN6.out HIX.out HSO.out (orA_one _) ?_))
      change Code.wp _ _ _ _ ((w6.alloc (.cells (orA orZ) 27)).setRow w6.heap.size (orA x))
      rw [← HW7.out]
      obtain ⟨Z, hZ⟩ : ∃ Z, Z = w6.heap.size := ⟨_, rfl⟩
      rw [← hZ] at HZ7 ⊢
      clear HW7 HN6 HO6 HB6 hZ
      go_wp2_with (first
        | ((with_reducible refine at_op ⟨some 59, _, _, _, _, _⟩ ?_); refine wpList_runW rfl (.agg (orA x)) (load_o rfl rfl HZ7.out Hx.out) ?_)
        | ((with_reducible refine at_op ⟨some 60, _, _, _, _, _⟩ ?_); refine wpList_runW rfl (.agg (orA x)) (load_o rfl rfl HO7.out Hx.out) ?_)
        | fail)
      refine (HAW.out _).mono ?_
      rintro e w8 ⟨rfl, hb8⟩
      have HB8 := hid (HB7.out.trans (hb8.mono HB7.out.size))
      clear hb8 HB7
      go_wp2
      go_ret
      exact ⟨rfl, HB8.out⟩
    · have hd0 : (y == 0) = false := by simpa using hy0
      have hne : b ≠ frmO x := fun h => hy0 (HXV.out.2.2.1 (HSM.out.1 h))
      have HZZ2 := HZZ.out
      rcases dec_turned hne HBL.out with hdb | ⟨z, hdb, hez⟩
      · rw [hdb]
        have hqz := eqObj orZ orZ orZ_ok orZ_ok
        rw [eqO_self] at hqz
        clear hdb hne hy0 hq HZZ HZZ2
        have hz7 : InO ((w6.alloc (.cells (orA orZ) 27)).setRow w6.heap.size (orA orZ)) w6.heap.size orZ := setRow_heap _ _ _ _ _ _ HN6.out
        have hb7 : Below w6.heap.size w6 ((w6.alloc (.cells (orA orZ) 27)).setRow w6.heap.size (orA orZ)) := below_setRow ((Below.refl _ _).alloc (Nat.le_refl _) _) _ _ (Nat.le_refl _)
        obtain ⟨w7, hw7⟩ : ∃ w7, w7 = (w6.alloc (.cells (orA orZ) 27)).setRow w6.heap.size (orA orZ) := ⟨_, rfl⟩
        rw [← hw7] at hz7 hb7
        have HW7 := hid hw7
        have HZ7 := hid hz7
        have HO7 := hid (HO6.out.below hb7)
        have HB7 := hid (HB6.out.trans (hb7.mono HB6.out.size))
        clear hz7 hb7 hw7
        go_upto_region 9 with (first | ((with_reducible refine at_op ⟨none, .store 27 (.tmp 11) (.tmp 55), _, _, _, _⟩ ?_); refine wpList_store_row rfl 27 _ _ rfl w6.heap.size (orA orZ) rfl rfl 27 (orA orZ) HN6.out (infoO orZ_ok) rfl (orA_one _) ?_))
        change Code.wp _ _ _ _ ((w6.alloc (.cells (orA orZ) 27)).setRow w6.heap.size (orA orZ))
        rw [← HW7.out]
        obtain ⟨Z, hZ⟩ : ∃ Z, Z = w6.heap.size := ⟨_, rfl⟩
        rw [← hZ] at HZ7 ⊢
        clear HW7 HN6 HO6 HB6 hZ
        go_wp2_with (first
          | ((with_reducible refine at_op ⟨some 68, _, _, _, _, _⟩ ?_); refine wpList_runW rfl (.agg (orA orZ)) (load_o rfl rfl HZ7.out orZ_ok) ?_)
          | ((with_reducible refine at_op ⟨some 69, _, _, _, _, _⟩ ?_); refine wpList_runW rfl (.agg (orA orZ)) (exec_zero rfl) ?_)
          | fail)
        refine (HAW.out _).mono ?_
        rintro e w8 ⟨rfl, hb8⟩
        have HB8 := hid (HB7.out.trans (hb8.mono HB7.out.size))
        clear hb8 HB7
        go_wp2
        go_ret
        exact ⟨rfl, HB8.out⟩
      · rw [hdb] at HZZ2 ⊢
        have HZO := hid HZZ2
        have hqz := eqObj z x HZO.out Hx.out
        rw [hez] at hqz
        have HSZ := hid (show (orA orZ).size = (orA z).size by rw [orA_size HZO.out, orA_size orZ_ok])
        have HIZ := hid (infoO HZO.out)
        clear hdb hne hy0 hq HZZ HZZ2 hez
        have hz7 : InO ((w6.alloc (.cells (orA orZ) 27)).setRow w6.heap.size (orA z)) w6.heap.size z := setRow_heap _ _ _ _ _ _ HN6.out
        have hb7 : Below w6.heap.size w6 ((w6.alloc (.cells (orA orZ) 27)).setRow w6.heap.size (orA z)) := below_setRow ((Below.refl _ _).alloc (Nat.le_refl _) _) _ _ (Nat.le_refl _)
        obtain ⟨w7, hw7⟩ : ∃ w7, w7 = (w6.alloc (.cells (orA orZ) 27)).setRow w6.heap.size (orA z) := ⟨_, rfl⟩
        rw [← hw7] at hz7 hb7
        have HW7 := hid hw7
        have HZ7 := hid hz7
        have HO7 := hid (HO6.out.below hb7)
        have HB7 := hid (HB6.out.trans (hb7.mono HB6.out.size))
        clear hz7 hb7 hw7
        go_upto_region 9 with (first | ((with_reducible refine at_op ⟨none, .store 27 (.tmp 11) (.tmp 55), _, _, _, _⟩ ?_); refine wpList_store_row rfl 27 _ _ rfl w6.heap.size (orA z) rfl rfl 27 (orA orZ) HN6.out HIZ.out HSZ.out (orA_one _) ?_))
        change Code.wp _ _ _ _ ((w6.alloc (.cells (orA orZ) 27)).setRow w6.heap.size (orA z))
        rw [← HW7.out]
        obtain ⟨Z, hZ⟩ : ∃ Z, Z = w6.heap.size := ⟨_, rfl⟩
        rw [← hZ] at HZ7 ⊢
        clear HW7 HN6 HO6 HB6 hZ
        go_wp2_with (first
          | ((with_reducible refine at_op ⟨some 76, _, _, _, _, _⟩ ?_); refine wpList_runW rfl (.agg (orA z)) (load_o rfl rfl HZ7.out HZO.out) ?_)
          | ((with_reducible refine at_op ⟨some 77, _, _, _, _, _⟩ ?_); refine wpList_runW rfl (.agg (orA x)) (load_o rfl rfl HO7.out Hx.out) ?_)
          | fail)
        refine (HAW.out _).mono ?_
        rintro e w8 ⟨rfl, hb8⟩
        have HB8 := hid (HB7.out.trans (hb8.mono HB7.out.size))
        clear hb8 HB7
        go_wp2
        go_ret
        exact ⟨rfl, HB8.out⟩
  · have he : errO x = 5 := by rw [HER.out, hr]; rfl
    rw [he] at HC
    have HO1 := hid (HO.out.below hb1)
    have HB1 := hid (HB.out.trans (hb1.mono HB.out.size))
    clear hb1 he HER HEN HO HB
    go_wp2_with (first | ((with_reducible refine at_op ⟨some 20, _, _, _, _, _⟩ ?_); refine wpList_runW rfl (.agg (orA x)) (load_o rfl rfl HO1.out Hx.out) ?_) | fail)
    refine (HC.out _).mono ?_
    rintro e w2 ⟨rfl, hb2⟩
    have HB2 := hid (HB1.out.trans (hb2.mono HB1.out.size))
    clear hb2 HO1 HB1 HC
    go_wp2_with fail
    refine (HAW.out _).mono ?_
    rintro e w3 ⟨rfl, hb3⟩
    have HB3 := hid (HB2.out.trans (hb3.mono HB2.out.size))
    clear hb3 HB2 HAW
    go_wp2
    go_ret
    exact ⟨rfl, HB3.out⟩
end Go.Proofs.Ytpnjneifolffdaa
