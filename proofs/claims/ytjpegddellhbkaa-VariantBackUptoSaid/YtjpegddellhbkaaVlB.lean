/-
  The walk through VariantBack.
-/
import Derived.Test.YtjpegddellhbkaaVlE
namespace Go.Proofs.Ytjpegddellhbkaa
open Go Go.ChangeShapes Go.WideShapes Go.ChangeAt Go.RowKit

theorem lay_byts {xs : List Int} (h : Byt xs) (n : Int) (k : Nat) : Byt (lay xs n k) := fun x hx => by
  unfold lay at hx
  rcases List.mem_append.1 hx with hx | hx
  · rcases List.mem_append.1 hx with hx | hx
    · exact h x hx
    · rw [List.eq_of_mem_replicate hx]; exact ⟨by decide, by decide⟩
  · exact byt_ok k n x hx
theorem ite_byt {c : Prop} [Decidable c] {a b : List Int} (ha : Byt a) (hb : Byt b) : Byt (if c then a else b) := by
  by_cases h : c
  · rw [if_pos h]; exact ha
  · rw [if_neg h]; exact hb
theorem encV_byt : ∀ (m : Nat) (v : Vr) (out : List Int), Byt out → okV m v → Byt (encV m out v)
  | 0, _, _, h, _ => h
  | m + 1, .mk k n s l, out, h, ho => by
    obtain ⟨_, hs, hl⟩ := ho
    have fold : ∀ (l : List Vr) (o : List Int), Byt o → (∀ x ∈ l, okV m x) → Byt (l.foldl (encV m) o) := by
      intro l
      induction l with
      | nil => intro o h _; exact h
      | cons x l ih => intro o h hx; exact ih _ (encV_byt m x o h (hx x (by simp))) (fun y hy => hx y (by simp [hy]))
    have h1 := lay_byts h k 1
    unfold encV
    simp only [Vr.k, Vr.n, Vr.s, Vr.l] at hs hl ⊢
    refine ite_byt (lay_byts h1 _ _) (ite_byt (lay_byts h1 _ _) (ite_byt (lay_byts h1 _ _) (ite_byt ?_ (ite_byt (fold l _ (lay_byts h1 _ _) hl) h1))))
    intro x hx
    unfold layT at hx
    rcases List.mem_append.1 hx with hx | hx
    · exact lay_byts h1 _ _ x hx
    · exact hs x hx
theorem VS.okV' {w : World} {S : Nat → Prop} {v : Vr} {cs : List Value} (h : VS w S v cs) : ∀ m, okV m v := by
  induction h with
  | mk k n s l a c cs hk hn hs hc h0 ha hl hp ih =>
    intro m
    cases m with
    | zero => trivial
    | succ m =>
      refine ⟨hn, hs, fun x hx => ?_⟩
      obtain ⟨i, hi⟩ := List.mem_iff_getElem?.1 hx
      exact ih i x hi m
theorem decV_err {b : List Int} (h : (decV b).2 ≠ 0) : (decV b).1 = none0 := by
  unfold decV at h ⊢
  split
  · rfl
  · rename_i h1
    rw [if_neg h1] at h
    split
    · rfl
    · rename_i h2
      rw [if_neg h2] at h
      exact absurd rfl h
theorem cnt_enc : ∀ (m : Nat) (v : Vr) (out : List Int), chk m v = 0 → out.length + cntV v ≤ (encV m out v).length
  | 0, _, _, h => by cases h
  | m + 1, .mk k n s l, out, h => by
    have hk := (chk_zero h).2.2.2
    have hf := (chk_zero h).1
    have fold : ∀ (l : List Vr) (o : List Int), (∀ x ∈ l, chk m x = 0) → o.length + (l.map cntV).sum ≤ (l.foldl (encV m) o).length := by
      intro l
      induction l with
      | nil => intro o _; simp
      | cons x l ih =>
        intro o hx
        have h1 := cnt_enc m x o (hx x (by simp))
        have h2 := ih (encV m o x) (fun y hy => hx y (by simp [hy]))
        simp only [List.map_cons, List.sum_cons, List.foldl_cons]
        omega
    have h1 := lay_len out k 1
    have more : ∀ (xs ys : List Int), (∃ r, ys = xs ++ r) → xs.length ≤ ys.length := fun xs ys ⟨r, hr⟩ => by rw [hr]; simp
    rw [cntV_mk]
    have hl := form_cases hf
    simp only [Vr.l] at hk
    unfold encV
    simp only [Vr.k, Vr.n, Vr.s, Vr.l]
    rcases hl with ⟨rfl, rfl, rfl, rfl⟩ | ⟨rfl, _, rfl, rfl⟩ | ⟨rfl, _, rfl, rfl⟩ | ⟨h35, rfl, rfl⟩ | ⟨rfl, rfl, rfl⟩ | ⟨rfl, rfl, rfl⟩
    · simp; omega
    · have := more _ _ (lay_more (lay out 1 1) n 1)
      simp; omega
    · have := more _ _ (lay_more (lay out 2 1) (n % 4294967296) 4)
      simp; omega
    · have := more _ _ (lay_more (lay out k 1) (n % 18446744073709551616) 8)
      rcases h35 with rfl | rfl <;> simp <;> omega
    · have := more _ _ (layT_more (lay out 4 1) s)
      simp; omega
    · have h2 := fold l (lay (lay out 6 1) l.length 4) hk
      have := more _ _ (lay_more (lay out 6 1) l.length 4)
      simp; omega
theorem decV_ok {b : List Int} (hb : Byt b) (h : (decV b).2 = 0) : chk 8 (decV b).1 = 0 ∧ encV 8 [] (decV b).1 = b ∧ cntV (decV b).1 ≤ b.length := by
  have key : ∃ v, decV b = (v, 0) ∧ rdVr 8 b 0 = (v, b.length, 0) := by
    unfold decV at h ⊢
    by_cases h1 : (rdVr 8 b 0).2.2 = 0
    · rw [if_neg (by simpa using h1)] at h ⊢
      by_cases h2 : (rdVr 8 b 0).2.1 = b.length
      · rw [if_neg (by simpa using h2)]
        exact ⟨(rdVr 8 b 0).1, rfl, by rw [← h2, ← h1]⟩
      · rw [if_pos h2] at h; cases h
    · rw [if_pos h1] at h; exact absurd h h1
  obtain ⟨v, hv, hr⟩ := key
  obtain ⟨h1, h2, h3⟩ := dec_enc hb hr
  rw [hv]
  have h4 := cnt_enc 8 v [] h1
  rw [h3] at h4
  exact ⟨h1, h3, by simpa using h4⟩
set_option maxHeartbeats 4000000 in
set_option maxRecDepth 100000 in
theorem VariantBack_any (w : World) (v : Vr) (cs : List Value) (ad : Option Addr) (L cap : Nat) (ys : List Int) (h : VIn w w.heap.size v cs) (hN : cntV v ≤ 1048576) (hbs : Bs w w.heap.size ad ys) (hL : L = ys.length) (h0 : ad = none → cap = 0 ∧ L = 0) (hby : Byt ys) (hL2 : L ≤ 1048576) :
    Calls Try.prog 6 #[.agg cs.toArray, .slice ad L cap] w fun e w' => e = .returned (.bool true) ∧ Below w.heap.size w w' := by
  have HLEN := hid (fun hc => enc_len h hc)
  have HOKV := hid (h.okV' 8)
  have HBYV := hid (fun xs (hx : xs = encV 8 [] v) => (show Byt xs by rw [hx]; exact encV_byt 8 v [] (fun x hx => by simp at hx) (h.okV' 8)))
  obtain ⟨a, c, rfl, _⟩ := h.open
  have hb1 : Below w.heap.size w (w.alloc (.cells #[.int .i64 v.k, .int .i64 v.n, .string (strI v.s), .slice a v.l.length c] 24)) := (Below.refl _ _).alloc (Nat.le_refl _) _
  have hx1 := heap_alloc_new w (.cells #[.int .i64 v.k, .int .i64 v.n, .string (strI v.s), .slice a v.l.length c] 24)
  have HE := hid (fun W (hW : Below w.heap.size w W) => PEncode_any W v _ (VIn.on h hW) (fun _ => by omega))
  have HD := hid (fun W (hW : Below w.heap.size w W) => PDecode_any W ad cap L ys hL ((hbs.below hW).mono hW.size) h0 hby (by omega))
  have HV := hid (fun W (hW : Below w.heap.size w W) => VIn.on h hW)
  have HOK := hid (fun hz => decV_ok hby hz)
  have HER := hid (fun hz => decV_err (b := ys) hz)
  have HBS := hid hbs
  have HL := hid hL
  have HB1 := hid hb1
  have HX1 := hid hx1
  obtain ⟨z, hz⟩ : ∃ z, z = chk 8 v := ⟨_, rfl⟩
  unfold PEncPost at HE
  rw [← hz] at HE HLEN
  have HZ := hid hz
  obtain ⟨xs, hxs⟩ : ∃ xs, xs = encV 8 [] v := ⟨_, rfl⟩
  rw [← hxs] at HE HLEN
  have HXS := hid hxs
  obtain ⟨nv, hnv⟩ : ∃ nv, nv = cntV v := ⟨_, rfl⟩
  rw [← hnv] at HLEN hN
  generalize hdq : decV ys = dq at *
  obtain ⟨x, f⟩ := dq
  simp only at HOK HER
  rw [← hL] at HOK
  clear h hb1 hx1 hz hxs hnv hbs hL h0 hby hdq
  generalize v.k = k at *
  generalize v.n = n at *
  generalize strI v.s = s at *
  generalize v.l.length = M at *
  go_enter Try.func6, Try.ntmps6
  go_wp2_with fail
  obtain ⟨w1, hw1⟩ : ∃ w1, w1 = w.alloc (.cells #[.int .i64 k, .int .i64 n, .string s, .slice a M c] 24) := ⟨_, rfl⟩
  obtain ⟨bx, hbx⟩ : ∃ bx, bx = w.heap.size := ⟨_, rfl⟩
  rw [← hw1] at HB1 HX1 ⊢
  rw [← hbx] at HX1 ⊢
  clear hw1 hbx
  refine (HE.out w1 HB1.out).mono ?_
  rintro e w2 ⟨hb2, he⟩
  have HX2 := hid ((hb2.block bx (lt_of_heap HX1.out)).trans HX1.out)
  have HB2 := hid (HB1.out.trans (hb2.mono HB1.out.size))
  clear HE
  rcases he with ⟨hz, rfl⟩ | ⟨hz, bv, rfl, hrow⟩
  · have dz : (z == 0) = false := by simpa using hz
    obtain ⟨wp, hwp⟩ : ∃ wp, wp = w2 := ⟨_, rfl⟩
    rw [← hwp] at HB2 ⊢
    have HBP := hid HB2.out
    clear hb2 hz HX2 HB2 hwp HLEN HOKV HV HZ HXS
    go_wp2_with fail
    refine (HD.out wp HBP.out).mono ?_
    rintro e w3 ⟨ck, cn, cb, ca, cl, cc, rfl, hx3, hb3⟩
    simp only at hx3 ⊢
    have hbb := HBP.out.trans (hb3.mono HBP.out.size)
    have hx4 : VIn (w3.alloc (.cells #[.int .i64 ck, .int .i64 cn, .string cb, .slice ca cl cc] 24)) (w3.alloc (.cells #[.int .i64 ck, .int .i64 cn, .string cb, .slice ca cl cc] 24)).heap.size x [.int .i64 ck, .int .i64 cn, .string cb, .slice ca cl cc] := VIn.on hx3.in' ((Below.refl _ w3).alloc (Nat.le_refl _) _)
    have hb4 := hbb.alloc hbb.size (.cells #[.int .i64 ck, .int .i64 cn, .string cb, .slice ca cl cc] 24)
    have hh4 := heap_alloc_new w3 (.cells #[.int .i64 ck, .int .i64 cn, .string cb, .slice ca cl cc] 24)
    obtain ⟨w4, hw4⟩ : ∃ w4, w4 = w3.alloc (.cells #[.int .i64 ck, .int .i64 cn, .string cb, .slice ca cl cc] 24) := ⟨_, rfl⟩
    obtain ⟨pZ, hpZ⟩ : ∃ pZ, pZ = w3.heap.size := ⟨_, rfl⟩
    rw [← hw4] at hx4 hb4 hh4
    rw [← hpZ] at hh4
    have HX4 := hid hx4
    have HB4 := hid hb4
    have HH4 := hid hh4
    have HW4 := hid hw4
    have HPZ := hid hpZ
    clear hx3 hb3 hbb hx4 hb4 hh4 hw4 hpZ
    rename_i KA hA KB hB
    have HA := hid hA
    clear hA
    go_wp2
    rw [← HW4.out, ← HPZ.out]
    refine HA.out _ _ ?_
    clear HA HW4 HPZ
    obtain ⟨c0, c1, c2, c3⟩ := box_cells HH4.out
    by_cases hf : f = 0
    · subst hf
      obtain ⟨hc, he, hcnt⟩ := HOK.out rfl
      have HE5 := hid (PEncode_any w4 x _ HX4.out (fun _ => by omega))
      unfold PEncPost at HE5
      rw [he, hc] at HE5
      have HC := hid hc
      clear hc he hcnt HOK HER
      go_wp2_with fail
      refine HE5.out.mono ?_
      rintro e w5 ⟨hb5, h | ⟨_, bv, rfl, hrow⟩⟩
      · exact absurd rfl h.1
      obtain ⟨ba, bc, rfl, h0⟩ := own_form0 hrow
      have HBS5 := hid (own_bs hrow)
      have HB5 := hid (HB4.out.trans (hb5.mono HB4.out.size))
      have HX5 := hid (VIn.on HX4.out hb5)
      have HH5 := hid ((hb5.block pZ (lt_of_heap HH4.out)).trans HH4.out)
      have HCK := hid (PCheck_any w5 x _ HX5.out)
      rw [HC.out] at HCK
      rw [← HL.out]
      clear hrow h0 hb5 c0 c1 c2 c3 HE5
      obtain ⟨c0, c1, c2, c3⟩ := box_cells HH5.out
      go_wp2_with fail
      refine HCK.out.mono ?_
      rintro e w6 ⟨rfl, hb6⟩
      have HB6 := hid (HB5.out.trans (hb6.mono HB5.out.size))
      have HBS6 := hid ((HBS5.out.below hb6).mono hb6.size)
      clear hb6 c0 c1 c2 c3
      go_wp2_with fail
      refine (SameBytes_any w6 ba ad bc cap L L ys ys HL.out HL.out HBS6.out ((HBS.out.below HB6.out).mono HB6.out.size) (by omega) (by omega)).mono ?_
      rintro e w7 ⟨rfl, hb7⟩
      have HB7 := hid (HB6.out.trans (hb7.mono HB6.out.size))
      have hself : (ys == ys) = true := by simp
      rw [hself]
      clear hb7 hself
      go_wp2_with fail
      refine (awake_any w7).mono ?_
      rintro e w8 ⟨rfl, hb8⟩
      have HB8 := hid (HB7.out.trans (hb8.mono HB7.out.size))
      clear hb8
      go_wp2
      go_ret
      exact ⟨rfl, HB8.out⟩
    · have df : (f != 0) = true := by simpa using hf
      have HX0 := HX4.out
      rw [HER.out hf] at HX0
      have HS := hid (Same_any none0 none0 _ _ w4 HX0 (none_in w4 _))
      clear hf HX0 HOK HER
      go_wp2_with fail
      refine HS.out.mono ?_
      rintro e w5 ⟨⟨r, rfl, hr⟩, hb5⟩
      obtain rfl : r = true := hr.2 rfl
      have HB5 := hid (HB4.out.trans (hb5.mono HB4.out.size))
      clear hb5 hr c0 c1 c2 c3
      go_wp2_with fail
      refine (awake_any w5).mono ?_
      rintro e w6 ⟨rfl, hb6⟩
      have HB6 := hid (HB5.out.trans (hb6.mono HB5.out.size))
      clear hb6
      go_wp2
      go_ret
      exact ⟨rfl, HB6.out⟩
  · subst hz
    have hlx := HLEN.out rfl
    obtain ⟨xa, xc, rfl, h0⟩ := own_form0 hrow
    have hxb := HBYV.out xs HXS.out
    have HD2 := hid (PDecode_any w2 xa xc xs.length xs rfl (own_bs hrow) h0 hxb (by omega))
    rw [HXS.out, dec_back HZ.out.symm HOKV.out] at HD2
    rw [← HXS.out] at HD2
    obtain ⟨nx, hnx⟩ : ∃ nx, nx = xs.length := ⟨_, rfl⟩
    rw [← hnx] at HD2 ⊢
    clear hb2 hrow h0 hlx HLEN hnx hxb HOKV HZ HXS HBYV
    go_wp2_with fail
    refine HD2.out.mono ?_
    rintro e w3 ⟨ck, cn, cb, ca, cl, cc, rfl, hx3, hb3⟩
    simp only at hx3 ⊢
    have hbb := HB2.out.trans (hb3.mono HB2.out.size)
    have hx4 : VIn (w3.alloc (.cells #[.int .i64 ck, .int .i64 cn, .string cb, .slice ca cl cc] 24)) (w3.alloc (.cells #[.int .i64 ck, .int .i64 cn, .string cb, .slice ca cl cc] 24)).heap.size v [.int .i64 ck, .int .i64 cn, .string cb, .slice ca cl cc] := VIn.on hx3.in' ((Below.refl _ w3).alloc (Nat.le_refl _) _)
    have hb4 := hbb.alloc hbb.size (.cells #[.int .i64 ck, .int .i64 cn, .string cb, .slice ca cl cc] 24)
    have hh4 := heap_alloc_new w3 (.cells #[.int .i64 ck, .int .i64 cn, .string cb, .slice ca cl cc] 24)
    have hv4 := heap_keep (.cells #[.int .i64 ck, .int .i64 cn, .string cb, .slice ca cl cc] 24) ((hb3.block bx (lt_of_heap HX2.out)).trans HX2.out)
    obtain ⟨w4, hw4⟩ : ∃ w4, w4 = w3.alloc (.cells #[.int .i64 ck, .int .i64 cn, .string cb, .slice ca cl cc] 24) := ⟨_, rfl⟩
    obtain ⟨pY, hpY⟩ : ∃ pY, pY = w3.heap.size := ⟨_, rfl⟩
    rw [← hw4] at hx4 hb4 hh4 hv4
    rw [← hpY] at hh4
    have HS := hid (Same_any v v _ _ w4 hx4 (HV.out w4 hb4))
    have HB4 := hid hb4
    have HH4 := hid hh4
    have HV4 := hid hv4
    have HW4 := hid hw4
    have HPY := hid hpY
    clear hx3 hb3 hbb hx4 hb4 hh4 hv4 hw4 hpY HD2 HV HX2 HB2
    rename_i KA hA KB hB
    have HA := hid hA
    clear hA
    go_wp2
    rw [← HW4.out, ← HPY.out]
    refine HA.out _ _ ?_
    clear HA HW4 HPY
    obtain ⟨c0, c1, c2, c3⟩ := box_cells HH4.out
    obtain ⟨d0, d1, d2, d3⟩ := box_cells HV4.out
    go_wp2_with fail
    refine HS.out.mono ?_
    rintro e wp ⟨⟨r, rfl, hr⟩, hb5⟩
    obtain rfl : r = true := hr.2 rfl
    have HBP := hid (HB4.out.trans (hb5.mono HB4.out.size))
    clear hb5 hr c0 c1 c2 c3 d0 d1 d2 d3 HH4 HB4 HV4 HS
    go_wp2_with fail
    refine (HD.out wp HBP.out).mono ?_
    rintro e w3 ⟨ck, cn, cb, ca, cl, cc, rfl, hx3, hb3⟩
    simp only at hx3 ⊢
    have hbb := HBP.out.trans (hb3.mono HBP.out.size)
    have hx4 : VIn (w3.alloc (.cells #[.int .i64 ck, .int .i64 cn, .string cb, .slice ca cl cc] 24)) (w3.alloc (.cells #[.int .i64 ck, .int .i64 cn, .string cb, .slice ca cl cc] 24)).heap.size x [.int .i64 ck, .int .i64 cn, .string cb, .slice ca cl cc] := VIn.on hx3.in' ((Below.refl _ w3).alloc (Nat.le_refl _) _)
    have hb4 := hbb.alloc hbb.size (.cells #[.int .i64 ck, .int .i64 cn, .string cb, .slice ca cl cc] 24)
    have hh4 := heap_alloc_new w3 (.cells #[.int .i64 ck, .int .i64 cn, .string cb, .slice ca cl cc] 24)
    obtain ⟨w4, hw4⟩ : ∃ w4, w4 = w3.alloc (.cells #[.int .i64 ck, .int .i64 cn, .string cb, .slice ca cl cc] 24) := ⟨_, rfl⟩
    obtain ⟨pZ, hpZ⟩ : ∃ pZ, pZ = w3.heap.size := ⟨_, rfl⟩
    rw [← hw4] at hx4 hb4 hh4
    rw [← hpZ] at hh4
    have HX4 := hid hx4
    have HB4 := hid hb4
    have HH4 := hid hh4
    have HW4 := hid hw4
    have HPZ := hid hpZ
    clear hx3 hb3 hbb hx4 hb4 hh4 hw4 hpZ
    rename_i KA hA KB hB
    have HA := hid hA
    clear hA
    go_wp2
    rw [← HW4.out, ← HPZ.out]
    refine HA.out _ _ ?_
    clear HA HW4 HPZ
    obtain ⟨c0, c1, c2, c3⟩ := box_cells HH4.out
    by_cases hf : f = 0
    · subst hf
      obtain ⟨hc, he, hcnt⟩ := HOK.out rfl
      have HE5 := hid (PEncode_any w4 x _ HX4.out (fun _ => by omega))
      unfold PEncPost at HE5
      rw [he, hc] at HE5
      have HC := hid hc
      clear hc he hcnt HOK HER
      go_wp2_with fail
      refine HE5.out.mono ?_
      rintro e w5 ⟨hb5, h | ⟨_, bv, rfl, hrow⟩⟩
      · exact absurd rfl h.1
      obtain ⟨ba, bc, rfl, h0⟩ := own_form0 hrow
      have HBS5 := hid (own_bs hrow)
      have HB5 := hid (HB4.out.trans (hb5.mono HB4.out.size))
      have HX5 := hid (VIn.on HX4.out hb5)
      have HH5 := hid ((hb5.block pZ (lt_of_heap HH4.out)).trans HH4.out)
      have HCK := hid (PCheck_any w5 x _ HX5.out)
      rw [HC.out] at HCK
      rw [← HL.out]
      clear hrow h0 hb5 c0 c1 c2 c3 HE5
      obtain ⟨c0, c1, c2, c3⟩ := box_cells HH5.out
      go_wp2_with fail
      refine HCK.out.mono ?_
      rintro e w6 ⟨rfl, hb6⟩
      have HB6 := hid (HB5.out.trans (hb6.mono HB5.out.size))
      have HBS6 := hid ((HBS5.out.below hb6).mono hb6.size)
      clear hb6 c0 c1 c2 c3
      go_wp2_with fail
      refine (SameBytes_any w6 ba ad bc cap L L ys ys HL.out HL.out HBS6.out ((HBS.out.below HB6.out).mono HB6.out.size) (by omega) (by omega)).mono ?_
      rintro e w7 ⟨rfl, hb7⟩
      have HB7 := hid (HB6.out.trans (hb7.mono HB6.out.size))
      have hself : (ys == ys) = true := by simp
      rw [hself]
      clear hb7 hself
      go_wp2_with fail
      refine (awake_any w7).mono ?_
      rintro e w8 ⟨rfl, hb8⟩
      have HB8 := hid (HB7.out.trans (hb8.mono HB7.out.size))
      clear hb8
      go_wp2
      go_ret
      exact ⟨rfl, HB8.out⟩
    · have df : (f != 0) = true := by simpa using hf
      have HX0 := HX4.out
      rw [HER.out hf] at HX0
      have HS := hid (Same_any none0 none0 _ _ w4 HX0 (none_in w4 _))
      clear hf HX0 HOK HER
      go_wp2_with fail
      refine HS.out.mono ?_
      rintro e w5 ⟨⟨r, rfl, hr⟩, hb5⟩
      obtain rfl : r = true := hr.2 rfl
      have HB5 := hid (HB4.out.trans (hb5.mono HB4.out.size))
      clear hb5 hr c0 c1 c2 c3
      go_wp2_with fail
      refine (awake_any w5).mono ?_
      rintro e w6 ⟨rfl, hb6⟩
      have HB6 := hid (HB5.out.trans (hb6.mono HB5.out.size))
      clear hb6
      go_wp2
      go_ret
      exact ⟨rfl, HB6.out⟩
end Go.Proofs.Ytjpegddellhbkaa
