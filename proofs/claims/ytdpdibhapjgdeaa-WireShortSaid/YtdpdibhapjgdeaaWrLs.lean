/-
  The law WireShort: what each call of the law's function comes to.
-/
import Derived.Test.YtdpdibhapjgdeaaWrQ
namespace Go.Proofs.Ytdpdibhapjgdeaa
open Go Go.ChangeShapes Go.WideShapes Go.ChangeAt Go.RowKit

/-- How the law stands between two items that it lays. -/
def ShRel (w wr : World) (p : Nat) (lv ev : Value) (l : List It) (q : Nat) : Prop := ∃ v, WkS w wr p v lv ev (allL [] (numL l q)) (laidN l q) (endsL (numL l q)) ∧ (allL [] (numL l q)).length ≤ 15 * q
set_option maxHeartbeats 4000000 in
set_option maxRecDepth 100000 in
theorem WireShort_any (w : World) (ad : Option Addr) (n cap : Nat) (l : List It) (cut : Int) (h : IRow w w.heap.size ad l) (hn : n = l.length) (hn2 : n ≤ 9223372036854775807) (hcut : -9223372036854775808 ≤ cut ∧ cut ≤ 9223372036854775807) :
    Calls Try.prog 6 #[.slice ad n cap, .int .i64 cut] w fun e w' => e = .returned (.bool true) ∧ Below w.heap.size w w' := by
  have H := hid h
  have HN := hid hn
  have HN2 := hid hn2
  have HCUT := hid hcut
  clear h hn hn2 hcut
  go_enter Try.func6, Try.ntmps6
  go_wp2_with fail
  refine (NewWriter_any _).mono ?_
  rintro e w1 ⟨rfl, rfl⟩
  have h1 := WrOwn.new w
  obtain ⟨p, hp⟩ : ∃ p, p = w.heap.size := ⟨_, rfl⟩
  obtain ⟨w1, hw1⟩ : ∃ w1, w1 = w.alloc (.cells #[.slice none 0 0] 59) := ⟨_, rfl⟩
  rw [← hw1, ← hp] at h1 ⊢
  have H1 := hid h1
  clear hw1 h1 hp
  go_wp2
  go_loopw [6, 7, 8] (fun ev lv i wr => ∃ q : Nat, q ≤ n ∧ q ≤ 40 ∧ i = .int .i64 q ∧ RowKit.Hid (ShRel w wr p lv ev l q)) (fun _ _ i _ => 40 - (intOf i).toNat)
  case atStart => exact ⟨0, by omega, by omega, rfl, hid ⟨_, ⟨⟨H1.out, World.ownsRow_nil _ _ _ _, (fun j h => by simp [Value.ownBlock] at h)⟩, World.ownsRow_nil _ _ _ _, (fun j h => by simp [Value.ownBlock] at h)⟩, by simp [numL, laidN, allL]⟩⟩
  case round =>
    obtain ⟨q, hq, hq1, rfl, HR⟩ := hrel
    by_cases hqn : q < n
    · by_cases hq9 : q < 40
      · obtain ⟨v, ho, hxl⟩ := HR.out
        obtain ⟨b, o, rfl, hbw⟩ := H.out.some (by have := HN.out; omega)
        have hy : l[q]? = some (l[q]'(by have := HN.out; omega)) := List.getElem?_eq_getElem _
        generalize l[q]'(by have := HN.out; omega) = y at hy
        have HY := hid hy
        have i1 := H.out.below ho.it.wr.below
        have c1 := i1.c1 hy
        have c2 := i1.c2 hy
        have hok := H.out.ok y (List.mem_of_getElem? hy)
        have HOK := hid hok
        have HTX := hid (H.out.txt y (List.mem_of_getElem? hy))
        obtain ⟨T, hT⟩ : ∃ T, T = y.x.length := ⟨_, rfl⟩
        have HT := hid hT
        have hK := laidN_len l q
        have hel := endsL_len (numL l q)
        rw [show (numL l q).length = (laidN l q).length by unfold numL; rw [List.length_map]] at hel
        obtain ⟨K, hKe⟩ : ∃ K, K = (laidN l q).length := ⟨_, rfl⟩
        rw [← hKe] at hK hel
        obtain ⟨la, lk, rfl⟩ := own_form ho.it.row
        obtain ⟨ea, ek, rfl⟩ := own_form ho.row
        have HXL := hid hxl
        rw [← hKe, hel] at ho ⊢
        have HO := hid ho
        have HK := hid hKe
        have HEL := hid hel
        have HNL := hid (num_le (xs := allL [] (numL l q)) (n := y.n) (s := y.s))
        clear ho hy HR hok i1 hT hKe hxl hel
        go_wp2
        refine D.wp_region_mix [0, 0, 0, 0, 0, 1, 0, 0, 0, 0, 1, 3, 0] (fun W => W.cell? ⟨b, o + q * 4 + 1, none⟩ = some (.int .u64 y.n) ∧ W.cell? ⟨b, o + q * 4 + 2, none⟩ = some (.int .i64 y.s)) (by kernel_rfl) (by kernel_rfl) ⟨by simpa using c1, by simpa using c2⟩ ?_
        repeat (first
          | (refine' C.wpMix_value _ rfl rfl _ _; rotate_left; (solve | (intro W; go_simp) | (intro W; go_simp; with_reducible rfl)); simp only [Act.put, List.setIfInBounds_toArray, List.set_cons_zero, List.set_cons_succ])
          | (refine' C.wpMix_read _ rfl rfl _ _; rotate_left; (solve | (rintro W ⟨h1, h2⟩; go_simp) | (rintro W ⟨h1, h2⟩; go_simp; with_reducible rfl)); simp only [Act.put, List.setIfInBounds_toArray, List.set_cons_zero, List.set_cons_succ]))
        refine C.wpMix_call 16 #[.pointer (some ⟨p, 0, none⟩), .int .u64 y.n, .int .i64 y.s] (by decide) rfl (by go_simp) ?_
        have ho3 := HO.out.on ((Below.refl _ wr).drew)
        refine (Num_any wr.drew p v _ y.n y.s ho3.it.wr.wr HOK.out.1.1 (by have := HXL.out; omega)).mono ?_
        rintro e w4 ⟨rfl, v4, ht4⟩
        have O4 := hid (ho3.to ht4)
        have i4 := H.out.below O4.out.it.wr.below
        have d0 := i4.c0 HY.out
        have d1 := i4.c1 HY.out
        have d2 := i4.c2 HY.out
        have d3 := i4.c3 HY.out
        rw [← HT.out] at d3
        clear ht4 i4 ho3 c1 c2
        refine ⟨_, rfl, (fun h => by cases h), ?_⟩
        simp only [Act.put, List.setIfInBounds_toArray, List.set_cons_zero, List.set_cons_succ]
        cases hgd : numOk y.n y.s with
        | true =>
          rw [hgd, if_pos rfl] at HNL
          have hst := step0 (xs := allL [] (numL l q)) (y := y)
          rw [hgd, if_pos rfl] at hst
          rw [hgd, if_pos rfl, hst, ← allL_snoc, ← numL_yes HY.out hgd] at O4
          rw [hst, ← allL_snoc, ← numL_yes HY.out hgd] at HNL
          have HLQ := hid (laidN_yes HY.out hgd)
          have hes := endsL_snoc (numL l q) (num0 y)
          rw [← numL_yes HY.out hgd] at hes
          have HES := hid hes
          obtain ⟨M, hM⟩ : ∃ M, M = (allL [] (numL l (q + 1))).length := ⟨_, rfl⟩
          rw [← hM] at HNL
          have hM9 : M ≤ 15 * (q + 1) := by have := HNL.out; have := HXL.out; omega
          have HM := hid hM
          rw [show code true = 0 from rfl]
          clear hgd hst hes hM
          repeat (refine' C.wpMix_value _ rfl rfl _ _; rotate_left; (solve | (intro W; go_simp) | (intro W; go_simp; with_reducible rfl)); simp only [Act.put, List.setIfInBounds_toArray, List.set_cons_zero, List.set_cons_succ])
          refine C.wpMix_end ?_
          obtain ⟨i0, hi, hz0, hz1, hz2⟩ := info_parts info30
          have hi' := hid hi
          have hz0' := hid hz0
          have hz1' := hid hz1
          have hz2' := hid hz2
          obtain ⟨j0, hi, hz0, hz1, hz2⟩ := info_parts info3
          have gi' := hid hi
          have gz0' := hid hz0
          have gz1' := hid hz1
          have gz2' := hid hz2
          clear hi hz0 hz1 hz2
          have hrow4 := O4.out.it.row
          rw [← HK.out] at hrow4
          have HROW4 := hid hrow4
          have hs4 := O4.out.it.wr.below.size
          clear hrow4
          go_wp2_with (first | (at_builtin; refine wpList_append_own_at _ (o := ⟨some 45, _, _, _, _, _⟩) rfl (.tmp 39) (.tmp 44) 22 rfl w.heap.size 30 i0 (.agg #[.bool false, .int .u64 0, .int .i64 0, .slice none 0 0]) 4 48 Try.underlying22 hi'.out hz0'.out hz1'.out hz2'.out rfl (by decide) (.slice la K lk) K _ rfl (HROW4.out.alloc _) ⟨w4.heap.size, 0, none⟩ 1 1 [.bool y.t, .int .u64 y.n, .int .i64 y.s, .slice y.a T y.c] rfl rfl (World.news_of_block (heap_alloc_new w4 _)) (by simp [Value.oneCell']) (by unfold maxLen; omega) (by omega) (by simp; omega) ?_; intro v5 w5 hown5 hgrow5 hnil5 hat5; obtain ⟨a5, k5, rfl⟩ := own_form hown5; have HO5 := hid hown5; have HG5 := hid hgrow5; have HA5 := hid hat5; clear hown5 hgrow5 hnil5 hat5) | fail)
          have O5 := hid (O4.out.item (y := y) (by
            have h1 := HO5.out
            rw [show ([.bool y.t, .int .u64 y.n, .int .i64 y.s, .slice y.a T y.c] : List Value) = icl y by unfold icl; rw [HT.out]] at h1
            exact h1) HG5.out HA5.out)
          clear HO5 HG5 HA5 d0 d1 d2 d3 hs4
          refine (Bytes_any w5 p v4 _ O5.out.it.wr.wr (by rw [← HM.out]; omega)).mono ?_
          rintro e w6 ⟨v6, rfl, hrow6, hb6⟩
          rw [← HM.out] at hrow6
          obtain ⟨a6, k6, rfl⟩ := own_form hrow6
          have O6 := hid (O5.out.on hb6)
          have hrowe := O6.out.row
          rw [HEL.out] at hrowe
          have HROWE := hid hrowe
          have hs6 := O6.out.it.wr.below.size
          clear hrow6 hb6 hrowe
          go_wp2_with (at_builtin; refine wpList_append_own_at _ (o := ⟨some 51, _, _, _, _, _⟩) rfl (.tmp 46) (.tmp 50) 54 rfl w.heap.size 3 j0 (.int .i64 0) 1 8 Try.underlying54 gi'.out gz0'.out gz1'.out gz2'.out rfl (by decide) (.slice ea K ek) K _ rfl (HROWE.out.alloc _) ⟨w6.heap.size, 0, none⟩ 1 1 [.int .i64 (M : Int)] rfl rfl (World.news_of_block (heap_alloc_new w6 _)) (by simp [Value.oneCell']) (by unfold maxLen; omega) (by omega) (by simp; omega) ?_; intro v7 w7 hown7 hgrow7 hnil7 hat7; obtain ⟨a7, k7, rfl⟩ := own_form hown7; have HO7 := hid hown7; have HG7 := hid hgrow7; have HA7 := hid hat7; clear hown7 hgrow7 hnil7 hat7)
          have O7 := hid (O6.out.last HO7.out HG7.out HA7.out)
          clear HO7 HG7 HA7 hs6
          go_roundw
          case rel => exact ⟨q + 1, by omega, by omega, by go_num, hid ⟨v4, by rw [HLQ.out, HES.out, ← HM.out]; exact O7.out, by rw [← HM.out]; exact hM9⟩⟩
          case measure => simp [intOf]; omega
        | false =>
          rw [hgd, if_neg (by simp)] at O4
          have HLQ := hid (laidN_no HY.out hgd)
          rw [show code false = 1 from rfl]
          clear hgd d0 d1 d2 d3
          repeat (refine' C.wpMix_value _ rfl rfl _ _; rotate_left; (solve | (intro W; go_simp) | (intro W; go_simp; with_reducible rfl)); simp only [Act.put, List.setIfInBounds_toArray, List.set_cons_zero, List.set_cons_succ])
          refine C.wpMix_end ?_
          go_wp2
          go_roundw
          case rel => exact ⟨q + 1, by omega, by omega, by go_num, hid ⟨v4, by unfold numL at O4 ⊢; rw [HLQ.out]; exact O4.out, by have h5 := HXL.out; unfold numL at h5 ⊢; rw [HLQ.out]; omega⟩⟩
          case measure => simp [intOf]; omega
      · obtain rfl : q = 40 := by omega
        obtain ⟨v, ho, hxl⟩ := HR.out
        obtain ⟨la, lk, rfl⟩ := own_form ho.it.row
        obtain ⟨ea, ek, rfl⟩ := own_form ho.row
        have hgd : ∀ y ∈ laidN l 40, numOk y.n y.s = true ∧ ItOk y ∧ Bs w w.heap.size y.a y.x ∧ (y.a = none → y.c = 0 ∧ y.x.length = 0) := fun y hy => by
          have h1 := laidN_good hy
          exact ⟨h1.1, H.out.ok y h1.2, H.out.txt y h1.2⟩
        unfold numL at ho hxl ⊢
        have hK := laidN_len l 40
        generalize laidN l 40 = LK at *
        have hby : Byt (allL [] (LK.map num0)) := allL_byt _ _ (fun y hy => by
          obtain ⟨z, hz, rfl⟩ := List.mem_map.1 hy
          exact (hgd z hz).2.1.2.2.2.2) (fun x hx => by simp at hx)
        have hel := endsL_len (LK.map num0)
        rw [List.length_map] at hel
        obtain ⟨K, hKe⟩ : ∃ K, K = LK.length := ⟨_, rfl⟩
        rw [hel] at ho ⊢
        rw [← hKe] at ho hK ⊢
        obtain ⟨L, hL⟩ : ∃ L, L = (allL [] (LK.map num0)).length := ⟨_, rfl⟩
        rw [← hL] at hxl
        have hL9 : L ≤ 600 := by omega
        have HBB := hid (Bytes_any wr p v _ ho.it.wr.wr (by rw [← hL]; omega))
        have HO := hid ho
        have HGD := hid hgd
        have HBY := hid hby
        have HK := hid hKe
        have HL := hid hL
        have HEL := hid hel
        clear ho hgd hby hKe hL HR hxl hel
        go_wp2_with fail
        refine HBB.out.mono ?_
        rintro e w2 ⟨v2, rfl, hrow2, hb2⟩
        rw [← HL.out] at hrow2
        obtain ⟨a2, k2, rfl, h02⟩ := own_form0 hrow2
        have O2 := hid (HO.out.on hb2)
        have HB2 := hid (own_bs hrow2)
        have hcap2 := own_cap hrow2
        have hcapm := own_capmax hrow2
        have HIR := hid (own_irow (by have := O2.out.it.row; rw [← HK.out] at this; exact this) (fun y hy => ⟨((HGD.out y hy).2.2.1.below O2.out.it.wr.below).mono O2.out.it.wr.below.size, (HGD.out y hy).2.2.2⟩) (fun y hy => (HGD.out y hy).2.1))
        have HLI := hid (own_lint (by have := O2.out.row; rw [HEL.out, ← HK.out] at this; exact this))
        clear hrow2 hb2 HBB
        have HPK := hid (Pick_any cut ((L : Int) + 1) w2 HCUT.out (by omega) (by omega))
        go_wp2_with fail
        refine HPK.out.mono ?_
        rintro e wp ⟨rfl, rfl⟩
        obtain ⟨k, hk⟩ : ∃ k : Nat, cut % ((L : Int) + 1) = (k : Int) := ⟨(cut % ((L : Int) + 1)).toNat, by have := Int.emod_nonneg cut (show ((L : Int) + 1) ≠ 0 by omega); omega⟩
        have hkL : k ≤ L := by have := Int.emod_lt_of_pos cut (show 0 < ((L : Int) + 1) by omega); omega
        rw [hk]
        clear HPK hk
        have hbk : Bs w2 w2.heap.size a2 ((allL [] (LK.map num0)).take k) := HB2.out.take k
        have hlk : ((allL [] (LK.map num0)).take k).length = k := by rw [List.length_take, ← HL.out]; omega
        have hkc : k ≤ k2 := by omega
        have h0k : a2 = none → k2 = 0 ∧ k = 0 := fun h => by have := h02 h; exact ⟨this.1, by omega⟩
        have HNR := hid (NewReader_any w2 a2 k2 k _ hlk.symm hbk h0k (by omega))
        have HLK := hid hlk
        clear hbk hlk h0k h02
        go_wp2_with fail
        refine HNR.out.mono ?_
        rintro e w3 ⟨p2, v3, rfl, hr3, hb3, hp3, hv3⟩
        have HM3 := hid (show BkS w w3 w2.heap.size p2 v3 ((allL [] (LK.map num0)).take k) LK la ea (endsL (LK.map num0)) (pos (LK.map num0) 0) from ⟨hr3, O2.out.it.wr.below.trans (hb3.mono O2.out.it.wr.below.size), HIR.out.below hb3, HLI.out.of_blocks (fun b hb => hb3.block b hb), hp3, O2.out.it.wr.below.size, hb3.size⟩)
        have HBK := hid (show Byt ((allL [] (LK.map num0)).take k) from HBY.out.sub fun _ h => List.mem_of_mem_take h)
        obtain ⟨B, hB⟩ : ∃ B, B = w2.heap.size := ⟨_, rfl⟩
        rw [← hB] at HM3
        clear hr3 hb3 hp3 hv3 HNR HIR HLI O2 HO HB2 hB hkc hcap2 hcapm
        go_wp2
        go_loopw [12] (fun i wx => ∃ j : Nat, j ≤ K ∧ i = .int .i64 j ∧ RowKit.Hid (BkS w wx B p2 v3 ((allL [] (LK.map num0)).take k) LK la ea (endsL (LK.map num0)) (pos (LK.map num0) j))) (fun i _ => K - (intOf i).toNat)
        case atStart => exact ⟨0, by omega, rfl, HM3⟩
        case round =>
          obtain ⟨j, hj, rfl, HX⟩ := hrel
          by_cases hjK : j < K
          · obtain ⟨b, o, rfl, _⟩ := HX.out.2.2.1.some (by rw [← HK.out]; omega)
            have hy : LK[j]? = some (LK[j]'(by rw [← HK.out]; omega)) := List.getElem?_eq_getElem _
            generalize LK[j]'(by rw [← HK.out]; omega) = y at hy
            have hgy := HGD.out y (List.mem_of_getElem? hy)
            have hy0 : (LK.map num0)[j]? = some (num0 y) := by rw [List.getElem?_map, hy]; rfl
            have hg0 : good (num0 y) = true := by rw [good0]; exact hgy.1
            obtain ⟨E, hE⟩ : ∃ E, E = pos (LK.map num0) (j + 1) := ⟨_, rfl⟩
            have hEa : (endsL (LK.map num0))[j]? = some E := by rw [hE]; exact endsL_at (by rw [List.length_map, ← HK.out]; exact hjK)
            have hEb : E ≤ 1000000 := by
              have h1 : E ≤ (allL [] (LK.map num0)).length := by
                rw [hE]
                unfold pos
                obtain ⟨r, hr⟩ := allL_more ((LK.map num0).drop (j + 1)) (allL [] ((LK.map num0).take (j + 1)))
                have h2 : allL [] (LK.map num0) = allL (allL [] ((LK.map num0).take (j + 1))) ((LK.map num0).drop (j + 1)) := by
                  unfold allL
                  rw [← List.foldl_append, List.take_append_drop]
                rw [h2, hr]; simp
              have := HL.out
              omega
            obtain ⟨ge, rfl, _, ce⟩ := HX.out.2.2.2.1 j E hEa
            have c2 := HX.out.2.2.1.c2 hy
            have HY := hid hy
            have HGY := hid hgy
            have HEA := hid hEa
            have HE := hid hE
            have HRN := hid (RdNum_any _ p2 _ v3 _ y.s HX.out.1 HBK.out (by rw [HLK.out]; omega))
            by_cases hEk : E ≤ k
            · have HRD := hid (cut_yes (c := k) hy0 hg0 rfl hgy.2.1.1.1 (by rw [← hE]; exact hEk))
              have t1 : decide (E ≤ k) = true := by simpa using hEk
              have t2 : decide (k < E) = false := by simp; omega
              clear hy hgy hy0 hg0 hEa hE ce
              go_wp2_with fail
              refine HRN.out.mono ?_
              rintro e w4 ⟨rfl, hr4, hf4⟩
              have hrd : rd ((allL [] (LK.map num0)).take k) (pos (LK.map num0) j) y.s = (y.n, pos (LK.map num0) (j + 1), 0) := HRD.out
              rw [hrd] at hr4 ⊢
              simp only at hr4 ⊢
              have hx4 := HX.out.go hr4 hf4
              have d1 := hx4.2.2.1.c1 HY.out
              obtain ⟨ge', hge, _, ce⟩ := hx4.2.2.2.1 j E HEA.out
              cases hge
              have HX4 := hid hx4
              have u1 : (y.n != y.n) = false := by simp
              clear hr4 hf4 hx4 c2 hrd HRN HRD
              go_wp2
              go_roundw
              case rel => exact ⟨j + 1, by omega, by go_num, HX4⟩
              case measure => simp [intOf]; omega
            · have HRD := hid (cut_no (c := k) hy0 hg0 rfl (by rw [← hE]; omega))
              have t1 : decide (E ≤ k) = false := by simp; omega
              have t2 : decide (k < E) = true := by simp; omega
              clear hy hgy hy0 hg0 hEa hE ce
              go_wp2_with fail
              refine HRN.out.mono ?_
              rintro e w4 ⟨rfl, hr4, hf4⟩
              have hrd : rd ((allL [] (LK.map num0)).take k) (pos (LK.map num0) j) y.s = (0, pos (LK.map num0) j, 6) := HRD.out
              rw [hrd] at hr4 ⊢
              simp only at hr4 ⊢
              have hx4 := HX.out.go hr4 hf4
              obtain ⟨ge', hge, _, ce⟩ := hx4.2.2.2.1 j E HEA.out
              cases hge
              have HX4 := hid hx4
              clear hr4 hf4 hx4 c2 hrd HRN HRD
              go_wp2_with fail
              refine (awake_any _).mono ?_
              rintro e w8 ⟨rfl, h8⟩
              have H8 := hid (HX4.out.2.1.trans (h8.mono HX4.out.2.1.size))
              clear h8
              go_wp2
              go_ret
              exact ⟨rfl, H8.out⟩
          · obtain rfl : j = K := by omega
            have HB9 := hid HX.out.2.1
            clear HX
            go_wp2_with fail
            refine (awake_any _).mono ?_
            rintro e w8 ⟨rfl, h8⟩
            have H8 := hid (HB9.out.trans (h8.mono HB9.out.size))
            clear h8
            go_wp2
            go_ret
            exact ⟨rfl, H8.out⟩
    · obtain rfl : q = n := by omega
      obtain ⟨v, ho, hxl⟩ := HR.out
      obtain ⟨la, lk, rfl⟩ := own_form ho.it.row
      obtain ⟨ea, ek, rfl⟩ := own_form ho.row
      have hgd : ∀ y ∈ laidN l q, numOk y.n y.s = true ∧ ItOk y ∧ Bs w w.heap.size y.a y.x ∧ (y.a = none → y.c = 0 ∧ y.x.length = 0) := fun y hy => by
        have h1 := laidN_good hy
        exact ⟨h1.1, H.out.ok y h1.2, H.out.txt y h1.2⟩
      unfold numL at ho hxl ⊢
      have hK := laidN_len l q
      generalize laidN l q = LK at *
      have hby : Byt (allL [] (LK.map num0)) := allL_byt _ _ (fun y hy => by
        obtain ⟨z, hz, rfl⟩ := List.mem_map.1 hy
        exact (hgd z hz).2.1.2.2.2.2) (fun x hx => by simp at hx)
      have hel := endsL_len (LK.map num0)
      rw [List.length_map] at hel
      obtain ⟨K, hKe⟩ : ∃ K, K = LK.length := ⟨_, rfl⟩
      rw [hel] at ho ⊢
      rw [← hKe] at ho hK ⊢
      obtain ⟨L, hL⟩ : ∃ L, L = (allL [] (LK.map num0)).length := ⟨_, rfl⟩
      rw [← hL] at hxl
      have hL9 : L ≤ 600 := by omega
      have HBB := hid (Bytes_any wr p v _ ho.it.wr.wr (by rw [← hL]; omega))
      have HO := hid ho
      have HGD := hid hgd
      have HBY := hid hby
      have HK := hid hKe
      have HL := hid hL
      have HEL := hid hel
      clear ho hgd hby hKe hL HR hxl hel
      go_wp2_with fail
      refine HBB.out.mono ?_
      rintro e w2 ⟨v2, rfl, hrow2, hb2⟩
      rw [← HL.out] at hrow2
      obtain ⟨a2, k2, rfl, h02⟩ := own_form0 hrow2
      have O2 := hid (HO.out.on hb2)
      have HB2 := hid (own_bs hrow2)
      have hcap2 := own_cap hrow2
      have hcapm := own_capmax hrow2
      have HIR := hid (own_irow (by have := O2.out.it.row; rw [← HK.out] at this; exact this) (fun y hy => ⟨((HGD.out y hy).2.2.1.below O2.out.it.wr.below).mono O2.out.it.wr.below.size, (HGD.out y hy).2.2.2⟩) (fun y hy => (HGD.out y hy).2.1))
      have HLI := hid (own_lint (by have := O2.out.row; rw [HEL.out, ← HK.out] at this; exact this))
      clear hrow2 hb2 HBB
      have HPK := hid (Pick_any cut ((L : Int) + 1) w2 HCUT.out (by omega) (by omega))
      go_wp2_with fail
      refine HPK.out.mono ?_
      rintro e wp ⟨rfl, rfl⟩
      obtain ⟨k, hk⟩ : ∃ k : Nat, cut % ((L : Int) + 1) = (k : Int) := ⟨(cut % ((L : Int) + 1)).toNat, by have := Int.emod_nonneg cut (show ((L : Int) + 1) ≠ 0 by omega); omega⟩
      have hkL : k ≤ L := by have := Int.emod_lt_of_pos cut (show 0 < ((L : Int) + 1) by omega); omega
      rw [hk]
      clear HPK hk
      have hbk : Bs w2 w2.heap.size a2 ((allL [] (LK.map num0)).take k) := HB2.out.take k
      have hlk : ((allL [] (LK.map num0)).take k).length = k := by rw [List.length_take, ← HL.out]; omega
      have hkc : k ≤ k2 := by omega
      have h0k : a2 = none → k2 = 0 ∧ k = 0 := fun h => by have := h02 h; exact ⟨this.1, by omega⟩
      have HNR := hid (NewReader_any w2 a2 k2 k _ hlk.symm hbk h0k (by omega))
      have HLK := hid hlk
      clear hbk hlk h0k h02
      go_wp2_with fail
      refine HNR.out.mono ?_
      rintro e w3 ⟨p2, v3, rfl, hr3, hb3, hp3, hv3⟩
      have HM3 := hid (show BkS w w3 w2.heap.size p2 v3 ((allL [] (LK.map num0)).take k) LK la ea (endsL (LK.map num0)) (pos (LK.map num0) 0) from ⟨hr3, O2.out.it.wr.below.trans (hb3.mono O2.out.it.wr.below.size), HIR.out.below hb3, HLI.out.of_blocks (fun b hb => hb3.block b hb), hp3, O2.out.it.wr.below.size, hb3.size⟩)
      have HBK := hid (show Byt ((allL [] (LK.map num0)).take k) from HBY.out.sub fun _ h => List.mem_of_mem_take h)
      obtain ⟨B, hB⟩ : ∃ B, B = w2.heap.size := ⟨_, rfl⟩
      rw [← hB] at HM3
      clear hr3 hb3 hp3 hv3 HNR HIR HLI O2 HO HB2 hB hkc hcap2 hcapm
      go_wp2
      go_loopw [12] (fun i wx => ∃ j : Nat, j ≤ K ∧ i = .int .i64 j ∧ RowKit.Hid (BkS w wx B p2 v3 ((allL [] (LK.map num0)).take k) LK la ea (endsL (LK.map num0)) (pos (LK.map num0) j))) (fun i _ => K - (intOf i).toNat)
      case atStart => exact ⟨0, by omega, rfl, HM3⟩
      case round =>
        obtain ⟨j, hj, rfl, HX⟩ := hrel
        by_cases hjK : j < K
        · obtain ⟨b, o, rfl, _⟩ := HX.out.2.2.1.some (by rw [← HK.out]; omega)
          have hy : LK[j]? = some (LK[j]'(by rw [← HK.out]; omega)) := List.getElem?_eq_getElem _
          generalize LK[j]'(by rw [← HK.out]; omega) = y at hy
          have hgy := HGD.out y (List.mem_of_getElem? hy)
          have hy0 : (LK.map num0)[j]? = some (num0 y) := by rw [List.getElem?_map, hy]; rfl
          have hg0 : good (num0 y) = true := by rw [good0]; exact hgy.1
          obtain ⟨E, hE⟩ : ∃ E, E = pos (LK.map num0) (j + 1) := ⟨_, rfl⟩
          have hEa : (endsL (LK.map num0))[j]? = some E := by rw [hE]; exact endsL_at (by rw [List.length_map, ← HK.out]; exact hjK)
          have hEb : E ≤ 1000000 := by
            have h1 : E ≤ (allL [] (LK.map num0)).length := by
              rw [hE]
              unfold pos
              obtain ⟨r, hr⟩ := allL_more ((LK.map num0).drop (j + 1)) (allL [] ((LK.map num0).take (j + 1)))
              have h2 : allL [] (LK.map num0) = allL (allL [] ((LK.map num0).take (j + 1))) ((LK.map num0).drop (j + 1)) := by
                unfold allL
                rw [← List.foldl_append, List.take_append_drop]
              rw [h2, hr]; simp
            have := HL.out
            omega
          obtain ⟨ge, rfl, _, ce⟩ := HX.out.2.2.2.1 j E hEa
          have c2 := HX.out.2.2.1.c2 hy
          have HY := hid hy
          have HGY := hid hgy
          have HEA := hid hEa
          have HE := hid hE
          have HRN := hid (RdNum_any _ p2 _ v3 _ y.s HX.out.1 HBK.out (by rw [HLK.out]; omega))
          by_cases hEk : E ≤ k
          · have HRD := hid (cut_yes (c := k) hy0 hg0 rfl hgy.2.1.1.1 (by rw [← hE]; exact hEk))
            have t1 : decide (E ≤ k) = true := by simpa using hEk
            have t2 : decide (k < E) = false := by simp; omega
            clear hy hgy hy0 hg0 hEa hE ce
            go_wp2_with fail
            refine HRN.out.mono ?_
            rintro e w4 ⟨rfl, hr4, hf4⟩
            have hrd : rd ((allL [] (LK.map num0)).take k) (pos (LK.map num0) j) y.s = (y.n, pos (LK.map num0) (j + 1), 0) := HRD.out
            rw [hrd] at hr4 ⊢
            simp only at hr4 ⊢
            have hx4 := HX.out.go hr4 hf4
            have d1 := hx4.2.2.1.c1 HY.out
            obtain ⟨ge', hge, _, ce⟩ := hx4.2.2.2.1 j E HEA.out
            cases hge
            have HX4 := hid hx4
            have u1 : (y.n != y.n) = false := by simp
            clear hr4 hf4 hx4 c2 hrd HRN HRD
            go_wp2
            go_roundw
            case rel => exact ⟨j + 1, by omega, by go_num, HX4⟩
            case measure => simp [intOf]; omega
          · have HRD := hid (cut_no (c := k) hy0 hg0 rfl (by rw [← hE]; omega))
            have t1 : decide (E ≤ k) = false := by simp; omega
            have t2 : decide (k < E) = true := by simp; omega
            clear hy hgy hy0 hg0 hEa hE ce
            go_wp2_with fail
            refine HRN.out.mono ?_
            rintro e w4 ⟨rfl, hr4, hf4⟩
            have hrd : rd ((allL [] (LK.map num0)).take k) (pos (LK.map num0) j) y.s = (0, pos (LK.map num0) j, 6) := HRD.out
            rw [hrd] at hr4 ⊢
            simp only at hr4 ⊢
            have hx4 := HX.out.go hr4 hf4
            obtain ⟨ge', hge, _, ce⟩ := hx4.2.2.2.1 j E HEA.out
            cases hge
            have HX4 := hid hx4
            clear hr4 hf4 hx4 c2 hrd HRN HRD
            go_wp2_with fail
            refine (awake_any _).mono ?_
            rintro e w8 ⟨rfl, h8⟩
            have H8 := hid (HX4.out.2.1.trans (h8.mono HX4.out.2.1.size))
            clear h8
            go_wp2
            go_ret
            exact ⟨rfl, H8.out⟩
        · obtain rfl : j = K := by omega
          have HB9 := hid HX.out.2.1
          clear HX
          go_wp2_with fail
          refine (awake_any _).mono ?_
          rintro e w8 ⟨rfl, h8⟩
          have H8 := hid (HB9.out.trans (h8.mono HB9.out.size))
          clear h8
          go_wp2
          go_ret
          exact ⟨rfl, H8.out⟩
end Go.Proofs.Ytdpdibhapjgdeaa
