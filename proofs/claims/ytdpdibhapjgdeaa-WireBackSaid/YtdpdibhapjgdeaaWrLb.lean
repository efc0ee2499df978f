/-
  The law WireBack: what each call of the law's function comes to.
-/
import Derived.Test.YtdpdibhapjgdeaaWrP
import Derived.Test.YtdpdibhapjgdeaaWrK
namespace Go.Proofs.Ytdpdibhapjgdeaa
open Go Go.ChangeShapes Go.WideShapes Go.ChangeAt Go.RowKit

/-- How the law stands between two items that it lays. -/
def BkRel (w wr : World) (p : Nat) (lv : Value) (l : List It) (q : Nat) : Prop := ∃ v, WkI w wr p v lv (allL [] (l.take q)) (laidL l q) ∧ (allL [] (l.take q)).length ≤ 70010 * q
/-- How the law stands between two items that it reads. -/
def BkRd (w wr : World) (B p : Nat) (v : Value) (l : List It) (la : Option Addr) (i : Nat) : Prop := RdW wr p v (pos l i) (allL [] l) ∧ Below w.heap.size w wr ∧ IRow wr B la l ∧ B ≤ p ∧ w.heap.size ≤ B ∧ B ≤ wr.heap.size
theorem BkRd.on {w wr w2 : World} {B p i : Nat} {v : Value} {l : List It} {la : Option Addr} (h : BkRd w wr B p v l la i) (hb : Below wr.heap.size wr w2) : BkRd w w2 B p v l la i :=
  ⟨h.1.fr (Fr.of_below (fp := fun _ => False) hb) (fun h => h) (fun _ _ h => h), h.2.1.trans (hb.mono h.2.1.size), h.2.2.1.below (hb.mono h.2.2.2.2.2), h.2.2.2.1, h.2.2.2.2.1, Nat.le_trans h.2.2.2.2.2 hb.size⟩
theorem BkRd.go {w wr w2 : World} {B p i j : Nat} {v : Value} {l : List It} {la : Option Addr} (h : BkRd w wr B p v l la i) (hr : RdW w2 p v (pos l j) (allL [] l)) (hf : Fr (fun k => k = p) wr w2) : BkRd w w2 B p v l la j :=
  ⟨hr, h.2.1.trans (hf.below h.2.1.size (fun k hk => by rw [hk]; exact Nat.le_trans h.2.2.2.2.1 h.2.2.2.1)), h.2.2.1.of_blocks (fun b hb => hf.block b (Nat.lt_of_lt_of_le hb h.2.2.2.2.2) (fun e => by have := h.2.2.2.1; omega)), h.2.2.2.1, h.2.2.2.2.1, Nat.le_trans h.2.2.2.2.2 hf.size⟩
set_option maxHeartbeats 4000000 in
set_option maxRecDepth 100000 in
theorem WireBack_any (w : World) (ad : Option Addr) (n cap : Nat) (l : List It) (h : IRow w w.heap.size ad l) (hn : n = l.length) (hn2 : n ≤ 9223372036854775807) :
    Calls Try.prog 5 #[.slice ad n cap] w fun e w' => e = .returned (.bool true) ∧ Below w.heap.size w w' := by
  have H := hid h
  have HN := hid hn
  have HN2 := hid hn2
  have HGR := hid (great_any w ad n cap l h hn hn2)
  clear h hn hn2
  go_enter Try.func5, Try.ntmps5
  go_wp2_with fail
  refine HGR.out.mono ?_
  rintro e w0 ⟨gb, rfl, hg, rfl⟩
  cases gb with
  | true =>
    clear hg HGR
    go_wp2_with fail
    refine (awake_any _).mono ?_
    rintro e w2 ⟨rfl, h2⟩
    have H2 := hid h2
    clear h2
    go_wp2
    go_ret
    exact ⟨rfl, H2.out⟩
  | false =>
    have HL7 := hid (hg rfl)
    clear hg HGR
    go_wp2_with fail
    refine (NewWriter_any _).mono ?_
    rintro e w1 ⟨rfl, rfl⟩
    have h1 := WrOwn.new w
    obtain ⟨p, hp⟩ : ∃ p, p = w.heap.size := ⟨_, rfl⟩
    obtain ⟨w1, hw1⟩ : ∃ w1, w1 = w.alloc (.cells #[.slice none 0 0] 59) := ⟨_, rfl⟩
    rw [← hw1, ← hp] at h1 ⊢
    have H1 := hid h1
    clear hw1 h1 hp
    go_wp2
    go_loopw [4, 5] (fun lv i wr => ∃ q : Nat, q ≤ n ∧ q ≤ 100 ∧ i = .int .i64 q ∧ RowKit.Hid (BkRel w wr p lv l q)) (fun _ i _ => 100 - (intOf i).toNat)
    case atStart => exact ⟨0, by omega, by omega, rfl, hid ⟨_, ⟨H1.out, World.ownsRow_nil _ _ _ _, (fun j h => by simp [Value.ownBlock] at h)⟩, by simp [allL]⟩⟩
    case round =>
      obtain ⟨q, hq, hq1, rfl, HR⟩ := hrel
      by_cases hqn : q < n
      · by_cases hq9 : q < 100
        · obtain ⟨v, ho, hxl⟩ := HR.out
          obtain ⟨b, o, rfl, hbw⟩ := H.out.some (by have := HN.out; omega)
          have hy : l[q]? = some (l[q]'(by have := HN.out; omega)) := List.getElem?_eq_getElem _
          generalize l[q]'(by have := HN.out; omega) = y at hy
          have HY := hid hy
          have i1 := H.out.below ho.wr.below
          have c0 := i1.c0 hy
          have c1 := i1.c1 hy
          have c2 := i1.c2 hy
          have c3 := i1.c3 hy
          have hok := H.out.ok y (List.mem_of_getElem? hy)
          have HOK := hid hok
          have HTX := hid (H.out.txt y (List.mem_of_getElem? hy))
          obtain ⟨T, hT⟩ : ∃ T, T = y.x.length := ⟨_, rfl⟩
          have hT7 : T ≤ 70000 := by rw [hT]; exact HL7.out q y hq9 hy
          rw [← hT] at c3
          have HT := hid hT
          have hK := laidL_len l q
          obtain ⟨K, hKe⟩ : ∃ K, K = (laidL l q).length := ⟨_, rfl⟩
          rw [← hKe] at hK
          obtain ⟨la, lk, rfl⟩ := own_form ho.row
          have hnx := allL_succ (xs := []) hy
          have HNX := hid hnx
          have hstl := step_len (xs := allL [] (l.take q)) (y := y) (by rw [← hT]; exact hT7)
          have HSL := hid (show (allL [] (l.take (q + 1))).length ≤ 70010 * (q + 1) by rw [hnx]; omega)
          have HXL := hid hxl
          rw [← hKe] at ho ⊢
          have HO := hid ho
          have HK := hid hKe
          clear ho hy HR hok i1 hT hKe hnx hstl hxl
          cases hyt : y.t with
          | true =>
            rw [hyt] at c0
            have HTE := hid (Text_any0 wr p v (allL [] (l.take q)) y.x y.a T y.c HO.out.wr.wr ((HTX.out.1.below HO.out.wr.below).mono HO.out.wr.below.size) HT.out (by rw [HT.out]; exact HTX.out.2) (fun hpos b' o' he => by
              obtain ⟨b2, o2, h1, h2⟩ := HTX.out.1.some (by rw [← HT.out]; exact hpos)
              rw [he] at h1; cases h1
              have h3 := HO.out.wr.lo
              exact ⟨by omega, fun e => by have := HO.out.wr.own _ e; omega⟩) (by have := HXL.out; omega) (by omega))
            have HYT := hid hyt
            clear hyt
            go_wp2_with fail
            refine HTE.out.mono ?_
            rintro e w4 ⟨rfl, v4, ht4⟩
            have O4 := hid (HO.out.to ht4)
            have i4 := H.out.below O4.out.wr.below
            have d0 := i4.c0 HY.out
            have d1 := i4.c1 HY.out
            have d2 := i4.c2 HY.out
            have d3 := i4.c3 HY.out
            rw [HYT.out] at d0
            rw [← HT.out] at d3
            clear ht4 i4 HTE c0 c1 c2 c3
            rw [step_t HYT.out, ← HNX.out] at O4
            cases hgd : textOk y.x with
            | true =>
              have HGD := hid (show good y = true by rw [good_t HYT.out]; exact hgd)
              rw [show code true = 0 from rfl]
              clear hgd
              have hlq := laidL_yes HY.out HGD.out
              have HLQ := hid hlq
              obtain ⟨i0, hi, hz0, hz1, hz2⟩ := info_parts info30
              have hi' := hid hi
              have hz0' := hid hz0
              have hz1' := hid hz1
              have hz2' := hid hz2
              clear hi hz0 hz1 hz2 hlq
              have hrow4 := O4.out.row
              rw [← HK.out] at hrow4
              have HROW4 := hid hrow4
              have hs4 := O4.out.wr.below.size
              clear hrow4
              go_wp2_with (at_builtin; refine wpList_append_own_at _ (o := ⟨some 59, _, _, _, _, _⟩) rfl (.tmp 53) (.tmp 58) 22 rfl w.heap.size 30 i0 (.agg #[.bool false, .int .u64 0, .int .i64 0, .slice none 0 0]) 4 48 Try.underlying22 hi'.out hz0'.out hz1'.out hz2'.out rfl (by decide) (.slice la K lk) K _ rfl (HROW4.out.alloc _) ⟨w4.heap.size, 0, none⟩ 1 1 [.bool true, .int .u64 y.n, .int .i64 y.s, .slice y.a T y.c] rfl rfl (World.news_of_block (heap_alloc_new w4 _)) (by simp [Value.oneCell']) (by unfold maxLen; omega) (by omega) (by simp; omega) ?_; intro v5 w5 hown5 hgrow5 hnil5 hat5; obtain ⟨a5, k5, rfl⟩ := own_form hown5; have HO5 := hid hown5; have HG5 := hid hgrow5; have HA5 := hid hat5; clear hown5 hgrow5 hnil5 hat5)
              have O5 := hid (O4.out.push (y := y) (by
                have h1 := HO5.out
                rw [show ([.bool true, .int .u64 y.n, .int .i64 y.s, .slice y.a T y.c] : List Value) = icl y by unfold icl; rw [HYT.out, HT.out]] at h1
                exact h1) HG5.out HA5.out)
              clear HO5 HG5 HA5 d0 d1 d2 d3 hs4
              go_roundw
              case rel => exact ⟨q + 1, by omega, by omega, by go_num, hid ⟨v4, by rw [HLQ.out]; exact O5.out, HSL.out⟩⟩
              case measure => simp [intOf]; omega
            | false =>
              have HGD := hid (show good y = false by rw [good_t HYT.out]; exact hgd)
              rw [show code false = 1 from rfl]
              clear hgd d0 d1 d2 d3
              have hlq := laidL_no HY.out HGD.out
              have HLQ := hid hlq
              clear hlq
              go_wp2
              go_roundw
              case rel => exact ⟨q + 1, by omega, by omega, by go_num, hid ⟨v4, by rw [HLQ.out]; exact O4.out, HSL.out⟩⟩
              case measure => simp [intOf]; omega
          | false =>
            rw [hyt] at c0
            have HYT := hid hyt
            have hbw2 : Below w.heap.size w wr := HO.out.wr.below
            clear hyt
            go_wp2
            refine D.wp_region_mix [0, 0, 0, 0, 0, 1, 0, 0, 0, 0, 1, 3, 0] (fun W => W.cell? ⟨b, o + q * 4 + 1, none⟩ = some (.int .u64 y.n) ∧ W.cell? ⟨b, o + q * 4 + 2, none⟩ = some (.int .i64 y.s)) (by kernel_rfl) (by kernel_rfl) ⟨by simpa using c1, by simpa using c2⟩ ?_
            repeat (first
              | (refine' C.wpMix_value _ rfl rfl _ _; rotate_left; (solve | (intro W; go_simp) | (intro W; go_simp; with_reducible rfl)); simp only [Act.put, List.setIfInBounds_toArray, List.set_cons_zero, List.set_cons_succ])
              | (refine' C.wpMix_read _ rfl rfl _ _; rotate_left; (solve | (rintro W ⟨h1, h2⟩; go_simp) | (rintro W ⟨h1, h2⟩; go_simp; with_reducible rfl)); simp only [Act.put, List.setIfInBounds_toArray, List.set_cons_zero, List.set_cons_succ]))
            refine C.wpMix_call 16 #[.pointer (some ⟨p, 0, none⟩), .int .u64 y.n, .int .i64 y.s] (by decide) rfl (by go_simp) ?_
            have ho3 := HO.out.on ((Below.refl _ wr).drew)
            refine (Num_any wr.drew p v _ y.n y.s ho3.wr.wr HOK.out.1.1 (by have := HXL.out; omega)).mono ?_
            rintro e w4 ⟨rfl, v4, ht4⟩
            have O4 := hid (ho3.to ht4)
            have i4 := H.out.below O4.out.wr.below
            have d0 := i4.c0 HY.out
            have d1 := i4.c1 HY.out
            have d2 := i4.c2 HY.out
            have d3 := i4.c3 HY.out
            rw [HYT.out] at d0
            rw [← HT.out] at d3
            clear ht4 i4 ho3 c0 c1 c2 c3
            rw [step_f HYT.out, ← HNX.out] at O4
            refine ⟨_, rfl, (fun h => by cases h), ?_⟩
            simp only [Act.put, List.setIfInBounds_toArray, List.set_cons_zero, List.set_cons_succ]
            repeat (refine' C.wpMix_value _ rfl rfl _ _; rotate_left; (solve | (intro W; go_simp) | (intro W; go_simp; with_reducible rfl)); simp only [Act.put, List.setIfInBounds_toArray, List.set_cons_zero, List.set_cons_succ])
            refine C.wpMix_end ?_
            cases hgd : numOk y.n y.s with
            | true =>
              have HGD := hid (show good y = true by rw [good_f HYT.out]; exact hgd)
              rw [show code true = 0 from rfl]
              clear hgd
              have hlq := laidL_yes HY.out HGD.out
              have HLQ := hid hlq
              obtain ⟨i0, hi, hz0, hz1, hz2⟩ := info_parts info30
              have hi' := hid hi
              have hz0' := hid hz0
              have hz1' := hid hz1
              have hz2' := hid hz2
              clear hi hz0 hz1 hz2 hlq
              have hrow4 := O4.out.row
              rw [← HK.out] at hrow4
              have HROW4 := hid hrow4
              have hs4 := O4.out.wr.below.size
              clear hrow4
              go_wp2_with (at_builtin; refine wpList_append_own_at _ (o := ⟨some 59, _, _, _, _, _⟩) rfl (.tmp 53) (.tmp 58) 22 rfl w.heap.size 30 i0 (.agg #[.bool false, .int .u64 0, .int .i64 0, .slice none 0 0]) 4 48 Try.underlying22 hi'.out hz0'.out hz1'.out hz2'.out rfl (by decide) (.slice la K lk) K _ rfl (HROW4.out.alloc _) ⟨w4.heap.size, 0, none⟩ 1 1 [.bool false, .int .u64 y.n, .int .i64 y.s, .slice y.a T y.c] rfl rfl (World.news_of_block (heap_alloc_new w4 _)) (by simp [Value.oneCell']) (by unfold maxLen; omega) (by omega) (by simp; omega) ?_; intro v5 w5 hown5 hgrow5 hnil5 hat5; obtain ⟨a5, k5, rfl⟩ := own_form hown5; have HO5 := hid hown5; have HG5 := hid hgrow5; have HA5 := hid hat5; clear hown5 hgrow5 hnil5 hat5)
              have O5 := hid (O4.out.push (y := y) (by
                have h1 := HO5.out
                rw [show ([.bool false, .int .u64 y.n, .int .i64 y.s, .slice y.a T y.c] : List Value) = icl y by unfold icl; rw [HYT.out, HT.out]] at h1
                exact h1) HG5.out HA5.out)
              clear HO5 HG5 HA5 d0 d1 d2 d3 hs4
              go_roundw
              case rel => exact ⟨q + 1, by omega, by omega, by go_num, hid ⟨v4, by rw [HLQ.out]; exact O5.out, HSL.out⟩⟩
              case measure => simp [intOf]; omega
            | false =>
              have HGD := hid (show good y = false by rw [good_f HYT.out]; exact hgd)
              rw [show code false = 1 from rfl]
              clear hgd d0 d1 d2 d3
              have hlq := laidL_no HY.out HGD.out
              have HLQ := hid hlq
              clear hlq
              go_wp2
              go_roundw
              case rel => exact ⟨q + 1, by omega, by omega, by go_num, hid ⟨v4, by rw [HLQ.out]; exact O4.out, HSL.out⟩⟩
              case measure => simp [intOf]; omega
        · obtain rfl : q = 100 := by omega
          obtain ⟨v, ho, hxl⟩ := HR.out
          obtain ⟨la, lk, rfl⟩ := own_form ho.row
          have hgd : ∀ y ∈ laidL l 100, good y = true ∧ ItOk y ∧ Bs w w.heap.size y.a y.x ∧ (y.a = none → y.c = 0 ∧ y.x.length = 0) := fun y hy => by
            have h1 := laidL_good hy
            exact ⟨h1.1, H.out.ok y h1.2, H.out.txt y h1.2⟩
          rw [allL_laid] at ho hxl
          have hby : Byt (allL [] (laidL l 100)) := allL_byt _ _ (fun y hy => (hgd y hy).2.1.2.2.2.2) (fun x hx => by simp at hx)
          have hK := laidL_len l 100
          generalize laidL l 100 = LK at *
          obtain ⟨K, hKe⟩ : ∃ K, K = LK.length := ⟨_, rfl⟩
          rw [← hKe] at ho hK ⊢
          obtain ⟨L, hL⟩ : ∃ L, L = (allL [] LK).length := ⟨_, rfl⟩
          rw [← hL] at hxl
          have hL9 : L ≤ 7001000 := by omega
          have HBB := hid (Bytes_any wr p v _ ho.wr.wr (by rw [← hL]; omega))
          have HO := hid ho
          have HGD := hid hgd
          have HBY := hid hby
          have HK := hid hKe
          have HL := hid hL
          clear ho hgd hby hKe hL HR hxl
          go_wp2_with fail
          refine HBB.out.mono ?_
          rintro e w2 ⟨v2, rfl, hrow2, hb2⟩
          rw [← HL.out] at hrow2
          obtain ⟨a2, k2, rfl, h02⟩ := own_form0 hrow2
          have O2 := hid (HO.out.on hb2)
          have HNR := hid (NewReader_any w2 a2 k2 L _ HL.out (own_bs hrow2) h02 (by omega))
          have HIR := hid (own_irow (by have := O2.out.row; rw [← HK.out] at this; exact this) (fun y hy => ⟨((HGD.out y hy).2.2.1.below O2.out.wr.below).mono O2.out.wr.below.size, (HGD.out y hy).2.2.2⟩) (fun y hy => (HGD.out y hy).2.1))
          clear hrow2 hb2 h02 HBB
          go_wp2_with fail
          refine HNR.out.mono ?_
          rintro e w3 ⟨p2, v3, rfl, hr3, hb3, hp3, hv3⟩
          have HM3 := hid (show BkRd w w3 w2.heap.size p2 v3 LK la 0 from ⟨hr3, O2.out.wr.below.trans (hb3.mono O2.out.wr.below.size), HIR.out.below hb3, hp3, O2.out.wr.below.size, hb3.size⟩)
          obtain ⟨B, hB⟩ : ∃ B, B = w2.heap.size := ⟨_, rfl⟩
          rw [← hB] at HM3
          clear hr3 hb3 hp3 hv3 HNR HIR O2 HO hB
          go_wp2
          go_loopw [8] (fun i wx => ∃ j : Nat, j ≤ K ∧ i = .int .i64 j ∧ RowKit.Hid (BkRd w wx B p2 v3 LK la j)) (fun i _ => K - (intOf i).toNat)
          case atStart => exact ⟨0, by omega, rfl, HM3⟩
          case round =>
            obtain ⟨j, hj, rfl, HX⟩ := hrel
            by_cases hjK : j < K
            · obtain ⟨b, o, rfl, _⟩ := HX.out.2.2.1.some (by rw [← HK.out]; omega)
              have hy : LK[j]? = some (LK[j]'(by rw [← HK.out]; omega)) := List.getElem?_eq_getElem _
              generalize LK[j]'(by rw [← HK.out]; omega) = y at hy
              have hgy := HGD.out y (List.mem_of_getElem? hy)
              have c0 := HX.out.2.2.1.c0 hy
              have c2 := HX.out.2.2.1.c2 hy
              have HY := hid hy
              have HGY := hid hgy
              clear hy hgy
              cases hyt : y.t with
              | true =>
                rw [hyt] at c0
                have HRD := hid (read_text HY.out HGY.out.1 hyt)
                clear hyt
                go_wp2_with fail
                refine (RdText_any _ p2 _ v3 _ 65535 HX.out.1 HBY.out (by rw [← HL.out]; omega) (by decide)).mono ?_
                rintro e w4 ⟨tv, rfl, hrow4, hr4, hf4⟩
                rw [HRD.out] at hrow4 hr4 ⊢
                simp only at hrow4 hr4 ⊢
                have hx4 := HX.out.go hr4 hf4
                obtain ⟨T, hT⟩ : ∃ T, T = y.x.length := ⟨_, rfl⟩
                have hT5 : T ≤ 65535 ∨ True := .inr trivial
                rw [← hT] at hrow4
                obtain ⟨ta, tk, rfl⟩ := own_form hrow4
                have d3 := hx4.2.2.1.c3 HY.out
                rw [← hT] at d3
                have HX4 := hid hx4
                have hT9 : T ≤ 1000000000 := by
                  have h1 := rdT_len (b := allL [] LK) (a := pos LK j) (m := 65535)
                  rw [HRD.out] at h1
                  simp only at h1
                  have := HL.out
                  omega
                have HSB := hid (SameBytes_any w4 ta y.a tk y.c T T y.x y.x hT hT (own_bs hrow4) ((hx4.2.2.1.txt y (List.mem_of_getElem? HY.out)).1.mono hx4.2.2.2.2.2) hT9 hT9)
                clear hrow4 hr4 hf4 hx4 hT hT5 hT9 c0 c2
                go_wp2_with fail
                refine HSB.out.mono ?_
                rintro e w5 ⟨rfl, h5⟩
                have HX5 := hid (HX4.out.on h5)
                rw [show (y.x == y.x) = true by simp]
                clear h5 HSB d3
                go_wp2
                go_roundw
                case rel => exact ⟨j + 1, by omega, by go_num, HX5⟩
                case measure => simp [intOf]; omega
              | false =>
                rw [hyt] at c0
                have HRD := hid (read_num HY.out HGY.out.1 hyt HGY.out.2.1.1.1)
                clear hyt
                go_wp2_with fail
                refine (RdNum_any _ p2 _ v3 _ y.s HX.out.1 HBY.out (by rw [← HL.out]; omega)).mono ?_
                rintro e w4 ⟨rfl, hr4, hf4⟩
                rw [HRD.out] at hr4 ⊢
                simp only at hr4 ⊢
                have hx4 := HX.out.go hr4 hf4
                have d1 := hx4.2.2.1.c1 HY.out
                have HX4 := hid hx4
                have u1 : (y.n != y.n) = false := by simp
                clear hr4 hf4 hx4 c0 c2
                go_wp2
                go_roundw
                case rel => exact ⟨j + 1, by omega, by go_num, HX4⟩
                case measure => simp [intOf]; omega
            · obtain rfl : j = K := by omega
              have hpos : pos LK j = (allL [] LK).length := pos_all (by rw [← HK.out]; omega)
              have hx := HX.out
              unfold BkRd at hx
              rw [hpos] at hx
              have HE := hid (End_any _ p2 _ v3 _ hx.1 (by rw [← HL.out]; omega))
              have he : endC (allL [] LK).length (allL [] LK).length = 0 := if_pos rfl
              have HX' := hid hx
              rw [he] at HE
              clear hx hpos he HX
              go_wp2_with fail
              refine HE.out.mono ?_
              rintro e w6 ⟨rfl, h6⟩
              have H6 := hid (HX'.out.2.1.trans (h6.mono HX'.out.2.1.size))
              have HLE := hid (Left_any w6 p2 _ v3 _ (HX'.out.1.fr (Fr.of_below (fp := fun _ => False) h6) (fun h => h) (fun _ _ h => h)) (by rw [← HL.out]; omega))
              clear h6
              go_wp2_with fail
              refine HLE.out.mono ?_
              rintro e w7 ⟨rfl, h7⟩
              have H7 := hid (H6.out.trans (h7.mono H6.out.size))
              rw [show ((allL [] LK).length : Int) - ((allL [] LK).length : Int) = 0 by omega]
              clear h7
              go_wp2_with fail
              refine (awake_any _).mono ?_
              rintro e w8 ⟨rfl, h8⟩
              have H8 := hid (H7.out.trans (h8.mono H7.out.size))
              clear h8
              go_wp2
              go_ret
              exact ⟨rfl, H8.out⟩
      · obtain rfl : q = n := by omega
        obtain ⟨v, ho, hxl⟩ := HR.out
        obtain ⟨la, lk, rfl⟩ := own_form ho.row
        have hgd : ∀ y ∈ laidL l q, good y = true ∧ ItOk y ∧ Bs w w.heap.size y.a y.x ∧ (y.a = none → y.c = 0 ∧ y.x.length = 0) := fun y hy => by
          have h1 := laidL_good hy
          exact ⟨h1.1, H.out.ok y h1.2, H.out.txt y h1.2⟩
        rw [allL_laid] at ho hxl
        have hby : Byt (allL [] (laidL l q)) := allL_byt _ _ (fun y hy => (hgd y hy).2.1.2.2.2.2) (fun x hx => by simp at hx)
        have hK := laidL_len l q
        generalize laidL l q = LK at *
        obtain ⟨K, hKe⟩ : ∃ K, K = LK.length := ⟨_, rfl⟩
        rw [← hKe] at ho hK ⊢
        obtain ⟨L, hL⟩ : ∃ L, L = (allL [] LK).length := ⟨_, rfl⟩
        rw [← hL] at hxl
        have hL9 : L ≤ 7001000 := by omega
        have HBB := hid (Bytes_any wr p v _ ho.wr.wr (by rw [← hL]; omega))
        have HO := hid ho
        have HGD := hid hgd
        have HBY := hid hby
        have HK := hid hKe
        have HL := hid hL
        clear ho hgd hby hKe hL HR hxl
        go_wp2_with fail
        refine HBB.out.mono ?_
        rintro e w2 ⟨v2, rfl, hrow2, hb2⟩
        rw [← HL.out] at hrow2
        obtain ⟨a2, k2, rfl, h02⟩ := own_form0 hrow2
        have O2 := hid (HO.out.on hb2)
        have HNR := hid (NewReader_any w2 a2 k2 L _ HL.out (own_bs hrow2) h02 (by omega))
        have HIR := hid (own_irow (by have := O2.out.row; rw [← HK.out] at this; exact this) (fun y hy => ⟨((HGD.out y hy).2.2.1.below O2.out.wr.below).mono O2.out.wr.below.size, (HGD.out y hy).2.2.2⟩) (fun y hy => (HGD.out y hy).2.1))
        clear hrow2 hb2 h02 HBB
        go_wp2_with fail
        refine HNR.out.mono ?_
        rintro e w3 ⟨p2, v3, rfl, hr3, hb3, hp3, hv3⟩
        have HM3 := hid (show BkRd w w3 w2.heap.size p2 v3 LK la 0 from ⟨hr3, O2.out.wr.below.trans (hb3.mono O2.out.wr.below.size), HIR.out.below hb3, hp3, O2.out.wr.below.size, hb3.size⟩)
        obtain ⟨B, hB⟩ : ∃ B, B = w2.heap.size := ⟨_, rfl⟩
        rw [← hB] at HM3
        clear hr3 hb3 hp3 hv3 HNR HIR O2 HO hB
        go_wp2
        go_loopw [8] (fun i wx => ∃ j : Nat, j ≤ K ∧ i = .int .i64 j ∧ RowKit.Hid (BkRd w wx B p2 v3 LK la j)) (fun i _ => K - (intOf i).toNat)
        case atStart => exact ⟨0, by omega, rfl, HM3⟩
        case round =>
          obtain ⟨j, hj, rfl, HX⟩ := hrel
          by_cases hjK : j < K
          · obtain ⟨b, o, rfl, _⟩ := HX.out.2.2.1.some (by rw [← HK.out]; omega)
            have hy : LK[j]? = some (LK[j]'(by rw [← HK.out]; omega)) := List.getElem?_eq_getElem _
            generalize LK[j]'(by rw [← HK.out]; omega) = y at hy
            have hgy := HGD.out y (List.mem_of_getElem? hy)
            have c0 := HX.out.2.2.1.c0 hy
            have c2 := HX.out.2.2.1.c2 hy
            have HY := hid hy
            have HGY := hid hgy
            clear hy hgy
            cases hyt : y.t with
            | true =>
              rw [hyt] at c0
              have HRD := hid (read_text HY.out HGY.out.1 hyt)
              clear hyt
              go_wp2_with fail
              refine (RdText_any _ p2 _ v3 _ 65535 HX.out.1 HBY.out (by rw [← HL.out]; omega) (by decide)).mono ?_
              rintro e w4 ⟨tv, rfl, hrow4, hr4, hf4⟩
              rw [HRD.out] at hrow4 hr4 ⊢
              simp only at hrow4 hr4 ⊢
              have hx4 := HX.out.go hr4 hf4
              obtain ⟨T, hT⟩ : ∃ T, T = y.x.length := ⟨_, rfl⟩
              have hT5 : T ≤ 65535 ∨ True := .inr trivial
              rw [← hT] at hrow4
              obtain ⟨ta, tk, rfl⟩ := own_form hrow4
              have d3 := hx4.2.2.1.c3 HY.out
              rw [← hT] at d3
              have HX4 := hid hx4
              have hT9 : T ≤ 1000000000 := by
                have h1 := rdT_len (b := allL [] LK) (a := pos LK j) (m := 65535)
                rw [HRD.out] at h1
                simp only at h1
                have := HL.out
                omega
              have HSB := hid (SameBytes_any w4 ta y.a tk y.c T T y.x y.x hT hT (own_bs hrow4) ((hx4.2.2.1.txt y (List.mem_of_getElem? HY.out)).1.mono hx4.2.2.2.2.2) hT9 hT9)
              clear hrow4 hr4 hf4 hx4 hT hT5 hT9 c0 c2
              go_wp2_with fail
              refine HSB.out.mono ?_
              rintro e w5 ⟨rfl, h5⟩
              have HX5 := hid (HX4.out.on h5)
              rw [show (y.x == y.x) = true by simp]
              clear h5 HSB d3
              go_wp2
              go_roundw
              case rel => exact ⟨j + 1, by omega, by go_num, HX5⟩
              case measure => simp [intOf]; omega
            | false =>
              rw [hyt] at c0
              have HRD := hid (read_num HY.out HGY.out.1 hyt HGY.out.2.1.1.1)
              clear hyt
              go_wp2_with fail
              refine (RdNum_any _ p2 _ v3 _ y.s HX.out.1 HBY.out (by rw [← HL.out]; omega)).mono ?_
              rintro e w4 ⟨rfl, hr4, hf4⟩
              rw [HRD.out] at hr4 ⊢
              simp only at hr4 ⊢
              have hx4 := HX.out.go hr4 hf4
              have d1 := hx4.2.2.1.c1 HY.out
              have HX4 := hid hx4
              have u1 : (y.n != y.n) = false := by simp
              clear hr4 hf4 hx4 c0 c2
              go_wp2
              go_roundw
              case rel => exact ⟨j + 1, by omega, by go_num, HX4⟩
              case measure => simp [intOf]; omega
          · obtain rfl : j = K := by omega
            have hpos : pos LK j = (allL [] LK).length := pos_all (by rw [← HK.out]; omega)
            have hx := HX.out
            unfold BkRd at hx
            rw [hpos] at hx
            have HE := hid (End_any _ p2 _ v3 _ hx.1 (by rw [← HL.out]; omega))
            have he : endC (allL [] LK).length (allL [] LK).length = 0 := if_pos rfl
            have HX' := hid hx
            rw [he] at HE
            clear hx hpos he HX
            go_wp2_with fail
            refine HE.out.mono ?_
            rintro e w6 ⟨rfl, h6⟩
            have H6 := hid (HX'.out.2.1.trans (h6.mono HX'.out.2.1.size))
            have HLE := hid (Left_any w6 p2 _ v3 _ (HX'.out.1.fr (Fr.of_below (fp := fun _ => False) h6) (fun h => h) (fun _ _ h => h)) (by rw [← HL.out]; omega))
            clear h6
            go_wp2_with fail
            refine HLE.out.mono ?_
            rintro e w7 ⟨rfl, h7⟩
            have H7 := hid (H6.out.trans (h7.mono H6.out.size))
            rw [show ((allL [] LK).length : Int) - ((allL [] LK).length : Int) = 0 by omega]
            clear h7
            go_wp2_with fail
            refine (awake_any _).mono ?_
            rintro e w8 ⟨rfl, h8⟩
            have H8 := hid (H7.out.trans (h8.mono H7.out.size))
            clear h8
            go_wp2
            go_ret
            exact ⟨rfl, H8.out⟩
end Go.Proofs.Ytdpdibhapjgdeaa
