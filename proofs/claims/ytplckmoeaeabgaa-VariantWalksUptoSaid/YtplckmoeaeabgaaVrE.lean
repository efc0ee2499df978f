/-
  The contract of the plain twin's Encode (layer 6), of a value that may be.
-/
import Derived.Test.YtplckmoeaeabgaaVrD
import Derived.Test.YtplckmoeaeabgaaVrA
import Derived.Test.YtplckmoeaeabgaaRfT
import Derived.Laws.IdiomStrings
namespace Go.Proofs.Ytplckmoeaeabgaa
open Go Go.ChangeShapes Go.WideShapes Go.ChangeAt Go.RowKit

set_option maxRecDepth 100000 in
/-- '[]byte(s)': new bytes. -/
theorem conv_bytes (w : World) (s : List Int) (hs : Byt s) : ∃ (cap : Nat) (w' : World), (convert 9 30 (.string (strI s))).run Try.prog w = .ok (.slice (some ⟨w.heap.size, 0, none⟩) s.length cap) w' ∧ Below w.heap.size w w' ∧ Bs w' w'.heap.size (some ⟨w.heap.size, 0, none⟩) s := by
  have h := run_bytes_of_string (P := Try.prog) w 9 30 5 (strI s) Try.underlying9 Try.underlying30 Try.underlying5
  rw [strI_size] at h
  refine ⟨_, _, h, ((Below.refl w.heap.size w).drew).alloc (Nat.le_refl _) _, ⟨fun _ => ⟨_, _, rfl, by simp⟩, fun b o he j v hv => ?_⟩⟩
  cases he
  have hj : j < s.length := by
    have := (List.getElem?_eq_some_iff.1 hv).1
    simpa [u8l] using this
  rw [u8l_at hj] at hv
  cases hv
  rw [Nat.zero_add]
  have hb := heap_alloc_new w.drew (.cells (bytesRow (strI s) (grownCap w s.length 0 5)) 5 ((bytesRow (strI s) (grownCap w s.length 0 5)).size, (bytesRow (strI s) (grownCap w s.length 0 5)).size + 1))
  have hc := cell_of_row _ w.drew.heap.size j _ _ _ hb
  have e : (⟨w.drew.heap.size, j, none⟩ : Addr) = ⟨w.heap.size, j, none⟩ := rfl
  rw [e] at hc
  rw [hc]
  unfold bytesRow strI
  have hx := hs _ (List.mem_of_getElem? (getD_at hj))
  rw [Array.getElem?_append_left (by simp; omega)]
  simp [hj]
  have h2 : s.getD j 0 = s[j] := by simp [hj]
  rw [h2] at hx
  omega
set_option maxRecDepth 100000 in
theorem wrap_u64_mod (n : Int) : IntKind.u64.wrap n = n % 18446744073709551616 := by simp [IntKind.wrap, IntKind.bits, IntKind.signed]
set_option maxRecDepth 100000 in
theorem chk_kind {m : Nat} {k n : Int} {s : List Int} {l : List Vr} (h : chk (m + 1) (.mk k n s l) = 0) : (k = 0 ∧ n = 0 ∧ s = [] ∧ l = []) ∨ (k = 1 ∧ (n = 0 ∨ n = 1) ∧ s = [] ∧ l = []) ∨ (k = 2 ∧ (-2147483648 ≤ n ∧ n ≤ 2147483647) ∧ s = [] ∧ l = []) ∨ ((k = 3 ∨ k = 5) ∧ s = [] ∧ l = []) ∨ (k = 4 ∧ n = 0 ∧ l = []) ∨ (k = 6 ∧ n = 0 ∧ s = []) := form_cases (chk_zero h).1
set_option maxRecDepth 100000 in
theorem fold_take {f : List Int → Vr → List Int} (hf : ∀ o x, ∃ r, f o x = o ++ r) {l : List Vr} {o : List Int} {q : Nat} {x : Vr} (h : l[q]? = some x) : (l.take (q + 1)).foldl f o = f ((l.take q).foldl f o) x ∧ (f ((l.take q).foldl f o) x).length ≤ (l.foldl f o).length := by
  have h1 : (l.take (q + 1)).foldl f o = f ((l.take q).foldl f o) x := by rw [List.take_add_one, h, Option.toList_some, List.foldl_append]; rfl
  refine ⟨h1, ?_⟩
  have h2 : l.foldl f o = (l.drop (q + 1)).foldl f ((l.take (q + 1)).foldl f o) := by rw [← List.foldl_append, List.take_append_drop]
  obtain ⟨r, hr⟩ := fold_more hf (l.drop (q + 1)) ((l.take (q + 1)).foldl f o)
  rw [h2, hr, h1]; simp
set_option maxHeartbeats 4000000 in
set_option maxRecDepth 100000 in
theorem Encode_any : ∀ (m : Nat) (v : Vr) (cs : List Value) (w : World) (ad : Option Addr) (cap L : Nat) (xs : List Int), chk m v = 0 → VIn w w.heap.size v cs → Bs w w.heap.size ad xs → L = xs.length → (ad = none → cap = 0 ∧ L = 0) → (encV m xs v).length ≤ 80000000000000 →
    Calls Try.prog 14 #[.slice ad L cap, .agg cs.toArray] w (RowPost w (encV m xs v))
  | 0, _, _, _, _, _, _, _, h, _, _, _, _, _ => by cases h
  | m + 1, v, cs, w, ad, cap, L, xs, hck, h, hb, hL, h0, hT => by
    obtain ⟨k, n, s, l⟩ := v
    obtain ⟨a, c, rfl, hc, _, hs, _, hn, hp⟩ := h.open
    simp only [Vr.k, Vr.n, Vr.s, Vr.l] at *
    have hkid := (chk_zero hck).2.2.2
    have hsl := (chk_zero hck).2.1
    have hll := (chk_zero hck).2.2.1
    simp only [Vr.l, Vr.s] at hkid hsl hll
    have hl1 := lay_len xs k 1
    obtain ⟨M, hM⟩ : ∃ M, M = l.length := ⟨_, rfl⟩
    rw [← hM] at hc ⊢
    have HM := hid hM
    have hxl : xs.length ≤ (encV (m + 1) xs (.mk k n s l)).length := by
      obtain ⟨r, hr⟩ := encV_more (m + 1) xs (.mk k n s l)
      rw [hr]; simp
    have hT1 : (lay xs k 1).length ≤ 80000000000100 := by
      have := gap_lt (n := xs.length) (k := 1) (.inl rfl)
      omega
    have HR1 := fun (hk0 : 0 ≤ k) (hk1 : k ≤ 6) W (hW : Below w.heap.size w W) => RNum_any W ad cap L xs k 1 ((hb.below hW).mono hW.size) hL h0 (.inl rfl) hk0 (by omega) (by omega)
    have hkr : 0 ≤ k ∧ k ≤ 6 := by rcases chk_kind hck with h | h | h | h | h | h <;> omega
    have HR := hid (HR1 hkr.1 hkr.2)
    have hwk : IntKind.u64.wrap k = k := IntWalk.u64_in _ ⟨by omega, by omega⟩
    have HWK := hid hwk
    have HP := hid hp
    have HT := hid hT
    have HS := hid hs
    have HKID := hid hkid
    have HCASE := hid (chk_kind hck)
    have hbw : Below w.heap.size w (w.alloc (.cells #[.int .i64 k, .int .i64 n, .string (strI s), .slice a M c] 24)) := (Below.refl _ _).alloc (Nat.le_refl _) _
    have hbx : (w.alloc (.cells #[.int .i64 k, .int .i64 n, .string (strI s), .slice a M c] 24)).heap[w.heap.size]? = some (.cells #[.int .i64 k, .int .i64 n, .string (strI s), .slice a M c] 24 (0, 0)) := heap_alloc_new _ _
    have HBW := hid hbw
    have HBX := hid hbx
    clear h hb hL h0 hT hck hs hp hkid hM HR1 hl1 hxl hbw hbx hkr
    obtain ⟨bs, hbs⟩ : ∃ bs, bs = strI s := ⟨_, rfl⟩
    rw [← hbs] at HBW HBX ⊢
    have HBS := hid hbs
    clear hbs
    go_enter Try.func14, Try.ntmps14
    go_wp2_with fail
    obtain ⟨w1, hw1⟩ : ∃ w1, w1 = w.alloc (.cells #[.int .i64 k, .int .i64 n, .string bs, .slice a M c] 24) := ⟨_, rfl⟩
    obtain ⟨bx, hbq⟩ : ∃ bx, bx = w.heap.size := ⟨_, rfl⟩
    rw [← hw1] at HBW HBX ⊢
    rw [← hbq] at HBX ⊢
    clear hw1 hbq hwk
    refine (HR.out w1 HBW.out).mono ?_
    rintro e w2 ⟨v2, rfl, hrow2, hb2⟩
    have hx2 := (hb2.block bx (lt_of_heap HBX.out)).trans HBX.out
    have HX2 := hid hx2
    have HB2 := hid (HBW.out.trans (hb2.mono HBW.out.size))
    have hrow2' := owns_low hrow2 HBW.out.size
    obtain ⟨L2, hL2⟩ : ∃ L2, L2 = (lay xs k 1).length := ⟨_, rfl⟩
    rw [← hL2] at hrow2 hrow2' hT1
    obtain ⟨a2, k2, rfl, h02⟩ := own_form0 hrow2
    have HROW2 := hid hrow2'
    have HBS2 := hid (own_bs hrow2)
    have HL2 := hid hL2
    have H02 := hid h02
    obtain ⟨c0, c1, c2, c3⟩ := box_cells hx2
    clear hb2 hx2 hrow2 hrow2' HBX hL2 h02 HR
    rcases HCASE.out with ⟨rfl, rfl, rfl, rfl⟩ | ⟨rfl, hn1, rfl, rfl⟩ | ⟨rfl, hn2, rfl, rfl⟩ | ⟨hk35, rfl, rfl⟩ | ⟨rfl, rfl, rfl⟩ | ⟨rfl, rfl, rfl⟩
    · have e : encV (m + 1) xs (.mk 0 0 [] []) = lay xs 0 1 := by simp [encV, Vr.k]
      have HE := hid e
      clear e
      go_wp2
      go_ret
      exact ⟨_, rfl, by rw [HE.out, ← HL2.out]; exact HROW2.out, HB2.out⟩
    · have e : encV (m + 1) xs (.mk 1 n [] []) = lay (lay xs 1 1) n 1 := by simp [encV, Vr.k, Vr.n]
      have HE := hid e
      have hw : IntKind.u64.wrap n = n := IntWalk.u64_in _ ⟨by omega, by omega⟩
      have HN := hid (RNum_any w2 a2 k2 L2 (lay xs 1 1) n 1 HBS2.out HL2.out H02.out (.inl rfl) (by omega) (by omega) (by omega))
      clear e HCASE
      go_wp2_with fail
      refine HN.out.mono ?_
      rintro e w3 ⟨v3, rfl, hrow3, hb3⟩
      have HROW3 := hid (owns_low hrow3 HB2.out.size)
      have HB3 := hid (HB2.out.trans (hb3.mono HB2.out.size))
      clear hrow3 hb3
      go_wp2
      go_ret
      exact ⟨_, rfl, by rw [HE.out]; exact HROW3.out, HB3.out⟩
    · have e : encV (m + 1) xs (.mk 2 n [] []) = lay (lay xs 2 1) (n % 4294967296) 4 := by simp [encV, Vr.k, Vr.n]
      have HE := hid e
      have hw : IntKind.u64.wrap n = n % 18446744073709551616 := wrap_u64_mod n
      obtain ⟨z, hz⟩ : ∃ z, z = n % 18446744073709551616 := ⟨_, rfl⟩
      rw [← hz] at hw
      have hz0 : 0 ≤ z ∧ z ≤ 18446744073709551615 := by omega
      have hzn : z % 4294967296 = n % 4294967296 := by omega
      have hw2 : IntKind.u64.wrap (z.tmod 4294967296) = z % 4294967296 := by
        rw [Int.tmod_eq_emod_of_nonneg hz0.1]; exact IntWalk.u64_in _ ⟨by omega, by omega⟩
      have HN := hid (RNum_any w2 a2 k2 L2 (lay xs 2 1) (n % 4294967296) 4 HBS2.out HL2.out H02.out (.inr (.inr (.inl rfl))) (by omega) (by omega) (by omega))
      rw [← hzn] at HN
      obtain ⟨hz1, hz2⟩ := hz0
      have HZN := hid hzn
      clear e HCASE hz hzn
      go_wp2_with fail
      refine HN.out.mono ?_
      rintro e w3 ⟨v3, rfl, hrow3, hb3⟩
      have HROW3 := hid (owns_low hrow3 HB2.out.size)
      have HB3 := hid (HB2.out.trans (hb3.mono HB2.out.size))
      clear hrow3 hb3
      go_wp2
      go_ret
      exact ⟨_, rfl, by rw [HE.out, ← HZN.out]; exact HROW3.out, HB3.out⟩
    · have e : encV (m + 1) xs (.mk k n [] []) = lay (lay xs k 1) (n % 18446744073709551616) 8 := by rcases hk35 with rfl | rfl <;> simp [encV, Vr.k, Vr.n]
      have HE := hid e
      have hw : IntKind.u64.wrap n = n % 18446744073709551616 := wrap_u64_mod n
      have HN := hid (RNum_any w2 a2 k2 L2 (lay xs k 1) (n % 18446744073709551616) 8 HBS2.out HL2.out H02.out (.inr (.inr (.inr rfl))) (by omega) (by omega) (by omega))
      obtain ⟨z, hz⟩ : ∃ z, z = n % 18446744073709551616 := ⟨_, rfl⟩
      rw [← hz] at hw HN HE
      clear e HCASE hz
      rcases hk35 with rfl | rfl
      all_goals
        go_wp2_with fail
        refine HN.out.mono ?_
        rintro e w3 ⟨v3, rfl, hrow3, hb3⟩
        have HROW3 := hid (owns_low hrow3 HB2.out.size)
        have HB3 := hid (HB2.out.trans (hb3.mono HB2.out.size))
        clear hrow3 hb3
        go_wp2
        go_ret
        exact ⟨_, rfl, by rw [HE.out]; exact HROW3.out, HB3.out⟩
    · have e : encV (m + 1) xs (.mk 4 0 s []) = layT (lay xs 4 1) s := by simp [encV, Vr.k, Vr.s]
      have HE := hid e
      obtain ⟨cc, wc, hcv, hbc, hbsc⟩ := conv_bytes w2 s HS.out
      rw [← HBS.out] at hcv
      have HN := hid (RText_any wc a2 (some ⟨w2.heap.size, 0, none⟩) k2 L2 cc s.length (lay xs 4 1) s ((HBS2.out.below hbc).mono hbc.size) HL2.out H02.out hbsc rfl (fun h => by cases h) (by omega) (by omega))
      have HBC := hid (HB2.out.trans (hbc.mono HB2.out.size))
      generalize s.length = sl at *
      clear e HCASE hbsc hbc
      go_wp2_with fail
      refine HN.out.mono ?_
      rintro e w3 ⟨v3, rfl, hrow3, hb3⟩
      have HROW3 := hid (owns_low hrow3 HBC.out.size)
      have HB3 := hid (HBC.out.trans (hb3.mono HBC.out.size))
      clear hrow3 hb3
      go_wp2
      go_ret
      exact ⟨_, rfl, by rw [HE.out]; exact HROW3.out, HB3.out⟩
    · have e : encV (m + 1) xs (.mk 6 0 [] l) = l.foldl (encV m) (lay (lay xs 6 1) l.length 4) := by simp [encV, Vr.k, Vr.l]
      rw [← HM.out] at e
      have HE := hid e
      have hw : IntKind.u64.wrap (M : Int) = M := IntWalk.u64_in _ ⟨by omega, by omega⟩
      have hM64 : M ≤ 64 := by have := HM.out; omega
      have HN := hid (RNum_any w2 a2 k2 L2 (lay xs 6 1) M 4 HBS2.out HL2.out H02.out (.inr (.inr (.inl rfl))) (by omega) (by omega) (by omega))
      obtain ⟨o4, ho4⟩ : ∃ o4, o4 = lay (lay xs 6 1) (M : Int) 4 := ⟨_, rfl⟩
      rw [← ho4] at HN HE
      have HT4 := hid (show (l.foldl (encV m) o4).length ≤ 80000000000000 by rw [← HE.out]; exact HT.out)
      clear e HCASE ho4
      go_wp2_with fail
      refine HN.out.mono ?_
      rintro e w3 ⟨v3, rfl, hrow3, hb3⟩
      have HROW3 := hid (owns_low hrow3 HB2.out.size)
      have HB3 := hid (HB2.out.trans (hb3.mono HB2.out.size))
      have HX3 := hid ((hb3.block bx (lt_of_heap HX2.out)).trans HX2.out)
      clear hrow3 hb3 c3 HX2 HROW2
      go_wp2
      go_loopw [5, 6] (fun ov i wr => ∃ q : Nat, q ≤ M ∧ i = .int .i64 q ∧ RowKit.Hid (wr.ownsRow w.heap.size 5 1 ov ((l.take q).foldl (encV m) o4).length (u8l ((l.take q).foldl (encV m) o4))) ∧ RowKit.Hid (Below w.heap.size w wr) ∧ RowKit.Hid (wr.heap[bx]? = some (.cells #[.int .i64 6, .int .i64 0, .string bs, .slice a M c] 24 (0, 0)))) (fun _ i _ => M - (intOf i).toNat)
      case atStart => exact ⟨0, by omega, rfl, hid (by rw [List.take_zero]; exact HROW3.out), HB3, HX3⟩
      case round =>
        obtain ⟨q, hq, rfl, HRr, HBr, HXr⟩ := hrel
        obtain ⟨_, _, _, c3⟩ := box_cells HXr.out
        obtain ⟨oa, ok, hov, hok0⟩ := own_form0 HRr.out
        obtain ⟨Q, hQ⟩ : ∃ Q, Q = ((l.take q).foldl (encV m) o4).length := ⟨_, rfl⟩
        rw [← hQ] at hov hok0
        subst hov
        have HQ := hid hQ
        by_cases hqM : q < M
        · have hx : l[q]? = some (l[q]'(by rw [← HM.out]; exact hqM)) := List.getElem?_eq_getElem _
          generalize l[q]'(by rw [← HM.out]; exact hqM) = x at hx
          obtain ⟨b, o, cx, rfl, hb, hat, hxin⟩ := HP.out q x hx
          have hinx := VIn.mono HBr.out.size (VIn.kept hxin HBr.out)
          obtain ⟨ax, kx, hcx, _⟩ := hinx.open
          have hat2 := hat.below HBr.out
          rw [hcx] at hat2
          obtain ⟨hft, hfl⟩ := fold_take (encV_more m) (o := o4) hx
          have hbo : Bs wr wr.heap.size oa ((l.take q).foldl (encV m) o4) := by
            have := HRr.out
            rw [← hQ] at this
            exact own_bs this
          have HIX := hid (Encode_any m x cx wr oa ok Q _ (HKID.out x (List.mem_of_getElem? hx)) hinx hbo hQ hok0 (Nat.le_trans hfl HT4.out))
          rw [← hft, hcx] at HIX
          obtain ⟨e0, e1, e2, e3⟩ := row_cells hat2
          clear hx hat hxin hinx hat2 hcx hft hfl hbo hQ hok0
          generalize x.k = xk at *
          generalize x.n = xn at *
          generalize strI x.s = xs' at *
          generalize x.l.length = xl at *
          go_wp2_with fail
          refine HIX.out.mono ?_
          rintro e w5 ⟨v5, rfl, hrow5, hb5⟩
          have HR5 := hid (owns_low hrow5 HBr.out.size)
          have HB5 := hid (HBr.out.trans (hb5.mono HBr.out.size))
          have HX5 := hid ((hb5.block bx (lt_of_heap HXr.out)).trans HXr.out)
          clear hrow5 hb5 e0 e1 e2 e3 c3
          go_wp2
          go_roundw
          case rel => exact ⟨q + 1, by omega, by go_num, HR5, HB5, HX5⟩
          case measure => simp [intOf]; omega
        · obtain rfl : q = M := by omega
          have hall : l.take q = l := List.take_of_length_le (by rw [HM.out]; exact Nat.le_refl _)
          have hr := HRr.out
          rw [hall, ← HE.out] at hr
          rw [hall, ← HE.out] at HQ
          have HR2 := hid hr
          clear hr hall HRr hQ
          go_wp2
          go_ret
          exact ⟨_, rfl, HR2.out, HBr.out⟩
end Go.Proofs.Ytplckmoeaeabgaa
