/-
  The contract of the plain twin's Read, a list's arm.
-/
import Derived.Test.YtjpegddellhbkaaVrQ
namespace Go.Proofs.Ytjpegddellhbkaa
open Go Go.ChangeShapes Go.WideShapes Go.ChangeAt Go.RowKit

theorem VS.cells' {w : World} {S : Nat → Prop} {v : Vr} {cs : List Value} (h : VS w S v cs) : ∃ ck cn cb ca cl cc, cs = [.int .i64 ck, .int .i64 cn, .string cb, .slice ca cl cc] := by
  cases h
  exact ⟨_, _, _, _, _, _, rfl⟩
theorem heap_keep2 {W : World} {p : Nat} {o : Obj} (x : Obj) (h : W.heap[p]? = some o) : (W.alloc x).heap[p]? = some o := (Below.heap_alloc W x p (lt_of_heap h)).trans h
theorem part_ok2 {a b c d : Nat} {o : Option Nat} {pR pV p : Nat} (h1 : a ≤ c) (h2 : c ≤ b) (h3 : b < d) (h4 : ∀ b, o = some b → b < c) (hR : pR < c) (hV : pV < c) (hp : p < c) : a ≤ b ∧ b < d ∧ o ≠ some b ∧ b ≠ pR ∧ b ≠ pV ∧ b ≠ p :=
  ⟨by omega, h3, fun e => by have := h4 b e; omega, by omega, by omega, by omega⟩
set_option maxHeartbeats 4000000 in
set_option maxRecDepth 100000 in
theorem Read_list (m : Nat) (w : World) (ad : Option Addr) (cap L a N i j : Nat) (xs : List Int) (d : Int) (r : Vr × Nat × Int) (hbs : Bs w w.heap.size ad xs) (hL : L = xs.length) (hby : Byt xs) (hd8 : d ≤ 8) (hd1 : 0 ≤ d)
    (h1 : ∀ W, Below w.heap.size w W → Calls Try.prog 49 #[.slice ad L cap, .int .i64 a, .int .i64 1] W fun e w' => e = .returned (.tuple #[.int .u64 6, .int .i64 j, .int .i64 0]) ∧ W = w')
    (h2 : ∀ W, Below w.heap.size w W → Calls Try.prog 49 #[.slice ad L cap, .int .i64 j, .int .i64 4] W fun e w' => e = .returned (.tuple #[.int .u64 N, .int .i64 i, .int .i64 0]) ∧ W = w')
    (hN64 : N ≤ 64) (hpl2 : i ≤ xs.length) (ih : ∀ W (jq : Nat), Bs W W.heap.size ad xs → jq ≤ L → Calls Try.prog 38 #[.slice ad L cap, .int .i64 jq, .int .i64 (d + 1)] W (ReadPost W (rdVr m xs jq)))
    (hr : r = if (rdL (rdVr m xs) N i []).2.2 ≠ 0 then (none0, a, (rdL (rdVr m xs) N i []).2.2) else (.mk 6 0 [] (rdL (rdVr m xs) N i []).1, (rdL (rdVr m xs) N i []).2.1, 0)) :
    Calls Try.prog 38 #[.slice ad L cap, .int .i64 a, .int .i64 d] w (ReadPost w r) := by
  have HB2 := hid (fun o o' => ((Below.refl w.heap.size w).alloc (Nat.le_refl _) o).alloc (show w.heap.size ≤ (w.alloc o).heap.size by simp) o')
  have HB3 := hid (fun o o' o'' => (((Below.refl w.heap.size w).alloc (Nat.le_refl _) o).alloc (show w.heap.size ≤ (w.alloc o).heap.size by simp) o').alloc (show w.heap.size ≤ ((w.alloc o).alloc o').heap.size by simp; omega) o'')
  have hdd : decide (8 < d) = false := by simp; omega
  have H1 := hid h1
  have H2 := hid h2
  have IH := hid ih
  have HBS := hid hbs
  have HL := hid hL
  have HBY := hid hby
  have HPL2 := hid hpl2
  clear h1 h2 ih hbs hL hby hpl2
  have hdn : decide ((64 : Int) < (N : Int)) = false := by simp; omega
  have hwN : IntKind.i64.wrap (N : Int) = N := IntWalk.i64_in _ (by omega)
  have HSP := hid hr
  obtain ⟨i0, hi, hz0, hz1, hz2⟩ := info_parts infoVar
  have hi' := hid hi
  have hz0' := hid hz0
  have hz1' := hid hz1
  have hz2' := hid hz2
  clear hr hi hz0 hz1 hz2
  go_enter Try.func38, Try.ntmps38
  go_wp2_with fail
  refine (H1.out _ (HB2.out _ _)).mono ?_
  rintro e w' ⟨rfl, rfl⟩
  go_wp2_with fail
  refine (H2.out _ (HB3.out _ _ _)).mono ?_
  rintro e w' ⟨rfl, rfl⟩
  go_wp2
  have h3 := HB3.out (.cells #[.int .i64 0, .int .i64 0, .string ⟨#[]⟩, .slice none 0 0] 24) (.cells #[.int .i64 0, .int .i64 0, .string ⟨#[]⟩, .slice none 0 0] 24) (.cells #[.int .i64 6, .int .i64 0, .string ⟨#[]⟩, .slice none 0 0] 24)
  have hR3 := heap_alloc3_old w (.cells #[.int .i64 0, .int .i64 0, .string ⟨#[]⟩, .slice none 0 0] 24) (.cells #[.int .i64 0, .int .i64 0, .string ⟨#[]⟩, .slice none 0 0] 24) (.cells #[.int .i64 6, .int .i64 0, .string ⟨#[]⟩, .slice none 0 0] 24)
  have hN3 := heap_alloc3_mid w (.cells #[.int .i64 0, .int .i64 0, .string ⟨#[]⟩, .slice none 0 0] 24) (.cells #[.int .i64 0, .int .i64 0, .string ⟨#[]⟩, .slice none 0 0] 24) (.cells #[.int .i64 6, .int .i64 0, .string ⟨#[]⟩, .slice none 0 0] 24)
  have hV3 := heap_alloc_new ((w.alloc (.cells #[.int .i64 0, .int .i64 0, .string ⟨#[]⟩, .slice none 0 0] 24)).alloc (.cells #[.int .i64 0, .int .i64 0, .string ⟨#[]⟩, .slice none 0 0] 24)) (.cells #[.int .i64 6, .int .i64 0, .string ⟨#[]⟩, .slice none 0 0] 24)
  rw [show ((w.alloc (.cells #[.int .i64 0, .int .i64 0, .string ⟨#[]⟩, .slice none 0 0] 24)).alloc (.cells #[.int .i64 0, .int .i64 0, .string ⟨#[]⟩, .slice none 0 0] 24)).heap.size = w.heap.size + 1 + 1 by simp] at hV3
  obtain ⟨w3, hw3⟩ : ∃ w3, w3 = ((w.alloc (.cells #[.int .i64 0, .int .i64 0, .string ⟨#[]⟩, .slice none 0 0] 24)).alloc (.cells #[.int .i64 0, .int .i64 0, .string ⟨#[]⟩, .slice none 0 0] 24)).alloc (.cells #[.int .i64 6, .int .i64 0, .string ⟨#[]⟩, .slice none 0 0] 24) := ⟨_, rfl⟩
  obtain ⟨pR, hpR⟩ : ∃ pR, pR = w.heap.size := ⟨_, rfl⟩
  obtain ⟨pN, hpN⟩ : ∃ pN, pN = w.heap.size + 1 := ⟨_, rfl⟩
  obtain ⟨pV, hpV⟩ : ∃ pV, pV = w.heap.size + 1 + 1 := ⟨_, rfl⟩
  rw [← hw3] at h3 hR3 hN3 hV3 ⊢
  rw [← hpV] at hV3 ⊢
  rw [← hpN] at hN3 ⊢
  rw [← hpR] at hR3 ⊢
  have hne : pV ≠ pR := by omega
  have hneN : pN ≠ pR := by omega
  have hneV : pN ≠ pV := by omega
  have hloR : w.heap.size ≤ pR := by omega
  have hloN : w.heap.size ≤ pN := by omega
  have hloV : w.heap.size ≤ pV := by omega
  have HP3 := hid (show PRow w w3 (.slice none 0 0) pR pV pN [] [] from ⟨rfl, fun d hd => by simp at hd, World.ownsRow_nil _ _ _ _, fun b hb => by simp [Value.ownBlock] at hb, fun i x c hx => by simp at hx⟩)
  have H3 := hid h3
  have HR3 := hid hR3
  have HN3 := hid hN3
  have HV3 := hid hV3
  clear hw3 hpR hpN hpV h3 hR3 hN3 hV3
  go_loopw [22, 24] (fun pl ix wr => ∃ (q jq : Nat) (ps : List Vr) (lv : Value), q ≤ N ∧ jq ≤ L ∧ ix = .int .i64 q ∧ pl = .int .i64 jq ∧ RowKit.Hid (∃ css, PRow w wr lv pR pV pN ps css) ∧ RowKit.Hid (Below w.heap.size w wr) ∧ RowKit.Hid (wr.heap[pR]? = some (.cells #[.int .i64 0, .int .i64 0, .string ⟨#[]⟩, .slice none 0 0] 24 (0, 0))) ∧ RowKit.Hid (wr.heap[pN]? = some (.cells #[.int .i64 0, .int .i64 0, .string ⟨#[]⟩, .slice none 0 0] 24 (0, 0))) ∧ RowKit.Hid (wr.heap[pV]? = some (.cells #[.int .i64 6, .int .i64 0, .string ⟨#[]⟩, lv] 24 (0, 0))) ∧ RowKit.Hid (ps.length = q ∧ rdL (rdVr m xs) N i [] = rdL (rdVr m xs) (N - q) jq ps)) (fun _ ix _ => N - (intOf ix).toNat)
  case atStart => exact ⟨0, i, [], .slice none 0 0, by omega, by rw [HL.out]; exact HPL2.out, rfl, rfl, hid ⟨[], HP3.out⟩, H3, HR3, HN3, HV3, hid ⟨rfl, rfl⟩⟩
  case round =>
    obtain ⟨q, jq, ps, lv, hq, hjq, rfl, rfl, HPR, HBr, HRr, HNr, HVr, HSQ⟩ := hrel
    obtain ⟨css, hpr⟩ := HPR.out
    obtain ⟨la, lk, hlv⟩ := own_form hpr.row
    rw [HSQ.out.1] at hlv
    subst hlv
    obtain ⟨n0, n1, n2, n3⟩ := box_cells HNr.out
    have zR := fun k => frozen_of_row wr pR k _ _ HRr.out
    have zV := fun k => frozen_of_row wr pV k _ _ HVr.out
    have HPR' := hid hpr
    clear hpr HPR
    by_cases hqN : q < N
    · have HIX := hid (IH.out wr jq ((HBS.out.below HBr.out).mono HBr.out.size) hjq)
      have hpinv := fun v k h => rdVr_inv m xs HBY.out jq v k (by rw [← HL.out]; exact hjq) h
      have hunf : rdL (rdVr m xs) (N - q) jq ps = if (rdVr m xs jq).2.2 ≠ 0 then ([], jq, (rdVr m xs jq).2.2) else rdL (rdVr m xs) (N - (q + 1)) (rdVr m xs jq).2.1 (ps ++ [(rdVr m xs jq).1]) := by
        rw [show N - q = (N - (q + 1)) + 1 by omega]; rfl
      generalize rdVr m xs jq = rr at *
      obtain ⟨x, j2, e3⟩ := rr
      simp only at hunf HIX
      have HUN := hid hunf
      have HPI := hid hpinv
      clear hunf hpinv n0 n1 n2 n3 zR zV
      go_wp2_with fail
      rename_i K9 h9 K6 h6 K5 h5
      have H6 := hid h6
      clear h6
      refine HIX.out.mono ?_
      rintro e w5 ⟨cs, rfl, hcs, hb5⟩
      simp only at hcs
      obtain ⟨ck, cn, cb, ca, cl, cc, rfl⟩ := VS.cells' hcs
      have hR5 := (hb5.block pR (lt_of_heap HRr.out)).trans HRr.out
      have hN5 := (hb5.block pN (lt_of_heap HNr.out)).trans HNr.out
      have hV5 := (hb5.block pV (lt_of_heap HVr.out)).trans HVr.out
      have hB5 := HBr.out.trans (hb5.mono HBr.out.size)
      have hpr5 := HPR'.out.fr (Fr.of_below (fp := fun _ => False) hb5) (fun k h => h.elim)
      have hR6 := heap_keep2 (.cells #[.int .i64 ck, .int .i64 cn, .string cb, .slice ca cl cc] 24) hR5
      have hN6 := heap_keep2 (.cells #[.int .i64 ck, .int .i64 cn, .string cb, .slice ca cl cc] 24) hN5
      have hV6 := heap_keep2 (.cells #[.int .i64 ck, .int .i64 cn, .string cb, .slice ca cl cc] 24) hV5
      have hX6 := heap_alloc_new w5 (.cells #[.int .i64 ck, .int .i64 cn, .string cb, .slice ca cl cc] 24)
      have hB6 := hB5.alloc hB5.size (.cells #[.int .i64 ck, .int .i64 cn, .string cb, .slice ca cl cc] 24)
      have hpr6 := hpr5.fr (frA w5 (.cells #[.int .i64 ck, .int .i64 cn, .string cb, .slice ca cl cc] 24)) (fun k h => h.elim)
      have hx6 : VS (w5.alloc (.cells #[.int .i64 ck, .int .i64 cn, .string cb, .slice ca cl cc] 24)) (fun b => w.heap.size ≤ b ∧ b < (w5.alloc (.cells #[.int .i64 ck, .int .i64 cn, .string cb, .slice ca cl cc] 24)).heap.size ∧ (Value.slice la q lk).ownBlock ≠ some b ∧ b ≠ pR ∧ b ≠ pV ∧ b ≠ pN) x [.int .i64 ck, .int .i64 cn, .string cb, .slice ca cl cc] :=
        VS.weak (fun b hb => part_ok2 HBr.out.size hb.1 (by simp; omega) (fun b h => (HPR'.out.row.lt b h).2) (lt_of_heap HRr.out) (lt_of_heap HVr.out) (lt_of_heap HNr.out))
          (VS.of_blocks (fun b hb => Below.heap_alloc w5 _ b hb.2) hcs)
      obtain ⟨w6, hw6⟩ : ∃ w6, w6 = w5.alloc (.cells #[.int .i64 ck, .int .i64 cn, .string cb, .slice ca cl cc] 24) := ⟨_, rfl⟩
      obtain ⟨bX, hbX⟩ : ∃ bX, bX = w5.heap.size := ⟨_, rfl⟩
      rw [← hw6] at hR6 hN6 hV6 hX6 hB6 hpr6 hx6
      rw [← hbX] at hX6
      have HR6 := hid hR6
      have HN6 := hid hN6
      have HV6 := hid hV6
      have HX6 := hid hX6
      have HB6 := hid hB6
      have HPR6 := hid hpr6
      have HXV6 := hid hx6
      have HW6 := hid hw6
      have HBX := hid hbX
      clear hR5 hN5 hV5 hB5 hpr5 hR6 hN6 hV6 hX6 hB6 hpr6 hx6 hw6 hbX hcs hb5 HIX
      go_wp2
      rw [← HW6.out, ← HBX.out]
      clear HW6 HBX
      refine H6.out _ _ ?_
      by_cases he3 : e3 = 0
      · subst he3
        have hj2 := (HPI.out x j2 rfl).2.2.2.1
        have hun := HUN.out
        rw [if_neg (by simp)] at hun
        have HUN' := hid hun
        have hrow6 := HPR6.out.row
        rw [HSQ.out.1] at hrow6
        obtain ⟨v0, v1, v2, v3⟩ := box_cells HV6.out
        obtain ⟨p0, p1, p2, p3⟩ := box_cells HX6.out
        have hs6 := HB6.out.size
        have HROW6 := hid hrow6
        have HNEWS := hid (World.news_of_block (heap_alloc_new w6 (.cells #[.int .i64 ck, .int .i64 cn, .string cb, .slice ca cl cc] 24)))
        have HJ2 := hid hj2
        clear hun hrow6 HUN HPI hj2
        go_wp2_with (at_builtin; refine wpList_append_own_at _ (o := ⟨some 159, _, _, _, _, _⟩) rfl (.tmp 156) (.tmp 158) 22 rfl w.heap.size 24 i0 (.agg #[.int .i64 0, .int .i64 0, .string ⟨#[]⟩, .slice none 0 0]) 4 56 Try.underlying22 hi'.out hz0'.out hz1'.out hz2'.out rfl (by decide) (.slice la q lk) q _ rfl (HROW6.out.alloc _) ⟨w6.heap.size, 0, none⟩ 1 1 [.int .i64 ck, .int .i64 cn, .string cb, .slice ca cl cc] rfl rfl HNEWS.out (by simp [Value.oneCell']) (by unfold maxLen; omega) (by omega) (by simp; omega) ?_; intro v7 w7 hown7 hgrow7 hnil7 hat7; obtain ⟨a7, k7, rfl⟩ := own_form hown7; have hV7 := (hgrow7.block pV (by have := lt_of_heap HV6.out; simp at this ⊢; omega) (fun e => (HPR6.out.ne pV e.symm).2.1 rfl)).trans (heap_keep2 _ HV6.out); obtain ⟨_, _, _, c73⟩ := box_cells hV7; have z73 := frozen_of_row w7 pV 3 _ _ hV7; have HV7 := hid hV7; have HO7 := hid hown7; have HG7 := hid hgrow7; have HA7 := hid hat7; clear hown7 hgrow7 hnil7 hat7 hV7 v0 v1 v2 v3)
        have hpush := HPR6.out.push (x := x) (cs := [.int .i64 ck, .int .i64 cn, .string cb, .slice ca cl cc]) (ob := (.cells #[.int .i64 ck, .int .i64 cn, .string cb, .slice ca cl cc] 24)) rfl HXV6.out HO7.out HG7.out HA7.out (lt_of_heap HR6.out) (lt_of_heap HV6.out) (lt_of_heap HN6.out)
        have hf73 : Fr (fun b => b = pV) w7 (w7.setCell ⟨pV, 3, none⟩ (.slice a7 (q + 1) k7)) := (Fr.refl (fun b => b = pV) w7).setCell ⟨pV, 3, none⟩ _ (fun _ => rfl)
        have HP8 := hid (hpush.fr hf73 (fun k hk => .inr (.inl hk)))
        have hR7 := (HG7.out.block pR (by have := lt_of_heap HR6.out; simp at this ⊢; omega) (fun e => (HPR6.out.ne pR e.symm).1 rfl)).trans (heap_keep2 _ HR6.out)
        have hN7 := (HG7.out.block pN (by have := lt_of_heap HN6.out; simp at this ⊢; omega) (fun e => (HPR6.out.ne pN e.symm).2.2 rfl)).trans (heap_keep2 _ HN6.out)
        have HR8 := hid ((hf73.block pR (lt_of_heap hR7) (fun e => hne e.symm)).trans hR7)
        have HN8 := hid ((hf73.block pN (lt_of_heap hN7) hneV).trans hN7)
        have HV8 := hid (show (w7.setCell ⟨pV, 3, none⟩ (.slice a7 (q + 1) k7)).heap[pV]? = some (.cells #[.int .i64 6, .int .i64 0, .string ⟨#[]⟩, .slice a7 (q + 1) k7] 24 (0, 0)) by rw [heap_setCell_same w7 pV 3 _ _ _ HV7.out]; rfl)
        have HB8 := hid (((HB6.out.alloc HB6.out.size _).grown HG7.out (by simp; omega) (fun k hk => (HPR6.out.row.lt k hk).1)).trans (hf73.below (by have h9 := HG7.out.size; simp at h9 ⊢; omega) (fun k hk => by rw [hk]; exact hloV)))
        clear hpush hf73 hR7 hN7 HO7 HG7 HA7 c73 z73
        go_roundw
        case rel => exact ⟨q + 1, j2, ps ++ [x], _, by omega, by rw [HL.out]; exact HJ2.out, by go_num, rfl, hid ⟨_, HP8.out⟩, HB8, HR8, HN8, HV8, hid ⟨by rw [List.length_append, HSQ.out.1]; rfl, by rw [HSQ.out.2, HUN'.out]⟩⟩
        case measure => simp [intOf]; omega
      · have hde : (e3 != 0) = true := by simpa using he3
        have hun := HUN.out
        rw [if_pos he3] at hun
        have HR := hid (show r = (none0, a, e3) by rw [HSP.out, HSQ.out.2, hun]; rw [if_pos he3])
        obtain ⟨n0, n1, n2, n3⟩ := box_cells HN6.out
        obtain ⟨r0, r1, r2, r3⟩ := box_cells HR6.out
        have zR := fun k => frozen_of_row w6 pR k _ _ HR6.out
        have HBF := hid (show Below w.heap.size w (put4 w6 pR (.int .i64 0) (.int .i64 0) (.string ⟨#[]⟩) (.slice none 0 0)) from HB6.out.trans ((put4_fr _ pR _ _ _ _).below HB6.out.size (fun k hk => by rw [hk]; exact hloR)))
        have HHF := hid (put4_heap (c0 := .int .i64 0) (c1 := .int .i64 0) (c2 := .string ⟨#[]⟩) (c3 := .slice none 0 0) HR6.out)
        clear hun he3 HUN HPI
        go_wp2
        exact read_ret rfl rfl rfl HHF.out ⟨_, by rw [HR.out]; rfl, by rw [HR.out]; exact none_in _ _, HBF.out⟩
    · obtain rfl : q = N := by omega
      have hsq := HSQ.out.2
      rw [Nat.sub_self] at hsq
      have HR := hid (show r = (.mk 6 0 [] ps, jq, 0) by rw [HSP.out, hsq]; rfl)
      obtain ⟨v0, v1, v2, v3⟩ := box_cells HVr.out
      obtain ⟨r0, r1, r2, r3⟩ := box_cells HRr.out
      have HBF := hid (show Below w.heap.size w (put4 wr pR (.int .i64 6) (.int .i64 0) (.string ⟨#[]⟩) (.slice la q lk)) from HBr.out.trans ((put4_fr _ pR _ _ _ _).below HBr.out.size (fun k hk => by rw [hk]; exact hloR)))
      have HHF := hid (put4_heap (c0 := .int .i64 6) (c1 := .int .i64 0) (c2 := .string ⟨#[]⟩) (c3 := .slice la q lk) HRr.out)
      have HPF := hid (HPR'.out.fr (put4_fr wr pR (.int .i64 6) (.int .i64 0) (.string ⟨#[]⟩) (.slice la q lk)) (fun k hk => .inl hk))
      clear hsq n0 n1 n2 n3
      go_wp2
      exact read_ret rfl rfl rfl HHF.out ⟨_, by rw [HR.out]; rfl, by rw [HR.out]; exact HPF.out.list HSQ.out.1.symm, HBF.out⟩
end Go.Proofs.Ytjpegddellhbkaa
