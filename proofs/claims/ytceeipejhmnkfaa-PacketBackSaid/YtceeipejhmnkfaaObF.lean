/-
  The plain twin's form of an Objref.
-/
import Derived.Test.YtceeipejhmnkfaaObE
import Derived.Test.YtceeipejhmnkfaaRfN
namespace Go.Proofs.Ytceeipejhmnkfaa
open Go Go.ChangeShapes Go.WideShapes Go.ChangeAt Go.RowKit

theorem AtL.news {W : World} {b o : Nat} {cs : List Value} (h : AtL W b o cs) : ∀ j u, cs[j]? = some u → W.cell? ((⟨b, o, none⟩ : Addr).add j) = some u := fun j u hu => by
  have h1 := h j u hu
  cases j with
  | zero => simpa [Addr.add] using h1
  | succ j => simpa [Addr.add] using h1
/-- A row of the call's own, since the world w1. -/
def ES (w1 W : World) (v : Value) (n : Nat) (xs : List Int) : Prop := W.ownsRow w1.heap.size 5 1 v n (u8l xs) ∧ Below w1.heap.size w1 W ∧ n = xs.length
set_option maxRecDepth 100000 in
theorem ES.num {w1 W : World} {a : Option Addr} {n c : Nat} {xs : List Int} (h : ES w1 W (.slice a n c) n xs) (z : Int) (k : Nat) (hk : Siz k) (hal : xs.length % k = 0) (h0 : 0 ≤ z) (h1 : z ≤ 18446744073709551615) (hl : n ≤ 1000000000000) :
    Calls Try.prog 30 #[.slice a n c, .int .u64 z, .int .i64 k] W fun e W' => ∃ a' c', e = .returned (.slice a' (n + k) c') ∧ ES w1 W' (.slice a' (n + k) c') (n + k) (xs ++ byt z k) := by
  have hl2 : (xs ++ byt z k).length = n + k := by rw [List.length_append, byt_len, h.2.2]
  have h00 : a = none → c = 0 ∧ n = 0 := fun ha => by
    obtain ⟨a', k', hv, hz⟩ := own_form0 h.1
    cases hv; exact hz ha
  refine (RNum_any W a c n xs z k (own_bs h.1) h.2.2 h00 hk h0 h1 (by omega)).mono fun e W' hp => ?_
  rw [lay_al hal] at hp
  obtain ⟨v, rfl, hr, hb⟩ := hp
  rw [hl2] at hr
  obtain ⟨a', c', rfl⟩ := own_form hr
  exact ⟨a', c', rfl, owns_low hr h.2.1.size, h.2.1.trans (hb.mono h.2.1.size), hl2.symm⟩
set_option maxRecDepth 100000 in
/-- .. with more behind it. -/
theorem ES.push {w1 W wa w5 : World} {v v5 : Value} {n m : Nat} {xs zs : List Int} (h : ES w1 W v n xs) (ha : Fr (fun _ => False) W wa) (hown : w5.ownsRow w1.heap.size 5 1 v5 m (u8l xs ++ u8l zs)) (hg : wa.grownBy w5 v.ownBlock) :
    ES w1 w5 v5 (n + zs.length) (xs ++ zs) := by
  have hr := h.1
  rw [h.2.2] at hr
  have := own_push h.2.1 hr ha hown hg
  rw [List.length_append, ← h.2.2] at this
  exact ⟨this.1, this.2, by rw [List.length_append, h.2.2]⟩
set_option maxRecDepth 100000 in
set_option maxHeartbeats 2000000 in
theorem refEncode_any (x : Orf) (hx : OrfOk x) (w : World) (ad : Option Addr) (cap L : Nat) (xs : List Int) (hb : Bs w w.heap.size ad xs) (hL : L = xs.length) (h0 : ad = none → cap = 0 ∧ L = 0) (h8 : L % 8 = 0) (hl : L ≤ 100000000000) :
    Calls Try.prog 31 #[.slice ad L cap, .agg (orA x)] w (RowPost w (xs ++ frmO x)) := by
  obtain ⟨i0, hi, hz0, hz1, hz2⟩ := info_parts info5
  have hi' := hid hi
  have hz0' := hid hz0
  have hz1' := hid hz1
  have hz2' := hid hz2
  have HLL := hid hL
  have H0 := hid h0
  have Hx := hid hx
  have H8 := hid h8
  obtain ⟨w1, hw1⟩ : ∃ w1, w1 = w.alloc (.cells (orA x) 58) := ⟨_, rfl⟩
  have ho : InO w1 w.heap.size x := by rw [hw1]; exact heap_alloc_new _ _
  have hsz : w1.heap.size = w.heap.size + 1 := by rw [hw1]; simp
  have hB1 : Below w.heap.size w w1 := by rw [hw1]; exact (Below.refl _ _).alloc (Nat.le_refl _) _
  have hb1 : Bs w1 w1.heap.size ad xs := (hb.below hB1).mono (by omega)
  have HO := hid ho
  have HSZ := hid hsz
  have HB1 := hid hB1
  have HB := hid hb1
  have HW1 := hid hw1
  have he0 : RowKit.Hid (ES w1 w1 (.slice none 0 0) 0 []) := hid ⟨World.ownsRow_nil _ _ _ _, Below.refl _ _, rfl⟩
  clear hi hz0 hz1 hz2 hL h0 hb hx h8 ho hsz hB1 hb1 hw1
  go_enter Try.func31, Try.ntmps31
  have HXL : RowKit.Hid (xs.length % 8 = 0) := hid (by rw [← HLL.out]; exact H8.out)
  have P4 : RowKit.Hid ((256 : Int) ^ 4 = 4294967296) := hid (by decide)
  go_upto_region 2 with (fail)
  rw [← HW1.out]
  cases ad
  case' none =>
    have hv : Value.slice none L cap = .slice none 0 0 := by
      obtain ⟨e1, e2⟩ := H0.out rfl
      rw [e1, e2]
    have hxx : xs = [] := List.eq_nil_of_length_eq_zero (by rw [← HLL.out]; exact (H0.out rfl).2)
    have HP : RowKit.Hid (∃ a c n W, (.slice none 0 0 : Value) = .slice a n c ∧ W = w1 ∧ ES w1 W (.slice a n c) n xs ∧ n ≤ 100000000000) := hid ⟨none, 0, 0, w1, rfl, rfl, by rw [hxx]; exact he0.out, by omega⟩
    rw [hv]
    clear hv hxx
    go_upto_region 3 with (at_builtin; refine wpList_append_own_none (o := ⟨some 8, _, _, _, _, _⟩) rfl (.tmp 6) (.tmp 7) 30 rfl w1.heap.size 5 i0 1 Try.underlying30 hi'.out (.slice none 0 0) 0 [] rfl (World.ownsRow_nil _ _ _ _) rfl ?_)
    obtain ⟨a6, c6, n6, w6, e6, ew6, h6, hn6⟩ := HP.out
    rw [e6, ← ew6]
    have HE6 := hid h6
    clear e6 ew6 h6 HP
  case' some ad =>
    have hnews : ∀ (j : Nat) (u : Value), (u8l xs)[j]? = some u → w1.cell? (ad.add j) = some u := fun j u hu => by
      have hj : j < xs.length := by
        have := (List.getElem?_eq_some_iff.1 hu).1
        simpa [u8l] using this
      obtain ⟨b, o', he, hbl⟩ := HB.out.some (by omega)
      cases he
      exact HB.out.news j u hu
    have HNW := hid hnews
    have HL1 := hid (show (u8l xs).length = L * 1 by rw [u8l_len, HLL.out]; omega)
    clear hnews
    go_upto_region 3 with (at_builtin; refine wpList_append_own_at _ (o := ⟨some 8, _, _, _, _, _⟩) rfl (.tmp 6) (.tmp 7) 30 rfl w1.heap.size 5 i0 (.int .u8 0) 1 1 Try.underlying30 hi'.out hz0'.out hz1'.out hz2'.out rfl (by decide) (.slice none 0 0) 0 [] rfl (World.ownsRow_nil _ _ _ _) ad L cap (u8l xs) rfl HL1.out HNW.out (u8l_one xs) (by unfold maxLen; omega) (by omega) (Nat.le_refl _) ?_; intro v5 w5 hown5 hgrow5 hnil5 hat5; have HO5 := hid hown5; have HG5 := hid hgrow5; clear hown5 hgrow5 hnil5 hat5; obtain ⟨a5, k5, rfl⟩ := own_form HO5.out)
    have hp : ES w1 w5 (.slice a5 (0 + L) k5) (0 + xs.length) ([] ++ xs) := he0.out.push (zs := xs) (Fr.refl _ w1) HO5.out HG5.out
    rw [Nat.zero_add, Nat.zero_add, List.nil_append, ← HLL.out] at hp
    obtain ⟨a6, c6, n6, w6, e6, ew6, h6, hn6⟩ : ∃ a c n W, (.slice a5 (0 + L) k5 : Value) = .slice a n c ∧ W = w5 ∧ ES w1 W (.slice a n c) n xs ∧ n ≤ 100000000000 := ⟨a5, k5, L, w5, by rw [Nat.zero_add], rfl, hp, hl⟩
    rw [Nat.zero_add] at e6
    rw [e6, ← ew6]
    have HE6 := hid h6
    clear e6 ew6 h6 hp HO5 HG5 HNW HL1
  all_goals
    clear H0 he0 HB
    go_upto_region 4 with (at_builtin; refine wpList_append_own_at _ (o := ⟨some 11, _, _, _, _, _⟩) rfl (.tmp 9) (.tmp 10) 30 rfl w1.heap.size 5 i0 (.int .u8 0) 1 1 Try.underlying30 hi'.out hz0'.out hz1'.out hz2'.out rfl (by decide) (.slice a6 n6 c6) n6 _ rfl (HE6.out.1.alloc _) ⟨w6.heap.size, 0, none⟩ 4 4 (u8l [77, 69, 79, 87]) rfl rfl (World.news_of_block (heap_alloc_new w6 _)) (u8l_one _) (by unfold maxLen; omega) (by omega) (by have := HE6.out.2.1.size; simp; omega) ?_; intro v5 w5 hown5 hgrow5 hnil5 hat5; have HO5 := hid hown5; have HG5 := hid hgrow5; clear hown5 hgrow5 hnil5 hat5; obtain ⟨a7, c7, rfl⟩ := own_form HO5.out)
    have h7 : ES w1 w5 (.slice a7 (n6 + 4) c7) (n6 + 4) (xs ++ byt 1464812877 4) := HE6.out.push (zs := [77, 69, 79, 87]) (frA w6 _) HO5.out HG5.out
    obtain ⟨w7, hw7⟩ : ∃ w7, w7 = w5 := ⟨_, rfl⟩
    rw [← hw7] at h7 ⊢
    have HE7 := hid h7
    clear h7 hw7 HO5 HG5 HE6
    have a0 := (HO.out.below HE7.out.2.1).c0
    have hwr : IntKind.u64.wrap x.fl = x.fl := IntWalk.u64_in _ ⟨by have := Hx.out.fl0; omega, by have := Hx.out.fl1; omega⟩
    go_wp2_with fail
    refine (HE7.out.num x.fl 4 (.inr (.inr (.inl rfl))) (by have := HXL.out; simp [byt_len]; omega) Hx.out.fl0 (by have := Hx.out.fl1; omega) (by omega)).mono ?_
    rintro e w8 ⟨a8, c8, rfl, h8⟩
    have HE8 := hid h8
    clear h8 HE7 a0 hwr
    have a0 := (HO.out.below HE8.out.2.1).c1
    have hwr : IntKind.u64.wrap x.rf = x.rf := IntWalk.u64_in _ ⟨by have := Hx.out.rf0; omega, by have := Hx.out.rf1; omega⟩
    go_wp2_with fail
    refine (HE8.out.num x.rf 4 (.inr (.inr (.inl rfl))) (by have := HXL.out; simp [byt_len]; omega) Hx.out.rf0 (by have := Hx.out.rf1; omega) (by omega)).mono ?_
    rintro e w9 ⟨a9, c9, rfl, h9⟩
    have HE9 := hid h9
    clear h9 HE8 a0 hwr
    go_upto_region 7 with (at_builtin; refine wpList_append_own_at _ (o := ⟨some 24, _, _, _, _, _⟩) rfl (.tmp 22) (.tmp 23) 30 rfl w1.heap.size 5 i0 (.int .u8 0) 1 1 Try.underlying30 hi'.out hz0'.out hz1'.out hz2'.out rfl (by decide) (.slice a9 (n6 + 4 + 4 + 4) c9) (n6 + 4 + 4 + 4) _ rfl (HE9.out.1.alloc _) ⟨w9.heap.size, 0, none⟩ 4 4 (u8l [0, 0, 0, 0]) rfl rfl (World.news_of_block (heap_alloc_new w9 _)) (u8l_one _) (by unfold maxLen; omega) (by omega) (by have := HE9.out.2.1.size; simp; omega) ?_; intro v5 w5 hown5 hgrow5 hnil5 hat5; have HO5 := hid hown5; have HG5 := hid hgrow5; clear hown5 hgrow5 hnil5 hat5; obtain ⟨a10, c10, rfl⟩ := own_form HO5.out)
    have h10 : ES w1 w5 (.slice a10 (n6 + 4 + 4 + 4 + 4) c10) (n6 + 4 + 4 + 4 + 4) (xs ++ byt 1464812877 4 ++ byt x.fl 4 ++ byt x.rf 4 ++ byt 0 4) := HE9.out.push (zs := [0, 0, 0, 0]) (frA w9 _) HO5.out HG5.out
    obtain ⟨w10, hw10⟩ : ∃ w10, w10 = w5 := ⟨_, rfl⟩
    rw [← hw10] at h10 ⊢
    have HE10 := hid h10
    clear h10 hw10 HO5 HG5 HE9
    have a0 := (HO.out.below HE10.out.2.1).c2
    go_wp2_with fail
    refine (HE10.out.num x.ox 8 (.inr (.inr (.inr rfl))) (by have := HXL.out; simp [byt_len]; omega) Hx.out.ox0 (by have := Hx.out.ox1; omega) (by omega)).mono ?_
    rintro e w11 ⟨a11, c11, rfl, h11⟩
    have HE11 := hid h11
    clear h11 HE10 a0
    have a0 := (HO.out.below HE11.out.2.1).c3
    go_wp2_with fail
    refine (HE11.out.num x.oi 8 (.inr (.inr (.inr rfl))) (by have := HXL.out; simp [byt_len]; omega) Hx.out.oi0 (by have := Hx.out.oi1; omega) (by omega)).mono ?_
    rintro e w12 ⟨a12, c12, rfl, h12⟩
    have HE12 := hid h12
    clear h12 HE11 a0
    have hsrc := ((HO.out.below HE12.out.2.1).ip Hx.out.ip.len).news
    have hl16 : (u8l x.ip).length = 16 * 1 := by rw [u8l_len, Hx.out.ip.len]
    have HS := hid hsrc
    have HL16 := hid hl16
    clear hsrc hl16
    go_upto_region 10 with (at_builtin; refine wpList_append_own_at _ (o := ⟨some 36, _, _, _, _, _⟩) rfl (.tmp 33) (.tmp 35) 30 rfl w1.heap.size 5 i0 (.int .u8 0) 1 1 Try.underlying30 hi'.out hz0'.out hz1'.out hz2'.out rfl (by decide) (.slice a12 (n6 + 4 + 4 + 4 + 4 + 8 + 8) c12) (n6 + 4 + 4 + 4 + 4 + 8 + 8) _ rfl HE12.out.1 ⟨w.heap.size, 4, none⟩ 16 16 (u8l x.ip) rfl HL16.out HS.out (u8l_one _) (by unfold maxLen; omega) (by omega) (by have := HE12.out.2.1.size; omega) ?_; intro v5 w5 hown5 hgrow5 hnil5 hat5; have HO5 := hid hown5; have HG5 := hid hgrow5; clear hown5 hgrow5 hnil5 hat5; obtain ⟨a13, c13, rfl⟩ := own_form HO5.out)
    have h13 : ES w1 w5 (.slice a13 (n6 + 4 + 4 + 4 + 4 + 8 + 8 + 16) c13) (n6 + 4 + 4 + 4 + 4 + 8 + 8 + x.ip.length) (xs ++ byt 1464812877 4 ++ byt x.fl 4 ++ byt x.rf 4 ++ byt 0 4 ++ byt x.ox 8 ++ byt x.oi 8 ++ x.ip) := HE12.out.push (zs := x.ip) (Fr.refl _ w12) HO5.out HG5.out
    rw [Hx.out.ip.len] at h13
    obtain ⟨w13, hw13⟩ : ∃ w13, w13 = w5 := ⟨_, rfl⟩
    rw [← hw13] at h13 ⊢
    have HE13 := hid h13
    clear h13 hw13 HO5 HG5 HE12 HS HL16
    have hsrc := ((HO.out.below HE13.out.2.1).ii Hx.out.ip.len).news
    have hl16 : (u8l x.ii).length = 16 * 1 := by rw [u8l_len, Hx.out.ii.len]
    have HS := hid hsrc
    have HL16 := hid hl16
    clear hsrc hl16
    go_wp2_with (at_builtin; refine wpList_append_own_at _ (o := ⟨some 40, _, _, _, _, _⟩) rfl (.tmp 37) (.tmp 39) 30 rfl w1.heap.size 5 i0 (.int .u8 0) 1 1 Try.underlying30 hi'.out hz0'.out hz1'.out hz2'.out rfl (by decide) (.slice a13 (n6 + 4 + 4 + 4 + 4 + 8 + 8 + 16) c13) (n6 + 4 + 4 + 4 + 4 + 8 + 8 + 16) _ rfl HE13.out.1 ⟨w.heap.size, 20, none⟩ 16 16 (u8l x.ii) rfl HL16.out HS.out (u8l_one _) (by unfold maxLen; omega) (by omega) (by have := HE13.out.2.1.size; omega) ?_; intro v5 w5 hown5 hgrow5 hnil5 hat5; have HO5 := hid hown5; have HG5 := hid hgrow5; clear hown5 hgrow5 hnil5 hat5; obtain ⟨a14, c14, rfl⟩ := own_form HO5.out)
    have h14 : ES w1 w5 (.slice a14 (n6 + 4 + 4 + 4 + 4 + 8 + 8 + 16 + 16) c14) (n6 + 4 + 4 + 4 + 4 + 8 + 8 + 16 + x.ii.length) (xs ++ byt 1464812877 4 ++ byt x.fl 4 ++ byt x.rf 4 ++ byt 0 4 ++ byt x.ox 8 ++ byt x.oi 8 ++ x.ip ++ x.ii) := HE13.out.push (zs := x.ii) (Fr.refl _ w13) HO5.out HG5.out
    rw [Hx.out.ii.len] at h14
    have HE14 := hid h14
    clear h14 HO5 HG5 HE13 HS HL16
    go_ret
    have hfin : xs ++ byt 1464812877 4 ++ byt x.fl 4 ++ byt x.rf 4 ++ byt 0 4 ++ byt x.ox 8 ++ byt x.oi 8 ++ x.ip ++ x.ii = xs ++ frmO x := by simp [frmO]
    have hE := HE14.out
    rw [hfin] at hE
    have hsz := HSZ.out
    refine ⟨_, rfl, ?_, HB1.out.trans (hE.2.1.mono (by omega))⟩
    rw [← hE.2.2]
    exact owns_low hE.1 (by omega)
end Go.Proofs.Ytceeipejhmnkfaa
