/-
  The plain twin's Encode of a right packet.
-/
import Derived.Test.YtceeipejhmnkfaaPkF
namespace Go.Proofs.Ytceeipejhmnkfaa
open Go Go.ChangeShapes Go.WideShapes Go.ChangeAt Go.RowKit

abbrev S8 : Siz 8 := .inr (.inr (.inr rfl))
theorem es_post {w w1 W : World} {v : Value} {n : Nat} {xs : List Int} (hB : Below w.heap.size w w1) (h : ES w1 W v n xs) : RowPost w xs (.returned v) W := by
  refine ⟨v, rfl, ?_, hB.trans (h.2.1.mono hB.size)⟩
  rw [← h.2.2]
  exact owns_low h.1 hB.size
set_option maxRecDepth 100000 in
set_option maxHeartbeats 4000000 in
theorem pkEncode_any (p : Pk) (hp : PkOk p) (hr : rightP p = true) (a : Option Addr) (c : Nat) (w : World) (hrw : RwO w w.heap.size a p.rs) (hc : p.rs.length ≤ c ∧ c ≤ 9223372036854775807) :
    Calls Try.prog 12 #[.agg (pkA p a c)] w (RowPost w (formP p)) := by
  obtain ⟨i0, hi, hz0, hz1, hz2⟩ := info_parts info5
  have hi' := hid hi
  have hz0' := hid hz0
  have hz1' := hid hz1
  have hz2' := hid hz2
  obtain ⟨w1, hw1⟩ : ∃ w1, w1 = w.alloc (.cells (pkA p a c) 28) := ⟨_, rfl⟩
  have ho : InP w1 w.heap.size p a c := by rw [hw1]; exact heap_alloc_new _ _
  have hsz : w1.heap.size = w.heap.size + 1 := by rw [hw1]; simp
  have hB1 : Below w.heap.size w w1 := by rw [hw1]; exact (Below.refl _ _).alloc (Nat.le_refl _) _
  have h16 := hp.ip.len
  obtain ⟨⟨f0, f1⟩, ⟨t0, t1⟩, ⟨k0, k1⟩⟩ := rightP_hd hr
  have wk : IntKind.u8.wrap p.ki = p.ki := IntWalk.u8_in _ ⟨by omega, by omega⟩
  have wf : IntKind.u8.wrap p.fr = p.fr := IntWalk.u8_in _ ⟨by omega, by omega⟩
  have wt : IntKind.u8.wrap p.to = p.to := IntWalk.u8_in _ ⟨by omega, by omega⟩
  have HO := hid ho
  have HSZ := hid hsz
  have HB1 := hid hB1
  have HW1 := hid hw1
  have HR := hid hr
  have HRW := hid hrw
  have HC := hid hc
  have hP := hid hp
  have c0 := ho.c0
  have c1 := ho.c1
  have c2 := ho.c2
  clear hi hz0 hz1 hz2 ho hsz hB1 hw1 hr hrw hc f0 f1 t0 t1 hp
  go_enter Try.func12, Try.ntmps12
  go_upto_region 1 with (fail)
  rw [← HW1.out]
  go_upto_region 2 with (fail)
  have h2 : ES w1 (w1.alloc (.cells (u8s [p.ki, p.fr, p.to]) 5)) (.slice (some ⟨w1.heap.size, 0, none⟩) 3 3) 3 [p.ki, p.fr, p.to] :=
    ⟨World.ownsRow_lit w1 (u8s [p.ki, p.fr, p.to]) 3 (Nat.le_refl _) (by unfold maxLen; omega) rfl, (Below.refl _ _).alloc (Nat.le_refl _) _, rfl⟩
  obtain ⟨w2, hw2⟩ : ∃ w2, w2 = w1.alloc (.cells (u8s [p.ki, p.fr, p.to]) 5) := ⟨_, rfl⟩
  change Code.wp _ _ _ _ (w1.alloc (.cells (u8s [p.ki, p.fr, p.to]) 5))
  rw [← hw2] at h2 ⊢
  have HE2 := hid h2
  clear c0 c1 c2 h2 hw2 wk wf wt HW1
  have c3 := (HO.out.below HE2.out.2.1).c3
  go_wp2_with fail
  refine (HE2.out.numG p.sq 8 S8 hP.out.sq.1 hP.out.sq.2 (by omega)).mono ?_
  rintro e w3 ⟨a3, d3, rfl, h3⟩
  rw [show lay [p.ki, p.fr, p.to] p.sq 8 = hdP p from rfl, hdP_len] at h3 ⊢
  have HE3 := hid h3
  clear h3 HE2 c3
  have b3 := HO.out.below HE3.out.2.1
  have c0 := b3.c0
  have c4 := b3.c4
  have HIP := hid (b3.ip.news)
  have HL16 := hid (show (u8l p.ip).length = 16 * 1 by rw [u8l_len, h16])
  clear b3
  by_cases hk1 : p.ki = 1
  · obtain ⟨hl1, ⟨m0, m1⟩, _, _⟩ := rightP_1 HR.out hk1
    have hF : formP p = lay (lay (lay (hdP p) p.ca 8 ++ p.ip ++ [p.me]) (un p.n) 8) p.rs.length 8 ++ refsP p := by rw [formP, if_pos hk1]
    have HF := hid hF
    have e1 : (p.ki == 1) = true := by simp [hk1]
    have wo : IntKind.u8.wrap p.me = p.me := IntWalk.u8_in _ ⟨by omega, by omega⟩
    have wl : IntKind.u64.wrap (p.rs.length : Int) = (p.rs.length : Int) := IntWalk.u64_in _ ⟨by omega, by omega⟩
    have HUN := hid (un_u64 p.n)
    clear hF hk1 k0 k1 m0 m1
    go_wp2_with fail
    refine (HE3.out.numG p.ca 8 S8 hP.out.ca.1 hP.out.ca.2 (by omega)).mono ?_
    rintro e w4 ⟨a4, d4, rfl, h4⟩
    rw [show (lay (hdP p) p.ca 8).length = 24 by rw [lay_len, hdP_len]; rfl] at h4 ⊢
    have HE4 := hid h4
    clear h4 HE3 c4 c0 HIP HL16
    have HIP := hid ((HO.out.below HE4.out.2.1).ip.news)
    have HL16 := hid (show (u8l p.ip).length = 16 * 1 by rw [u8l_len, h16])
    go_upto_region 7 with (at_builtin; refine wpList_append_own_at _ (o := ⟨some 29, _, _, _, _, _⟩) rfl (.tmp 26) (.tmp 28) 30 rfl w1.heap.size 5 i0 (.int .u8 0) 1 1 Try.underlying30 hi'.out hz0'.out hz1'.out hz2'.out rfl (by decide) (.slice a4 24 d4) 24 _ rfl HE4.out.1 ⟨w.heap.size, 5, none⟩ 16 16 (u8l p.ip) rfl HL16.out HIP.out (u8l_one _) (by unfold maxLen; omega) (by omega) (by have := HE4.out.2.1.size; omega) ?_; intro v5 w5 hown5 hgrow5 hnil5 hat5; have HO5 := hid hown5; have HG5 := hid hgrow5; clear hown5 hgrow5 hnil5 hat5; obtain ⟨a6, d6, rfl⟩ := own_form HO5.out)
    have h5 : ES w1 w5 (.slice a6 (24 + 16) d6) (24 + p.ip.length) (lay (hdP p) p.ca 8 ++ p.ip) := HE4.out.push (zs := p.ip) (Fr.refl _ w4) HO5.out HG5.out
    rw [h16] at h5
    obtain ⟨w6, hwn⟩ : ∃ w6, w6 = w5 := ⟨_, rfl⟩
    rw [← hwn] at h5 ⊢
    have HE5 := hid h5
    clear h5 hwn HO5 HG5 HE4 HIP HL16
    have c21 := (HO.out.below HE5.out.2.1).c21 h16
    go_upto_region 8 with (at_builtin; refine wpList_append_own_at _ (o := ⟨some 35, _, _, _, _, _⟩) rfl (.tmp 30) (.tmp 34) 30 rfl w1.heap.size 5 i0 (.int .u8 0) 1 1 Try.underlying30 hi'.out hz0'.out hz1'.out hz2'.out rfl (by decide) (.slice a6 (24 + 16) d6) (24 + 16) _ rfl (HE5.out.1.alloc _) ⟨w6.heap.size, 0, none⟩ 1 1 (u8l [p.me]) rfl rfl (World.news_of_block (heap_alloc_new w6 _)) (u8l_one _) (by unfold maxLen; omega) (by omega) (by have := HE5.out.2.1.size; simp; omega) ?_; intro v5 w5 hown5 hgrow5 hnil5 hat5; have HO5 := hid hown5; have HG5 := hid hgrow5; clear hown5 hgrow5 hnil5 hat5; obtain ⟨a5, d5, rfl⟩ := own_form HO5.out)
    have h7 : ES w1 w5 (.slice a5 ((24 + 16) + 1) d5) ((24 + 16) + 1) (lay (hdP p) p.ca 8 ++ p.ip ++ [p.me]) := HE5.out.push (zs := [p.me]) (frA w6 _) HO5.out HG5.out
    obtain ⟨w7, hwn⟩ : ∃ w7, w7 = w5 := ⟨_, rfl⟩
    rw [← hwn] at h7 ⊢
    have HE7 := hid h7
    clear h7 hwn HO5 HG5 HE5 c21 wo
    have c22 := (HO.out.below HE7.out.2.1).c22 h16
    go_wp2_with fail
    refine (HE7.out.numG (un p.n) 8 S8 HUN.out.1 HUN.out.2 (by omega)).mono ?_
    rintro e w8 ⟨a8, d8, rfl, h8⟩
    rw [show (lay (lay (hdP p) p.ca 8 ++ p.ip ++ [p.me]) (un p.n) 8).length = 56 by rw [lay_len]; simp [lay_len, hdP_len, h16]; rfl] at h8 ⊢
    have HE8 := hid h8
    clear h8 HE7 c22
    have c24 := (HO.out.below HE8.out.2.1).c24 h16
    go_wp2_with fail
    refine (HE8.out.numG (p.rs.length : Int) 8 S8 (by omega) (by omega) (by omega)).mono ?_
    rintro e w9 ⟨a9, d9, rfl, h9⟩
    rw [show (lay (lay (lay (hdP p) p.ca 8 ++ p.ip ++ [p.me]) (un p.n) 8) p.rs.length 8).length = 64 by rw [lay_len, show (lay (lay (hdP p) p.ca 8 ++ p.ip ++ [p.me]) (un p.n) 8).length = 56 by rw [lay_len]; simp [lay_len, hdP_len, h16]; rfl]; rfl] at h9 ⊢
    have HE9 := hid h9
    clear h9 HE8 c24 wl
    have c24 := (HO.out.below HE9.out.2.1).c24 h16
    have hrs : p.rs = [] ∨ ∃ x, p.rs = [x] := by
      match hq : p.rs with
      | [] => exact .inl rfl
      | [x] => exact .inr ⟨x, rfl⟩
      | x :: y :: t => rw [hq] at hl1; simp at hl1
    rcases hrs with h0 | ⟨x, hx⟩
    · have d7 : ((p.rs.length : Int) == 1) = false := by simp [h0]
      have HQ := hid (show refsP p = [] by simp [refsP, h0])
      clear h0 hl1
      go_wp2_with fail
      go_ret
      rw [HF.out, HQ.out, List.append_nil]
      exact es_post HB1.out HE9.out
    · have hok : OrfOk x := hP.out.rs x (by rw [hx]; simp)
      have hl : p.rs.length = 1 := by rw [hx]; rfl
      have HQ := hid (show refsP p = frmO x by simp [refsP, hx])
      have hB9 := HB1.out.trans (HE9.out.2.1.mono HB1.out.size)
      have hrw9 : RwO w9 w9.heap.size a [x] := by have := HRW.out.on hB9; rwa [hx] at this
      obtain ⟨bo, oo, rfl, _⟩ := hrw9.at_ (by simp)
      have hat := hrw9.rows bo oo rfl 0 x rfl
      have HAT := hid (show AtL w9 bo oo (orc x) by simpa using hat)
      have HB9 := hid hB9
      obtain ⟨xs9, hxs⟩ : ∃ xs9, xs9 = lay (lay (lay (hdP p) p.ca 8 ++ p.ip ++ [p.me]) (un p.n) 8) p.rs.length 8 := ⟨_, rfl⟩
      rw [← hxs] at HF HE9
      rw [hl] at c24
      have hl9 : (64 : Nat) = xs9.length := HE9.out.2.2
      have h00 : a9 = none → d9 = 0 ∧ 64 = 0 := fun ha => by
        obtain ⟨a', k', hv, hz⟩ := own_form0 HE9.out.1
        cases hv; exact hz ha
      have HEN := hid (refEncode_any x hok w9 a9 d9 64 xs9 (own_bs HE9.out.1) hl9 h00 rfl (by omega))
      clear hx hl1 hB9 hrw9 hat hxs hl hl9 h00
      go_wp2_with (first | ((with_reducible refine at_op ⟨some 55, _, _, _, _, _⟩ ?_); refine wpList_runW rfl (.agg (orA x)) (load_oa rfl rfl HAT.out hok) ?_) | fail)
      refine HEN.out.mono ?_
      rintro e w10 ⟨v, rfl, hown, hb10⟩
      have HO10 := hid hown
      have HB10 := hid hb10
      clear hown hb10 HEN HAT c24
      go_wp2_with fail
      go_ret
      rw [HF.out, HQ.out]
      refine ⟨_, rfl, owns_low HO10.out HB9.out.size, HB9.out.trans (HB10.out.mono HB9.out.size)⟩
  by_cases hk2 : p.ki = 2
  · obtain ⟨_, _, _, o0, o1⟩ := rightP_2 HR.out hk2
    have hF : formP p = lay (lay (hdP p) p.ca 8 ++ [p.co]) (un p.n) 8 := by rw [formP, if_neg hk1, if_pos hk2]
    have HF := hid hF
    have e1 : (p.ki == 1) = false := by simp [hk1]
    have e2 : (p.ki == 2) = true := by simp [hk2]
    have wo : IntKind.u8.wrap p.co = p.co := IntWalk.u8_in _ ⟨by omega, by omega⟩
    have HUN := hid (un_u64 p.n)
    clear hF hk1 hk2 k0 k1 o0 o1
    go_wp2_with fail
    refine (HE3.out.numG p.ca 8 S8 hP.out.ca.1 hP.out.ca.2 (by omega)).mono ?_
    rintro e w4 ⟨a4, d4, rfl, h4⟩
    rw [show (lay (hdP p) p.ca 8).length = 24 by rw [lay_len, hdP_len]; rfl] at h4 ⊢
    have HE4 := hid h4
    clear h4 HE3 c4 HIP HL16
    have c23 := (HO.out.below HE4.out.2.1).c23 h16
    go_upto_region 15 with (at_builtin; refine wpList_append_own_at _ (o := ⟨some 68, _, _, _, _, _⟩) rfl (.tmp 63) (.tmp 67) 30 rfl w1.heap.size 5 i0 (.int .u8 0) 1 1 Try.underlying30 hi'.out hz0'.out hz1'.out hz2'.out rfl (by decide) (.slice a4 24 d4) 24 _ rfl (HE4.out.1.alloc _) ⟨w4.heap.size, 0, none⟩ 1 1 (u8l [p.co]) rfl rfl (World.news_of_block (heap_alloc_new w4 _)) (u8l_one _) (by unfold maxLen; omega) (by omega) (by have := HE4.out.2.1.size; simp; omega) ?_; intro v5 w5 hown5 hgrow5 hnil5 hat5; have HO5 := hid hown5; have HG5 := hid hgrow5; clear hown5 hgrow5 hnil5 hat5; obtain ⟨a5, d5, rfl⟩ := own_form HO5.out)
    have h5 : ES w1 w5 (.slice a5 (24 + 1) d5) (24 + 1) (lay (hdP p) p.ca 8 ++ [p.co]) := HE4.out.push (zs := [p.co]) (frA w4 _) HO5.out HG5.out
    obtain ⟨w6, hwn⟩ : ∃ w6, w6 = w5 := ⟨_, rfl⟩
    rw [← hwn] at h5 ⊢
    have HE5 := hid h5
    clear h5 hwn HO5 HG5 HE4 c23 wo
    have c22 := (HO.out.below HE5.out.2.1).c22 h16
    go_wp2_with fail
    refine (HE5.out.numG (un p.n) 8 S8 HUN.out.1 HUN.out.2 (by omega)).mono ?_
    rintro e w7 ⟨a7, d7, rfl, h7⟩
    have HE7 := hid h7
    clear h7 HE5 c22
    go_wp2_with fail
    go_ret
    rw [HF.out]
    exact es_post HB1.out HE7.out
  by_cases hk34 : p.ki = 3 ∨ p.ki = 4
  · have hF : formP p = lay (hdP p ++ p.ip) (un p.n) 8 := by rw [formP, if_neg hk1, if_neg hk2, if_pos hk34]
    have HF := hid hF
    have e1 : (p.ki == 1) = false := by simp [hk1]
    have e2 : (p.ki == 2) = false := by simp [hk2]
    have hun := un_u64 p.n
    have HUN := hid hun
    have h3 : ∃ q : Bool, (p.ki == 3) = q ∧ (q = false → (p.ki == 4) = true) := ⟨_, rfl, fun h => by simp at h ⊢; omega⟩
    obtain ⟨q, e3, e4⟩ := h3
    clear hF hk1 hk2 hk34 k0 k1 hun c4
    cases q
    case' false => have e4' := e4 rfl
    all_goals
      clear e4
      go_upto_region 19 with (at_builtin; refine wpList_append_own_at _ (o := ⟨some 80, _, _, _, _, _⟩) rfl (.tmp 77) (.tmp 79) 30 rfl w1.heap.size 5 i0 (.int .u8 0) 1 1 Try.underlying30 hi'.out hz0'.out hz1'.out hz2'.out rfl (by decide) (.slice a3 16 d3) 16 _ rfl HE3.out.1 ⟨w.heap.size, 5, none⟩ 16 16 (u8l p.ip) rfl HL16.out HIP.out (u8l_one _) (by unfold maxLen; omega) (by omega) (by have := HE3.out.2.1.size; omega) ?_; intro v5 w5 hown5 hgrow5 hnil5 hat5; have HO5 := hid hown5; have HG5 := hid hgrow5; clear hown5 hgrow5 hnil5 hat5; obtain ⟨a5, d5, rfl⟩ := own_form HO5.out)
      have h4 : ES w1 w5 (.slice a5 (16 + 16) d5) (16 + p.ip.length) (hdP p ++ p.ip) := HE3.out.push (zs := p.ip) (Fr.refl _ w3) HO5.out HG5.out
      rw [h16] at h4
      obtain ⟨w4, hw4⟩ : ∃ w4, w4 = w5 := ⟨_, rfl⟩
      rw [← hw4] at h4 ⊢
      have HE4 := hid h4
      have c22 := (HO.out.below HE4.out.2.1).c22 h16
      clear h4 hw4 HO5 HG5 HE3 HIP HL16
      go_wp2_with fail
      refine (HE4.out.numG (un p.n) 8 S8 HUN.out.1 HUN.out.2 (by omega)).mono ?_
      rintro e w6 ⟨a6, d6, rfl, h6⟩
      have HE6 := hid h6
      clear h6 HE4 c22
      go_wp2_with fail
      go_ret
      rw [HF.out]
      exact es_post HB1.out HE6.out
  have hk5 : p.ki = 5 := by omega
  have hF : formP p = hdP p := by rw [formP, if_neg hk1, if_neg hk2, if_neg hk34]
  have e1 : (p.ki == 1) = false := by simp [hk5]
  have e2 : (p.ki == 2) = false := by simp [hk5]
  have e3 : (p.ki == 3) = false := by simp [hk5]
  have e4 : (p.ki == 4) = false := by simp [hk5]
  have HF := hid hF
  clear hF hk1 hk2 hk34 hk5 k0 k1
  go_wp2_with fail
  go_ret
  rw [HF.out]
  exact es_post HB1.out HE3.out
end Go.Proofs.Ytceeipejhmnkfaa
