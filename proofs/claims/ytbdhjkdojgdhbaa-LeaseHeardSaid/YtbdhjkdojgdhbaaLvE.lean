/-
  Leases: the walk of Tick.
-/
import Derived.Test.YtbdhjkdojgdhbaaLvD
namespace Go.Proofs.Ytbdhjkdojgdhbaa
open Go Go.ChangeShapes Go.WideShapes Go.ChangeAt Go.RowKit Go.Maps

theorem own_baseL {w : World} {B B' k n : Nat} {T : TypeId} {v : Value} {xs : List Value} (hB : B' ≤ B) (h : w.ownsRow B T k v n xs) : w.ownsRow B' T k v n xs := by
  refine ⟨h.1, ?_⟩
  rcases h.2 with e | ⟨g, cap, cur, rfl, hb, rest⟩
  · exact .inl e
  · exact .inr ⟨g, cap, cur, rfl, Nat.le_trans hB hb, rest⟩
theorem own_up {w : World} {B B' k n g c : Nat} {T : TypeId} {xs : List Value} (hB : B' ≤ g) (h : w.ownsRow B T k (.slice (some ⟨g, 0, none⟩) n c) n xs) : w.ownsRow B' T k (.slice (some ⟨g, 0, none⟩) n c) n xs := by
  refine ⟨h.1, ?_⟩
  rcases h.2 with ⟨e, _⟩ | ⟨g', cap, cur, e, hb, rest⟩
  · cases e
  · cases e
    exact .inr ⟨g, c, cur, rfl, hB, rest⟩
/-- Who is over was struck out, and told. -/
theorem TkW.push {w w4 w5 : World} {p b r n cnt : Nat} {z : Lz} {left : Lit → Bool} {x : Int} {vo v2 : Value} {ss : List Int} {o : Obj} (hpl : p < w.heap.size) (hbl : b < w.heap.size)
    (hrg : w4.ranges Try.prog TU (plainElem (H := Unit) Try.prog 3) b r n ((datO (remL z left)).del (.int .u64 x)) (fun q => strike left x q && !q.sameKey (.int .u64 x)) cnt) (hp4 : w4.heap[p]? = some (.cells #[iv z.time, iv (z.now + 1), .map (some b)] TLz (0, 0)))
    (hrow : w4.ownsRow w.heap.size TU 1 vo ss.length (ss.map u64v)) (hf4 : Fr (fun k => k = p ∨ k = b) w w4) (hle : ss.length + 1 + cnt ≤ z.l.length) (hrb : w.heap.size ≤ r) (hcl : CollO z (strike left x) (ss ++ [x])) (hcut : outK x (remL z left) = remL z (strike left x))
    (k1 : w5.ownsRow w.heap.size TU 1 v2 (ss.length + 1) ((ss ++ [x]).map u64v)) (k2 : (w4.alloc o).grownBy w5 vo.ownBlock) : TkW w w5 p b r n z (strike left x) cnt v2 (ss ++ [x]) := by
  have hf : Fr (fun k => vo.ownBlock = some k) w4 w5 := ((Fr.refl _ w4).alloc o).grown k2 (fun k hk _ => hk)
  have hst : (fun q => strike left x q && !q.sameKey (.int .u64 x)) = strike left x := Maps.strike_twice left (.int .u64 x)
  rw [hst, datO_cut, hcut] at hrg
  have hlow : ∀ k, vo.ownBlock = some k → w.heap.size ≤ k := fun k hk => (hrow.lt k hk).1
  refine ⟨fr_ranges hrg hf (fun e => by have := hlow b e; omega) (fun e => ?_), ?_, by simpa using k1, hcl, hf4.trans hf (fun k e hk => by have := hlow k e; omega), by simp; omega, hrb⟩
  · obtain ⟨es, clock, since, seen, c0, _, _, _, _, h5, _⟩ := hrg
    rcases hrow.2 with ⟨rfl, _⟩ | ⟨g, cap, cur, rfl, _, hgb, _⟩
    · cases e
    · cases e
      rw [hgb] at h5
      cases h5
  · rw [hf.block p (Array.getElem?_eq_some_iff.1 hp4).1 (fun e => by have := hlow p e; omega)]; exact hp4
section
variable {w : World} {p b n : Nat} {z : Lz}
/-- What a Tick that took place leaves. -/
def TickP (w : World) (p b : Nat) (z : Lz) (u : Value) (w' : World) : Prop :=
  Told TU u64v w' u (overK z) ∧ (∀ k, u.ownBlock = some k → w.heap.size ≤ k ∧ k < w'.heap.size) ∧ (∃ n', LeI w' p b n' z.tick) ∧ Fr (fun k => k = p ∨ k = b) w w'
theorem tick_end {w1 wr w2 : World} {left : Lit → Bool} {cnt : Nat} {vo : Value} {ss : List Int} (h0 : LeI w p b n z) (hw : w1.heap.size = w.heap.size) (hf1 : Fr (fun k => k = p) w w1) (hK : TkW w1 wr p b w1.heap.size n z left cnt vo ss) (hl : ∀ q, left q = false) {g : Nat} (hg : w1.heap.size ≤ g) (hf : Fr (fun k => k = g) wr w2) {u : Value} {m : Nat}
    (hu : w2.ownsRow w1.heap.size TU 1 u m ((overK z).map u64v)) : TickP w p b z u w2 := by
  have h1 := hK.lei h0
  rw [rem_end hl] at h1
  have hp := h0.ltp
  have hb := h0.ltb
  have hff : Fr (fun k => k = p ∨ k = b) w w2 := (hf1.mono (fp2 := fun k => k = p ∨ k = b) (fun k e _ => .inl e)).trans (hK.fr.trans (fp2 := fun k => k = g) hf (fun k e hk => by omega)) (fun k e _ => e)
  refine ⟨own_toldU hu, fun k hk => ⟨by rw [← hw]; exact (hu.lt k hk).1, (hu.lt k hk).2⟩, ⟨n, h1.fr hf (by omega) (by omega)⟩, hff⟩
set_option maxRecDepth 100000 in
set_option maxHeartbeats 8000000 in
theorem Tick_le (h : LeI w p b n z) (hrise : Rise z.l) (ht : z.time ≤ 1000000) (hnow : 0 ≤ z.now ∧ z.now ≤ 100000000) (hl : z.l.length ≤ 100000) (hat : ∀ x ∈ z.l, 0 ≤ x.2 ∧ x.2 ≤ z.now) :
    Calls Try.prog 18 #[.pointer (some ⟨p, 0, none⟩)] w fun e w' => ∃ u, e = .returned u ∧ TickP w p b z u w' := by
  obtain ⟨now, hnowe⟩ : ∃ now, now = z.now := ⟨_, rfl⟩
  obtain ⟨T, hT⟩ : ∃ T, T = z.time := ⟨_, rfl⟩
  have hwn := IntWalk.i64_in (now + 1) (by omega)
  have c1 := h.c1
  have z1 := h.fz 1
  rw [← hnowe] at c1
  obtain ⟨w1, hw1⟩ : ∃ w1, w1 = w.setCell ⟨p, 1, none⟩ (iv (now + 1)) := ⟨_, rfl⟩
  have hf1 : Fr (fun b => b = p) w w1 := by rw [hw1]; exact (Fr.refl _ _).setCell _ _ (fun _ => rfl)
  have hm1 : LeI w1 p b n ⟨z.time, now + 1, z.l⟩ := by
    refine ⟨?_, hf1.ownsMap h.hm h.ne, h.ne, h.tm, h.hk⟩
    rw [hw1, heap_setCell_same w p 1 _ _ _ h.hp]
    rfl
  have hsz : w1.heap.size = w.heap.size := by rw [hw1]; simp
  have d2 := hm1.c2
  have HH := hid h
  have HM := hid (made_any h ht)
  have HF1 := hid hf1
  have HW1 := hid hw1
  have HSZ := hid hsz
  have H1 := hid hm1
  have HR := hid hrise
  have HAT := hid hat
  have HNOW := hid hnowe
  have HT := hid hT
  have tm := h.tm
  rw [← hnowe] at hnow
  rw [← hT] at ht tm
  clear h hw1 hf1 hm1 hsz hrise hat hnowe hT
  go_enter Try.func18, Try.ntmps18
  go_upto_region 4 with (first
    | (go_at_call 29; refine HM.out.mono ?_; rintro e w' ⟨rfl, rfl⟩)
    | fail)
  change Code.wp _ _ _ _ (w.setCell ⟨p, 1, none⟩ (iv (now + 1)))
  rw [← HW1.out]
  clear c1 z1 hwn HM
  go_wp2_with (first
    | (at_range; refine wpList_range_own _ rfl _ TMp rfl TU 3 lawUi Try.underlying55 _ b n _ rfl H1.out.hm ?_; intro w0 hrg0 hg0 hs0)
    | fail)
  have H0 := hid (show TkW w1 w0 p b w1.heap.size n z (Maps.has (datO z.l)) (Maps.size (datO z.l)) (.slice none 0 0) [] from by
    have hf : Fr (fun _ => False) w1 w0 := (Fr.refl _ _).grown hg0 (fun k e => by cases e)
    refine ⟨?_, ?_, World.ownsRow_nil _ _ _ _, CollO.start z, hf.mono (fun _ e _ => e.elim), by rw [datO_size]; simp, Nat.le_refl _⟩
    · rw [rem_start]; exact hrg0
    · rw [hf.block p H1.out.ltp (fun e => e), ← HNOW.out]; exact H1.out.hp)
  clear hrg0 hg0 hs0 d2
  go_loopw [3] (fun vo wr => ∃ (left : Lit → Bool) (cnt : Nat) (ss : List Int), RowKit.Hid (TkW w1 wr p b w1.heap.size n z left cnt vo ss)) (fun _ wr => wr.rangeLeft b w1.heap.size)
  case atStart => exact ⟨_, _, [], H0⟩
  case round =>
    obtain ⟨left, cnt, ss, HK⟩ := hrel
    go_wp2_with (first
      | (at_next; refine wpList_next_ranges_ii _ rfl _ rfl TU 3 .u64 .i64 lawUi Try.underlying31 Try.underlying3 b w1.heap.size n _ _ _ rfl HK.out.rg ?_ ?_)
      | fail)
    · intro hc0 hl0
      have hp := HK.out.cl.perm HR.out hl0
      have hor := over_rise HR.out
      have hlen : ss.length ≤ 100000 := by have := HK.out.le; omega
      rcases HK.out.row.2 with ⟨hv, hn0⟩ | ⟨g, cap, cur, hv, hbg, _⟩
      · subst hv
        have hs0 : ss = [] := List.length_eq_zero_iff.1 hn0
        rw [hs0] at hp
        have HO := hid (List.nil_perm.1 hp)
        have HL0 := hid hl0
        have HS := hid Sort_none
        clear hp hor hl0 hc0
        go_wp2_with (first
          | (go_at_call 30; refine (HS.out _).mono ?_; rintro e w' ⟨rfl, rfl⟩)
          | fail)
        go_ret
        refine ⟨_, rfl, tick_end HH.out HSZ.out HF1.out HK.out HL0.out (g := w1.heap.size) (Nat.le_refl _) (Fr.refl _ _) (m := 0) ?_⟩
        rw [HO.out]
        exact World.ownsRow_nil _ _ _ _
      · subst hv
        have HL0 := hid hl0
        have HBG := hid hbg
        have HS := hid (Sort_u (own_baseL (Nat.zero_le _) HK.out.row) (by omega) hp hor)
        clear hp hor hl0 hc0
        go_wp2_with (first
          | (go_at_call 30; refine HS.out.mono ?_; rintro e w2 ⟨rfl, hs1, hs2⟩; have HS1 := hid hs1; have HS2 := hid hs2; clear hs1 hs2)
          | fail)
        go_ret
        refine ⟨_, rfl, tick_end HH.out HSZ.out HF1.out HK.out HL0.out HBG.out HS2.out (own_up HBG.out HS1.out)⟩
    · intro x c w2 cnt2 hwx hwc hlx hat hrg2 hlt hg2 hs2 hen
      obtain ⟨va, vc, hvo⟩ := own_form HK.out.row
      subst hvo
      have hmem : (x, c) ∈ z.l := (List.mem_filter.1 (mem_datO hat)).1
      have hcc := HAT.out _ hmem
      rw [← HNOW.out] at hcc
      obtain ⟨q1, q2, q3⟩ := HK.out.next H1.out.ltp hg2 hrg2
      have hL2 : LeI w2 p b n ⟨z.time, now + 1, remL z left⟩ := ⟨by rw [q2, HNOW.out], hrg2.owns, HH.out.ne, HH.out.tm, fun y hy => HH.out.hk y (List.mem_filter.1 hy).1⟩
      have hlf := left_any hL2 (by show z.time ≤ 1000000; rw [← HT.out]; exact ht) (by show now + 1 ≤ 1000000000; omega) (t := c) (by show 0 ≤ c ∧ c ≤ now + 1; omega)
      change Calls Try.prog 27 _ _ (fun e w' => e = .returned (iv (z.time - (now + 1 - c))) ∧ _) at hlf
      rw [← HT.out] at hlf
      have hlen := HK.out.le
      have hrb := HK.out.rb
      have hpl := H1.out.ltp
      have HLF := hid hlf
      have HQ1 := hid q1
      have HQ2 := hid q2
      have HQ3 := hid q3
      have HRG := hid hrg2
      have HLT := hid hlt
      have HLX := hid hlx
      have HMEM := hid hmem
      have HXK := hid (keyUi (HH.out.hk _ hmem))
      have HL2 := hid hL2
      clear hat hmem q1 q2 q3 hL2 hlf hrg2 hlt hlx hwx hwc hg2 hs2
      by_cases hd : T - (now + 1 - c) ≤ 0
      · have HD := hid (show dueB z (x, c) = true by unfold dueB; rw [← HNOW.out, ← HT.out]; simp; omega)
        go_wp2_with fail
        refine HLF.out.mono ?_
        rintro e w3 ⟨rfl, hf3⟩
        have d2 := (HL2.out.no hf3).c2
        have HRG3 := hid (fr_ranges HRG.out hf3 (fun e => e) (fun e => e))
        have HF3 := hid hf3
        clear hf3 HLF
        go_wp2_with (first
          | (at_delete; refine wpList_delete_ranges _ rfl _ _ TMp TU rfl 3 lawUi Try.underlying55 _ b w1.heap.size n _ _ _ rfl HRG3.out _ _ rfl HXK.out ?_; intro w4 cnt3 hrg4 hle4 ht4; have HR4 := hid ((fr_mapTurned ht4).owns (HF3.out.owns HQ3.out (fun _ _ e => e)) (fun k hk e => by have := (HQ3.out.lt k hk).1; have := H1.out.ltb; omega)); have HS4 := hid (HQ1.out.size); have HS5 := hid (Nat.le_trans HF3.out.size (fr_mapTurned ht4).size); have HRG4 := hid hrg4; have HLE4 := hid hle4; have HT4 := hid ht4; clear hrg4 hle4 ht4)
          | ((with_reducible refine at_op ⟨some 38, _, _, _, _, _⟩ ?_); go_loud (refine wpList_pushU rfl (.tmp 35) (.tmp 37) rfl w1.heap.size (.slice va ss.length vc) ss.length ss x rfl (World.ownsRow.alloc HR4.out _) w4.heap.size 1 rfl (by rw [cell_of_row _ _ 0 _ _ _ (heap_alloc_new w4 _)]; rfl) (by omega) (by have := HS4.out; have := HS5.out; simp; omega) ?_); intro v2 w5 k1 k2; have HK5 := hid (TkW.push (left := left) H1.out.ltp H1.out.ltb HRG4.out (by
              rw [(fr_mapTurned HT4.out).block p (by have := HS4.out; have := HF3.out.size; omega) (fun e => HH.out.ne e.symm), HF3.out.block p (by have := HS4.out; omega) (fun e => e)]
              exact HQ2.out) HR4.out ((HQ1.out.trans HF3.out (fun _ e _ => e.elim)).trans (fr_mapTurned HT4.out) (fun k e _ => .inr e)) (by have := HLE4.out; have := HLT.out; omega) hrb (HK.out.cl.take HLX.out HMEM.out HD.out) (rem_cut HR.out HMEM.out HD.out) k1 k2); clear k1 k2)
          | fail)
        go_roundw
        case rel => exact ⟨_, _, _, HK5⟩
        case measure => rw [HK5.out.rg.left_eq, HK.out.rg.left_eq]; have := HLE4.out; have := HLT.out; omega
      · have HD := hid (show dueB z (x, c) = false by unfold dueB; rw [← HNOW.out, ← HT.out]; simp; omega)
        go_wp2_with fail
        refine HLF.out.mono ?_
        rintro e w3 ⟨rfl, hf3⟩
        have HK3 := hid (show TkW w1 w3 p b w1.heap.size n z (strike left x) cnt2 (.slice va ss.length vc) ss from
          TkW.no ⟨by rw [rem_skip HR.out HMEM.out HD.out]; exact HRG.out, HQ2.out, HQ3.out, HK.out.cl.skip HR.out HMEM.out HD.out, HQ1.out, by have := HLT.out; omega, hrb⟩ hf3)
        clear hf3 HLF
        go_wp2_with fail
        go_roundw
        case rel => exact ⟨_, _, ss, HK3⟩
        case measure => rw [HK3.out.rg.left_eq, HK.out.rg.left_eq]; exact HLT.out
end
end Go.Proofs.Ytbdhjkdojgdhbaa
