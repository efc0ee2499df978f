/-
  The contracts of follow and unit.
-/
import Derived.Test.YtjmhlmohennknabCyL
import Derived.BigQuiet
namespace Go.Proofs.Ytjmhlmohennknab
open Go Go.ChangeShapes Go.WideShapes Go.ChangeAt Go.RowKit

section
variable {w w' : World} {p B0 B1 : Nat} {g : Gr} {s : CyS} {nv wv fv : Value} {fp : Nat → Prop}
/-- The first one that waits, and its tail. -/
theorem QI.head {v : Value} {i : Nat} {r : List Nat} (h : QI w v (i :: r)) : ∃ b off cap o2, v = .slice (some ⟨b, off, none⟩) (r.length + 1) cap ∧ r.length + 1 ≤ cap ∧ w.cell? ⟨b, off, none⟩ = some (nI i) ∧ (cap = 1 ∧ o2 = off ∨ ¬ cap = 1 ∧ o2 = off + 1) ∧ QI w (.slice (some ⟨b, o2, none⟩) r.length (cap - 1)) r := by
  rcases h with ⟨_, e⟩ | ⟨gb, off, cap, cur, hv, q1, q2, q3, q4, q5⟩
  · cases e
  subst hv
  simp only [List.length_cons] at q2
  obtain ⟨o2, ho2⟩ : ∃ o2, cap = 1 ∧ o2 = off ∨ ¬ cap = 1 ∧ o2 = off + 1 := by
    by_cases e : cap = 1
    · exact ⟨off, .inl ⟨e, rfl⟩⟩
    · exact ⟨off + 1, .inr ⟨e, rfl⟩⟩
  refine ⟨gb, off, cap, o2, rfl, q2, ?_, ho2, .inr ⟨gb, o2, cap - 1, cur, rfl, q1, by omega, by omega, by omega, fun j y hj => ?_⟩⟩
  · rw [cell_of_row w gb off _ _ _ q1]
    have := q5 0 i rfl
    simpa using this
  · have hlt := (List.getElem?_eq_some_iff.1 hj).1
    have h5 := q5 (j + 1) y (by simpa using hj)
    rw [show o2 + j = off + (j + 1) by omega]
    exact h5
set_option maxRecDepth 100000 in
set_option maxHeartbeats 4000000 in
theorem follow_any (h : RunW w p B0 B1 g s nv wv fv) (hs : s.sw < 2) {i : Nat} {r : List Nat} (hq : s.q = i :: r) (hi : i < g.n) (hed : s.edge ≤ (g.e i).length) (he : ∀ j ∈ g.e i, j < g.n) (hl : s.q.length ≤ 1000000) (hlen : (g.e i).length ≤ 1000000)
    (hh : ∀ j, j < g.n → -1000000000000 ≤ s.held j ∧ s.held j ≤ 1000000000000) :
    Calls Try.prog 25 #[.pointer (some ⟨p, 0, none⟩)] w fun e w' => (∃ v, e = .returned v) ∧ (∃ wv', RunW w' p B0 B1 g (s.follow g.e) nv wv' fv) ∧ Below B0 w w' := by
  obtain ⟨q, hN⟩ := h.nd (by omega)
  obtain ⟨ev, e2, hedw⟩ := hN.c2 hi
  have hedw2 := hedw
  obtain ⟨ea, ec, rfl, hec1, hec2, _⟩ := hedw
  have HED := hid hedw2
  clear hedw2
  have hQ := h.wq (by omega)
  rw [hq] at hQ
  obtain ⟨b, off, cap, o2, rfl, hcap, cx, ho2, hQ2⟩ := hQ.head
  obtain rfl := hN.nv
  have c0 := h.c0
  have c3 := h.c3
  have H := hid h
  have HN := hid hN
  have HQ := hid hq
  have HQ2 := hid hQ2
  have HO2 := hid ho2
  have HE := hid he
  have HH := hid hh
  have HS := hid hs
  have HL := hid hl
  clear h hN hq hQ hQ2 ho2 he hh hl hs
  obtain ⟨sl, hsl⟩ : ∃ sl, sl = s.follow g.e := ⟨_, rfl⟩
  rw [← hsl]
  rw [follow_cons HQ.out] at hsl
  have HSL := hid hsl
  clear hsl
  go_enter Try.func25, Try.ntmps25
  go_upto_region 1 with fail
  go_quiet (fail)
  obtain ⟨w1, hw1⟩ : ∃ w1, w1 = w.drewN nq := ⟨_, rfl⟩
  rw [← hw1]
  have hb1 : Below w.heap.size w w1 := by rw [hw1]; exact below_drewN (Below.refl _ _) _
  have h1 := H.out.no (Fr.of_below hb1)
  obtain ⟨q', hN1⟩ := h1.nd (by have := HS.out; omega)
  obtain rfl : q = q' := by have := hN1.nv; simp at this; exact this
  have HQ1 := hid (HQ2.out.fr (fp := fun _ => False) (Fr.of_below hb1) (fun _ _ e => e))
  have HED1 := hid (HED.out.fr (fp := fun _ => False) (Fr.of_below hb1) (fun _ _ _ _ e => e) H.out.b1)
  have HB1 := hid (hb1.mono (B' := B0) (Nat.le_trans (Nat.le_of_lt (Nat.lt_of_le_of_lt H.out.p0 H.out.p1)) H.out.b1))
  clear c0 c3 e2 cx hb1 hw1 HQ2 HN
  have c3 := h1.c3
  have c4 := h1.c4
  have z3 := h1.fz 3
  have z4 := h1.fz 4
  by_cases hee : s.edge = (g.e i).length
  · have hsl := HSL.out
    rw [if_pos hee] at hsl
    have HSL2 := hid hsl
    clear hsl
    have hwb := h1.wb (by have := HS.out; omega)
    obtain ⟨hP1, hb1⟩ := h1.setP 3 (.slice (some ⟨b, o2, none⟩) r.length (cap - 1)) { s with q := r } (.slice (some ⟨b, o2, none⟩) r.length (cap - 1)) fv rfl (fun k => ⟨k, rfl, rfl⟩) (fun _ => ⟨HQ1.out, fun k hk => hwb k hk⟩) h1.fo (fun k => h1.df k)
    obtain ⟨hP2, hb2⟩ := hP1.setP 4 (.int .i64 0) { s with q := r, edge := 0 } (.slice (some ⟨b, o2, none⟩) r.length (cap - 1)) fv rfl (fun k => ⟨k, rfl, rfl⟩) (fun k => ⟨hP1.wq k, hP1.wb k⟩) hP1.fo (fun k => hP1.df k)
    have HP2 := hid hP2
    have HB := hid (hb1.trans hb2)
    rw [hee] at c4
    clear h1 hP1 hP2 hb1 hb2 hN1 HQ1 hwb
    generalize (g.e i).length = m at *
    go_wp2_with (first
      | ((with_reducible refine at_op ⟨some 30, _, _, _, _, _⟩ ?_); go_loud (refine wpList_run rfl _ (exec_tail rfl rfl rfl (by omega) HO2.out hcap) ?_; rw [show r.length + 1 - 1 = r.length from rfl]))
      | fail)
    refine bodyPost_ret (results_none rfl _ _ _) rfl ?_
    exact ⟨⟨_, rfl⟩, ⟨_, by rw [HSL2.out]; exact HP2.out⟩, HB1.out.trans HB.out⟩
  · have hsl := HSL.out
    rw [if_neg hee] at hsl
    have hlt : s.edge < (g.e i).length := by omega
    obtain ⟨t, ht⟩ : ∃ t, t = (g.e i).getD s.edge 0 := ⟨_, rfl⟩
    have htm : t ∈ g.e i := ht ▸ getD_mem hlt
    have htn := HE.out t htm
    have htx : (g.e i)[s.edge]? = some t := by rw [ht, List.getD_eq_getElem?_getD, List.getElem?_eq_getElem hlt]; rfl
    rw [← ht] at hsl
    have HSL2 := hid hsl
    clear hsl HSL
    obtain ⟨ea', ec', hv', _, _, hcell⟩ := HED1.out
    simp only [Value.slice.injEq] at hv'
    obtain ⟨rfl, -, rfl⟩ := hv'
    obtain ⟨eb, eo, rfl, _, _, _, hcell⟩ := hcell (by omega)
    have ct := hcell _ _ htx
    have hwe : IntKind.i64.wrap ((s.edge : Int) + 1) = ((s.edge + 1 : Nat) : Int) := by rw [IntWalk.i64_in _ ⟨by omega, by omega⟩]; rfl
    obtain ⟨h2, hb2⟩ := h1.setP 4 (nI (s.edge + 1)) { s with edge := s.edge + 1 } (.slice (some ⟨b, off, none⟩) (r.length + 1) cap) fv rfl (fun k => ⟨k, rfl, rfl⟩) (fun k => ⟨h1.wq k, h1.wb k⟩) h1.fo (fun k => h1.df k)
    obtain ⟨w2, hw2⟩ : ∃ w2, w2 = w1.setCell ⟨p, 4, none⟩ (nI (s.edge + 1)) := ⟨_, rfl⟩
    rw [← hw2] at h2 hb2
    have H2 := hid h2
    have HB2 := hid hb2
    have HW2 : RowKit.Hid (w2 = w1.setCell ⟨p, 4, none⟩ (.int .i64 ((s.edge : Int) + 1))) := hid hw2
    have HTN := hid htn
    clear h1 h2 hb2 hw2 hN1 HQ1 hcell htx htm htn ht HED HED1 c3 z3
    go_upto_region 5 with fail
    rw [← HW2.out]
    clear c4 z4 ct
    have c1 := H2.out.c1
    simp only at c1
    have hsw : s.sw = 0 ∨ s.sw = 1 := by have := HS.out; omega
    rcases hsw with hw0 | hw1
    · have hsl := HSL2.out
      rw [if_pos hw0] at hsl
      have HSL3 := hid hsl
      clear hsl HSL2
      obtain ⟨q', hN2⟩ := H2.out.nd (by simp only; omega)
      obtain rfl : q = q' := by have := hN2.nv; simp at this; exact this
      have d1 := hN2.c1 HTN.out
      have z1 := hN2.fz (t * 3 + 1)
      have c0 := H2.out.c0
      have hhb := HH.out t HTN.out
      have hwh : IntKind.i64.wrap (s.held t - 1) = s.held t - 1 := IntWalk.i64_in _ ⟨by omega, by omega⟩
      obtain ⟨h3, hb3⟩ := H2.out.setQ hN2 _ _ (hN2.setHeld H2.out.b1 HTN.out (s.held t - 1))
      obtain ⟨w3, hw3⟩ : ∃ w3, w3 = w2.setCell ⟨q, t * 3 + 1, none⟩ (iv (s.held t - 1)) := ⟨_, rfl⟩
      rw [← hw3] at h3 hb3
      have hpa := paint_any (c := 2) h3 (by simp only; omega) HTN.out (by simp only; exact HL.out)
      have HPA := hid hpa
      have HB3 := hid hb3
      have HW3 := hid hw3
      rw [hw0] at c1
      have htn := HTN.out
      clear h3 hb3 hw3 hpa hN2
      simp only at d1
      generalize s.held t = ht at *
      go_upto_region 7 with fail
      rw [← HW3.out]
      clear c1 d1 c0 z1
      go_wp2_with fail
      refine HPA.out.mono ?_
      rintro e w4 ⟨⟨v, rfl⟩, k1, k2⟩
      have K1 := hid k1
      have K2 := hid k2
      clear k1 k2
      go_wp2
      go_end0
      obtain ⟨wv', k1⟩ := K1.out
      exact ⟨⟨_, rfl⟩, ⟨wv', by rw [HSL3.out]; exact k1⟩, HB1.out.trans (HB2.out.trans (HB3.out.trans K2.out))⟩
    · have hsl := HSL2.out
      rw [if_neg (by omega)] at hsl
      have HSL3 := hid hsl
      clear hsl HSL2
      have hpa := paint_any (c := 3) H2.out (by simp only; omega) HTN.out (by simp only; exact HL.out)
      have HPA := hid hpa
      rw [hw1] at c1
      clear hpa
      go_wp2_with fail
      refine HPA.out.mono ?_
      rintro e w4 ⟨⟨v, rfl⟩, k1, k2⟩
      have K1 := hid k1
      have K2 := hid k2
      clear k1 k2
      go_wp2
      go_end0
      obtain ⟨wv', k1⟩ := K1.out
      exact ⟨⟨_, rfl⟩, ⟨wv', by rw [HSL3.out]; exact k1⟩, HB1.out.trans (HB2.out.trans K2.out)⟩
end
end Go.Proofs.Ytjmhlmohennknab
