/-
  The plain twin's Right of a packet.
-/
import Derived.Test.YtceeipejhmnkfaaPkA
namespace Go.Proofs.Ytceeipejhmnkfaa
open Go Go.ChangeShapes Go.WideShapes Go.ChangeAt Go.RowKit

set_option maxHeartbeats 4000000 in
set_option maxRecDepth 100000 in
theorem pkRight_any (p : Pk) (hp : PkOk p) (a : Option Addr) (c : Nat) (w : World) (hr : RwO w w.heap.size a p.rs) (hc : p.rs.length ≤ c ∧ c ≤ 9223372036854775807) :
    Calls Try.prog 9 #[.agg (pkA p a c)] w fun e w' => e = .returned (.bool (rightP p)) ∧ Below w.heap.size w w' := by
  have hb : InP (w.alloc (.cells (pkA p a c) 28)) w.heap.size p a c := heap_alloc_new _ _
  have hB := (Below.refl w.heap.size w).alloc (Nat.le_refl _) (.cells (pkA p a c) 28)
  have h16 := hp.ip.len
  have c0 := hb.c0
  have c1 := hb.c1
  have c2 := hb.c2
  have c4 := hb.c4
  have c21 := hb.c21 h16
  have c22 := hb.c22 h16
  have c23 := hb.c23 h16
  have c24 := hb.c24 h16
  have HB := hid hB
  have HP := hid hb
  have HC := hid hc
  have HR := hid hr
  clear hb hB hc hr
  by_cases hd1 : p.fr < 0
  · have d1 : decide (p.fr < 0) = true := decide_eq_true hd1
    have hz : rightP p = false := by rw [rightP, if_pos (by omega)]
    clear hd1
    go_enter Try.func9, Try.ntmps9
    go_wp2
    go_ret
    exact ⟨by first | rfl | exact ret_bool hz.symm | (simp only [hz]), HB.out⟩
  have d1 : decide (p.fr < 0) = false := decide_eq_false hd1
  by_cases hd2 : 3 < p.fr
  · have d2 : decide (3 < p.fr) = true := decide_eq_true hd2
    have hz : rightP p = false := by rw [rightP, if_pos (by omega)]
    clear hd2
    go_enter Try.func9, Try.ntmps9
    go_wp2
    go_ret
    exact ⟨by first | rfl | exact ret_bool hz.symm | (simp only [hz]), HB.out⟩
  have d2 : decide (3 < p.fr) = false := decide_eq_false hd2
  by_cases hd3 : p.to < 0
  · have d3 : decide (p.to < 0) = true := decide_eq_true hd3
    have hz : rightP p = false := by rw [rightP, if_pos (by omega)]
    clear hd3
    go_enter Try.func9, Try.ntmps9
    go_wp2
    go_ret
    exact ⟨by first | rfl | exact ret_bool hz.symm | (simp only [hz]), HB.out⟩
  have d3 : decide (p.to < 0) = false := decide_eq_false hd3
  by_cases hd4 : 3 < p.to
  · have d4 : decide (3 < p.to) = true := decide_eq_true hd4
    have hz : rightP p = false := by rw [rightP, if_pos (by omega)]
    clear hd4
    go_enter Try.func9, Try.ntmps9
    go_wp2
    go_ret
    exact ⟨by first | rfl | exact ret_bool hz.symm | (simp only [hz]), HB.out⟩
  have d4 : decide (3 < p.to) = false := decide_eq_false hd4
  by_cases hd5 : p.fr = p.to
  · have d5 : (p.fr == p.to) = true := by simpa using hd5
    have hz : rightP p = false := by rw [rightP, if_pos (by omega)]
    clear hd1 hd2 hd3 hd4 hd5
    go_enter Try.func9, Try.ntmps9
    go_wp2
    go_ret
    exact ⟨by first | rfl | exact ret_bool hz.symm | (simp only [hz]), HB.out⟩
  have d5 : (p.fr == p.to) = false := by simpa using hd5
  have hgd : ¬ (p.fr < 0 ∨ 3 < p.fr ∨ p.to < 0 ∨ 3 < p.to ∨ p.fr = p.to) := by omega
  have HGD := hid hgd
  clear hd1 hd2 hd3 hd4 hd5 hgd
  have hz1 : ((w.alloc (.cells (pkA p a c) 28)).alloc (.cells (u8s g0) 24)).heap[w.heap.size + 1]? = some (.cells (u8s g0) 24 (0, 0)) := by
    have h1 := heap_alloc_new (w.alloc (.cells (pkA p a c) 28)) (.cells (u8s g0) 24)
    simpa using h1
  have HZ1 := hid hz1
  clear hz1
  go_enter Try.func9, Try.ntmps9
  go_upto_region 4 with (first | ((with_reducible refine at_op ⟨none, .store 24 (.tmp 3) (.tmp 29), _, _, _, _⟩ ?_); refine wpList_store_row rfl 24 _ _ rfl (w.heap.size + 1) (u8s g0) rfl rfl 24 (u8s g0) HZ1.out infoG rfl (u8s_one _) ?_))
  obtain ⟨W2, hW2⟩ : ∃ W2, W2 = ((w.alloc (.cells (pkA p a c) 28)).alloc (.cells (u8s g0) 24)).setRow (w.heap.size + 1) (u8s g0) := ⟨_, rfl⟩
  change Code.wp _ _ _ _ (((w.alloc (.cells (pkA p a c) 28)).alloc (.cells (u8s g0) 24)).setRow (w.heap.size + 1) (u8s g0))
  rw [← hW2]
  have hB2 : Below w.heap.size w W2 := by rw [hW2]; exact (HB.out.alloc (by simp) _).trans ((Fr.of_setRow _ _ _).below (by simp; omega) (fun k hk => by omega))
  have hz2 : W2.heap[w.heap.size + 1]? = some (.cells (u8s g0) 24 (0, 0)) := by rw [hW2]; exact setRow_heap _ _ _ _ _ _ HZ1.out
  have hp2 : InP W2 w.heap.size p a c := by
    unfold InP
    rw [hW2, setRow_other _ _ _ _ (by omega), heap_alloc_old _ _ HP.out.lt]
    exact HP.out
  have HZ2 := hid hz2
  have HB2 := hid hB2
  have HP2 := hid hp2
  have HR2 := hid ((HR.out.kept hB2).mono hB2.size)
  clear hW2 hB2 hz2 c0 c1 c2 c4 c21 c22 c23 c24 d1 d2 d3 d4 d5 HP HZ1 HB
  have c0 := hp2.c0
  have c4 := hp2.c4
  have c21 := hp2.c21 h16
  have c22 := hp2.c22 h16
  have c23 := hp2.c23 h16
  have c24 := hp2.c24 h16
  have hip := hid hp2.ip
  have heq := eqG' p.ip g0 h16 rfl
  have hgu := guardG'
  clear hp2
  have HZA := hid (show AtL W2 (w.heap.size + 1) 0 (u8l g0) from AtL.row (cs := u8l g0) HZ2.out)
  by_cases hk1 : p.ki = 1
  · have hz : rightP p = (decide (p.rs.length ≤ 1) && (p.rs.all rightO && (decide (0 ≤ p.me) && (decide (p.me ≤ 7) && (p.co == 0))))) := by
      rw [rightP, if_neg HGD.out, if_pos hk1]
    have e1 : (p.ki == 1) = true := by simp [hk1]
    by_cases hl1 : 1 < p.rs.length
    · have d6 : decide ((1 : Int) < (p.rs.length : Int)) = true := decide_eq_true (by omega)
      rw [decide_eq_false (by omega), Bool.false_and] at hz
      have HZ := hid hz
      clear hz hk1 hl1
      generalize p.ki = ki at *
      go_wp2_with fail
      all_goals (go_ret; exact ⟨by first | rfl | exact ret_bool (by rw [HZ.out]), HB2.out⟩)
    · have d6 : decide ((1 : Int) < (p.rs.length : Int)) = false := decide_eq_false (by omega)
      rw [decide_eq_true (by omega), Bool.true_and] at hz
      have hfin : ∀ W', Below w.heap.size w W' → (p.rs.length = 0 ∨ ∃ x, p.rs = [x]) := fun _ _ => by
        match hq : p.rs with
        | [] => exact .inl rfl
        | [x] => exact .inr ⟨x, rfl⟩
        | x :: y :: t => rw [hq] at hl1; simp at hl1
      rcases hfin W2 HB2.out with h0 | ⟨x, hx⟩
      · have d7 : ((p.rs.length : Int) == 1) = false := by simp [h0]
        have hz' : rightP p = (decide (0 ≤ p.me) && (decide (p.me ≤ 7) && (p.co == 0))) := by
          rw [hz, List.eq_nil_of_length_eq_zero h0]; rfl
        have HZ := hid hz'
        clear hz hz' hk1 hl1 hfin h0
        generalize p.ki = ki at *
        go_wp2_with fail
        all_goals (go_ret; exact ⟨ret_bool (by rw [HZ.out]; clear HZ HB2 hip heq hgu HZA HC HR HGD; first | (simp_all; done) | (simp_all; omega)), HB2.out⟩)
      · have hok : OrfOk x := hp.rs x (by rw [hx]; simp)
        have hrw : RwO W2 W2.heap.size a [x] := by have := HR2.out; rwa [hx] at this
        obtain ⟨bo, oo, rfl, hbo⟩ := hrw.at_ (by simp)
        have hat := hrw.rows bo oo rfl 0 x rfl
        have HAT := hid (show AtL W2 bo oo (orc x) by simpa using hat)
        have HR7 := hid (Right_any x W2)
        have hl : p.rs.length = 1 := by rw [hx]; rfl
        have hz' : rightP p = (rightO x && (decide (0 ≤ p.me) && (decide (p.me ≤ 7) && (p.co == 0)))) := by
          rw [hz, hx]; simp
        have HZ := hid hz'
        have c24' := c24
        rw [hl] at c24'
        clear hz hz' hk1 hl1 hfin hat hrw d6 c24 hl hbo
        generalize p.ki = ki at *
        go_wp2_with (first | ((with_reducible refine at_op ⟨some 47, _, _, _, _, _⟩ ?_); refine wpList_runW rfl (.agg (orA x)) (load_oa rfl rfl HAT.out hok) ?_) | fail)
        refine HR7.out.mono ?_
        rintro e W3 ⟨rfl, hb3⟩
        have hp3 := HP2.out.below hb3
        have HB3 := hid (HB2.out.trans (hb3.mono HB2.out.size))
        have c21' := hp3.c21 h16
        have c23' := hp3.c23 h16
        clear hp3 hb3 c0 c4 c21 c22 c23 c24'
        cases hrx : rightO x
        · rw [hrx, Bool.false_and] at HZ
          go_wp2_with fail
          all_goals (go_ret; exact ⟨by first | rfl | exact ret_bool (by rw [HZ.out]), HB3.out⟩)
        · rw [hrx, Bool.true_and] at HZ
          go_wp2_with fail
          all_goals (go_ret; exact ⟨ret_bool (by rw [HZ.out]; clear HZ HB2 hip heq hgu HZA HC HR HGD HAT; first | (simp_all; done) | (simp_all; omega)), HB3.out⟩)
  by_cases hk2 : p.ki = 2
  · have hz : rightP p = ((p.ip == g0) && ((p.me == 0) && (((p.rs.length : Int) == 0) && (decide (0 ≤ p.co) && decide (p.co ≤ 20))))) := by
      rw [rightP, if_neg HGD.out, if_neg hk1, if_pos hk2]
    have HZ := hid hz
    have e1 : (p.ki == 1) = false := by simp; omega
    have e2 : (p.ki == 2) = true := by simp; omega
    clear hz hk1 hk2
    generalize p.ki = ki at *
    go_wp2_with (first | ((with_reducible refine at_op ⟨some 68, _, _, _, _, _⟩ ?_); refine wpList_runW rfl (.agg (u8s p.ip)) (load_g rfl rfl hip.out h16) ?_) | ((with_reducible refine at_op ⟨some 69, _, _, _, _, _⟩ ?_); refine wpList_runW rfl (.agg (u8s g0)) (load_g rfl rfl HZA.out rfl) ?_) | fail)
    all_goals (go_ret; exact ⟨ret_bool (by rw [HZ.out]; clear HZ HB2 hip heq hgu HZA HC HR HGD; first | (simp_all; done) | (simp_all; omega)), HB2.out⟩)
  by_cases hk3 : p.ki = 3
  · have hz : rightP p = ((p.ca == 0) && ((p.me == 0) && ((p.co == 0) && (((p.rs.length : Int) == 0) && (decide (1 ≤ p.n) && decide (p.n ≤ 4294967295)))))) := by
      rw [rightP, if_neg HGD.out, if_neg hk1, if_neg hk2, if_pos (.inl hk3)]
    have HZ := hid hz
    have e1 : (p.ki == 1) = false := by simp; omega
    have e2 : (p.ki == 2) = false := by simp; omega
    have e3 : (p.ki == 3) = true := by simp; omega
    clear hz hk1 hk2 hk3
    generalize p.ki = ki at *
    go_wp2_with fail
    all_goals (go_ret; exact ⟨ret_bool (by rw [HZ.out]; clear HZ HB2 hip heq hgu HZA HC HR HGD; first | (simp_all; done) | (simp_all; omega)), HB2.out⟩)
  by_cases hk4 : p.ki = 4
  · have hz : rightP p = ((p.ca == 0) && ((p.me == 0) && ((p.co == 0) && (((p.rs.length : Int) == 0) && (decide (1 ≤ p.n) && decide (p.n ≤ 4294967295)))))) := by
      rw [rightP, if_neg HGD.out, if_neg hk1, if_neg hk2, if_pos (.inr hk4)]
    have HZ := hid hz
    have e1 : (p.ki == 1) = false := by simp; omega
    have e2 : (p.ki == 2) = false := by simp; omega
    have e3 : (p.ki == 3) = false := by simp; omega
    have e4 : (p.ki == 4) = true := by simp; omega
    clear hz hk1 hk2 hk3 hk4
    generalize p.ki = ki at *
    go_wp2_with fail
    all_goals (go_ret; exact ⟨ret_bool (by rw [HZ.out]; clear HZ HB2 hip heq hgu HZA HC HR HGD; first | (simp_all; done) | (simp_all; omega)), HB2.out⟩)
  by_cases hk5 : p.ki = 5
  · have hz : rightP p = ((p.ca == 0) && ((p.ip == g0) && ((p.me == 0) && ((p.co == 0) && ((p.n == 0) && ((p.rs.length : Int) == 0)))))) := by
      rw [rightP, if_neg HGD.out, if_neg hk1, if_neg hk2, if_neg (by omega), if_pos hk5]
    have HZ := hid hz
    have e1 : (p.ki == 1) = false := by simp; omega
    have e2 : (p.ki == 2) = false := by simp; omega
    have e3 : (p.ki == 3) = false := by simp; omega
    have e4 : (p.ki == 4) = false := by simp; omega
    have e5 : (p.ki == 5) = true := by simp; omega
    clear hz hk1 hk2 hk3 hk4 hk5
    generalize p.ki = ki at *
    go_wp2_with (first | ((with_reducible refine at_op ⟨some 131, _, _, _, _, _⟩ ?_); refine wpList_runW rfl (.agg (u8s p.ip)) (load_g rfl rfl hip.out h16) ?_) | ((with_reducible refine at_op ⟨some 132, _, _, _, _, _⟩ ?_); refine wpList_runW rfl (.agg (u8s g0)) (load_g rfl rfl HZA.out rfl) ?_) | fail)
    all_goals (go_ret; exact ⟨ret_bool (by rw [HZ.out]; clear HZ HB2 hip heq hgu HZA HC HR HGD; first | (simp_all; done) | (simp_all; omega)), HB2.out⟩)
  have hz : rightP p = false := by rw [rightP, if_neg HGD.out, if_neg hk1, if_neg hk2, if_neg (by omega), if_neg hk5]
  have HZ := hid hz
  have e1 : (p.ki == 1) = false := by simp; omega
  have e2 : (p.ki == 2) = false := by simp; omega
  have e3 : (p.ki == 3) = false := by simp; omega
  have e4 : (p.ki == 4) = false := by simp; omega
  have e5 : (p.ki == 5) = false := by simp; omega
  clear hz hk1 hk2 hk3 hk4 hk5
  generalize p.ki = ki at *
  go_wp2_with fail
  all_goals (go_ret; exact ⟨by first | rfl | exact ret_bool (by rw [HZ.out]), HB2.out⟩)
end Go.Proofs.Ytceeipejhmnkfaa
