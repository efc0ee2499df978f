/- SoE SoF SoG in one -/
import Derived.Test.YtbdhjkdojgdhbaaSoD
import Derived.RangeFuncBox
import Derived.Deep.CutRange
namespace Go.Proofs.Ytbdhjkdojgdhbaa
open Go Go.ChangeShapes Go.WideShapes Go.ChangeAt Go.RowKit Go.Sort

set_option maxRecDepth 100000 in
set_option maxHeartbeats 8000000 in
theorem rev_u {w0 w : World} {g n c : Nat} {d : Array Int} (a b : Nat) (h : SoW w0 g n c w d) (hab : a < b) (hb : b ≤ n) (hn : n ≤ 1000000) :
    Calls Try.prog 43 #[.slice (some ⟨g, 0, none⟩) n c, .int .i64 a, .int .i64 b] w fun e w' => e = .returned (.tuple #[]) ∧ SoW w0 g n c w' (reverseRange d a b) := by
  have HS := hid h
  obtain ⟨t, ht⟩ : ∃ t, t = reverseRange d a b := ⟨_, rfl⟩
  rw [← ht]
  have HE0 := hid (show reverseLoop a (b - 1) d = t from ht.symm)
  clear h ht
  go_enter Try.func43, Try.ntmps43
  go_wp2
  go_loopw [6, 7] (fun x y wr => ∃ (i j : Nat) (d' : Array Int), a ≤ i ∧ i ≤ b ∧ j < b ∧ x = .int .i64 i ∧ y = .int .i64 j ∧ RowKit.Hid (SoW w0 g n c wr d') ∧ RowKit.Hid (reverseLoop i j d' = t)) (fun x y _ => (intOf y - intOf x).toNat)
  case atStart => exact ⟨a, b - 1, d, by omega, by omega, by omega, rfl, by go_num, HS, HE0⟩
  case round =>
    obtain ⟨i, j, d2, hi1, hi2, hj, rfl, rfl, HS2, HE2⟩ := hrel
    by_cases hij : i < j
    · obtain ⟨G, hG⟩ : ∃ G : Nat → Int, G = fun t => d2[t]! := ⟨_, rfl⟩
      have HG := hid hG
      have hIn : i < n := by omega
      have hJn : j < n := by omega
      have he : reverseLoop (i + 1) (j - 1) (Sort.swp d2 i j) = t := by
        have h1 := HE2.out
        rw [reverseLoop, if_pos hij] at h1
        exact h1
      have HE3 := hid he
      clear hG he
      go_upto_region 3 with fail
      obtain ⟨c0, c1, f0, ⟨v1, m0⟩, m1, hsw⟩ := HS2.out.sw HG.out (i := i) (j := j) hIn hJn
      have HSW := hid hsw
      clear hsw
      refine D.wp_region_mix [0, 0, 0, 0, 0, 0, 0, 1, 0, 0, 0, 1, 0, 3, 0, 3] (fun W' => W'.cell? ⟨g, i, none⟩ = some (.int .u64 (G i)) ∧ W'.cell? ⟨g, j, none⟩ = some (.int .u64 (G j))) (by kernel_rfl) (by kernel_rfl) ⟨c0, c1⟩ ?_
      repeat (first
        | (refine' C.wpMix_value _ rfl rfl _ _; rotate_left; (solve | (intro W; go_simp) | (intro W; go_simp; with_reducible rfl)); simp only [Act.put, List.setIfInBounds_toArray, List.set_cons_zero, List.set_cons_succ])
        | (refine' C.wpMix_read _ rfl rfl _ _; rotate_left; (solve | (rintro W ⟨h1, h2⟩; go_simp) | (rintro W ⟨h1, h2⟩; go_simp; with_reducible rfl)); simp only [Act.put, List.setIfInBounds_toArray, List.set_cons_zero, List.set_cons_succ]))
      refine C.wpMix_skip (wr.drew.setCell ⟨g, i, none⟩ (.int .u64 (G j))) (by decide) rfl (by go_simp) (fun h => by cases h) ?_
      simp only [Act.put]
      clear c0 c1 f0
      generalize wr.drew.setCell ⟨g, i, none⟩ (.int .u64 (G j)) = W1 at m0 m1 HSW ⊢
      repeat (first
        | (refine' C.wpMix_value _ rfl rfl _ _; rotate_left; (solve | (intro W; go_simp) | (intro W; go_simp; with_reducible rfl)); simp only [Act.put, List.setIfInBounds_toArray, List.set_cons_zero, List.set_cons_succ]))
      refine C.wpMix_skip (W1.setCell ⟨g, j, none⟩ (.int .u64 (G i))) (by decide) rfl (by go_simp) (fun h => by cases h) ?_
      simp only [Act.put]
      refine C.wpMix_end ?_
      clear m0 m1
      go_wp2
      go_roundw
      case rel => exact ⟨i + 1, j - 1, _, by omega, by omega, by omega, by go_num, by go_num, HSW, HE3⟩
      case measure => simp [intOf]; omega
    · have he : d2 = t := by
        have h1 := HE2.out
        rw [reverseLoop, if_neg hij] at h1
        exact h1
      have HE3 := hid he
      clear he
      go_wp2
      go_end0
      exact ⟨rfl, by rw [← HE3.out]; exact HS2.out⟩
end Go.Proofs.Ytbdhjkdojgdhbaa

namespace Go.Proofs.Ytbdhjkdojgdhbaa
open Go Go.ChangeShapes Go.WideShapes Go.ChangeAt Go.RowKit Go.Sort

/-- The row, and a count in a box of its own. -/
structure SoX (w0 : World) (g n c : Nat) (d : Array Int) (s : Nat) (W : World) : Prop where
  row : SoW w0 g n c W d
  box : ∃ k, Boxed W s 3 (.int .i64 k)
  hs : w0.heap.size ≤ s
section
variable {w0 W W' : World} {g n c s : Nat} {d : Array Int}
theorem SoX.drewN (h : SoX w0 g n c d s W) (q : Nat) : SoX w0 g n c d s (W.drewN q) := ⟨h.row.drewN q, h.box, h.hs⟩
theorem SoX.ne (h : SoX w0 g n c d s W) : g ≠ s := fun e => by
  obtain ⟨k, hk⟩ := h.box
  exact hk.not_row (by decide) h.row.own (by rw [e]; rfl)
theorem SoX.set (h : SoX w0 g n c d s W) (k : Int) : SoX w0 g n c d s (W.setCell ⟨s, 0, none⟩ (.int .i64 k)) := by
  obtain ⟨k0, hk⟩ := h.box
  exact ⟨⟨((Fr.refl (fun b => b = s) W).setCell ⟨s, 0, none⟩ _ (fun _ => rfl)).owns h.row.own (fun k e e2 => h.ne (by cases e; exact e2)), h.row.fr.setCell _ _ (fun e => absurd e (Nat.not_lt.2 h.hs))⟩, ⟨k, hk.set _⟩, h.hs⟩
end
set_option maxRecDepth 100000 in
set_option maxHeartbeats 8000000 in
theorem order2_u {w0 w : World} {g n c s lo hi : Nat} {d : Array Int} (a b : Nat) (h : SoX w0 g n c d s w) (ha : lo ≤ a ∧ a < hi) (hb : lo ≤ b ∧ b < hi) (hh : hi ≤ n) :
    Calls Try.prog 66 #[.slice (some ⟨g, 0, none⟩) n c, .int .i64 a, .int .i64 b, .pointer (some ⟨s, 0, none⟩)] w fun e w' => ∃ x y : Nat, e = .returned (.tuple #[.int .i64 x, .int .i64 y]) ∧ (lo ≤ x ∧ x < hi) ∧ (lo ≤ y ∧ y < hi) ∧ SoX w0 g n c d s w' := by
  have HS := hid h
  obtain ⟨G, hG⟩ : ∃ G : Nat → Int, G = fun t => d[t]! := ⟨_, rfl⟩
  have HG := hid hG
  have han : a < n := by omega
  have hbn : b < n := by omega
  have c0 := HS.out.row.rd HG.out han
  have c1 := HS.out.row.rd HG.out hbn
  clear h hG
  have HA := hid ha
  have HB := hid hb
  cases hlt : ltInt (G b) (G a) with
  | true =>
    have HL := hid (fun W => Less_u (G b) (G a) W)
    rw [hlt] at HL
    clear hlt
    go_enter Try.func66, Try.ntmps66
    go_upto_region 1 with fail
    go_quiet (first | (go_at_call 45; refine Calls.quiet_of_same (HL.out _)))
    have HS2 := hid (HS.out.drewN nq)
    clear c0 c1
    generalize w.drewN nq = w2 at HS2 ⊢
    obtain ⟨k, hk⟩ := HS2.out.box
    have e0 := hk.cell
    have e1 := hk.frozen
    clear hk
    go_wp2
    go_ret2
    exact ⟨b, a, rfl, HB.out, HA.out, HS2.out.set _⟩
  | false =>
    have HL := hid (fun W => Less_u (G b) (G a) W)
    rw [hlt] at HL
    clear hlt
    go_enter Try.func66, Try.ntmps66
    go_upto_region 1 with fail
    go_quiet (first | (go_at_call 45; refine Calls.quiet_of_same (HL.out _)))
    have HS2 := hid (HS.out.drewN nq)
    go_wp2
    go_ret2
    exact ⟨a, b, rfl, HA.out, HB.out, HS2.out⟩
set_option maxRecDepth 100000 in
set_option maxHeartbeats 8000000 in
theorem median_u {w0 w : World} {g n c s lo hi : Nat} {d : Array Int} (a b m : Nat) (h : SoX w0 g n c d s w) (ha : lo ≤ a ∧ a < hi) (hb : lo ≤ b ∧ b < hi) (hm : lo ≤ m ∧ m < hi) (hh : hi ≤ n) :
    Calls Try.prog 57 #[.slice (some ⟨g, 0, none⟩) n c, .int .i64 a, .int .i64 b, .int .i64 m, .pointer (some ⟨s, 0, none⟩)] w fun e w' => ∃ x : Nat, e = .returned (.int .i64 x) ∧ (lo ≤ x ∧ x < hi) ∧ SoX w0 g n c d s w' := by
  have H0 := hid (order2_u a b h ha hb hh)
  have HM := hid hm
  clear h ha hb hm
  go_enter Try.func57, Try.ntmps57
  go_wp2_with fail
  refine H0.out.mono ?_
  rintro e w1 ⟨x1, y1, rfl, p1, q1, h1⟩
  have H1 := hid (order2_u y1 m h1 q1 HM.out hh)
  have P1 := hid p1
  clear h1 p1 q1 H0
  go_wp2_with fail
  refine H1.out.mono ?_
  rintro e w2 ⟨x2, y2, rfl, p2, q2, h2⟩
  have H2 := hid (order2_u x1 x2 h2 P1.out p2 hh)
  clear h2 p2 q2 H1
  go_wp2_with fail
  refine H2.out.mono ?_
  rintro e w3 ⟨x3, y3, rfl, p3, q3, h3⟩
  have Q3 := hid q3
  have H3 := hid h3
  clear h3 p3 q3 H2
  go_wp2_with fail
  go_ret
  exact ⟨y3, rfl, Q3.out, H3.out⟩
theorem adj_u {w0 w : World} {g n c s lo hi : Nat} {d : Array Int} (a : Nat) (h : SoX w0 g n c d s w) (ha : lo + 1 ≤ a ∧ a + 1 < hi) (hh : hi ≤ n) (hn : n ≤ 1000000) :
    Calls Try.prog 56 #[.slice (some ⟨g, 0, none⟩) n c, .int .i64 a, .pointer (some ⟨s, 0, none⟩)] w fun e w' => ∃ x : Nat, e = .returned (.int .i64 x) ∧ (lo ≤ x ∧ x < hi) ∧ SoX w0 g n c d s w' := by
  obtain ⟨p, hp⟩ : ∃ p, p = a - 1 := ⟨_, rfl⟩
  obtain ⟨q, hq⟩ : ∃ q, q = a + 1 := ⟨_, rfl⟩
  have hp1 : (a : Int) - 1 = (p : Int) := by omega
  have hq1 : (a : Int) + 1 = (q : Int) := by omega
  have hpn : p ≤ 1000000 := by omega
  have hqn : q ≤ 1000000 := by omega
  have H0 := hid (median_u p a q h (lo := lo) (hi := hi) (by omega) (by omega) (by omega) hh)
  clear h ha hp hq
  go_enter Try.func56, Try.ntmps56
  go_wp2_with (first
    | (go_at_call 57; refine H0.out.mono ?_; rintro e w1 ⟨x, rfl, hx, h1⟩; have HX := hid hx; have H1 := hid h1; clear hx h1)
    | fail)
  go_ret
  exact ⟨x, rfl, HX.out, H1.out⟩
set_option maxRecDepth 100000 in
set_option maxHeartbeats 8000000 in
theorem pivot_u {w0 w : World} {g n c : Nat} {d : Array Int} (a b : Nat) (h : SoW w0 g n c w d) (hab : a + 12 < b) (hb : b ≤ n) (hn : n ≤ 1000000) :
    Calls Try.prog 42 #[.slice (some ⟨g, 0, none⟩) n c, .int .i64 a, .int .i64 b] w fun e w' => ∃ (p : Nat) (v : Int), e = .returned (.tuple #[.int .i64 p, .int .i64 v]) ∧ a ≤ p ∧ p < b ∧ SoW w0 g n c w' d := by
  obtain ⟨w1, hw1⟩ : ∃ w1, w1 = w.alloc (.cells #[.int .i64 0] 3) := ⟨_, rfl⟩
  have hx1 : SoX w0 g n c d w.heap.size w1 := by
    rw [hw1]
    exact ⟨h.no ((Fr.refl _ _).alloc _), ⟨0, Boxed.new _ _ _⟩, h.fr.size⟩
  obtain ⟨s, hs⟩ : ∃ s, s = w.heap.size := ⟨_, rfl⟩
  rw [← hs] at hx1
  obtain ⟨L, hL⟩ : ∃ L, L = b - a := ⟨_, rfl⟩
  obtain ⟨q, hq⟩ : ∃ q, q = L / 4 := ⟨_, rfl⟩
  obtain ⟨i, hi⟩ : ∃ i, i = a + q := ⟨_, rfl⟩
  obtain ⟨j, hj⟩ : ∃ j, j = a + q * 2 := ⟨_, rfl⟩
  obtain ⟨k, hk⟩ : ∃ k, k = a + q * 3 := ⟨_, rfl⟩
  have hL1 : (b : Int) - (a : Int) = (L : Int) := by omega
  have hq1 : (L : Int).tdiv 4 = (q : Int) := by rw [Int.tdiv_eq_ediv_of_nonneg (by omega), hq]; omega
  have hi1 : (a : Int) + (q : Int) = (i : Int) := by omega
  have hj1 : (a : Int) + (q : Int) * 2 = (j : Int) := by omega
  have hk1 : (a : Int) + (q : Int) * 3 = (k : Int) := by omega
  have hLn : L ≤ 1000000 := by omega
  have hL8 : 8 ≤ L := by omega
  have hqn : q ≤ 1000000 := by omega
  have hin : i < n := by omega
  have hjn : j < n := by omega
  have hkn : k < n := by omega
  have HX1 := hid hx1
  have HW := hid hw1
  have HSS := hid hs
  have HI := hid (show a ≤ i ∧ i < b by omega)
  have HJ := hid (show a ≤ j ∧ j < b by omega)
  have HK := hid (show a ≤ k ∧ k < b by omega)
  have HI2 := hid (show 50 ≤ L → (a + 1 ≤ i ∧ i + 1 < b) ∧ (a + 1 ≤ j ∧ j + 1 < b) ∧ (a + 1 ≤ k ∧ k + 1 < b) by omega)
  clear h hw1 hx1 hs hL hq hi hj hk
  go_enter Try.func42, Try.ntmps42
  go_upto_region 3 with fail
  rw [← HW.out, ← HSS.out]
  clear HW HSS
  by_cases h50 : 50 ≤ L
  · have H1 := hid (adj_u i HX1.out (HI2.out h50).1 hb hn)
    go_wp2_with fail
    refine H1.out.mono ?_
    rintro e w2 ⟨i2, rfl, hx2, h2⟩
    have HR2 := hid hx2
    have H2 := hid (adj_u j h2 (HI2.out h50).2.1 hb hn)
    clear hx2 h2 H1
    go_wp2_with fail
    refine H2.out.mono ?_
    rintro e w3 ⟨j2, rfl, hx3, h3⟩
    have HR3 := hid hx3
    have H3 := hid (adj_u k h3 (HI2.out h50).2.2 hb hn)
    clear hx3 h3 H2
    go_wp2_with fail
    refine H3.out.mono ?_
    rintro e w4 ⟨k2, rfl, hx4, h4⟩
    have H4 := hid (median_u i2 j2 k2 h4 HR2.out HR3.out hx4 hb)
    clear hx4 h4 H3
    go_wp2_with fail
    refine H4.out.mono ?_
    rintro e w5 ⟨m, rfl, hx5, h5⟩
    have HR5 := hid hx5
    have H5 := hid h5
    clear hx5 h5 H4
    obtain ⟨v, hv⟩ := H5.out.box
    have e0 := hv.cell
    clear hv
    by_cases hv0 : v = 0
    · subst hv0
      go_wp2_with fail
      go_ret2
      exact ⟨m, _, rfl, HR5.out.1, HR5.out.2, H5.out.row⟩
    · have hv1 : (v == 0) = false := by simpa using hv0
      by_cases hv12 : v = 12
      · subst hv12
        go_wp2_with fail
        go_ret2
        exact ⟨m, _, rfl, HR5.out.1, HR5.out.2, H5.out.row⟩
      · have hv2 : (v == 12) = false := by simpa using hv12
        clear hv0 hv12
        go_wp2_with fail
        go_ret2
        exact ⟨m, _, rfl, HR5.out.1, HR5.out.2, H5.out.row⟩
  · have H4 := hid (median_u i j k HX1.out HI.out HJ.out HK.out hb)
    go_wp2_with fail
    refine H4.out.mono ?_
    rintro e w5 ⟨m, rfl, hx5, h5⟩
    have HR5 := hid hx5
    have H5 := hid h5
    clear hx5 h5 H4
    obtain ⟨v, hv⟩ := H5.out.box
    have e0 := hv.cell
    clear hv
    by_cases hv0 : v = 0
    · subst hv0
      go_wp2_with fail
      go_ret2
      exact ⟨m, _, rfl, HR5.out.1, HR5.out.2, H5.out.row⟩
    · have hv1 : (v == 0) = false := by simpa using hv0
      by_cases hv12 : v = 12
      · subst hv12
        go_wp2_with fail
        go_ret2
        exact ⟨m, _, rfl, HR5.out.1, HR5.out.2, H5.out.row⟩
      · have hv2 : (v == 12) = false := by simpa using hv12
        clear hv0 hv12
        go_wp2_with fail
        go_ret2
        exact ⟨m, _, rfl, HR5.out.1, HR5.out.2, H5.out.row⟩
end Go.Proofs.Ytbdhjkdojgdhbaa

namespace Go.Proofs.Ytbdhjkdojgdhbaa
open Go Go.ChangeShapes Go.WideShapes Go.ChangeAt Go.RowKit Go.Sort

theorem up_eq (b y : Nat) (d : Array Int) : shiftUp ltInt b y d = if y < b then (if !ltInt d[y]! d[y - 1]! then d else shiftUp ltInt b (y + 1) (Sort.swp d y (y - 1))) else d := by rw [shiftUp]
set_option maxRecDepth 100000 in
set_option maxHeartbeats 8000000 in
theorem partial_u {w0 w : World} {g n c : Nat} {d : Array Int} (a b : Nat) (h : SoW w0 g n c w d) (hab : a < b) (hb : b ≤ n) (hn : n ≤ 1000000) :
    Calls Try.prog 44 #[.slice (some ⟨g, 0, none⟩) n c, .int .i64 a, .int .i64 b] w fun e w' => e = .returned (.bool (partialInsertionSort ltInt d a b).2) ∧ SoW w0 g n c w' (partialInsertionSort ltInt d a b).1 := by
  have HS := hid h
  obtain ⟨t, ht⟩ : ∃ t, t = partialInsertionSort ltInt d a b := ⟨_, rfl⟩
  rw [← ht]
  have HE0 := hid (show partialIns ltInt a b 5 (a + 1) d = t from ht.symm)
  obtain ⟨L, hL⟩ : ∃ L, L = b - a := ⟨_, rfl⟩
  have hL1 : (b : Int) - (a : Int) = (L : Int) := by omega
  have hLb : L ≤ 1000000 := by omega
  have HLL := hid hL
  clear h ht hL
  go_enter Try.func44, Try.ntmps44
  go_wp2
  go_loopw [7, 8] (fun x y wr => ∃ (i v s : Nat) (d' : Array Int), a + 1 ≤ i ∧ i ≤ b ∧ v + s = 5 ∧ x = .int .i64 i ∧ y = .int .i64 v ∧ RowKit.Hid (SoW w0 g n c wr d') ∧ RowKit.Hid (partialIns ltInt a b s i d' = t)) (fun _ y _ => 5 - (intOf y).toNat)
  case atStart => exact ⟨a + 1, 0, 5, d, Nat.le_refl _, hab, rfl, by go_num, rfl, HS, HE0⟩
  case round =>
    obtain ⟨i, v, s, d2, hi1, hi2, hvs, rfl, rfl, HS2, HE2⟩ := hrel
    cases s with
    | zero =>
      have hv : v = 5 := by omega
      subst hv
      have he : t = (d2, false) := HE2.out.symm
      have HE3 := hid he
      clear he hvs
      go_wp2_with fail
      go_ret
      rw [HE3.out]
      exact ⟨rfl, HS2.out⟩
    | succ s =>
      have hv5 : v < 5 := by omega
      have HVS := hid hvs
      clear hvs
      go_wp2_with fail
      go_loopw [7] (fun x wr => ∃ (y : Nat), i ≤ y ∧ y ≤ b ∧ x = .int .i64 y ∧ RowKit.Hid (SoW w0 g n c wr d2) ∧ RowKit.Hid (scanSorted ltInt d2 b y = scanSorted ltInt d2 b i)) (fun x _ => b - (intOf x).toNat)
      case atStart => exact ⟨i, Nat.le_refl _, hi2, rfl, HS2, hid rfl⟩
      case round =>
        obtain ⟨z, hz1, hz2, rfl, HS3, HE3⟩ := hrel
        by_cases hzb : z < b
        · have hzn : z < n := by omega
          obtain ⟨k, hk⟩ : ∃ k, k = z - 1 := ⟨_, rfl⟩
          have hwk : IntKind.i64.wrap ((z : Int) - 1) = (k : Int) := by
            rw [show (z : Int) - 1 = (k : Int) by omega]; exact IntWalk.i64_in _ (by omega)
          have hkn : k < n := by omega
          have Hk := hid hk
          clear hk
          obtain ⟨G, hG⟩ : ∃ G : Nat → Int, G = fun t => d2[t]! := ⟨_, rfl⟩
          have HG := hid hG
          clear hG
          have cI := HS3.out.rd HG.out hzn
          have cJ := HS3.out.rd HG.out hkn
          have hsc : scanSorted ltInt d2 b z = if ltInt d2[z]! d2[k]! = true then z else scanSorted ltInt d2 b (z + 1) := by
            rw [scanSorted, decide_eq_true hzb, Bool.true_and, ← Hk.out]
            cases ltInt d2[z]! d2[k]! <;> rfl
          have HSC := hid hsc
          clear hsc
          cases hlt : ltInt (G z) (G k) with
          | false =>
            have HL := hid (fun W => Less_u (G z) (G k) W)
            rw [hlt] at HL
            have he : scanSorted ltInt d2 b (z + 1) = scanSorted ltInt d2 b i := by
              rw [HG.out] at hlt
              rw [← HE3.out, HSC.out, if_neg (by rw [hlt]; decide)]
            have HE4 := hid he
            clear hlt he
            go_upto_region 5 with fail
            go_quiet (first | (go_at_call 45; refine Calls.quiet_of_same (HL.out _)))
            have HS4 := hid (HS3.out.drewN nq)
            go_wp2_with fail
            go_roundw
            case rel => exact ⟨z + 1, by omega, by omega, by go_num, HS4, HE4⟩
            case measure => simp [intOf]; omega
          | true =>
            have HL := hid (fun W => Less_u (G z) (G k) W)
            rw [hlt] at HL
            have he : scanSorted ltInt d2 b i = z := by
              rw [HG.out] at hlt
              rw [← HE3.out, HSC.out, if_pos hlt]
            have hee := HE2.out
            rw [partialIns_succ, he, if_neg (by omega), ← Hk.out, ← HLL.out] at hee
            have HEE := hid hee
            clear hlt he hee
            go_upto_region 5 with fail
            go_quiet (first | (go_at_call 45; refine Calls.quiet_of_same (HL.out _)))
            have HS4 := hid (HS3.out.drewN nq)
            clear cI cJ
            generalize wr.drewN nq = W2 at HS4 ⊢
            have hzne : (z == b) = false := by simp; omega
            by_cases h50 : L < 50
            · have he : t = (d2, false) := by
                have h1 := HEE.out
                rw [if_pos h50] at h1
                exact h1.symm
              have HE4 := hid he
              clear he
              go_wp2_with fail
              go_ret
              rw [HE4.out]
              exact ⟨rfl, HS4.out⟩
            · have HE4 := hid (show partialIns ltInt a b s z (fixUp ltInt b z (fixDown ltInt a z (Sort.swp d2 z k))) = t by
                have h1 := HEE.out
                rw [if_neg h50] at h1
                exact h1)
              go_upto_region 11 with fail
              obtain ⟨c0, c1, f0, ⟨v1, m0⟩, m1, hsw⟩ := HS4.out.sw HG.out (i := z) (j := k) hzn hkn
              have HSW := hid hsw
              clear hsw
              refine D.wp_region_mix [0, 0, 0, 0, 0, 0, 0, 0, 0, 1, 0, 0, 0, 1, 0, 3, 0, 3] (fun W' => W'.cell? ⟨g, z, none⟩ = some (.int .u64 (G z)) ∧ W'.cell? ⟨g, k, none⟩ = some (.int .u64 (G k))) (by kernel_rfl) (by kernel_rfl) ⟨c0, c1⟩ ?_
              repeat (first
                | (refine' C.wpMix_value _ rfl rfl _ _; rotate_left; (solve | (intro W; go_simp) | (intro W; go_simp; with_reducible rfl)); simp only [Act.put, List.setIfInBounds_toArray, List.set_cons_zero, List.set_cons_succ])
                | (refine' C.wpMix_read _ rfl rfl _ _; rotate_left; (solve | (rintro W ⟨h1, h2⟩; go_simp) | (rintro W ⟨h1, h2⟩; go_simp; with_reducible rfl)); simp only [Act.put, List.setIfInBounds_toArray, List.set_cons_zero, List.set_cons_succ]))
              refine C.wpMix_skip (W2.drew.setCell ⟨g, z, none⟩ (.int .u64 (G k))) (by decide) rfl (by go_simp) (fun h => by cases h) ?_
              simp only [Act.put]
              clear c0 c1 f0
              generalize W2.drew.setCell ⟨g, z, none⟩ (.int .u64 (G k)) = W1 at m0 m1 HSW ⊢
              repeat (first
                | (refine' C.wpMix_value _ rfl rfl _ _; rotate_left; (solve | (intro W; go_simp) | (intro W; go_simp; with_reducible rfl)); simp only [Act.put, List.setIfInBounds_toArray, List.set_cons_zero, List.set_cons_succ]))
              refine C.wpMix_skip (W1.setCell ⟨g, k, none⟩ (.int .u64 (G z))) (by decide) rfl (by go_simp) (fun h => by cases h) ?_
              simp only [Act.put]
              refine C.wpMix_end ?_
              clear m0 m1
              obtain ⟨M, hM⟩ : ∃ M, M = z - a := ⟨_, rfl⟩
              have hM1 : (z : Int) - (a : Int) = (M : Int) := by omega
              have hMb : M ≤ 1000000 := by omega
              have HMM := hid hM
              clear hM
              go_upto_if 61 with fail
              go_cut [] from 13 to 132 (fun wx => ∃ d4, RowKit.Hid (SoW w0 g n c wx d4) ∧ RowKit.Hid (fixDown ltInt a z (Sort.swp d2 z k) = d4))
              case first =>
                by_cases h2 : 2 ≤ M
                · have HE5 := hid (show fixDown ltInt a z (Sort.swp d2 z k) = shiftDown ltInt k (Sort.swp d2 z k) by
                    have hm := HMM.out
                    unfold fixDown
                    rw [if_pos (by omega), ← Hk.out])
                  go_wp2_with fail
                  go_loopw [9] (fun x wr => ∃ (y : Nat) (d' : Array Int), y ≤ k ∧ x = .int .i64 y ∧ RowKit.Hid (SoW w0 g n c wr d') ∧ RowKit.Hid (shiftDown ltInt y d' = shiftDown ltInt k (Sort.swp d2 z k))) (fun x _ => (intOf x).toNat)
                  case atStart => exact ⟨k, _, Nat.le_refl _, by have := Hk.out; go_num, HSW, hid rfl⟩
                  case round =>
                    obtain ⟨y, d5, hy, rfl, HS5, HE7⟩ := hrel
                    by_cases hy0 : 1 ≤ y
                    · have hyn : y < n := by omega
                      obtain ⟨m, hm⟩ : ∃ m, m = y - 1 := ⟨_, rfl⟩
                      have hwm : IntKind.i64.wrap ((y : Int) - 1) = (m : Int) := by
                        rw [show (y : Int) - 1 = (m : Int) by omega]; exact IntWalk.i64_in _ (by omega)
                      have hmn : m < n := by omega
                      have Hm := hid hm
                      have hsd : shiftDown ltInt y d5 = if ltInt d5[y]! d5[m]! = true then shiftDown ltInt m (Sort.swp d5 y m) else d5 := by
                        obtain ⟨q, rfl⟩ : ∃ q, y = q + 1 := ⟨y - 1, by omega⟩
                        obtain rfl : m = q := by omega
                        rw [shiftDown]
                        cases ltInt d5[m + 1]! d5[m]! <;> rfl
                      have HSD := hid hsd
                      clear hm hsd
                      obtain ⟨G, hG⟩ : ∃ G : Nat → Int, G = fun t => d5[t]! := ⟨_, rfl⟩
                      have HG := hid hG
                      clear hG
                      have cI := HS5.out.rd HG.out hyn
                      have cJ := HS5.out.rd HG.out hmn
                      cases hlt : ltInt (G y) (G m) with
                      | true =>
                        have HL := hid (fun W => Less_u (G y) (G m) W)
                        rw [hlt] at HL
                        have he : shiftDown ltInt m (Sort.swp d5 y m) = shiftDown ltInt k (Sort.swp d2 z k) := by
                          rw [HG.out] at hlt
                          rw [← HE7.out, HSD.out, if_pos hlt]
                        have HE8 := hid he
                        clear hlt he
                        go_upto_region 16 with fail
                        go_quiet (first | (go_at_call 45; refine Calls.quiet_of_same (HL.out _)))
                        go_upto_region 17 with fail
                        clear cI cJ
                        have HS6 := hid (HS5.out.drewN nq)
                        generalize wr.drewN nq = W at HS6 ⊢
                        obtain ⟨c0, c1, f0, ⟨v1, m0⟩, m1, hsw⟩ := HS6.out.sw HG.out (i := y) (j := m) hyn hmn
                        have HSV := hid hsw
                        clear hsw
                        refine D.wp_region_mix [0, 0, 0, 0, 0, 0, 0, 0, 0, 1, 0, 0, 0, 1, 0, 3, 0, 3] (fun W' => W'.cell? ⟨g, y, none⟩ = some (.int .u64 (G y)) ∧ W'.cell? ⟨g, m, none⟩ = some (.int .u64 (G m))) (by kernel_rfl) (by kernel_rfl) ⟨c0, c1⟩ ?_
                        repeat (first
                          | (refine' C.wpMix_value _ rfl rfl _ _; rotate_left; (solve | (intro W; go_simp) | (intro W; go_simp; with_reducible rfl)); simp only [Act.put, List.setIfInBounds_toArray, List.set_cons_zero, List.set_cons_succ])
                          | (refine' C.wpMix_read _ rfl rfl _ _; rotate_left; (solve | (rintro W ⟨h1, h2⟩; go_simp) | (rintro W ⟨h1, h2⟩; go_simp; with_reducible rfl)); simp only [Act.put, List.setIfInBounds_toArray, List.set_cons_zero, List.set_cons_succ]))
                        refine C.wpMix_skip (W.drew.setCell ⟨g, y, none⟩ (.int .u64 (G m))) (by decide) rfl (by go_simp) (fun h => by cases h) ?_
                        simp only [Act.put]
                        clear c0 c1 f0
                        generalize W.drew.setCell ⟨g, y, none⟩ (.int .u64 (G m)) = W1 at m0 m1 HSV ⊢
                        repeat (first
                          | (refine' C.wpMix_value _ rfl rfl _ _; rotate_left; (solve | (intro W; go_simp) | (intro W; go_simp; with_reducible rfl)); simp only [Act.put, List.setIfInBounds_toArray, List.set_cons_zero, List.set_cons_succ]))
                        refine C.wpMix_skip (W1.setCell ⟨g, m, none⟩ (.int .u64 (G y))) (by decide) rfl (by go_simp) (fun h => by cases h) ?_
                        simp only [Act.put]
                        refine C.wpMix_end ?_
                        clear m0 m1
                        go_wp2_with fail
                        go_roundw
                        case rel => exact ⟨m, _, by have := Hm.out; omega, by have := Hm.out; go_num, HSV, HE8⟩
                        case measure => have := Hm.out; simp [intOf]; omega
                      | false =>
                        have HL := hid (fun W => Less_u (G y) (G m) W)
                        rw [hlt] at HL
                        have he2 : fixDown ltInt a z (Sort.swp d2 z k) = d5 := by
                          rw [HG.out] at hlt
                          rw [HE5.out, ← HE7.out, HSD.out, if_neg (by rw [hlt]; decide)]
                        have HE8 := hid he2
                        clear hlt he2
                        go_upto_region 16 with fail
                        go_quiet (first | (go_at_call 45; refine Calls.quiet_of_same (HL.out _)))
                        have HS6 := hid (HS5.out.drewN nq)
                        go_wp2_with fail
                        go_meet
                        case rel => exact ⟨d5, HS6, HE8⟩
                    · obtain rfl : y = 0 := by omega
                      have he2 : fixDown ltInt a z (Sort.swp d2 z k) = d5 := by
                        rw [HE5.out, ← HE7.out]; rfl
                      have HE8 := hid he2
                      clear he2
                      go_wp2_with fail
                      go_meet
                      case rel => exact ⟨d5, HS5, HE8⟩
                · have he2 : fixDown ltInt a z (Sort.swp d2 z k) = Sort.swp d2 z k := by
                    have hm := HMM.out
                    unfold fixDown
                    rw [if_neg (by omega)]
                  have HE8 := hid he2
                  clear he2
                  go_wp2_with fail
                  go_meet
                  case rel => exact ⟨_, HSW, HE8⟩
              case rest =>
                obtain ⟨d4, HS5, HFD⟩ := hcut
                have HE9 := hid (show partialIns ltInt a b s z (fixUp ltInt b z d4) = t by rw [← HFD.out]; exact HE4.out)
                clear HE4
                have HE4 := HE9
                clear HE9
                obtain ⟨Z, hZ⟩ : ∃ Z, Z = b - z := ⟨_, rfl⟩
                have hZ1 : (b : Int) - (z : Int) = (Z : Int) := by omega
                have hZb : Z ≤ 1000000 := by omega
                have HZ := hid hZ
                clear hZ
                by_cases h2 : 2 ≤ Z
                · have HE6 := hid (show partialIns ltInt a b s z (shiftUp ltInt b (z + 1) d4) = t by
                    have h1 := HE4.out
                    have hz := HZ.out
                    unfold fixUp at h1
                    rw [if_pos (by omega)] at h1
                    exact h1)
                  go_wp2_with fail
                  go_loopw [10] (fun x wr => ∃ (y : Nat) (d' : Array Int), z + 1 ≤ y ∧ y ≤ b ∧ x = .int .i64 y ∧ RowKit.Hid (SoW w0 g n c wr d') ∧ RowKit.Hid (shiftUp ltInt b y d' = shiftUp ltInt b (z + 1) d4)) (fun x _ => b - (intOf x).toNat)
                  case atStart => exact ⟨z + 1, d4, Nat.le_refl _, by have := HZ.out; omega, by go_num, HS5, hid rfl⟩
                  case round =>
                    obtain ⟨y, d5, hy1, hy2, rfl, HS5, HE7⟩ := hrel
                    by_cases hyb : y < b
                    · have hyn : y < n := by omega
                      obtain ⟨k, hk⟩ : ∃ k, k = y - 1 := ⟨_, rfl⟩
                      have hwk : IntKind.i64.wrap ((y : Int) - 1) = (k : Int) := by
                        rw [show (y : Int) - 1 = (k : Int) by omega]; exact IntWalk.i64_in _ (by omega)
                      have hkn : k < n := by omega
                      have Hk := hid hk
                      clear hk
                      obtain ⟨G, hG⟩ : ∃ G : Nat → Int, G = fun t => d5[t]! := ⟨_, rfl⟩
                      have HG := hid hG
                      clear hG
                      have cI := HS5.out.rd HG.out hyn
                      have cJ := HS5.out.rd HG.out hkn
                      cases hlt : ltInt (G y) (G k) with
                      | true =>
                        have HL := hid (fun W => Less_u (G y) (G k) W)
                        rw [hlt] at HL
                        have he : shiftUp ltInt b (y + 1) (Sort.swp d5 y k) = shiftUp ltInt b (z + 1) d4 := by
                          rw [← HE7.out, up_eq b y, if_pos hyb, ← Hk.out]
                          rw [HG.out] at hlt
                          rw [if_neg (by rw [hlt]; decide)]
                        have HE8 := hid he
                        clear hlt he
                        go_upto_region 22 with fail
                        go_quiet (first | (go_at_call 45; refine Calls.quiet_of_same (HL.out _)))
                        go_upto_region 23 with fail
                        clear cI cJ
                        have HS6 := hid (HS5.out.drewN nq)
                        generalize wr.drewN nq = W at HS6 ⊢
                        obtain ⟨c0, c1, f0, ⟨v1, m0⟩, m1, hsw⟩ := HS6.out.sw HG.out (i := y) (j := k) hyn hkn
                        have HSW := hid hsw
                        clear hsw
                        refine D.wp_region_mix [0, 0, 0, 0, 0, 0, 0, 0, 0, 1, 0, 0, 0, 1, 0, 3, 0, 3] (fun W' => W'.cell? ⟨g, y, none⟩ = some (.int .u64 (G y)) ∧ W'.cell? ⟨g, k, none⟩ = some (.int .u64 (G k))) (by kernel_rfl) (by kernel_rfl) ⟨c0, c1⟩ ?_
                        repeat (first
                          | (refine' C.wpMix_value _ rfl rfl _ _; rotate_left; (solve | (intro W; go_simp) | (intro W; go_simp; with_reducible rfl)); simp only [Act.put, List.setIfInBounds_toArray, List.set_cons_zero, List.set_cons_succ])
                          | (refine' C.wpMix_read _ rfl rfl _ _; rotate_left; (solve | (rintro W ⟨h1, h2⟩; go_simp) | (rintro W ⟨h1, h2⟩; go_simp; with_reducible rfl)); simp only [Act.put, List.setIfInBounds_toArray, List.set_cons_zero, List.set_cons_succ]))
                        refine C.wpMix_skip (W.drew.setCell ⟨g, y, none⟩ (.int .u64 (G k))) (by decide) rfl (by go_simp) (fun h => by cases h) ?_
                        simp only [Act.put]
                        clear c0 c1 f0
                        generalize W.drew.setCell ⟨g, y, none⟩ (.int .u64 (G k)) = W1 at m0 m1 HSW ⊢
                        repeat (first
                          | (refine' C.wpMix_value _ rfl rfl _ _; rotate_left; (solve | (intro W; go_simp) | (intro W; go_simp; with_reducible rfl)); simp only [Act.put, List.setIfInBounds_toArray, List.set_cons_zero, List.set_cons_succ]))
                        refine C.wpMix_skip (W1.setCell ⟨g, k, none⟩ (.int .u64 (G y))) (by decide) rfl (by go_simp) (fun h => by cases h) ?_
                        simp only [Act.put]
                        refine C.wpMix_end ?_
                        clear m0 m1
                        go_wp2_with fail
                        go_roundw
                        case rel => exact ⟨y + 1, _, by omega, by omega, by go_num, HSW, HE8⟩
                        case measure => simp [intOf]; omega
                      | false =>
                        have HL := hid (fun W => Less_u (G y) (G k) W)
                        rw [hlt] at HL
                        have he2 : shiftUp ltInt b (z + 1) d4 = d5 := by
                          rw [← HE7.out, up_eq b y, if_pos hyb, ← Hk.out]
                          rw [HG.out] at hlt
                          rw [if_pos (by rw [hlt]; decide)]
                        have HE8 := hid he2
                        clear hlt he2
                        go_upto_region 22 with fail
                        go_quiet (first | (go_at_call 45; refine Calls.quiet_of_same (HL.out _)))
                        have HS6 := hid (HS5.out.drewN nq)
                        have he : partialIns ltInt a b s z d5 = t := by
                          rw [← HE8.out]; exact HE6.out
                        have HE5 := hid he
                        clear he
                        go_wp2_with fail
                        go_roundw
                        case rel => exact ⟨z, v + 1, s, d5, by omega, by omega, by have := HVS.out; omega, by go_num, by go_num, HS6, HE5⟩
                        case measure => have := HVS.out; simp [intOf]; omega
                    · have he2 : shiftUp ltInt b (z + 1) d4 = d5 := by
                        rw [← HE7.out, up_eq b y, if_neg hyb]
                      have HE8 := hid he2
                      clear he2
                      have he : partialIns ltInt a b s z d5 = t := by
                        rw [← HE8.out]; exact HE6.out
                      have HE5 := hid he
                      clear he
                      go_wp2_with fail
                      go_roundw
                      case rel => exact ⟨z, v + 1, s, d5, by omega, by omega, by have := HVS.out; omega, by go_num, by go_num, HS5, HE5⟩
                      case measure => have := HVS.out; simp [intOf]; omega
                · have HE6 := hid (show partialIns ltInt a b s z d4 = t by
                    have h1 := HE4.out
                    have hz := HZ.out
                    unfold fixUp at h1
                    rw [if_neg (by omega)] at h1
                    exact h1)
                  have he : partialIns ltInt a b s z d4 = t := by
                    exact HE6.out
                  have HE5 := hid he
                  clear he
                  go_wp2_with fail
                  go_roundw
                  case rel => exact ⟨z, v + 1, s, d4, by omega, by omega, by have := HVS.out; omega, by go_num, by go_num, HS5, HE5⟩
                  case measure => have := HVS.out; simp [intOf]; omega
        · obtain rfl : z = b := by omega
          have he : t = (d2, true) := by
            have h1 := HE2.out
            rw [partialIns_succ, if_pos (by rw [← HE3.out, scanSorted, if_neg (by simp)])] at h1
            exact h1.symm
          have HE4 := hid he
          clear he
          go_upto_region 5 with fail
          go_quiet (fail)
          have HS4 := hid (HS3.out.drewN nq)
          go_wp2_with fail
          go_ret
          rw [HE4.out]
          exact ⟨rfl, HS4.out⟩
end Go.Proofs.Ytbdhjkdojgdhbaa
