/- SoJ SoK SoL in one -/
import Derived.Test.YtbdhjkdojgdhbaaSoI
import Derived.Test.YtbdhjkdojgdhbaaLay1
import Derived.RangeFuncBox
import Derived.Test.YtbdhjkdojgdhbaaSoD
import Derived.Test.YtbdhjkdojgdhbaaSoG
namespace Go.Proofs.Ytbdhjkdojgdhbaa
open Go Go.ChangeShapes Go.WideShapes Go.ChangeAt Go.RowKit Go.Sort

/-- The row, and a drawn number in a box of its own. -/
structure SoY (w0 : World) (g n c : Nat) (d : Array Int) (s : Nat) (W : World) : Prop where
  row : SoW w0 g n c W d
  box : ∃ X : Nat, X < 18446744073709551616 ∧ Boxed W s 88 (.int .u64 X)
  hs : w0.heap.size ≤ s
section
variable {w0 W W' : World} {g n c s : Nat} {d : Array Int}
theorem SoY.drewN (h : SoY w0 g n c d s W) (q : Nat) : SoY w0 g n c d s (W.drewN q) := ⟨h.row.drewN q, h.box, h.hs⟩
theorem SoY.ne (h : SoY w0 g n c d s W) : g ≠ s := fun e => by
  obtain ⟨k, _, hk⟩ := h.box
  exact hk.not_row (by decide) h.row.own (by rw [e]; rfl)
theorem SoY.set (h : SoY w0 g n c d s W) (k : Nat) (hk2 : k < 18446744073709551616) : SoY w0 g n c d s (W.setCell ⟨s, 0, none⟩ (.int .u64 k)) := by
  obtain ⟨k0, _, hk⟩ := h.box
  exact ⟨⟨((Fr.refl (fun b => b = s) W).setCell ⟨s, 0, none⟩ _ (fun _ => rfl)).owns h.row.own (fun k e e2 => h.ne (by cases e; exact e2)), h.row.fr.setCell _ _ (fun e => absurd e (Nat.not_lt.2 h.hs))⟩, ⟨k, hk2, hk.set _⟩, h.hs⟩
theorem SoW.base (h : SoW w0 g n c W d) : SoW W g n c W d := ⟨h.own, Fr.refl _ _⟩
theorem SoY.swap (h : SoY w0 g n c d s W) {d2 : Array Int} (h2 : SoW W g n c W' d2) : SoY w0 g n c d2 s W' := by
  obtain ⟨X, hX, hk⟩ := h.box
  exact ⟨⟨h2.own, h.row.fr.trans h2.fr (fun _ e _ => e)⟩, ⟨X, hX, (h2.fr.block s hk.lt (fun e => h.ne e.symm)).trans hk⟩, h.hs⟩
end
theorem Next_u {w0 w : World} {g n c s : Nat} {d : Array Int} (h : SoY w0 g n c d s w) :
    Calls Try.prog 55 #[.pointer (some ⟨s, 0, none⟩)] w fun e w' => ∃ r : Nat, e = .returned (.int .u64 r) ∧ r < 18446744073709551616 ∧ SoY w0 g n c d s w' := by
  obtain ⟨X, hX, hk⟩ := h.box
  have h1 := AnyF.xorshift_Next (P := Try.prog) (ρ := Try.sortE_ren) { Try.sortE with } s 0 X hX w hk.cell hk.frozen
  refine (show Calls Try.prog 55 _ _ _ from h1).mono ?_
  rintro e w' ⟨rfl, rfl⟩
  exact ⟨_, rfl, xorNextN_lt X hX, (h.set _ (xorNextN_lt X hX)).drewN 3⟩
theorem Pow_u (w : World) (L : Nat) (hL : L ≤ 1000000) (h1 : 1 ≤ L) :
    Calls Try.prog 54 #[.int .i64 L] w fun e w' => ∃ M : Nat, e = .returned (.int .u64 M) ∧ 1 ≤ M ∧ M ≤ 2 * L ∧ w' = w := by
  have h2 := AnyF.nextPowerOfTwo (P := Try.prog) (ρ := Try.sortE_ren) { Try.sortE with } L (by omega) w
  refine (show Calls Try.prog 54 _ _ _ from h2).mono ?_
  rintro e w' ⟨rfl, rfl⟩
  refine ⟨_, rfl, ?_, ?_, rfl⟩
  · rw [Nat.one_shiftLeft]; exact Nat.two_pow_pos _
  · rw [Nat.one_shiftLeft]; exact two_pow_bitsLen_le (by omega)
theorem BLen_u (w : World) (L : Nat) (hL : L ≤ 1000000) : Calls Try.prog 34 #[.int .u64 L] w fun e w' => ∃ x : Int, e = .returned (.int .i64 x) ∧ w' = w := by
  have h2 := Any.bits_Len (SlLaysF0.n15.bits (P := Try.prog) (ρ := Try.sortE_ren) { Try.sortE with }) (L : Int) w (by omega) (by omega)
  refine (show Calls Try.prog 34 _ _ _ from h2).mono ?_
  rintro e w' ⟨rfl, rfl⟩
  exact ⟨_, rfl, rfl⟩
set_option maxRecDepth 100000 in
set_option maxHeartbeats 8000000 in
theorem break_u {w0 w : World} {g n c : Nat} {d : Array Int} (a b : Nat) (h : SoW w0 g n c w d) (hab : a + 12 < b) (hb : b ≤ n) (hn : n ≤ 1000000) :
    Calls Try.prog 41 #[.slice (some ⟨g, 0, none⟩) n c, .int .i64 a, .int .i64 b] w fun e w' => ∃ d', e = .returned (.tuple #[]) ∧ PermIn a b d d' ∧ SoW w0 g n c w' d' := by
  have HS := hid h
  obtain ⟨L, hL⟩ : ∃ L, L = b - a := ⟨_, rfl⟩
  obtain ⟨q, hq⟩ : ∃ q, q = L / 4 := ⟨_, rfl⟩
  obtain ⟨x0, hx0⟩ : ∃ x0, x0 = a + q * 2 - 1 := ⟨_, rfl⟩
  obtain ⟨x1, hx1⟩ : ∃ x1, x1 = a + q * 2 + 1 := ⟨_, rfl⟩
  have hL1 : (b : Int) - (a : Int) = (L : Int) := by omega
  have hq1 : (L : Int).tdiv 4 = (q : Int) := by rw [Int.tdiv_eq_ediv_of_nonneg (by omega), hq]; omega
  have hx01 : (a : Int) + (q : Int) * 2 - 1 = (x0 : Int) := by omega
  have hx11 : (a : Int) + (q : Int) * 2 + 1 = (x1 : Int) := by omega
  have hLn : L ≤ 1000000 := by omega
  have hL8 : 8 ≤ L := by omega
  have hqn : q ≤ 1000000 := by omega
  have hx1b : x1 < b := by omega
  have hx0a : a ≤ x0 := by omega
  have hx01b : x0 ≤ x1 := by omega
  have hLb : a + L = b := by omega
  have HP := hid (fun W => Pow_u W L hLn (by omega))
  obtain ⟨w1, hw1⟩ : ∃ w1, w1 = w.alloc (.cells #[.int .u64 (L : Int)] 88) := ⟨_, rfl⟩
  have hy1 : SoY w0 g n c d w.heap.size w1 := by
    rw [hw1]
    exact ⟨h.no ((Fr.refl _ _).alloc _), ⟨L, by omega, Boxed.new _ _ _⟩, h.fr.size⟩
  obtain ⟨s, hs⟩ : ∃ s, s = w.heap.size := ⟨_, rfl⟩
  rw [← hs] at hy1
  have HY1 := hid hy1
  have HSS := hid hs
  have HW1 := hid hw1
  have HLB := hid hLb
  have hds := h.sz
  have HP0 := hid (permIn_refl d a b)
  clear h hL hq hx0 hx1 hLb hw1 hs hy1 hds
  go_enter Try.func41, Try.ntmps41
  go_wp2_with fail
  rw [← HW1.out, ← HSS.out]
  refine (HP.out w1).mono ?_
  rintro e w' ⟨M, rfl, hM1, hM2, rfl⟩
  clear HP
  obtain ⟨m, hm⟩ : ∃ m, m = M - 1 := ⟨_, rfl⟩
  have hm1 : (M : Int) - 1 = (m : Int) := by omega
  have hmM : m < 2 * L := by omega
  clear hm
  go_wp2_with fail
  go_loopw [9] (fun v wr => ∃ (x : Nat) (d' : Array Int), x0 ≤ x ∧ x ≤ x1 + 1 ∧ v = .int .i64 x ∧ RowKit.Hid (SoY w0 g n c d' s wr) ∧ RowKit.Hid (PermIn a b d d')) (fun v _ => x1 + 1 - (intOf v).toNat)
  case atStart => exact ⟨x0, d, Nat.le_refl _, by omega, rfl, HY1, HP0⟩
  case round =>
    obtain ⟨x, d2, hxa, hxb, rfl, HY2, HPE⟩ := hrel
    by_cases hx : x ≤ x1
    · have hxn : x < n := by omega
      go_wp2_with fail
      refine (Next_u HY2.out).mono ?_
      rintro e w2 ⟨r, rfl, hr, h2⟩
      have HY3 := hid h2
      clear h2
      obtain ⟨o, ho⟩ : ∃ o, o = r &&& m := ⟨_, rfl⟩
      have hom : o ≤ m := by rw [ho]; exact Nat.and_le_right
      have hand : bits .and .u64 (r : Int) (m : Int) = (o : Int) := by rw [bits_and_u64_nat _ _ hr (by omega), ho]
      clear ho hr
      by_cases hoL : L ≤ o
      · obtain ⟨o2, ho2⟩ : ∃ o2, o2 = o - L := ⟨_, rfl⟩
        have ho21 : (o : Int) - (L : Int) = (o2 : Int) := by omega
        have ho2L : o2 < L := by omega
        clear ho2
        obtain ⟨J, hJ⟩ : ∃ J, J = a + o2 := ⟨_, rfl⟩
        have hJb : J < b := by have := HLB.out; omega
        have hJa : a ≤ J := by omega
        have hJn : J < n := by omega
        have hwJ : IntKind.i64.wrap ((a : Int) + (o2 : Int)) = (J : Int) := by
          rw [show (a : Int) + (o2 : Int) = (J : Int) by omega]; exact IntWalk.i64_in _ (by omega)
        clear hJ
        have HPF := hid (permIn_trans d d2 (Sort.swp d2 x J) a b HPE.out (swp_permIn d2 a b x J (by omega) (by omega) hJa hJb (by have := HY3.out.row.sz; omega)))
        have HSB := hid HY3.out.row.base
        obtain ⟨G, hG⟩ : ∃ G : Nat → Int, G = fun t => d2[t]! := ⟨_, rfl⟩
        have HG := hid hG
        clear hG
        go_upto_region 10 with fail
        obtain ⟨c0, c1, f0, ⟨v1, m0⟩, m1, hsw⟩ := HSB.out.sw HG.out (i := x) (j := J) hxn hJn
        have HSW := hid hsw
        clear hsw
        refine D.wp_region_mix [0, 0, 0, 0, 0, 0, 0, 0, 0, 0, 0, 1, 0, 0, 0, 1, 0, 3, 0, 3] (fun W' => W'.cell? ⟨g, x, none⟩ = some (.int .u64 (G x)) ∧ W'.cell? ⟨g, J, none⟩ = some (.int .u64 (G J))) (by kernel_rfl) (by kernel_rfl) ⟨c0, c1⟩ ?_
        repeat (first
          | (refine' C.wpMix_value _ rfl rfl _ _; rotate_left; (solve | (intro W; go_simp) | (intro W; go_simp; with_reducible rfl)); simp only [Act.put, List.setIfInBounds_toArray, List.set_cons_zero, List.set_cons_succ])
          | (refine' C.wpMix_read _ rfl rfl _ _; rotate_left; (solve | (rintro W ⟨h1, h2⟩; go_simp) | (rintro W ⟨h1, h2⟩; go_simp; with_reducible rfl)); simp only [Act.put, List.setIfInBounds_toArray, List.set_cons_zero, List.set_cons_succ]))
        refine C.wpMix_skip (w2.drew.setCell ⟨g, x, none⟩ (.int .u64 (G J))) (by decide) rfl (by go_simp) (fun h => by cases h) ?_
        simp only [Act.put]
        clear c0 c1 f0
        generalize w2.drew.setCell ⟨g, x, none⟩ (.int .u64 (G J)) = W1 at m0 m1 HSW ⊢
        repeat (first
          | (refine' C.wpMix_value _ rfl rfl _ _; rotate_left; (solve | (intro W; go_simp) | (intro W; go_simp; with_reducible rfl)); simp only [Act.put, List.setIfInBounds_toArray, List.set_cons_zero, List.set_cons_succ]))
        refine C.wpMix_skip (W1.setCell ⟨g, J, none⟩ (.int .u64 (G x))) (by decide) rfl (by go_simp) (fun h => by cases h) ?_
        simp only [Act.put]
        refine C.wpMix_end ?_
        clear m0 m1
        have HY4 := hid (HY3.out.swap HSW.out)
        go_wp2_with fail
        go_roundw
        case rel => exact ⟨x + 1, _, by omega, by omega, by go_num, HY4, HPF⟩
        case measure => simp [intOf]; omega
      · have hoL2 : o < L := by omega
        obtain ⟨J, hJ⟩ : ∃ J, J = a + o := ⟨_, rfl⟩
        have hJb : J < b := by have := HLB.out; omega
        have hJa : a ≤ J := by omega
        have hJn : J < n := by omega
        have hwJ : IntKind.i64.wrap ((a : Int) + (o : Int)) = (J : Int) := by
          rw [show (a : Int) + (o : Int) = (J : Int) by omega]; exact IntWalk.i64_in _ (by omega)
        clear hJ
        have HPF := hid (permIn_trans d d2 (Sort.swp d2 x J) a b HPE.out (swp_permIn d2 a b x J (by omega) (by omega) hJa hJb (by have := HY3.out.row.sz; omega)))
        have HSB := hid HY3.out.row.base
        obtain ⟨G, hG⟩ : ∃ G : Nat → Int, G = fun t => d2[t]! := ⟨_, rfl⟩
        have HG := hid hG
        clear hG
        go_upto_region 10 with fail
        obtain ⟨c0, c1, f0, ⟨v1, m0⟩, m1, hsw⟩ := HSB.out.sw HG.out (i := x) (j := J) hxn hJn
        have HSW := hid hsw
        clear hsw
        refine D.wp_region_mix [0, 0, 0, 0, 0, 0, 0, 0, 0, 0, 0, 1, 0, 0, 0, 1, 0, 3, 0, 3] (fun W' => W'.cell? ⟨g, x, none⟩ = some (.int .u64 (G x)) ∧ W'.cell? ⟨g, J, none⟩ = some (.int .u64 (G J))) (by kernel_rfl) (by kernel_rfl) ⟨c0, c1⟩ ?_
        repeat (first
          | (refine' C.wpMix_value _ rfl rfl _ _; rotate_left; (solve | (intro W; go_simp) | (intro W; go_simp; with_reducible rfl)); simp only [Act.put, List.setIfInBounds_toArray, List.set_cons_zero, List.set_cons_succ])
          | (refine' C.wpMix_read _ rfl rfl _ _; rotate_left; (solve | (rintro W ⟨h1, h2⟩; go_simp) | (rintro W ⟨h1, h2⟩; go_simp; with_reducible rfl)); simp only [Act.put, List.setIfInBounds_toArray, List.set_cons_zero, List.set_cons_succ]))
        refine C.wpMix_skip (w2.drew.setCell ⟨g, x, none⟩ (.int .u64 (G J))) (by decide) rfl (by go_simp) (fun h => by cases h) ?_
        simp only [Act.put]
        clear c0 c1 f0
        generalize w2.drew.setCell ⟨g, x, none⟩ (.int .u64 (G J)) = W1 at m0 m1 HSW ⊢
        repeat (first
          | (refine' C.wpMix_value _ rfl rfl _ _; rotate_left; (solve | (intro W; go_simp) | (intro W; go_simp; with_reducible rfl)); simp only [Act.put, List.setIfInBounds_toArray, List.set_cons_zero, List.set_cons_succ]))
        refine C.wpMix_skip (W1.setCell ⟨g, J, none⟩ (.int .u64 (G x))) (by decide) rfl (by go_simp) (fun h => by cases h) ?_
        simp only [Act.put]
        refine C.wpMix_end ?_
        clear m0 m1
        have HY4 := hid (HY3.out.swap HSW.out)
        go_wp2_with fail
        go_roundw
        case rel => exact ⟨x + 1, _, by omega, by omega, by go_num, HY4, HPF⟩
        case measure => simp [intOf]; omega
    · go_wp2_with fail
      go_end0
      exact ⟨_, rfl, HPE.out, HY2.out.row⟩
end Go.Proofs.Ytbdhjkdojgdhbaa

namespace Go.Proofs.Ytbdhjkdojgdhbaa
open Go Go.ChangeShapes Go.WideShapes Go.ChangeAt Go.RowKit Go.Sort

/-- The main loop's contract, at rows of less than N. -/
def PdqC (N : Nat) : Prop := ∀ (w0 w : World) (g n c : Nat) (d : Array Int) (a b : Nat) (lim : Int), SoW w0 g n c w d → a ≤ b → b ≤ n → n ≤ 1000000 → b - a < N → Sort.Below ltInt a b d →
    Calls Try.prog 33 #[.slice (some ⟨g, 0, none⟩) n c, .int .i64 a, .int .i64 b, .int .i64 lim] w fun e w' => ∃ d', e = .returned (.tuple #[]) ∧ PermIn a b d d' ∧ SortedIn ltInt a b d' ∧ SoW w0 g n c w' d'
set_option maxRecDepth 100000 in
set_option maxHeartbeats 8000000 in
theorem pdq_step (N : Nat) (ih : PdqC N) : PdqC (N + 1) := by
  intro w0 w g n c d a b lim h hab hb hn hN hB
  have IH := hid ih
  clear ih
  have HS := hid h
  have HB := hid hB
  have HC := hid (fun (R : Array Int) (p : PermIn a b d R) (q : SortedIn ltInt a b R) => (⟨p, q⟩ : PermIn a b d R ∧ SortedIn ltInt a b R))
  clear h hB
  go_enter Try.func33, Try.ntmps33
  go_wp2_with fail
  go_loopw [1, 2, 3, 8, 9] (fun xa xb xl xw xp wr => ∃ (a1 b1 : Nat) (l1 : Int) (wb wp : Bool) (d1 : Array Int), a1 ≤ b1 ∧ b1 ≤ b ∧ b1 - a1 ≤ b - a ∧ xa = .int .i64 a1 ∧ xb = .int .i64 b1 ∧ xl = .int .i64 l1 ∧ xw = .bool wb ∧ xp = .bool wp ∧ RowKit.Hid (SoW w0 g n c wr d1) ∧ RowKit.Hid (Sort.Below ltInt a1 b1 d1) ∧ RowKit.Hid (∀ R, PermIn a1 b1 d1 R → SortedIn ltInt a1 b1 R → PermIn a b d R ∧ SortedIn ltInt a b R)) (fun xa xb _ _ _ _ => (intOf xb - intOf xa).toNat)
  case atStart => exact ⟨a, b, lim, true, true, d, hab, Nat.le_refl _, Nat.le_refl _, rfl, rfl, rfl, rfl, rfl, HS, HB, HC⟩
  case round =>
    clear HS HB HC
    obtain ⟨a1, b1, l1, wb, wp, d1, hab1, hb1, hlen, rfl, rfl, rfl, rfl, rfl, HS, HB, HC⟩ := hrel
    obtain ⟨L, hL⟩ : ∃ L, L = b1 - a1 := ⟨_, rfl⟩
    have hL1 : (b1 : Int) - (a1 : Int) = (L : Int) := by omega
    have hLn : L ≤ 1000000 := by omega
    have hb1n : b1 ≤ n := by omega
    have hds := hid HS.out.sz
    have HLL := hid hL
    clear hL
    by_cases h12 : L ≤ 12
    · have HI := hid (insertion_u a1 b1 HS.out hab1 hb1n hn)
      go_wp2_with (first
        | (go_at_call 39; refine HI.out.mono ?_; rintro e w1 ⟨rfl, hs1⟩; have HS2 := hid hs1; clear hs1)
        | fail)
      refine bodyPost_ret (results_none rfl _ _ _) rfl ?_
      obtain ⟨q1, q2⟩ := insertionSort_holds swo_ltInt d1 a1 b1 hab1 (by rw [hds.out]; exact hb1n)
      obtain ⟨u1, u2⟩ := HC.out _ q1 q2
      exact ⟨_, rfl, u1, u2, HS2.out⟩
    · have h13 : a1 + 12 < b1 := by omega
      have h13' : a1 < b1 := by omega
      by_cases hl0 : l1 = 0
      · subst hl0
        have HI := hid (heap_u a1 b1 HS.out h13' hb1n hn)
        go_wp2_with (first
          | (go_at_call 40; refine HI.out.mono ?_; rintro e w1 ⟨rfl, hs1⟩; have HS2 := hid hs1; clear hs1)
          | fail)
        refine bodyPost_ret (results_none rfl _ _ _) rfl ?_
        obtain ⟨q1, q2⟩ := heapSort_holds swo_ltInt d1 a1 b1 hab1 (by rw [hds.out]; exact hb1n)
        obtain ⟨u1, u2⟩ := HC.out _ q1 q2
        exact ⟨_, rfl, u1, u2, HS2.out⟩
      · have hl1 : (l1 == 0) = false := by simpa using hl0
        have HSZ := hid (show b1 ≤ d1.size by rw [hds.out]; exact hb1n)
        clear hl0
        go_upto_if 35 with fail
        go_cut [3] from 19 to 133 (fun x wx => ∃ (l2 : Int) (d2 : Array Int), x = .int .i64 l2 ∧ RowKit.Hid (PermIn a1 b1 d1 d2) ∧ RowKit.Hid (SoW w0 g n c wx d2))
        case first =>
          cases wb with
          | true =>
            go_wp2_with fail
            go_meet
            case rel => exact ⟨l1, d1, rfl, hid (permIn_refl _ _ _), HS⟩
          | false =>
            have HI := hid (break_u a1 b1 HS.out h13 hb1n hn)
            go_wp2_with (first
              | (go_at_call 41; refine HI.out.mono ?_; rintro e w1 ⟨d2, rfl, hp2, hs2⟩; have HP2 := hid hp2; have HS2 := hid hs2; clear hp2 hs2)
              | fail)
            go_meet
            case rel => exact ⟨_, d2, rfl, HP2, HS2⟩
        case rest =>
          obtain ⟨l2, d2, rfl, HP2, HS2⟩ := hcut
          have HI := hid (pivot_u a1 b1 HS2.out h13 hb1n hn)
          go_wp2_with fail
          refine HI.out.mono ?_
          rintro e w3 ⟨p, v, rfl, hpa, hpb, hs3⟩
          have HS3 := hid hs3
          clear hs3 HI
          go_upto_if 50 with fail
          go_cut [11, 12] from 19 to 133 (fun x y wx => ∃ (p2 : Nat) (v2 : Int) (d3 : Array Int), x = .int .i64 p2 ∧ y = .int .i64 v2 ∧ a1 ≤ p2 ∧ p2 < b1 ∧ RowKit.Hid (PermIn a1 b1 d1 d3) ∧ RowKit.Hid (SoW w0 g n c wx d3))
          case first =>
            by_cases hv : v = 2
            · subst hv
              obtain ⟨p2, hp2⟩ : ∃ p2, p2 = (b1 - 1) - (p - a1) := ⟨_, rfl⟩
              have hp21 : (b1 : Int) - 1 - ((p : Int) - (a1 : Int)) = (p2 : Int) := by omega
              have hp2a : a1 ≤ p2 := by omega
              have hp2b : p2 < b1 := by omega
              clear hp2
              have HI := hid (rev_u a1 b1 HS3.out h13' hb1n hn)
              go_wp2_with (first
                | (go_at_call 43; refine HI.out.mono ?_; rintro e w1 ⟨rfl, hs1⟩; have HS4 := hid hs1; clear hs1)
                | fail)
              go_meet
              case rel => exact ⟨p2, _, _, rfl, rfl, hp2a, hp2b, hid (permIn_trans _ _ _ _ _ HP2.out (reverseRange_holds d2 a1 b1 hab1 (by rw [HS3.out.sz]; exact hb1n))), HS4⟩
            · have hv1 : (v == 2) = false := by simpa using hv
              go_wp2_with fail
              go_meet
              case rel => exact ⟨p, _, _, rfl, rfl, hpa, hpb, HP2, HS3⟩
          case rest =>
            clear hpa hpb HS3 HP2 HS2
            obtain ⟨p2, v2, d3, rfl, rfl, hpa, hpb, HP3, HS3⟩ := hcut
            have HB3 := hid (Below.perm (Go.Sort.Below.mono HB.out (Nat.le_refl _)) HSZ.out HP3.out)
            rename_i K9 hK9
            refine hK9 _ _ ?_
            apply wp_seq_k; intro K10 hK10
            go_cut [] from 19 to 133 (fun wx => ∃ (d4 : Array Int), RowKit.Hid (PermIn a1 b1 d1 d4) ∧ RowKit.Hid (SoW w0 g n c wx d4))
            case first =>
              cases wb with
              | false =>
                go_wp2_with fail
                go_meet
                case rel => exact ⟨d3, HP3, HS3⟩
              | true =>
                cases wp with
                | false =>
                  go_wp2_with fail
                  go_meet
                  case rel => exact ⟨d3, HP3, HS3⟩
                | true =>
                  by_cases hv : v2 = 1
                  · subst hv
                    have HI := hid (partial_u a1 b1 HS3.out h13' hb1n hn)
                    have HPI := hid (partialInsertionSort_holds swo_ltInt d3 a1 b1 h13' (by rw [HS3.out.sz]; exact hb1n) HB3.out)
                    obtain ⟨r, hr⟩ : ∃ r, r = partialInsertionSort ltInt d3 a1 b1 := ⟨_, rfl⟩
                    rw [← hr] at HI HPI
                    clear hr
                    obtain ⟨d4, ok⟩ := r
                    cases ok with
                    | true =>
                      go_wp2_with (first
                        | (go_at_call 44; refine HI.out.mono ?_; rintro e w1 ⟨rfl, hs1⟩; have HS4 := hid hs1; clear hs1)
                        | fail)
                      refine bodyPost_ret (results_none rfl _ _ _) rfl ?_
                      obtain ⟨u1, u2⟩ := HC.out _ (permIn_trans _ _ _ _ _ HP3.out HPI.out.1) (HPI.out.2 trivial)
                      exact ⟨_, rfl, u1, u2, HS4.out⟩
                    | false =>
                      go_wp2_with (first
                        | (go_at_call 44; refine HI.out.mono ?_; rintro e w1 ⟨rfl, hs1⟩; have HS4 := hid hs1; clear hs1)
                        | fail)
                      go_meet
                      case rel => exact ⟨d4, hid (permIn_trans _ _ _ _ _ HP3.out HPI.out.1), HS4⟩
                  · have hv1 : (v2 == 1) = false := by simpa using hv
                    go_wp2_with fail
                    go_meet
                    case rel => exact ⟨d3, HP3, HS3⟩
            case rest =>
              clear HP3 HS3 HB3
              obtain ⟨d4, HP4, HS4⟩ := hcut
              have HB4 := hid (Below.perm (Go.Sort.Below.mono HB.out (Nat.le_refl _)) HSZ.out HP4.out)
              have HSZ4 := hid (show b1 ≤ d4.size by rw [HS4.out.sz]; exact hb1n)
              refine hK10 _ _ ?_
              have hp2n : p2 < n := by omega
              by_cases ha0 : ¬ 0 < a1
              · go_upto_region 17 with fail
                go_quiet (fail)
                clear ha0
                have HS5 := hid (HS4.out.drewN nq)
                generalize wc.drewN nq = w4 at HS5 ⊢
                have HI := hid (part_u a1 b1 p2 HS5.out h13' hb1n hp2n hn)
                obtain ⟨r, hr⟩ : ∃ r, partition ltInt d4 a1 b1 p2 = r := ⟨_, rfl⟩
                rw [hr] at HI
                obtain ⟨mid, ap, d5⟩ := r
                obtain ⟨r1, r2, r3, r4, r5, r6, r7⟩ := round_part swo_ltInt (partition_holds ltInt) hpa hpb HSZ4.out HB4.out hr
                have HR4 := hid r4
                have HR5 := hid r5
                have HR6 := hid r6
                have HR7 := hid r7
                clear hr r3 r4 r5 r6 r7
                obtain ⟨ll, hll⟩ : ∃ ll, ll = mid - a1 := ⟨_, rfl⟩
                obtain ⟨lr, hlr⟩ : ∃ lr, lr = b1 - mid := ⟨_, rfl⟩
                obtain ⟨m2, hm2⟩ : ∃ m2, m2 = mid + 1 := ⟨_, rfl⟩
                obtain ⟨q8, hq8⟩ : ∃ q8, q8 = L / 8 := ⟨_, rfl⟩
                have hll1 : (mid : Int) - (a1 : Int) = (ll : Int) := by omega
                have hlr1 : (b1 : Int) - (mid : Int) = (lr : Int) := by omega
                have hm21 : (mid : Int) + 1 = (m2 : Int) := by omega
                have hq81 : (L : Int).tdiv 8 = (q8 : Int) := by rw [Int.tdiv_eq_ediv_of_nonneg (by omega), hq8]; omega
                have hlln : ll ≤ 1000000 := by omega
                have hlrn : lr ≤ 1000000 := by omega
                have hm2n : m2 ≤ 1000000 := by omega
                rw [← hm2] at HR5 HR6 HR7
                have HM2 := hid hm2
                clear hll hlr hm2 hq8
                go_wp2_with fail
                refine HI.out.mono ?_
                rintro e w5 ⟨rfl, hs6⟩
                have HS6 := hid hs6
                clear hs6 HI
                dsimp only at HS6 ⊢
                by_cases hlt2 : ll < lr
                · have hm2b : m2 ≤ b1 := by have := HM2.out; omega
                  have HJ := hid (IH.out w0 w5 g n c d5 a1 mid l2 HS6.out (by omega) (by omega) hn (by omega) HR4.out)
                  go_wp2_with fail
                  refine HJ.out.mono ?_
                  rintro e w6 ⟨d6, rfl, hp6, hs6, hx6⟩
                  have HS7 := hid hx6
                  obtain ⟨k1, k2⟩ := HR6.out d6 hp6 hs6
                  have HK1 := hid k1
                  have HK2 := hid k2
                  clear hp6 hs6 hx6 k1 k2 HJ
                  go_wp2_with fail
                  go_roundw
                  case rel =>
                    refine ⟨m2, b1, l2, _, ap, d6, hm2b, hb1, by have := HM2.out; omega, rfl, rfl, rfl, rfl, rfl, HS7, HK1, hid (fun R p q => ?_)⟩
                    obtain ⟨x1, x2⟩ := HK2.out R p q
                    exact HC.out R (permIn_trans _ _ _ _ _ HP4.out x1) x2
                  case measure => have := HM2.out; simp [intOf]; omega
                · have hm2b : m2 ≤ b1 := by have := HM2.out; omega
                  have HJ := hid (IH.out w0 w5 g n c d5 m2 b1 l2 HS6.out (by omega) (by omega) hn (by have := HM2.out; omega) HR5.out)
                  go_wp2_with fail
                  refine HJ.out.mono ?_
                  rintro e w6 ⟨d6, rfl, hp6, hs6, hx6⟩
                  have HS7 := hid hx6
                  obtain ⟨k1, k2⟩ := HR7.out d6 hp6 hs6
                  have HK1 := hid k1
                  have HK2 := hid k2
                  clear hp6 hs6 hx6 k1 k2 HJ
                  go_wp2_with fail
                  go_roundw
                  case rel =>
                    refine ⟨a1, mid, l2, _, ap, d6, r1, by omega, by omega, rfl, rfl, rfl, rfl, rfl, HS7, HK1, hid (fun R p q => ?_)⟩
                    obtain ⟨x1, x2⟩ := HK2.out R p q
                    exact HC.out R (permIn_trans _ _ _ _ _ HP4.out x1) x2
                  case measure => simp [intOf]; omega
              · have ha1 : 0 < a1 := by omega
                clear ha0
                obtain ⟨k, hk⟩ : ∃ k, k = a1 - 1 := ⟨_, rfl⟩
                have hwk : IntKind.i64.wrap ((a1 : Int) - 1) = (k : Int) := by
                  rw [show (a1 : Int) - 1 = (k : Int) by omega]; exact IntWalk.i64_in _ (by omega)
                have hkn : k < n := by omega
                have Hk := hid hk
                clear hk
                obtain ⟨G, hG⟩ : ∃ G : Nat → Int, G = fun t => d4[t]! := ⟨_, rfl⟩
                have HG := hid hG
                clear hG
                have cI := HS4.out.rd HG.out hkn
                have cJ := HS4.out.rd HG.out hp2n
                cases hlt : ltInt (G k) (G p2) with
                | true =>
                  have HL := hid (fun W => Less_u (G k) (G p2) W)
                  rw [hlt] at HL
                  clear hlt
                  go_upto_region 17 with fail
                  go_quiet (first | (go_at_call 45; refine Calls.quiet_of_same (HL.out _)))
                  have HS5 := hid (HS4.out.drewN nq)
                  clear cI cJ HL
                  generalize wc.drewN nq = w4 at HS5 ⊢
                  have HI := hid (part_u a1 b1 p2 HS5.out h13' hb1n hp2n hn)
                  obtain ⟨r, hr⟩ : ∃ r, partition ltInt d4 a1 b1 p2 = r := ⟨_, rfl⟩
                  rw [hr] at HI
                  obtain ⟨mid, ap, d5⟩ := r
                  obtain ⟨r1, r2, r3, r4, r5, r6, r7⟩ := round_part swo_ltInt (partition_holds ltInt) hpa hpb HSZ4.out HB4.out hr
                  have HR4 := hid r4
                  have HR5 := hid r5
                  have HR6 := hid r6
                  have HR7 := hid r7
                  clear hr r3 r4 r5 r6 r7
                  obtain ⟨ll, hll⟩ : ∃ ll, ll = mid - a1 := ⟨_, rfl⟩
                  obtain ⟨lr, hlr⟩ : ∃ lr, lr = b1 - mid := ⟨_, rfl⟩
                  obtain ⟨m2, hm2⟩ : ∃ m2, m2 = mid + 1 := ⟨_, rfl⟩
                  obtain ⟨q8, hq8⟩ : ∃ q8, q8 = L / 8 := ⟨_, rfl⟩
                  have hll1 : (mid : Int) - (a1 : Int) = (ll : Int) := by omega
                  have hlr1 : (b1 : Int) - (mid : Int) = (lr : Int) := by omega
                  have hm21 : (mid : Int) + 1 = (m2 : Int) := by omega
                  have hq81 : (L : Int).tdiv 8 = (q8 : Int) := by rw [Int.tdiv_eq_ediv_of_nonneg (by omega), hq8]; omega
                  have hlln : ll ≤ 1000000 := by omega
                  have hlrn : lr ≤ 1000000 := by omega
                  have hm2n : m2 ≤ 1000000 := by omega
                  rw [← hm2] at HR5 HR6 HR7
                  have HM2 := hid hm2
                  clear hll hlr hm2 hq8
                  go_wp2_with fail
                  refine HI.out.mono ?_
                  rintro e w5 ⟨rfl, hs6⟩
                  have HS6 := hid hs6
                  clear hs6 HI
                  dsimp only at HS6 ⊢
                  by_cases hlt2 : ll < lr
                  · have hm2b : m2 ≤ b1 := by have := HM2.out; omega
                    have HJ := hid (IH.out w0 w5 g n c d5 a1 mid l2 HS6.out (by omega) (by omega) hn (by omega) HR4.out)
                    go_wp2_with fail
                    refine HJ.out.mono ?_
                    rintro e w6 ⟨d6, rfl, hp6, hs6, hx6⟩
                    have HS7 := hid hx6
                    obtain ⟨k1, k2⟩ := HR6.out d6 hp6 hs6
                    have HK1 := hid k1
                    have HK2 := hid k2
                    clear hp6 hs6 hx6 k1 k2 HJ
                    go_wp2_with fail
                    go_roundw
                    case rel =>
                      refine ⟨m2, b1, l2, _, ap, d6, hm2b, hb1, by have := HM2.out; omega, rfl, rfl, rfl, rfl, rfl, HS7, HK1, hid (fun R p q => ?_)⟩
                      obtain ⟨x1, x2⟩ := HK2.out R p q
                      exact HC.out R (permIn_trans _ _ _ _ _ HP4.out x1) x2
                    case measure => have := HM2.out; simp [intOf]; omega
                  · have hm2b : m2 ≤ b1 := by have := HM2.out; omega
                    have HJ := hid (IH.out w0 w5 g n c d5 m2 b1 l2 HS6.out (by omega) (by omega) hn (by have := HM2.out; omega) HR5.out)
                    go_wp2_with fail
                    refine HJ.out.mono ?_
                    rintro e w6 ⟨d6, rfl, hp6, hs6, hx6⟩
                    have HS7 := hid hx6
                    obtain ⟨k1, k2⟩ := HR7.out d6 hp6 hs6
                    have HK1 := hid k1
                    have HK2 := hid k2
                    clear hp6 hs6 hx6 k1 k2 HJ
                    go_wp2_with fail
                    go_roundw
                    case rel =>
                      refine ⟨a1, mid, l2, _, ap, d6, r1, by omega, by omega, rfl, rfl, rfl, rfl, rfl, HS7, HK1, hid (fun R p q => ?_)⟩
                      obtain ⟨x1, x2⟩ := HK2.out R p q
                      exact HC.out R (permIn_trans _ _ _ _ _ HP4.out x1) x2
                    case measure => simp [intOf]; omega
                | false =>
                  have HL := hid (fun W => Less_u (G k) (G p2) W)
                  rw [hlt] at HL
                  have hq : ltInt d4[a1 - 1]! d4[p2]! = false := by rw [HG.out, Hk.out] at hlt; exact hlt
                  clear hlt
                  have HI := hid (fun W (h : SoW w0 g n c W d4) => partEq_u a1 b1 p2 h h13' hb1n hp2n hn)
                  obtain ⟨r, hr⟩ : ∃ r, partitionEqual ltInt d4 a1 b1 p2 = r := ⟨_, rfl⟩
                  rw [hr] at HI
                  obtain ⟨mid, d5⟩ := r
                  obtain ⟨r1, r2, r3, r4, r5⟩ := round_eq swo_ltInt (partitionEqual_holds ltInt) ha1 hpa hpb HSZ4.out HB4.out hq hr
                  have HR4 := hid r4
                  have HR5 := hid r5
                  clear hr hq r3 r4 r5
                  go_upto_region 17 with fail
                  go_quiet (first | (go_at_call 45; refine Calls.quiet_of_same (HL.out _)))
                  have HS5 := hid (HS4.out.drewN nq)
                  have HI2 := hid (HI.out _ HS5.out)
                  clear cI cJ HL HI
                  go_wp2_with (first
                    | (go_at_call 46; refine HI2.out.mono ?_; rintro e w1 ⟨rfl, hs1⟩; have HS6 := hid hs1; clear hs1)
                    | fail)
                  go_roundw
                  case rel =>
                    refine ⟨mid, b1, l2, wb, wp, d5, r2, hb1, by omega, rfl, rfl, rfl, rfl, rfl, HS6, HR4, hid (fun R p q => ?_)⟩
                    obtain ⟨x1, x2⟩ := HR5.out R p q
                    exact HC.out R (permIn_trans _ _ _ _ _ HP4.out x1) x2
                  case measure => simp [intOf]; omega
end Go.Proofs.Ytbdhjkdojgdhbaa

namespace Go.Proofs.Ytbdhjkdojgdhbaa
open Go Go.ChangeShapes Go.WideShapes Go.ChangeAt Go.RowKit Go.Sort

theorem pdq_all : ∀ N : Nat, PdqC N
  | 0 => fun _ _ _ _ _ _ _ _ _ _ _ _ _ h _ => absurd h (Nat.not_lt_zero _)
  | N + 1 => pdq_step N (pdq_all N)
/-- A row in order is the one row in order. -/
theorem sorted_is {n : Nat} {d d' : Array Int} {m : List Int} (hs : d.size = n) (h1 : PermIn 0 n d d') (h2 : SortedIn ltInt 0 n d') (hp : d.toList.Perm m) (hr : m.Pairwise (· < ·)) : d'.toList = m := by
  have hsz : d'.size = n := by rw [h1.1, hs]
  have hpm : d'.toList.Perm d.toList := by
    have := h1.2.2
    have e1 : d'.extract 0 n = d' := by rw [← hsz]; exact Array.extract_size
    have e2 : d.extract 0 n = d := by rw [← hs]; exact Array.extract_size
    rw [e1, e2] at this
    exact this
  refine List.Perm.eq_of_pairwise (le := fun a b : Int => a ≤ b) ?_ ?_ ?_ (hpm.trans hp)
  · intro a b _ _ x y
    exact Int.le_antisymm x y
  · rw [List.pairwise_iff_getElem]
    intro i j hi hj hij
    have hi' : i < d'.size := by simpa using hi
    have hj' : j < d'.size := by simpa using hj
    have h3 := h2 i j (Nat.zero_le _) hij (by omega)
    rw [getElem!_pos d' i hi', getElem!_pos d' j hj'] at h3
    unfold ltInt at h3
    simp only [decide_eq_false_iff_not] at h3
    simp only [Array.getElem_toList]
    omega
  · exact hr.imp (fun h => by omega)
set_option maxRecDepth 100000 in
set_option maxHeartbeats 4000000 in
theorem Sort_u {w : World} {g n c : Nat} {ss m : List Int} (h : w.ownsRow 0 TU 1 (.slice (some ⟨g, 0, none⟩) n c) n (ss.map u64v)) (hn : n ≤ 1000000) (hp : ss.Perm m) (hr : m.Pairwise (· < ·)) :
    Calls Try.prog 30 #[.slice (some ⟨g, 0, none⟩) n c] w fun e w' => e = .returned (.tuple #[]) ∧ w'.ownsRow 0 TU 1 (.slice (some ⟨g, 0, none⟩) n c) n (m.map u64v) ∧ Fr (fun k => k = g) w w' := by
  have hS : SoW w g n c w ss.toArray := ⟨by simpa using h, Fr.refl _ _⟩
  have hsz := hS.sz
  have HP := hid (fun (x : Int) => pdq_all (n + 1) w w g n c ss.toArray 0 n x hS (Nat.zero_le _) (Nat.le_refl _) hn (by omega) (Or.inl rfl))
  have HL := hid (fun W => BLen_u W n hn)
  have HE := hid (fun d' => sorted_is (d' := d') hsz (m := m))
  have HPP := hid hp
  have HR := hid hr
  clear h hS hsz hp hr
  go_enter Try.func30, Try.ntmps30
  go_wp2_with fail
  refine (HL.out _).mono ?_
  rintro e w1 ⟨x, rfl, rfl⟩
  go_wp2_with fail
  refine (HP.out x).mono ?_
  rintro e w2 ⟨d', rfl, h1, h2, h3⟩
  have H3 := hid h3
  have H4 := hid (HE.out d' h1 h2 (by simpa using HPP.out) HR.out)
  clear h1 h2 h3
  go_wp2_with fail
  go_end0
  refine ⟨rfl, ?_, H3.out.fr⟩
  have h4 := H3.out.own
  rw [H4.out] at h4
  exact h4
theorem insertion_none (w : World) : Calls Try.prog 39 #[.slice none 0 0, .int .i64 0, .int .i64 0] w fun e w' => e = .returned (.tuple #[]) ∧ w' = w := by
  go_enter Try.func39, Try.ntmps39
  go_wp2_with fail
  go_loopw [6] (fun i wr => i = .int .i64 1 ∧ RowKit.Hid (wr = w)) (fun _ _ => 0)
  case atStart => exact ⟨rfl, hid rfl⟩
  case round =>
    obtain ⟨rfl, H⟩ := hrel
    go_wp2_with fail
    go_end0
    exact ⟨rfl, H.out⟩
theorem pdq_none (w : World) (x : Int) : Calls Try.prog 33 #[.slice none 0 0, .int .i64 0, .int .i64 0, .int .i64 x] w fun e w' => e = .returned (.tuple #[]) ∧ w' = w := by
  have HI := hid insertion_none
  go_enter Try.func33, Try.ntmps33
  go_wp2_with fail
  go_loopw [1, 2] (fun i j wr => i = .int .i64 0 ∧ j = .int .i64 0 ∧ RowKit.Hid (wr = w)) (fun _ _ _ => 0)
  case atStart => exact ⟨rfl, rfl, hid rfl⟩
  case round =>
    obtain ⟨rfl, rfl, H⟩ := hrel
    go_wp2_with (first
      | (go_at_call 39; refine (HI.out _).mono ?_; rintro e w1 ⟨rfl, rfl⟩)
      | fail)
    refine bodyPost_ret (results_none rfl _ _ _) rfl ?_
    exact ⟨rfl, H.out⟩
theorem Sort_none (w : World) : Calls Try.prog 30 #[.slice none 0 0] w fun e w' => e = .returned (.tuple #[]) ∧ w' = w := by
  have HL := hid (fun W => BLen_u W 0 (by omega))
  have HP := hid pdq_none
  go_enter Try.func30, Try.ntmps30
  go_wp2_with fail
  refine (HL.out _).mono ?_
  rintro e w1 ⟨x, rfl, rfl⟩
  go_wp2_with fail
  refine (HP.out _ x).mono ?_
  rintro e w2 ⟨rfl, rfl⟩
  go_wp2_with fail
  go_end0
  exact ⟨rfl, rfl⟩
end Go.Proofs.Ytbdhjkdojgdhbaa
