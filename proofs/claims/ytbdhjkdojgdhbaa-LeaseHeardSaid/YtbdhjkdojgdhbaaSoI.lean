/- SoH SoI in one -/
import Derived.Test.YtbdhjkdojgdhbaaSoD
import Derived.Deep.CutRange
namespace Go.Proofs.Ytbdhjkdojgdhbaa
open Go Go.ChangeShapes Go.WideShapes Go.ChangeAt Go.RowKit Go.Sort

theorem up_scan (p : Int → Bool) (d : Array Int) (j i : Nat) : scanUp p d j i = if i ≤ j ∧ p d[i]! = true then scanUp p d j (i + 1) else i := by
  rw [scanUp]
  by_cases h : i ≤ j ∧ p d[i]! = true
  · rw [if_pos h, if_pos (by rw [decide_eq_true h.1, h.2]; rfl)]
  · rw [if_neg h, if_neg (by rw [Bool.and_eq_true, decide_eq_true_eq]; exact h)]
theorem down_scan (p : Int → Bool) (d : Array Int) (i j : Nat) (hi : 1 ≤ i) : scanDown p d i j = if i ≤ j ∧ p d[j]! = true then scanDown p d i (j - 1) else j := by
  cases j with
  | zero => rw [if_neg (by omega)]; rfl
  | succ j =>
    rw [scanDown, Nat.add_sub_cancel]
    by_cases h : i ≤ j + 1 ∧ p d[j + 1]! = true
    · rw [if_pos h, if_pos (by rw [decide_eq_true h.1, h.2]; rfl)]
    · rw [if_neg h, if_neg (by rw [Bool.and_eq_true, decide_eq_true_eq]; exact h)]
set_option maxRecDepth 100000 in
set_option maxHeartbeats 8000000 in
theorem partEq_u {w0 w : World} {g n c : Nat} {d : Array Int} (a b p : Nat) (h : SoW w0 g n c w d) (hab : a < b) (hb : b ≤ n) (hp : p < n) (hn : n ≤ 1000000) :
    Calls Try.prog 46 #[.slice (some ⟨g, 0, none⟩) n c, .int .i64 a, .int .i64 b, .int .i64 p] w fun e w' => e = .returned (.int .i64 (partitionEqual ltInt d a b p).1) ∧ SoW w0 g n c w' (partitionEqual ltInt d a b p).2 := by
  have HS := hid h
  obtain ⟨t, ht⟩ : ∃ t, t = partitionEqual ltInt d a b p := ⟨_, rfl⟩
  rw [← ht]
  have HE0 := hid (show partEqLoop ltInt a (a + 1) (b - 1) (Sort.swp d a p) = t from ht.symm)
  have hAn : a < n := by omega
  clear h ht
  go_enter Try.func46, Try.ntmps46
  obtain ⟨G, hG⟩ : ∃ G : Nat → Int, G = fun t => d[t]! := ⟨_, rfl⟩
  have HG := hid hG
  clear hG
  go_upto_region 1 with fail
  obtain ⟨c0, c1, f0, ⟨v1, m0⟩, m1, hsw⟩ := HS.out.sw HG.out (i := a) (j := p) hAn hp
  have HSW := hid hsw
  clear hsw
  refine D.wp_region_mix [0, 0, 0, 0, 0, 0, 0, 1, 0, 0, 0, 1, 0, 3, 0, 3] (fun W' => W'.cell? ⟨g, a, none⟩ = some (.int .u64 (G a)) ∧ W'.cell? ⟨g, p, none⟩ = some (.int .u64 (G p))) (by kernel_rfl) (by kernel_rfl) ⟨c0, c1⟩ ?_
  repeat (first
    | (refine' C.wpMix_value _ rfl rfl _ _; rotate_left; (solve | (intro W; go_simp) | (intro W; go_simp; with_reducible rfl)); simp only [Act.put, List.setIfInBounds_toArray, List.set_cons_zero, List.set_cons_succ])
    | (refine' C.wpMix_read _ rfl rfl _ _; rotate_left; (solve | (rintro W ⟨h1, h2⟩; go_simp) | (rintro W ⟨h1, h2⟩; go_simp; with_reducible rfl)); simp only [Act.put, List.setIfInBounds_toArray, List.set_cons_zero, List.set_cons_succ]))
  refine C.wpMix_skip (w.drew.setCell ⟨g, a, none⟩ (.int .u64 (G p))) (by decide) rfl (by go_simp) (fun h => by cases h) ?_
  simp only [Act.put]
  clear c0 c1 f0
  generalize w.drew.setCell ⟨g, a, none⟩ (.int .u64 (G p)) = W1 at m0 m1 HSW ⊢
  repeat (first
    | (refine' C.wpMix_value _ rfl rfl _ _; rotate_left; (solve | (intro W; go_simp) | (intro W; go_simp; with_reducible rfl)); simp only [Act.put, List.setIfInBounds_toArray, List.set_cons_zero, List.set_cons_succ]))
  refine C.wpMix_skip (W1.setCell ⟨g, p, none⟩ (.int .u64 (G a))) (by decide) rfl (by go_simp) (fun h => by cases h) ?_
  simp only [Act.put]
  refine C.wpMix_end ?_
  clear m0 m1
  generalize Sort.swp d a p = d1 at HSW HE0
  clear HG
  go_wp2_with fail
  go_loopw [9, 10] (fun x y wr => ∃ (i j : Nat) (d' : Array Int), a + 1 ≤ i ∧ i ≤ b + 1 ∧ j < b ∧ x = .int .i64 i ∧ y = .int .i64 j ∧ RowKit.Hid (SoW w0 g n c wr d') ∧ RowKit.Hid (partEqLoop ltInt a i j d' = t)) (fun x y _ => (intOf y + 1 - intOf x + b + 1).toNat)
  case atStart => exact ⟨a + 1, b - 1, d1, by omega, by omega, by omega, by go_num, by go_num, HSW, HE0⟩
  case round =>
    obtain ⟨i, j, d2, hi1, hi2, hj, rfl, rfl, HS2, HE2⟩ := hrel
    refine wp_block ?_
    apply wp_seq_k; intro K1 hK1
    go_cut [9] from 29 to 45 (fun x wx => ∃ zz : Nat, i ≤ zz ∧ zz ≤ b + 1 ∧ x = .int .i64 zz ∧ RowKit.Hid (SoW w0 g n c wx d2) ∧ RowKit.Hid (scanUp (fun x => !ltInt d2[a]! x) d2 j i = zz))
    case first =>
      refine wp_block ?_
      go_loopw [9] (fun x wr => ∃ y : Nat, i ≤ y ∧ y ≤ b + 1 ∧ x = .int .i64 y ∧ RowKit.Hid (SoW w0 g n c wr d2) ∧ RowKit.Hid (scanUp (fun x => !ltInt d2[a]! x) d2 j y = scanUp (fun x => !ltInt d2[a]! x) d2 j i)) (fun x _ => b + 1 - (intOf x).toNat)
      case atStart => exact ⟨i, Nat.le_refl _, by omega, rfl, HS2, hid rfl⟩
      case round =>
        obtain ⟨y, hy1, hy2, rfl, HS5, HE5⟩ := hrel
        have hse := hid (show scanUp (fun x => !ltInt d2[a]! x) d2 j y = if y ≤ j ∧ (fun x => !ltInt d2[a]! x) d2[y]! = true then scanUp (fun x => !ltInt d2[a]! x) d2 j (y + 1) else y from up_scan _ _ _ _)
        by_cases hyj : y ≤ j
        · have hyn : y < n := by omega
          obtain ⟨G, hG⟩ : ∃ G : Nat → Int, G = fun t => d2[t]! := ⟨_, rfl⟩
          have HG := hid hG
          clear hG
          have cI := HS5.out.rd HG.out hyn
          have cJ := HS5.out.rd HG.out hAn
          cases hlt : ltInt (G a) (G y) with
          | false =>
            have HL := hid (fun W => Less_u (G a) (G y) W)
            rw [hlt] at HL
            have he : scanUp (fun x => !ltInt d2[a]! x) d2 j (y + 1) = scanUp (fun x => !ltInt d2[a]! x) d2 j i := by
              have hq : ltInt d2[a]! d2[y]! = false := by rw [HG.out] at hlt; exact hlt
              rw [← HE5.out, hse.out, if_pos ⟨hyj, by first | exact hq | exact congrArg not hq⟩]
            have HE6 := hid he
            clear hlt he hse
            go_upto_region 3 with fail
            go_quiet (first | (go_at_call 45; refine Calls.quiet_of_same (HL.out _)))
            have HS6 := hid (HS5.out.drewN nq)
            go_wp2_with fail
            go_roundw
            case rel => exact ⟨y + 1, by omega, by omega, by go_num, HS6, HE6⟩
            case measure => simp [intOf]; omega
          | true =>
            have HL := hid (fun W => Less_u (G a) (G y) W)
            rw [hlt] at HL
            have he : scanUp (fun x => !ltInt d2[a]! x) d2 j i = y := by
              have hq : ltInt d2[a]! d2[y]! = true := by rw [HG.out] at hlt; exact hlt
              rw [← HE5.out, hse.out, if_neg (fun e => by first | exact absurd (hq.symm.trans e.2) (by decide) | exact absurd ((congrArg not hq).symm.trans e.2) (by decide))]
            have HE6 := hid he
            clear hlt he hse
            go_upto_region 3 with fail
            go_quiet (first | (go_at_call 45; refine Calls.quiet_of_same (HL.out _)))
            have HS6 := hid (HS5.out.drewN nq)
            go_wp2_with fail
            go_meet
            case rel => exact ⟨y, hy1, hy2, rfl, HS6, HE6⟩
        · have he : scanUp (fun x => !ltInt d2[a]! x) d2 j i = y := by
            rw [← HE5.out, hse.out, if_neg (fun e => hyj e.1)]
          have HE6 := hid he
          clear he hse
          go_upto_region 3 with fail
          go_quiet (fail)
          have HS6 := hid (HS5.out.drewN nq)
          go_wp2_with fail
          go_meet
          case rel => exact ⟨y, hy1, hy2, rfl, HS6, HE6⟩
    case rest =>
      obtain ⟨i2, hi21, hi22, rfl, HS3, HZ1⟩ := hcut
      refine hK1 _ _ ?_
      apply wp_seq_k; intro K2 hK2
      go_cut [10] from 46 to 61 (fun x wx => ∃ zz : Nat, zz ≤ j ∧ x = .int .i64 zz ∧ RowKit.Hid (SoW w0 g n c wx d2) ∧ RowKit.Hid (scanDown (fun x => ltInt d2[a]! x) d2 i2 j = zz))
      case first =>
        refine wp_block ?_
        go_loopw [10] (fun x wr => ∃ y : Nat, y ≤ j ∧ x = .int .i64 y ∧ RowKit.Hid (SoW w0 g n c wr d2) ∧ RowKit.Hid (scanDown (fun x => ltInt d2[a]! x) d2 i2 y = scanDown (fun x => ltInt d2[a]! x) d2 i2 j)) (fun x _ => (intOf x).toNat)
        case atStart => exact ⟨j, Nat.le_refl _, rfl, HS3, hid rfl⟩
        case round =>
          obtain ⟨y, hy1, rfl, HS5, HE5⟩ := hrel
          have hse := hid (show scanDown (fun x => ltInt d2[a]! x) d2 i2 y = if i2 ≤ y ∧ (fun x => ltInt d2[a]! x) d2[y]! = true then scanDown (fun x => ltInt d2[a]! x) d2 i2 (y - 1) else y from down_scan _ _ _ _ (by omega))
          by_cases hyj : i2 ≤ y
          · have hyn : y < n := by omega
            obtain ⟨G, hG⟩ : ∃ G : Nat → Int, G = fun t => d2[t]! := ⟨_, rfl⟩
            have HG := hid hG
            clear hG
            have cI := HS5.out.rd HG.out hyn
            have cJ := HS5.out.rd HG.out hAn
            cases hlt : ltInt (G a) (G y) with
            | true =>
              have HL := hid (fun W => Less_u (G a) (G y) W)
              rw [hlt] at HL
              have he : scanDown (fun x => ltInt d2[a]! x) d2 i2 (y - 1) = scanDown (fun x => ltInt d2[a]! x) d2 i2 j := by
                have hq : ltInt d2[a]! d2[y]! = true := by rw [HG.out] at hlt; exact hlt
                rw [← HE5.out, hse.out, if_pos ⟨hyj, by first | exact hq | exact congrArg not hq⟩]
              have HE6 := hid he
              clear hlt he hse
              go_upto_region 5 with fail
              go_quiet (first | (go_at_call 45; refine Calls.quiet_of_same (HL.out _)))
              have HS6 := hid (HS5.out.drewN nq)
              go_wp2_with fail
              go_roundw
              case rel => exact ⟨y - 1, by omega, by go_num, HS6, HE6⟩
              case measure => simp [intOf]; omega
            | false =>
              have HL := hid (fun W => Less_u (G a) (G y) W)
              rw [hlt] at HL
              have he : scanDown (fun x => ltInt d2[a]! x) d2 i2 j = y := by
                have hq : ltInt d2[a]! d2[y]! = false := by rw [HG.out] at hlt; exact hlt
                rw [← HE5.out, hse.out, if_neg (fun e => by first | exact absurd (hq.symm.trans e.2) (by decide) | exact absurd ((congrArg not hq).symm.trans e.2) (by decide))]
              have HE6 := hid he
              clear hlt he hse
              go_upto_region 5 with fail
              go_quiet (first | (go_at_call 45; refine Calls.quiet_of_same (HL.out _)))
              have HS6 := hid (HS5.out.drewN nq)
              go_wp2_with fail
              go_meet
              case rel => exact ⟨y, hy1, rfl, HS6, HE6⟩
          · have he : scanDown (fun x => ltInt d2[a]! x) d2 i2 j = y := by
              rw [← HE5.out, hse.out, if_neg (fun e => hyj e.1)]
            have HE6 := hid he
            clear he hse
            go_upto_region 5 with fail
            go_quiet (fail)
            have HS6 := hid (HS5.out.drewN nq)
            go_wp2_with fail
            go_meet
            case rel => exact ⟨y, hy1, rfl, HS6, HE6⟩
      case rest =>
        obtain ⟨j2, hj21, rfl, HS4, HZ2⟩ := hcut
        have hee := HE2.out
        rw [partEqLoop_eq, HZ1.out, HZ2.out] at hee
        have HEE := hid hee
        clear hee
        refine hK2 _ _ ?_
        by_cases hij : i2 ≤ j2
        · have HE3 := hid (show partEqLoop ltInt a (i2 + 1) (j2 - 1) (Sort.swp d2 i2 j2) = t by
            have h1 := HEE.out
            rw [if_neg (by omega)] at h1
            exact h1)
          have hIn : i2 < n := by omega
          have hJn : j2 < n := by omega
          obtain ⟨G, hG⟩ : ∃ G : Nat → Int, G = fun t => d2[t]! := ⟨_, rfl⟩
          have HG := hid hG
          clear hG
          go_upto_region 8 with fail
          obtain ⟨c0, c1, f0, ⟨v1, m0⟩, m1, hsw⟩ := HS4.out.sw HG.out (i := i2) (j := j2) hIn hJn
          have HSW := hid hsw
          clear hsw
          refine D.wp_region_mix [0, 0, 0, 0, 0, 0, 0, 1, 0, 0, 0, 1, 0, 3, 0, 3] (fun W' => W'.cell? ⟨g, i2, none⟩ = some (.int .u64 (G i2)) ∧ W'.cell? ⟨g, j2, none⟩ = some (.int .u64 (G j2))) (by kernel_rfl) (by kernel_rfl) ⟨c0, c1⟩ ?_
          repeat (first
            | (refine' C.wpMix_value _ rfl rfl _ _; rotate_left; (solve | (intro W; go_simp) | (intro W; go_simp; with_reducible rfl)); simp only [Act.put, List.setIfInBounds_toArray, List.set_cons_zero, List.set_cons_succ])
            | (refine' C.wpMix_read _ rfl rfl _ _; rotate_left; (solve | (rintro W ⟨h1, h2⟩; go_simp) | (rintro W ⟨h1, h2⟩; go_simp; with_reducible rfl)); simp only [Act.put, List.setIfInBounds_toArray, List.set_cons_zero, List.set_cons_succ]))
          refine C.wpMix_skip (wc.drew.setCell ⟨g, i2, none⟩ (.int .u64 (G j2))) (by decide) rfl (by go_simp) (fun h => by cases h) ?_
          simp only [Act.put]
          clear c0 c1 f0
          generalize wc.drew.setCell ⟨g, i2, none⟩ (.int .u64 (G j2)) = W1 at m0 m1 HSW ⊢
          repeat (first
            | (refine' C.wpMix_value _ rfl rfl _ _; rotate_left; (solve | (intro W; go_simp) | (intro W; go_simp; with_reducible rfl)); simp only [Act.put, List.setIfInBounds_toArray, List.set_cons_zero, List.set_cons_succ]))
          refine C.wpMix_skip (W1.setCell ⟨g, j2, none⟩ (.int .u64 (G i2))) (by decide) rfl (by go_simp) (fun h => by cases h) ?_
          simp only [Act.put]
          refine C.wpMix_end ?_
          clear m0 m1
          go_wp2_with fail
          go_roundw
          case rel => exact ⟨i2 + 1, j2 - 1, _, by omega, by omega, by omega, by go_num, by go_num, HSW, HE3⟩
          case measure => simp [intOf]; omega
        · have he : t = (i2, d2) := by
            have h1 := HEE.out
            rw [if_pos (by omega)] at h1
            exact h1.symm
          have HE3 := hid he
          clear he
          go_wp2_with fail
          go_ret
          rw [HE3.out]
          exact ⟨rfl, HS4.out⟩
end Go.Proofs.Ytbdhjkdojgdhbaa

namespace Go.Proofs.Ytbdhjkdojgdhbaa
open Go Go.ChangeShapes Go.WideShapes Go.ChangeAt Go.RowKit Go.Sort

theorem part_eq (d : Array Int) (a b p : Nat) {d1 : Array Int} (hd : Sort.swp d a p = d1) {i j : Nat} (hi : scanUp (fun x => ltInt x d1[a]!) d1 (b - 1) (a + 1) = i) (hj : scanDown (fun x => !ltInt x d1[a]!) d1 i (b - 1) = j) :
    partition ltInt d a b p = if i > j then (j, true, Sort.swp d1 j a) else ((partLoop ltInt a (i + 1) (j - 1) (Sort.swp d1 i j)).1, false, Sort.swp (partLoop ltInt a (i + 1) (j - 1) (Sort.swp d1 i j)).2 (partLoop ltInt a (i + 1) (j - 1) (Sort.swp d1 i j)).1 a) := by
  subst hd
  subst hi
  subst hj
  rfl
set_option maxRecDepth 100000 in
set_option maxHeartbeats 8000000 in
theorem part_u {w0 w : World} {g n c : Nat} {d : Array Int} (a b p : Nat) (h : SoW w0 g n c w d) (hab : a < b) (hb : b ≤ n) (hp : p < n) (hn : n ≤ 1000000) :
    Calls Try.prog 47 #[.slice (some ⟨g, 0, none⟩) n c, .int .i64 a, .int .i64 b, .int .i64 p] w fun e w' => e = .returned (.tuple #[.int .i64 (partition ltInt d a b p).1, .bool (partition ltInt d a b p).2.1]) ∧ SoW w0 g n c w' (partition ltInt d a b p).2.2 := by
  have HS := hid h
  obtain ⟨t, ht⟩ : ∃ t, t = partition ltInt d a b p := ⟨_, rfl⟩
  rw [← ht]
  have HT := hid ht
  have hAn : a < n := by omega
  clear h ht
  go_enter Try.func47, Try.ntmps47
  obtain ⟨G, hG⟩ : ∃ G : Nat → Int, G = fun t => d[t]! := ⟨_, rfl⟩
  have HG := hid hG
  clear hG
  go_upto_region 1 with fail
  rename_i K0 hK0
  obtain ⟨c0, c1, f0, ⟨v1, m0⟩, m1, hsw⟩ := HS.out.sw HG.out (i := a) (j := p) hAn hp
  have HS1 := hid hsw
  clear hsw
  refine D.wp_region_mix [0, 0, 0, 0, 0, 0, 0, 1, 0, 0, 0, 1, 0, 3, 0, 3] (fun W' => W'.cell? ⟨g, a, none⟩ = some (.int .u64 (G a)) ∧ W'.cell? ⟨g, p, none⟩ = some (.int .u64 (G p))) (by kernel_rfl) (by kernel_rfl) ⟨c0, c1⟩ ?_
  repeat (first
    | (refine' C.wpMix_value _ rfl rfl _ _; rotate_left; (solve | (intro W; go_simp) | (intro W; go_simp; with_reducible rfl)); simp only [Act.put, List.setIfInBounds_toArray, List.set_cons_zero, List.set_cons_succ])
    | (refine' C.wpMix_read _ rfl rfl _ _; rotate_left; (solve | (rintro W ⟨h1, h2⟩; go_simp) | (rintro W ⟨h1, h2⟩; go_simp; with_reducible rfl)); simp only [Act.put, List.setIfInBounds_toArray, List.set_cons_zero, List.set_cons_succ]))
  refine C.wpMix_skip (w.drew.setCell ⟨g, a, none⟩ (.int .u64 (G p))) (by decide) rfl (by go_simp) (fun h => by cases h) ?_
  simp only [Act.put]
  clear c0 c1 f0
  generalize w.drew.setCell ⟨g, a, none⟩ (.int .u64 (G p)) = W1 at m0 m1 HS1 ⊢
  repeat (first
    | (refine' C.wpMix_value _ rfl rfl _ _; rotate_left; (solve | (intro W; go_simp) | (intro W; go_simp; with_reducible rfl)); simp only [Act.put, List.setIfInBounds_toArray, List.set_cons_zero, List.set_cons_succ]))
  refine C.wpMix_skip (W1.setCell ⟨g, p, none⟩ (.int .u64 (G a))) (by decide) rfl (by go_simp) (fun h => by cases h) ?_
  simp only [Act.put]
  refine C.wpMix_end ?_
  clear m0 m1
  obtain ⟨d1, hd1⟩ : ∃ d1, Sort.swp d a p = d1 := ⟨_, rfl⟩
  rw [hd1] at HS1
  have HD := hid hd1
  obtain ⟨i0, hi0⟩ : ∃ i0, i0 = a + 1 := ⟨_, rfl⟩
  obtain ⟨j0, hj0⟩ : ∃ j0, j0 = b - 1 := ⟨_, rfl⟩
  have hi01 : (a : Int) + 1 = (i0 : Int) := by omega
  have hj01 : (b : Int) - 1 = (j0 : Int) := by omega
  have hi0b : a + 1 ≤ i0 := by omega
  have hi0c : i0 ≤ b + 1 := by omega
  have hj0b : j0 < b := by omega
  have HI0 := hid hi0
  have HJ0 := hid hj0
  clear HG hd1 hi0 hj0
  refine hK0 _ _ ?_
  apply wp_seq_k; intro K3 hK3
  go_cut [10, 11] from 12 to 29 (fun x y wx => x = .int .i64 (i0 : Int) ∧ y = .int .i64 (j0 : Int) ∧ RowKit.Hid (SoW w0 g n c wx d1))
  case first =>
    go_wp2_with fail
    go_meet
    case rel => exact ⟨rfl, rfl, HS1⟩
  case rest =>
    obtain ⟨rfl, rfl, HS2⟩ := hcut
    refine hK3 _ _ ?_
    apply wp_seq_k; intro K1 hK1
    go_cut [10] from 30 to 45 (fun x wx => ∃ zz : Nat, i0 ≤ zz ∧ zz ≤ b + 1 ∧ x = .int .i64 zz ∧ RowKit.Hid (SoW w0 g n c wx d1) ∧ RowKit.Hid (scanUp (fun x => ltInt x d1[a]!) d1 j0 i0 = zz))
    case first =>
      refine wp_block ?_
      go_loopw [10] (fun x wr => ∃ y : Nat, i0 ≤ y ∧ y ≤ b + 1 ∧ x = .int .i64 y ∧ RowKit.Hid (SoW w0 g n c wr d1) ∧ RowKit.Hid (scanUp (fun x => ltInt x d1[a]!) d1 j0 y = scanUp (fun x => ltInt x d1[a]!) d1 j0 i0)) (fun x _ => b + 1 - (intOf x).toNat)
      case atStart => exact ⟨i0, Nat.le_refl _, by omega, rfl, HS2, hid rfl⟩
      case round =>
        obtain ⟨y, hy1, hy2, rfl, HS5, HE5⟩ := hrel
        have hse := hid (show scanUp (fun x => ltInt x d1[a]!) d1 j0 y = if y ≤ j0 ∧ (fun x => ltInt x d1[a]!) d1[y]! = true then scanUp (fun x => ltInt x d1[a]!) d1 j0 (y + 1) else y from up_scan _ _ _ _)
        by_cases hyj : y ≤ j0
        · have hyn : y < n := by omega
          obtain ⟨G, hG⟩ : ∃ G : Nat → Int, G = fun t => d1[t]! := ⟨_, rfl⟩
          have HG := hid hG
          clear hG
          have cI := HS5.out.rd HG.out hyn
          have cJ := HS5.out.rd HG.out hAn
          cases hlt : ltInt (G y) (G a) with
          | true =>
            have HL := hid (fun W => Less_u (G y) (G a) W)
            rw [hlt] at HL
            have he : scanUp (fun x => ltInt x d1[a]!) d1 j0 (y + 1) = scanUp (fun x => ltInt x d1[a]!) d1 j0 i0 := by
              have hq : ltInt d1[y]! d1[a]! = true := by rw [HG.out] at hlt; exact hlt
              rw [← HE5.out, hse.out, if_pos ⟨hyj, by first | exact hq | exact congrArg not hq⟩]
            have HE6 := hid he
            clear hlt he hse
            go_upto_region 3 with fail
            go_quiet (first | (go_at_call 45; refine Calls.quiet_of_same (HL.out _)))
            have HS6 := hid (HS5.out.drewN nq)
            go_wp2_with fail
            go_roundw
            case rel => exact ⟨y + 1, by omega, by omega, by go_num, HS6, HE6⟩
            case measure => simp [intOf]; omega
          | false =>
            have HL := hid (fun W => Less_u (G y) (G a) W)
            rw [hlt] at HL
            have he : scanUp (fun x => ltInt x d1[a]!) d1 j0 i0 = y := by
              have hq : ltInt d1[y]! d1[a]! = false := by rw [HG.out] at hlt; exact hlt
              rw [← HE5.out, hse.out, if_neg (fun e => by first | exact absurd (hq.symm.trans e.2) (by decide) | exact absurd ((congrArg not hq).symm.trans e.2) (by decide))]
            have HE6 := hid he
            clear hlt he hse
            go_upto_region 3 with fail
            go_quiet (first | (go_at_call 45; refine Calls.quiet_of_same (HL.out _)))
            have HS6 := hid (HS5.out.drewN nq)
            go_wp2_with fail
            go_meet
            case rel => exact ⟨y, hy1, hy2, rfl, HS6, HE6⟩
        · have he : scanUp (fun x => ltInt x d1[a]!) d1 j0 i0 = y := by
            rw [← HE5.out, hse.out, if_neg (fun e => hyj e.1)]
          have HE6 := hid he
          clear he hse
          go_upto_region 3 with fail
          go_quiet (fail)
          have HS6 := hid (HS5.out.drewN nq)
          go_wp2_with fail
          go_meet
          case rel => exact ⟨y, hy1, hy2, rfl, HS6, HE6⟩
    case rest =>
      obtain ⟨i1, hi11, hi12, rfl, HS3, HZ1⟩ := hcut
      refine hK1 _ _ ?_
      apply wp_seq_k; intro K2 hK2
      go_cut [11] from 46 to 62 (fun x wx => ∃ zz : Nat, zz ≤ j0 ∧ x = .int .i64 zz ∧ RowKit.Hid (SoW w0 g n c wx d1) ∧ RowKit.Hid (scanDown (fun x => !ltInt x d1[a]!) d1 i1 j0 = zz))
      case first =>
        refine wp_block ?_
        go_loopw [11] (fun x wr => ∃ y : Nat, y ≤ j0 ∧ x = .int .i64 y ∧ RowKit.Hid (SoW w0 g n c wr d1) ∧ RowKit.Hid (scanDown (fun x => !ltInt x d1[a]!) d1 i1 y = scanDown (fun x => !ltInt x d1[a]!) d1 i1 j0)) (fun x _ => (intOf x).toNat)
        case atStart => exact ⟨j0, Nat.le_refl _, rfl, HS3, hid rfl⟩
        case round =>
          obtain ⟨y, hy1, rfl, HS5, HE5⟩ := hrel
          have hse := hid (show scanDown (fun x => !ltInt x d1[a]!) d1 i1 y = if i1 ≤ y ∧ (fun x => !ltInt x d1[a]!) d1[y]! = true then scanDown (fun x => !ltInt x d1[a]!) d1 i1 (y - 1) else y from down_scan _ _ _ _ (by omega))
          by_cases hyj : i1 ≤ y
          · have hyn : y < n := by omega
            obtain ⟨G, hG⟩ : ∃ G : Nat → Int, G = fun t => d1[t]! := ⟨_, rfl⟩
            have HG := hid hG
            clear hG
            have cI := HS5.out.rd HG.out hyn
            have cJ := HS5.out.rd HG.out hAn
            cases hlt : ltInt (G y) (G a) with
            | false =>
              have HL := hid (fun W => Less_u (G y) (G a) W)
              rw [hlt] at HL
              have he : scanDown (fun x => !ltInt x d1[a]!) d1 i1 (y - 1) = scanDown (fun x => !ltInt x d1[a]!) d1 i1 j0 := by
                have hq : ltInt d1[y]! d1[a]! = false := by rw [HG.out] at hlt; exact hlt
                rw [← HE5.out, hse.out, if_pos ⟨hyj, by first | exact hq | exact congrArg not hq⟩]
              have HE6 := hid he
              clear hlt he hse
              go_upto_region 5 with fail
              go_quiet (first | (go_at_call 45; refine Calls.quiet_of_same (HL.out _)))
              have HS6 := hid (HS5.out.drewN nq)
              go_wp2_with fail
              go_roundw
              case rel => exact ⟨y - 1, by omega, by go_num, HS6, HE6⟩
              case measure => simp [intOf]; omega
            | true =>
              have HL := hid (fun W => Less_u (G y) (G a) W)
              rw [hlt] at HL
              have he : scanDown (fun x => !ltInt x d1[a]!) d1 i1 j0 = y := by
                have hq : ltInt d1[y]! d1[a]! = true := by rw [HG.out] at hlt; exact hlt
                rw [← HE5.out, hse.out, if_neg (fun e => by first | exact absurd (hq.symm.trans e.2) (by decide) | exact absurd ((congrArg not hq).symm.trans e.2) (by decide))]
              have HE6 := hid he
              clear hlt he hse
              go_upto_region 5 with fail
              go_quiet (first | (go_at_call 45; refine Calls.quiet_of_same (HL.out _)))
              have HS6 := hid (HS5.out.drewN nq)
              go_wp2_with fail
              go_meet
              case rel => exact ⟨y, hy1, rfl, HS6, HE6⟩
          · have he : scanDown (fun x => !ltInt x d1[a]!) d1 i1 j0 = y := by
              rw [← HE5.out, hse.out, if_neg (fun e => hyj e.1)]
            have HE6 := hid he
            clear he hse
            go_upto_region 5 with fail
            go_quiet (fail)
            have HS6 := hid (HS5.out.drewN nq)
            go_wp2_with fail
            go_meet
            case rel => exact ⟨y, hy1, rfl, HS6, HE6⟩
      case rest =>
        obtain ⟨j1, hj11, rfl, HS4, HZ2⟩ := hcut
        have hpe := part_eq d a b p HD.out (i := i1) (j := j1) (by rw [← HI0.out, ← HJ0.out]; exact HZ1.out) (by rw [← HJ0.out]; exact HZ2.out)
        rw [← HT.out] at hpe
        have HPE := hid hpe
        clear hpe
        refine hK2 _ _ ?_
        have hJn : j1 < n := by omega
        by_cases hij : i1 ≤ j1
        · obtain ⟨r, hr⟩ : ∃ r, partLoop ltInt a (i1 + 1) (j1 - 1) (Sort.swp d1 i1 j1) = r := ⟨_, rfl⟩
          have HER := hid hr
          have HET := hid (show (r.1, false, Sort.swp r.2 r.1 a) = t by
            have h1 := HPE.out
            rw [if_neg (by omega), hr] at h1
            exact h1.symm)
          clear hr
          have hIn : i1 < n := by omega
          obtain ⟨G, hG⟩ : ∃ G : Nat → Int, G = fun t => d1[t]! := ⟨_, rfl⟩
          have HG := hid hG
          clear hG
          go_upto_region 10 with fail
          obtain ⟨c0, c1, f0, ⟨v1, m0⟩, m1, hsw⟩ := HS4.out.sw HG.out (i := i1) (j := j1) hIn hJn
          have HSW := hid hsw
          clear hsw
          refine D.wp_region_mix [0, 0, 0, 0, 0, 0, 0, 1, 0, 0, 0, 1, 0, 3, 0, 3] (fun W' => W'.cell? ⟨g, i1, none⟩ = some (.int .u64 (G i1)) ∧ W'.cell? ⟨g, j1, none⟩ = some (.int .u64 (G j1))) (by kernel_rfl) (by kernel_rfl) ⟨c0, c1⟩ ?_
          repeat (first
            | (refine' C.wpMix_value _ rfl rfl _ _; rotate_left; (solve | (intro W; go_simp) | (intro W; go_simp; with_reducible rfl)); simp only [Act.put, List.setIfInBounds_toArray, List.set_cons_zero, List.set_cons_succ])
            | (refine' C.wpMix_read _ rfl rfl _ _; rotate_left; (solve | (rintro W ⟨h1, h2⟩; go_simp) | (rintro W ⟨h1, h2⟩; go_simp; with_reducible rfl)); simp only [Act.put, List.setIfInBounds_toArray, List.set_cons_zero, List.set_cons_succ]))
          refine C.wpMix_skip (wc.drew.setCell ⟨g, i1, none⟩ (.int .u64 (G j1))) (by decide) rfl (by go_simp) (fun h => by cases h) ?_
          simp only [Act.put]
          clear c0 c1 f0
          generalize wc.drew.setCell ⟨g, i1, none⟩ (.int .u64 (G j1)) = W1 at m0 m1 HSW ⊢
          repeat (first
            | (refine' C.wpMix_value _ rfl rfl _ _; rotate_left; (solve | (intro W; go_simp) | (intro W; go_simp; with_reducible rfl)); simp only [Act.put, List.setIfInBounds_toArray, List.set_cons_zero, List.set_cons_succ]))
          refine C.wpMix_skip (W1.setCell ⟨g, j1, none⟩ (.int .u64 (G i1))) (by decide) rfl (by go_simp) (fun h => by cases h) ?_
          simp only [Act.put]
          refine C.wpMix_end ?_
          clear m0 m1
          clear HG
          go_wp2_with fail
          go_loopw [10, 11] (fun x y wr => ∃ (i j : Nat) (d' : Array Int), a + 1 ≤ i ∧ i ≤ b + 1 ∧ j < b ∧ x = .int .i64 i ∧ y = .int .i64 j ∧ RowKit.Hid (SoW w0 g n c wr d') ∧ RowKit.Hid (partLoop ltInt a i j d' = r)) (fun x y _ => (intOf y + 1 - intOf x + b + 1).toNat)
          case atStart => exact ⟨i1 + 1, j1 - 1, _, by omega, by omega, by omega, by go_num, by go_num, HSW, HER⟩
          case round =>
            obtain ⟨i, j, d2, hi1, hi2, hj, rfl, rfl, HS2, HE2⟩ := hrel
            refine wp_block ?_
            apply wp_seq_k; intro K1 hK1
            go_cut [10] from 99 to 114 (fun x wx => ∃ zz : Nat, i ≤ zz ∧ zz ≤ b + 1 ∧ x = .int .i64 zz ∧ RowKit.Hid (SoW w0 g n c wx d2) ∧ RowKit.Hid (scanUp (fun x => ltInt x d2[a]!) d2 j i = zz))
            case first =>
              refine wp_block ?_
              go_loopw [10] (fun x wr => ∃ y : Nat, i ≤ y ∧ y ≤ b + 1 ∧ x = .int .i64 y ∧ RowKit.Hid (SoW w0 g n c wr d2) ∧ RowKit.Hid (scanUp (fun x => ltInt x d2[a]!) d2 j y = scanUp (fun x => ltInt x d2[a]!) d2 j i)) (fun x _ => b + 1 - (intOf x).toNat)
              case atStart => exact ⟨i, Nat.le_refl _, by omega, rfl, HS2, hid rfl⟩
              case round =>
                obtain ⟨y, hy1, hy2, rfl, HS5, HE5⟩ := hrel
                have hse := hid (show scanUp (fun x => ltInt x d2[a]!) d2 j y = if y ≤ j ∧ (fun x => ltInt x d2[a]!) d2[y]! = true then scanUp (fun x => ltInt x d2[a]!) d2 j (y + 1) else y from up_scan _ _ _ _)
                by_cases hyj : y ≤ j
                · have hyn : y < n := by omega
                  obtain ⟨G, hG⟩ : ∃ G : Nat → Int, G = fun t => d2[t]! := ⟨_, rfl⟩
                  have HG := hid hG
                  clear hG
                  have cI := HS5.out.rd HG.out hyn
                  have cJ := HS5.out.rd HG.out hAn
                  cases hlt : ltInt (G y) (G a) with
                  | true =>
                    have HL := hid (fun W => Less_u (G y) (G a) W)
                    rw [hlt] at HL
                    have he : scanUp (fun x => ltInt x d2[a]!) d2 j (y + 1) = scanUp (fun x => ltInt x d2[a]!) d2 j i := by
                      have hq : ltInt d2[y]! d2[a]! = true := by rw [HG.out] at hlt; exact hlt
                      rw [← HE5.out, hse.out, if_pos ⟨hyj, by first | exact hq | exact congrArg not hq⟩]
                    have HE6 := hid he
                    clear hlt he hse
                    go_upto_region 13 with fail
                    go_quiet (first | (go_at_call 45; refine Calls.quiet_of_same (HL.out _)))
                    have HS6 := hid (HS5.out.drewN nq)
                    go_wp2_with fail
                    go_roundw
                    case rel => exact ⟨y + 1, by omega, by omega, by go_num, HS6, HE6⟩
                    case measure => simp [intOf]; omega
                  | false =>
                    have HL := hid (fun W => Less_u (G y) (G a) W)
                    rw [hlt] at HL
                    have he : scanUp (fun x => ltInt x d2[a]!) d2 j i = y := by
                      have hq : ltInt d2[y]! d2[a]! = false := by rw [HG.out] at hlt; exact hlt
                      rw [← HE5.out, hse.out, if_neg (fun e => by first | exact absurd (hq.symm.trans e.2) (by decide) | exact absurd ((congrArg not hq).symm.trans e.2) (by decide))]
                    have HE6 := hid he
                    clear hlt he hse
                    go_upto_region 13 with fail
                    go_quiet (first | (go_at_call 45; refine Calls.quiet_of_same (HL.out _)))
                    have HS6 := hid (HS5.out.drewN nq)
                    go_wp2_with fail
                    go_meet
                    case rel => exact ⟨y, hy1, hy2, rfl, HS6, HE6⟩
                · have he : scanUp (fun x => ltInt x d2[a]!) d2 j i = y := by
                    rw [← HE5.out, hse.out, if_neg (fun e => hyj e.1)]
                  have HE6 := hid he
                  clear he hse
                  go_upto_region 13 with fail
                  go_quiet (fail)
                  have HS6 := hid (HS5.out.drewN nq)
                  go_wp2_with fail
                  go_meet
                  case rel => exact ⟨y, hy1, hy2, rfl, HS6, HE6⟩
            case rest =>
              obtain ⟨i2, hi21, hi22, rfl, HS3, HZ1⟩ := hcut
              refine hK1 _ _ ?_
              apply wp_seq_k; intro K2 hK2
              go_cut [11] from 115 to 131 (fun x wx => ∃ zz : Nat, zz ≤ j ∧ x = .int .i64 zz ∧ RowKit.Hid (SoW w0 g n c wx d2) ∧ RowKit.Hid (scanDown (fun x => !ltInt x d2[a]!) d2 i2 j = zz))
              case first =>
                refine wp_block ?_
                go_loopw [11] (fun x wr => ∃ y : Nat, y ≤ j ∧ x = .int .i64 y ∧ RowKit.Hid (SoW w0 g n c wr d2) ∧ RowKit.Hid (scanDown (fun x => !ltInt x d2[a]!) d2 i2 y = scanDown (fun x => !ltInt x d2[a]!) d2 i2 j)) (fun x _ => (intOf x).toNat)
                case atStart => exact ⟨j, Nat.le_refl _, rfl, HS3, hid rfl⟩
                case round =>
                  obtain ⟨y, hy1, rfl, HS5, HE5⟩ := hrel
                  have hse := hid (show scanDown (fun x => !ltInt x d2[a]!) d2 i2 y = if i2 ≤ y ∧ (fun x => !ltInt x d2[a]!) d2[y]! = true then scanDown (fun x => !ltInt x d2[a]!) d2 i2 (y - 1) else y from down_scan _ _ _ _ (by omega))
                  by_cases hyj : i2 ≤ y
                  · have hyn : y < n := by omega
                    obtain ⟨G, hG⟩ : ∃ G : Nat → Int, G = fun t => d2[t]! := ⟨_, rfl⟩
                    have HG := hid hG
                    clear hG
                    have cI := HS5.out.rd HG.out hyn
                    have cJ := HS5.out.rd HG.out hAn
                    cases hlt : ltInt (G y) (G a) with
                    | false =>
                      have HL := hid (fun W => Less_u (G y) (G a) W)
                      rw [hlt] at HL
                      have he : scanDown (fun x => !ltInt x d2[a]!) d2 i2 (y - 1) = scanDown (fun x => !ltInt x d2[a]!) d2 i2 j := by
                        have hq : ltInt d2[y]! d2[a]! = false := by rw [HG.out] at hlt; exact hlt
                        rw [← HE5.out, hse.out, if_pos ⟨hyj, by first | exact hq | exact congrArg not hq⟩]
                      have HE6 := hid he
                      clear hlt he hse
                      go_upto_region 15 with fail
                      go_quiet (first | (go_at_call 45; refine Calls.quiet_of_same (HL.out _)))
                      have HS6 := hid (HS5.out.drewN nq)
                      go_wp2_with fail
                      go_roundw
                      case rel => exact ⟨y - 1, by omega, by go_num, HS6, HE6⟩
                      case measure => simp [intOf]; omega
                    | true =>
                      have HL := hid (fun W => Less_u (G y) (G a) W)
                      rw [hlt] at HL
                      have he : scanDown (fun x => !ltInt x d2[a]!) d2 i2 j = y := by
                        have hq : ltInt d2[y]! d2[a]! = true := by rw [HG.out] at hlt; exact hlt
                        rw [← HE5.out, hse.out, if_neg (fun e => by first | exact absurd (hq.symm.trans e.2) (by decide) | exact absurd ((congrArg not hq).symm.trans e.2) (by decide))]
                      have HE6 := hid he
                      clear hlt he hse
                      go_upto_region 15 with fail
                      go_quiet (first | (go_at_call 45; refine Calls.quiet_of_same (HL.out _)))
                      have HS6 := hid (HS5.out.drewN nq)
                      go_wp2_with fail
                      go_meet
                      case rel => exact ⟨y, hy1, rfl, HS6, HE6⟩
                  · have he : scanDown (fun x => !ltInt x d2[a]!) d2 i2 j = y := by
                      rw [← HE5.out, hse.out, if_neg (fun e => hyj e.1)]
                    have HE6 := hid he
                    clear he hse
                    go_upto_region 15 with fail
                    go_quiet (fail)
                    have HS6 := hid (HS5.out.drewN nq)
                    go_wp2_with fail
                    go_meet
                    case rel => exact ⟨y, hy1, rfl, HS6, HE6⟩
              case rest =>
                obtain ⟨j2, hj21, rfl, HS4, HZ2⟩ := hcut
                have hee := HE2.out
                rw [partLoop_eq, HZ1.out, HZ2.out] at hee
                have HEE := hid hee
                clear hee
                refine hK2 _ _ ?_
                have hIn2 : j2 < n := by omega
                by_cases hij2 : i2 ≤ j2
                · have HE3 := hid (show partLoop ltInt a (i2 + 1) (j2 - 1) (Sort.swp d2 i2 j2) = r by
                    have h1 := HEE.out
                    rw [if_neg (by omega)] at h1
                    exact h1)
                  have hIn : i2 < n := by omega
                  obtain ⟨G, hG⟩ : ∃ G : Nat → Int, G = fun t => d2[t]! := ⟨_, rfl⟩
                  have HG := hid hG
                  clear hG
                  go_upto_region 18 with fail
                  obtain ⟨c0, c1, f0, ⟨v1, m0⟩, m1, hsw⟩ := HS4.out.sw HG.out (i := i2) (j := j2) hIn hIn2
                  have HSV := hid hsw
                  clear hsw
                  refine D.wp_region_mix [0, 0, 0, 0, 0, 0, 0, 1, 0, 0, 0, 1, 0, 3, 0, 3] (fun W' => W'.cell? ⟨g, i2, none⟩ = some (.int .u64 (G i2)) ∧ W'.cell? ⟨g, j2, none⟩ = some (.int .u64 (G j2))) (by kernel_rfl) (by kernel_rfl) ⟨c0, c1⟩ ?_
                  repeat (first
                    | (refine' C.wpMix_value _ rfl rfl _ _; rotate_left; (solve | (intro W; go_simp) | (intro W; go_simp; with_reducible rfl)); simp only [Act.put, List.setIfInBounds_toArray, List.set_cons_zero, List.set_cons_succ])
                    | (refine' C.wpMix_read _ rfl rfl _ _; rotate_left; (solve | (rintro W ⟨h1, h2⟩; go_simp) | (rintro W ⟨h1, h2⟩; go_simp; with_reducible rfl)); simp only [Act.put, List.setIfInBounds_toArray, List.set_cons_zero, List.set_cons_succ]))
                  refine C.wpMix_skip (wc.drew.setCell ⟨g, i2, none⟩ (.int .u64 (G j2))) (by decide) rfl (by go_simp) (fun h => by cases h) ?_
                  simp only [Act.put]
                  clear c0 c1 f0
                  generalize wc.drew.setCell ⟨g, i2, none⟩ (.int .u64 (G j2)) = W1 at m0 m1 HSV ⊢
                  repeat (first
                    | (refine' C.wpMix_value _ rfl rfl _ _; rotate_left; (solve | (intro W; go_simp) | (intro W; go_simp; with_reducible rfl)); simp only [Act.put, List.setIfInBounds_toArray, List.set_cons_zero, List.set_cons_succ]))
                  refine C.wpMix_skip (W1.setCell ⟨g, j2, none⟩ (.int .u64 (G i2))) (by decide) rfl (by go_simp) (fun h => by cases h) ?_
                  simp only [Act.put]
                  refine C.wpMix_end ?_
                  clear m0 m1
                  go_wp2_with fail
                  go_roundw
                  case rel => exact ⟨i2 + 1, j2 - 1, _, by omega, by omega, by omega, by go_num, by go_num, HSV, HE3⟩
                  case measure => simp [intOf]; omega
                · have he : t = (j2, false, Sort.swp d2 j2 a) := by
                    have h1 := HEE.out
                    rw [if_pos (by omega)] at h1
                    rw [← HET.out, ← h1]
                  have HE3 := hid he
                  clear he
                  obtain ⟨G, hG⟩ : ∃ G : Nat → Int, G = fun t => d2[t]! := ⟨_, rfl⟩
                  have HG := hid hG
                  clear hG
                  go_upto_region 21 with fail
                  obtain ⟨c0, c1, f0, ⟨v1, m0⟩, m1, hsw⟩ := HS4.out.sw HG.out (i := j2) (j := a) hIn2 hAn
                  have HSV := hid hsw
                  clear hsw
                  refine D.wp_region_mix [0, 0, 0, 0, 0, 0, 0, 1, 0, 0, 0, 1, 0, 3, 0, 3] (fun W' => W'.cell? ⟨g, j2, none⟩ = some (.int .u64 (G j2)) ∧ W'.cell? ⟨g, a, none⟩ = some (.int .u64 (G a))) (by kernel_rfl) (by kernel_rfl) ⟨c0, c1⟩ ?_
                  repeat (first
                    | (refine' C.wpMix_value _ rfl rfl _ _; rotate_left; (solve | (intro W; go_simp) | (intro W; go_simp; with_reducible rfl)); simp only [Act.put, List.setIfInBounds_toArray, List.set_cons_zero, List.set_cons_succ])
                    | (refine' C.wpMix_read _ rfl rfl _ _; rotate_left; (solve | (rintro W ⟨h1, h2⟩; go_simp) | (rintro W ⟨h1, h2⟩; go_simp; with_reducible rfl)); simp only [Act.put, List.setIfInBounds_toArray, List.set_cons_zero, List.set_cons_succ]))
                  refine C.wpMix_skip (wc.drew.setCell ⟨g, j2, none⟩ (.int .u64 (G a))) (by decide) rfl (by go_simp) (fun h => by cases h) ?_
                  simp only [Act.put]
                  clear c0 c1 f0
                  generalize wc.drew.setCell ⟨g, j2, none⟩ (.int .u64 (G a)) = W1 at m0 m1 HSV ⊢
                  repeat (first
                    | (refine' C.wpMix_value _ rfl rfl _ _; rotate_left; (solve | (intro W; go_simp) | (intro W; go_simp; with_reducible rfl)); simp only [Act.put, List.setIfInBounds_toArray, List.set_cons_zero, List.set_cons_succ]))
                  refine C.wpMix_skip (W1.setCell ⟨g, a, none⟩ (.int .u64 (G j2))) (by decide) rfl (by go_simp) (fun h => by cases h) ?_
                  simp only [Act.put]
                  refine C.wpMix_end ?_
                  clear m0 m1
                  go_wp2_with fail
                  go_ret2
                  rw [HE3.out]
                  exact ⟨rfl, HSV.out⟩
        · have he : t = (j1, true, Sort.swp d1 j1 a) := by
            have h1 := HPE.out
            rw [if_pos (by omega)] at h1
            exact h1
          have HE3 := hid he
          clear he
          obtain ⟨G, hG⟩ : ∃ G : Nat → Int, G = fun t => d1[t]! := ⟨_, rfl⟩
          have HG := hid hG
          clear hG
          go_upto_region 8 with fail
          obtain ⟨c0, c1, f0, ⟨v1, m0⟩, m1, hsw⟩ := HS4.out.sw HG.out (i := j1) (j := a) hJn hAn
          have HSW := hid hsw
          clear hsw
          refine D.wp_region_mix [0, 0, 0, 0, 0, 0, 0, 1, 0, 0, 0, 1, 0, 3, 0, 3] (fun W' => W'.cell? ⟨g, j1, none⟩ = some (.int .u64 (G j1)) ∧ W'.cell? ⟨g, a, none⟩ = some (.int .u64 (G a))) (by kernel_rfl) (by kernel_rfl) ⟨c0, c1⟩ ?_
          repeat (first
            | (refine' C.wpMix_value _ rfl rfl _ _; rotate_left; (solve | (intro W; go_simp) | (intro W; go_simp; with_reducible rfl)); simp only [Act.put, List.setIfInBounds_toArray, List.set_cons_zero, List.set_cons_succ])
            | (refine' C.wpMix_read _ rfl rfl _ _; rotate_left; (solve | (rintro W ⟨h1, h2⟩; go_simp) | (rintro W ⟨h1, h2⟩; go_simp; with_reducible rfl)); simp only [Act.put, List.setIfInBounds_toArray, List.set_cons_zero, List.set_cons_succ]))
          refine C.wpMix_skip (wc.drew.setCell ⟨g, j1, none⟩ (.int .u64 (G a))) (by decide) rfl (by go_simp) (fun h => by cases h) ?_
          simp only [Act.put]
          clear c0 c1 f0
          generalize wc.drew.setCell ⟨g, j1, none⟩ (.int .u64 (G a)) = W1 at m0 m1 HSW ⊢
          repeat (first
            | (refine' C.wpMix_value _ rfl rfl _ _; rotate_left; (solve | (intro W; go_simp) | (intro W; go_simp; with_reducible rfl)); simp only [Act.put, List.setIfInBounds_toArray, List.set_cons_zero, List.set_cons_succ]))
          refine C.wpMix_skip (W1.setCell ⟨g, a, none⟩ (.int .u64 (G j1))) (by decide) rfl (by go_simp) (fun h => by cases h) ?_
          simp only [Act.put]
          refine C.wpMix_end ?_
          clear m0 m1
          go_wp2_with fail
          go_ret2
          rw [HE3.out]
          exact ⟨rfl, HSW.out⟩
end Go.Proofs.Ytbdhjkdojgdhbaa
