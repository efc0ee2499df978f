/- SoA SoB SoC SoD in one -/
import Derived.Test.YtbdhjkdojgdhbaaNum
import Derived.Test.YtbdhjkdojgdhbaaFr
import Derived.Test.YtbdhjkdojgdhbaaMixD
import Derived.Test.YtbdhjkdojgdhbaaLibB
import Derived.Sort.AssemblyPlain
import Derived.Deep.Cut
import Derived.BigQuiet
namespace Go.Proofs.Ytbdhjkdojgdhbaa
open Go Go.ChangeShapes Go.WideShapes Go.ChangeAt Go.RowKit Go.Sort

/-- A row of numbers in block g, and nothing else has turned since w0. -/
structure SoW (w0 : World) (g n c : Nat) (W : World) (d : Array Int) : Prop where
  own : W.ownsRow 0 TU 1 (.slice (some ⟨g, 0, none⟩) n c) n (d.toList.map u64v)
  fr : Fr (fun k => k = g) w0 W
section
variable {w0 W W' : World} {g n c : Nat} {d : Array Int}
theorem SoW.sz (h : SoW w0 g n c W d) : d.size = n := by have := h.own.1; simpa using this
theorem SoW.cell (h : SoW w0 g n c W d) {i : Nat} (hi : i < n) : W.cell? ⟨g, i, none⟩ = some (u64v d[i]!) := by
  have hs := h.sz
  rw [h.own.cellAt i (by omega), List.getElem?_map, Array.getElem?_toList, getElem!_pos d i (by omega), Array.getElem?_eq_getElem (by omega)]
  rfl
theorem SoW.frz (h : SoW w0 g n c W d) (i : Nat) : W.frozen? ⟨g, i, none⟩ = false := h.own.frozenAt i
theorem SoW.no (h : SoW w0 g n c W d) (hf : Fr (fun _ => False) W W') : SoW w0 g n c W' d :=
  ⟨hf.owns h.own (fun _ _ e => e), h.fr.trans hf (fun _ e _ => e.elim)⟩
theorem SoW.drewN (h : SoW w0 g n c W d) (q : Nat) : SoW w0 g n c (W.drewN q) d := h.no ((Fr.refl _ _).drewN q)
theorem SoW.swp (h : SoW w0 g n c W d) (i j : Nat) : SoW w0 g n c ((W.setCell ⟨g, i, none⟩ (u64v d[j]!)).setCell ⟨g, j, none⟩ (u64v d[i]!)) (Sort.swp d i j) := by
  refine ⟨?_, (h.fr.setCell _ _ (fun _ => rfl)).setCell _ _ (fun _ => rfl)⟩
  have h1 := ((h.own.stored i (u64v d[j]!)).1.stored j (u64v d[i]!)).1
  have e : (Sort.swp d i j).toList.map u64v = ((d.toList.map u64v).set i (u64v d[j]!)).set j (u64v d[i]!) := by
    unfold Sort.swp
    rw [Array.toList_setIfInBounds, Array.toList_setIfInBounds, List.map_set, List.map_set]
  rw [e]
  exact h1
/-- A swap of two cells, told for a region that draws its order. -/
theorem SoW.sw (h : SoW w0 g n c W d) {G : Nat → Int} (hG : G = fun t => d[t]!) {i j : Nat} (hi : i < n) (hj : j < n) :
    W.cell? ⟨g, i, none⟩ = some (.int .u64 (G i)) ∧ W.cell? ⟨g, j, none⟩ = some (.int .u64 (G j)) ∧ W.frozen? ⟨g, i, none⟩ = false ∧
    (∃ v, (W.drew.setCell ⟨g, i, none⟩ (.int .u64 (G j))).cell? ⟨g, j, none⟩ = some v) ∧ (W.drew.setCell ⟨g, i, none⟩ (.int .u64 (G j))).frozen? ⟨g, j, none⟩ = false ∧
    SoW w0 g n c ((W.drew.setCell ⟨g, i, none⟩ (.int .u64 (G j))).setCell ⟨g, j, none⟩ (.int .u64 (G i))) (Sort.swp d i j) := by
  subst hG
  have h1 := (h.no (Fr.refl _ _).drew)
  have h2 := (h1.own.stored i (u64v d[j]!)).1
  have hs := h.sz
  refine ⟨h.cell hi, h.cell hj, h.frz i, ?_, h2.frozenAt j, h1.swp i j⟩
  rw [h2.cellAt j (by omega), List.getElem?_eq_getElem (by simp; omega)]
  exact ⟨_, rfl⟩
/-- What a walk that reads wants. -/
theorem SoW.rd (h : SoW w0 g n c W d) {G : Nat → Int} (hG : G = fun t => d[t]!) {i : Nat} (hi : i < n) : W.cell? ⟨g, i, none⟩ = some (.int .u64 (G i)) := by
  subst hG
  exact h.cell hi
end
theorem isNaN_u (a : Int) (w : World) : Calls Try.prog 52 #[.int .u64 a] w fun e w' => e = .returned (.bool false) ∧ w' = w := by
  go_enter Try.func52, Try.ntmps52
  go_wp2
  go_ret
  exact ⟨rfl, rfl⟩
theorem Less_u (a b : Int) (w : World) : Calls Try.prog 45 #[.int .u64 a, .int .u64 b] w fun e w' => e = .returned (.bool (ltInt a b)) ∧ w' = w := by
  have HN := hid isNaN_u
  go_enter Try.func45, Try.ntmps45
  go_wp2_with (first | (go_at_call 52; refine (HN.out _ _).mono ?_; rintro e w' ⟨rfl, rfl⟩))
  go_ret
  exact ⟨by simp [ltInt], rfl⟩
end Go.Proofs.Ytbdhjkdojgdhbaa

namespace Go.Proofs.Ytbdhjkdojgdhbaa
open Go Go.ChangeShapes Go.WideShapes Go.ChangeAt Go.RowKit Go.Sort

/-- What stands between the two stores of a swap. -/
theorem SoW.mid {w0 W : World} {g n c : Nat} {d : Array Int} (h : SoW w0 g n c W d) {i j : Nat} (hj : j < n) (hij : i ≠ j) (v : Value) :
    (W.setCell ⟨g, i, none⟩ v).cell? ⟨g, j, none⟩ = some (u64v d[j]!) ∧ (W.setCell ⟨g, i, none⟩ v).frozen? ⟨g, j, none⟩ = false := by
  have h1 := (h.own.stored i v).1
  refine ⟨?_, h1.frozenAt j⟩
  have hs := h.sz
  rw [h1.cellAt j (by omega), List.getElem?_set_ne hij, List.getElem?_map, Array.getElem?_toList, getElem!_pos d j (by omega), Array.getElem?_eq_getElem (by omega)]
  rfl
set_option maxRecDepth 100000 in
set_option maxHeartbeats 4000000 in
theorem insertion_u {w0 w : World} {g n c : Nat} {d : Array Int} (a b : Nat) (h : SoW w0 g n c w d) (hab : a ≤ b) (hb : b ≤ n) (hn : n ≤ 1000000) :
    Calls Try.prog 39 #[.slice (some ⟨g, 0, none⟩) n c, .int .i64 a, .int .i64 b] w fun e w' => e = .returned (.tuple #[]) ∧ SoW w0 g n c w' (insertionSort ltInt d a b) := by
  have HS := hid h
  obtain ⟨t, ht⟩ : ∃ t, t = insertionSort ltInt d a b := ⟨_, rfl⟩
  rw [← ht]
  have HE0 := hid (show insOuter ltInt a b (a + 1) d = t from ht.symm)
  clear h ht
  go_enter Try.func39, Try.ntmps39
  go_wp2
  go_loopw [6] (fun i wr => ∃ (q : Nat) (d' : Array Int), a + 1 ≤ q ∧ q ≤ b + 1 ∧ i = .int .i64 q ∧ RowKit.Hid (SoW w0 g n c wr d') ∧ RowKit.Hid (insOuter ltInt a b q d' = t)) (fun i _ => b + 1 - (intOf i).toNat)
  case atStart => exact ⟨a + 1, d, by omega, by omega, by go_num, HS, HE0⟩
  case round =>
    obtain ⟨q, d1, hq1, hq2, rfl, HS1, HE1⟩ := hrel
    by_cases hqb : q < b
    · go_wp2
      go_loopw [7] (fun i wr => ∃ (j : Nat) (d' : Array Int), j ≤ q ∧ i = .int .i64 j ∧ RowKit.Hid (SoW w0 g n c wr d') ∧ RowKit.Hid (insInner ltInt a j d' = insInner ltInt a q d1)) (fun i _ => (intOf i).toNat)
      case atStart => exact ⟨q, d1, by omega, rfl, HS1, hid rfl⟩
      case round =>
        obtain ⟨j, d2, hj, rfl, HS2, HE2⟩ := hrel
        by_cases haj : a < j
        · have hins : insInner ltInt a j d2 = if ltInt d2[j]! d2[j - 1]! then insInner ltInt a (j - 1) (Sort.swp d2 j (j - 1)) else d2 := by
            obtain ⟨k, rfl⟩ : ∃ k, j = k + 1 := ⟨j - 1, by omega⟩
            rw [insInner, Nat.add_sub_cancel]
            have : (decide (k + 1 > a) && ltInt d2[k + 1]! d2[k]!) = ltInt d2[k + 1]! d2[k]! := by rw [decide_eq_true (by omega : k + 1 > a), Bool.true_and]
            rw [this]
          have HI := hid hins
          obtain ⟨G, hG⟩ : ∃ G : Nat → Int, G = fun t => d2[t]! := ⟨_, rfl⟩
          have HG := hid hG
          have hc : ∀ t, t < n → wr.cell? ⟨g, t, none⟩ = some (.int .u64 (G t)) := fun t ht => by rw [hG]; exact HS2.out.cell ht
          have hf : ∀ t, wr.frozen? ⟨g, t, none⟩ = false := HS2.out.frz
          have hjn : j < n := by omega
          obtain ⟨k, hk⟩ : ∃ k, k = j - 1 := ⟨_, rfl⟩
          have hkn : k < n := by omega
          have hkj : j ≠ k := by omega
          have hw : IntKind.i64.wrap ((j : Int) - 1) = (k : Int) := by
            rw [show (j : Int) - 1 = (k : Int) by omega]
            exact IntWalk.i64_in _ (by omega)
          rw [← hk] at HI
          have HK := hid hk
          clear hins hG hk
          cases hlt : ltInt (G j) (G (k)) with
          | true =>
            have HL := hid (fun W => Less_u (G j) (G (k)) W)
            rw [hlt] at HL
            have HLT := hid hlt
            clear hlt
            go_upto_region 4 with fail
            go_quiet (first | (go_at_call 45; refine Calls.quiet_of_same (HL.out _)))
            go_upto_region 6 with fail
            have HS3 := hid (HS2.out.drewN nq)
            have c0 := hc j (by omega)
            have c1 := hc (k) (by omega)
            rw [← World.cell?_drewN (n := nq)] at c0 c1
            have f0 := hf j
            rw [← World.frozen?_drewN (n := nq)] at f0
            clear hc hf
            generalize wr.drewN nq = W at HS3 c0 c1 f0 ⊢
            refine D.wp_region_mix [0, 0, 0, 0, 0, 0, 0, 0, 0, 1, 0, 0, 0, 1, 0, 3, 0, 3] (fun W' => W'.cell? ⟨g, j, none⟩ = some (.int .u64 (G j)) ∧ W'.cell? ⟨g, k, none⟩ = some (.int .u64 (G (k)))) (by kernel_rfl) (by kernel_rfl) ⟨c0, c1⟩ ?_
            repeat (first
              | (refine' C.wpMix_value _ rfl rfl _ _; rotate_left; (solve | (intro W; go_simp) | (intro W; go_simp; with_reducible rfl)); simp only [Act.put, List.setIfInBounds_toArray, List.set_cons_zero, List.set_cons_succ])
              | (refine' C.wpMix_read _ rfl rfl _ _; rotate_left; (solve | (rintro W ⟨h1, h2⟩; go_simp) | (rintro W ⟨h1, h2⟩; go_simp; with_reducible rfl)); simp only [Act.put, List.setIfInBounds_toArray, List.set_cons_zero, List.set_cons_succ]))
            refine C.wpMix_skip (W.drew.setCell ⟨g, j, none⟩ (.int .u64 (G (k)))) (by decide) rfl (by go_simp) (fun h => by cases h) ?_
            simp only [Act.put]
            have HS4 := hid (HS3.out.no (Fr.refl _ _).drew)
            obtain ⟨m0, m1⟩ := HS4.out.mid (i := j) (j := k) (by omega) hkj (.int .u64 (G (k)))
            have hsw := HS4.out.swp j (k)
            have e1 : d2[j]! = G j := by rw [HG.out]
            have e2 : d2[k]! = G (k) := by rw [HG.out]
            rw [e2] at m0
            rw [e1, e2] at hsw
            have HSW := hid hsw
            clear hsw e1 e2 c0 c1 f0
            generalize W.drew.setCell ⟨g, j, none⟩ (.int .u64 (G (k))) = W1 at m0 m1 HSW ⊢
            repeat (first
              | (refine' C.wpMix_value _ rfl rfl _ _; rotate_left; (solve | (intro W; go_simp) | (intro W; go_simp; with_reducible rfl)); simp only [Act.put, List.setIfInBounds_toArray, List.set_cons_zero, List.set_cons_succ]))
            refine C.wpMix_skip (W1.setCell ⟨g, k, none⟩ (.int .u64 (G j))) (by decide) rfl (by go_simp) (fun h => by cases h) ?_
            simp only [Act.put]
            refine C.wpMix_end ?_
            have he : insInner ltInt a (k) (Sort.swp d2 j (k)) = insInner ltInt a q d1 := by
              have h1 := HLT.out
              rw [HG.out] at h1
              rw [← HE2.out, HI.out, if_pos h1]
            have HE3 := hid he
            clear he
            go_wp2
            go_roundw
            case rel => exact ⟨k, _, by have := HK.out; omega, by have := HK.out; go_num, HSW, HE3⟩
            case measure => have := HK.out; simp [intOf]; omega
          | false =>
            have HL := hid (fun W => Less_u (G j) (G (k)) W)
            rw [hlt] at HL
            have he : insOuter ltInt a b (q + 1) d2 = t := by
              have h1 := HE1.out
              rw [HG.out] at hlt
              rw [insOuter, if_pos hqb, ← HE2.out, HI.out, if_neg (by rw [hlt]; decide)] at h1
              exact h1
            have HE3 := hid he
            clear hlt he
            go_upto_region 4 with fail
            go_quiet (first | (go_at_call 45; refine Calls.quiet_of_same (HL.out _)))
            have HS3 := hid (HS2.out.drewN nq)
            go_wp2
            go_roundw
            case rel => exact ⟨q + 1, d2, by omega, by omega, by go_num, HS3, HE3⟩
            case measure => simp [intOf]; omega
        · have he : insOuter ltInt a b (q + 1) d2 = t := by
            have h1 := HE1.out
            rw [insOuter, if_pos hqb, ← HE2.out] at h1
            cases j with
            | zero => exact h1
            | succ k =>
              rw [insInner, if_neg (by simp; omega)] at h1
              exact h1
          have HE3 := hid he
          clear he
          go_upto_region 4 with fail
          go_quiet (fail)
          have HS3 := hid (HS2.out.drewN nq)
          go_wp2
          go_roundw
          case rel => exact ⟨q + 1, d2, by omega, by omega, by go_num, HS3, HE3⟩
          case measure => simp [intOf]; omega
    · obtain rfl | rfl : q = b ∨ q = b + 1 := by omega
      · go_wp2
        go_end0
        refine ⟨rfl, ?_⟩
        have h1 := HE1.out
        rw [insOuter, if_neg (by omega)] at h1
        rw [← h1]; exact HS1.out
      · go_wp2
        go_end0
        refine ⟨rfl, ?_⟩
        have h1 := HE1.out
        rw [insOuter, if_neg (by omega)] at h1
        rw [← h1]; exact HS1.out
end Go.Proofs.Ytbdhjkdojgdhbaa

namespace Go.Proofs.Ytbdhjkdojgdhbaa
open Go Go.ChangeShapes Go.WideShapes Go.ChangeAt Go.RowKit Go.Sort

theorem sift_eq (hi F r c : Nat) (d : Array Int) (h : 2 * r + 1 < hi) (hc : c = if 2 * r + 2 < hi ∧ ltInt d[F + (2 * r + 1)]! d[F + (2 * r + 2)]! = true then 2 * r + 2 else 2 * r + 1) :
    siftDown ltInt hi F r d = if ltInt d[F + r]! d[F + c]! = true then siftDown ltInt hi F c (Sort.swp d (F + r) (F + c)) else d := by
  rw [siftDown, dif_neg (by omega)]
  by_cases h2 : 2 * r + 2 < hi ∧ ltInt d[F + (2 * r + 1)]! d[F + (2 * r + 2)]! = true
  · rw [if_pos h2] at hc
    subst hc
    rw [if_pos (by rw [decide_eq_true h2.1, Bool.true_and]; exact h2.2)]
    cases hl : ltInt d[F + r]! d[F + (2 * r + 2)]! with
    | true => rw [if_neg (by decide), dif_pos h2.1, if_pos rfl]
    | false => simp
  · rw [if_neg h2] at hc
    subst hc
    rw [if_neg (by
      intro e
      rw [Bool.and_eq_true] at e
      exact h2 ⟨of_decide_eq_true e.1, e.2⟩)]
    cases hl : ltInt d[F + r]! d[F + (2 * r + 1)]! with
    | true => rw [if_neg (by decide), if_pos rfl]
    | false => simp
set_option maxRecDepth 100000 in
set_option maxHeartbeats 8000000 in
theorem sift_u {w0 w : World} {g n c : Nat} {d : Array Int} (lo hi F : Nat) (h : SoW w0 g n c w d) (hF : F + hi ≤ n) (hlo : lo ≤ 1000000) (hn : n ≤ 1000000) :
    Calls Try.prog 53 #[.slice (some ⟨g, 0, none⟩) n c, .int .i64 lo, .int .i64 hi, .int .i64 F] w fun e w' => e = .returned (.tuple #[]) ∧ SoW w0 g n c w' (siftDown ltInt hi F lo d) := by
  have HS := hid h
  obtain ⟨t, ht⟩ : ∃ t, t = siftDown ltInt hi F lo d := ⟨_, rfl⟩
  rw [← ht]
  have HE0 := hid (show siftDown ltInt hi F lo d = t from ht.symm)
  clear h ht
  go_enter Try.func53, Try.ntmps53
  go_wp2
  go_loopw [8] (fun i wr => ∃ (q : Nat) (d' : Array Int), q ≤ 1000000 ∧ i = .int .i64 q ∧ RowKit.Hid (SoW w0 g n c wr d') ∧ RowKit.Hid (siftDown ltInt hi F q d' = t)) (fun i _ => hi - (intOf i).toNat)
  case atStart => exact ⟨lo, d, hlo, rfl, HS, HE0⟩
  case round =>
    obtain ⟨r, d2, hr, rfl, HS2, HE2⟩ := hrel
    obtain ⟨ch, hch⟩ : ∃ ch, ch = 2 * r + 1 := ⟨_, rfl⟩
    have hch2 : 2 * (r : Int) + 1 = (ch : Int) := by omega
    have hchb : ch ≤ 2000001 := by omega
    have HCH := hid hch
    clear hch
    by_cases hend : ch < hi
    · obtain ⟨G, hG⟩ : ∃ G : Nat → Int, G = fun t => d2[t]! := ⟨_, rfl⟩
      have HG := hid hG
      clear hG
      obtain ⟨c2, hc2⟩ : ∃ c2, c2 = ch + 1 := ⟨_, rfl⟩
      have hc2i : (ch : Int) + 1 = (c2 : Int) := by omega
      have hwc2 : IntKind.i64.wrap (c2 : Int) = (c2 : Int) := IntWalk.i64_in _ (by omega)
      have HC2 := hid hc2
      clear hc2
      by_cases hgd : c2 < hi
      · obtain ⟨A, hA⟩ : ∃ A, A = F + ch := ⟨_, rfl⟩
        obtain ⟨B, hB⟩ : ∃ B, B = F + ch + 1 := ⟨_, rfl⟩
        have hAn : A < n := by omega
        have hBn : B < n := by have := HC2.out; omega
        have hwA : IntKind.i64.wrap ((F : Int) + (ch : Int)) = (A : Int) := by
          rw [show (F : Int) + (ch : Int) = (A : Int) by omega]; exact IntWalk.i64_in _ (by omega)
        have hwB : IntKind.i64.wrap ((A : Int) + 1) = (B : Int) := by
          rw [show (A : Int) + 1 = (B : Int) by omega]; exact IntWalk.i64_in _ (by omega)
        have HA := hid hA
        have HB := hid hB
        clear hA hB
        have cA := HS2.out.rd HG.out hAn
        have cB := HS2.out.rd HG.out hBn
        cases hlt : ltInt (G A) (G B) with
        | true =>
          have HL := hid (fun W => Less_u (G A) (G B) W)
          rw [hlt] at HL
          have hcc : c2 = if 2 * r + 2 < hi ∧ ltInt d2[F + (2 * r + 1)]! d2[F + (2 * r + 2)]! = true then 2 * r + 2 else 2 * r + 1 := by
            rw [HG.out] at hlt
            have hch := HCH.out
            have hc2 := HC2.out
            rw [if_pos ⟨by omega, by rw [← hlt, HA.out, HB.out, hch]; rfl⟩]; omega
          have HCC := hid hcc
          have hcn : c2 < hi := by omega
          have hrc : r < c2 := by have := HCH.out; have := HC2.out; omega
          clear hlt hcc
          go_upto_region 3 with fail
          go_quiet (first | (go_at_call 45; refine Calls.quiet_of_same (HL.out _)))
          have HSR := hid (HS2.out.drewN nq)
          clear cA cB HA HB hAn hBn hwA hwB HL
          generalize wr.drewN nq = w2 at HSR ⊢
          go_upto_region 4 with fail
          obtain ⟨I, hI⟩ : ∃ I, I = F + r := ⟨_, rfl⟩
          obtain ⟨J, hJ⟩ : ∃ J, J = F + c2 := ⟨_, rfl⟩
          have hIn : I < n := by omega
          have hJn : J < n := by omega
          have hwI : IntKind.i64.wrap ((F : Int) + (r : Int)) = (I : Int) := by
            rw [show (F : Int) + (r : Int) = (I : Int) by omega]; exact IntWalk.i64_in _ (by omega)
          have hwJ : IntKind.i64.wrap ((F : Int) + (c2 : Int)) = (J : Int) := by
            rw [show (F : Int) + (c2 : Int) = (J : Int) by omega]; exact IntWalk.i64_in _ (by omega)
          have HSE := hid (sift_eq hi F r c2 d2 (by have := HCH.out; omega) HCC.out)
          rw [← hI, ← hJ] at HSE
          clear hI hJ
          have cI := HSR.out.rd HG.out hIn
          have cJ := HSR.out.rd HG.out hJn
          cases hlt : ltInt (G I) (G J) with
          | true =>
            have HL := hid (fun W => Less_u (G I) (G J) W)
            rw [hlt] at HL
            have HLT := hid hlt
            clear hlt
            go_upto_region 5 with fail
            go_quiet (first | (go_at_call 45; refine Calls.quiet_of_same (HL.out _)))
            go_upto_region 6 with fail
            clear cI cJ
            have HS3 := hid (HSR.out.drewN nq)
            generalize w2.drewN nq = W at HS3 ⊢
            obtain ⟨c0, c1, f0, ⟨v1, m0⟩, m1, hsw⟩ := HS3.out.sw HG.out (i := I) (j := J) hIn hJn
            have HSW := hid hsw
            clear hsw
            refine D.wp_region_mix [0, 0, 0, 0, 0, 0, 0, 0, 0, 0, 0, 0, 0, 1, 0, 0, 0, 0, 0, 1, 0, 3, 0, 3] (fun W' => W'.cell? ⟨g, I, none⟩ = some (.int .u64 (G I)) ∧ W'.cell? ⟨g, J, none⟩ = some (.int .u64 (G J))) (by kernel_rfl) (by kernel_rfl) ⟨c0, c1⟩ ?_
            repeat (first
              | (refine' C.wpMix_value _ rfl rfl _ _; rotate_left; (solve | (intro W; go_simp) | (intro W; go_simp; with_reducible rfl)); simp only [Act.put, List.setIfInBounds_toArray, List.set_cons_zero, List.set_cons_succ])
              | (refine' C.wpMix_read _ rfl rfl _ _; rotate_left; (solve | (rintro W ⟨h1, h2⟩; go_simp) | (rintro W ⟨h1, h2⟩; go_simp; with_reducible rfl)); simp only [Act.put, List.setIfInBounds_toArray, List.set_cons_zero, List.set_cons_succ]))
            refine C.wpMix_skip (W.drew.setCell ⟨g, I, none⟩ (.int .u64 (G J))) (by decide) rfl (by go_simp) (fun h => by cases h) ?_
            simp only [Act.put]
            clear c0 c1 f0
            generalize W.drew.setCell ⟨g, I, none⟩ (.int .u64 (G J)) = W1 at m0 m1 HSW ⊢
            repeat (first
              | (refine' C.wpMix_value _ rfl rfl _ _; rotate_left; (solve | (intro W; go_simp) | (intro W; go_simp; with_reducible rfl)); simp only [Act.put, List.setIfInBounds_toArray, List.set_cons_zero, List.set_cons_succ]))
            refine C.wpMix_skip (W1.setCell ⟨g, J, none⟩ (.int .u64 (G I))) (by decide) rfl (by go_simp) (fun h => by cases h) ?_
            simp only [Act.put]
            refine C.wpMix_end ?_
            clear m0 m1
            have he : siftDown ltInt hi F c2 (Sort.swp d2 I J) = t := by
              have h1 := HLT.out
              rw [HG.out] at h1
              rw [← HE2.out, HSE.out, if_pos h1]
            have HE3 := hid he
            clear he
            go_wp2
            go_roundw
            case rel => exact ⟨c2, _, by omega, by go_num, HSW, HE3⟩
            case measure => simp [intOf]; omega
          | false =>
            have HL := hid (fun W => Less_u (G I) (G J) W)
            rw [hlt] at HL
            have he : d2 = t := by
              rw [HG.out] at hlt
              rw [← HE2.out, HSE.out, if_neg (by rw [hlt]; decide)]
            have HE3 := hid he
            clear hlt he
            go_upto_region 5 with fail
            go_quiet (first | (go_at_call 45; refine Calls.quiet_of_same (HL.out _)))
            have HS3 := hid (HSR.out.drewN nq)
            go_wp2
            refine bodyPost_ret (results_none rfl _ _ _) rfl ?_
            exact ⟨rfl, by rw [← HE3.out]; exact HS3.out⟩
        | false =>
          have HL := hid (fun W => Less_u (G A) (G B) W)
          rw [hlt] at HL
          have hcc : ch = if 2 * r + 2 < hi ∧ ltInt d2[F + (2 * r + 1)]! d2[F + (2 * r + 2)]! = true then 2 * r + 2 else 2 * r + 1 := by
            rw [HG.out] at hlt
            have hch := HCH.out
            rw [if_neg (fun e => by
              have e2 := e.2
              rw [show F + (2 * r + 1) = A by rw [HA.out]; omega, show F + (2 * r + 2) = B by rw [HB.out]; omega, hlt] at e2
              cases e2)]; omega
          have HCC := hid hcc
          have hrc : r < ch := by have := HCH.out; omega
          clear hlt hcc
          go_upto_region 3 with fail
          go_quiet (first | (go_at_call 45; refine Calls.quiet_of_same (HL.out _)))
          have HSR := hid (HS2.out.drewN nq)
          clear cA cB HA HB hAn hBn hwA hwB HL
          generalize wr.drewN nq = w2 at HSR ⊢
          obtain ⟨I, hI⟩ : ∃ I, I = F + r := ⟨_, rfl⟩
          obtain ⟨J, hJ⟩ : ∃ J, J = F + ch := ⟨_, rfl⟩
          have hIn : I < n := by omega
          have hJn : J < n := by omega
          have hwI : IntKind.i64.wrap ((F : Int) + (r : Int)) = (I : Int) := by
            rw [show (F : Int) + (r : Int) = (I : Int) by omega]; exact IntWalk.i64_in _ (by omega)
          have hwJ : IntKind.i64.wrap ((F : Int) + (ch : Int)) = (J : Int) := by
            rw [show (F : Int) + (ch : Int) = (J : Int) by omega]; exact IntWalk.i64_in _ (by omega)
          have HSE := hid (sift_eq hi F r ch d2 (by have := HCH.out; omega) HCC.out)
          rw [← hI, ← hJ] at HSE
          clear hI hJ
          have cI := HSR.out.rd HG.out hIn
          have cJ := HSR.out.rd HG.out hJn
          cases hlt : ltInt (G I) (G J) with
          | true =>
            have HL := hid (fun W => Less_u (G I) (G J) W)
            rw [hlt] at HL
            have HLT := hid hlt
            clear hlt
            go_upto_region 5 with fail
            go_quiet (first | (go_at_call 45; refine Calls.quiet_of_same (HL.out _)))
            go_upto_region 6 with fail
            clear cI cJ
            have HS3 := hid (HSR.out.drewN nq)
            generalize w2.drewN nq = W at HS3 ⊢
            obtain ⟨c0, c1, f0, ⟨v1, m0⟩, m1, hsw⟩ := HS3.out.sw HG.out (i := I) (j := J) hIn hJn
            have HSW := hid hsw
            clear hsw
            refine D.wp_region_mix [0, 0, 0, 0, 0, 0, 0, 0, 0, 0, 0, 0, 0, 1, 0, 0, 0, 0, 0, 1, 0, 3, 0, 3] (fun W' => W'.cell? ⟨g, I, none⟩ = some (.int .u64 (G I)) ∧ W'.cell? ⟨g, J, none⟩ = some (.int .u64 (G J))) (by kernel_rfl) (by kernel_rfl) ⟨c0, c1⟩ ?_
            repeat (first
              | (refine' C.wpMix_value _ rfl rfl _ _; rotate_left; (solve | (intro W; go_simp) | (intro W; go_simp; with_reducible rfl)); simp only [Act.put, List.setIfInBounds_toArray, List.set_cons_zero, List.set_cons_succ])
              | (refine' C.wpMix_read _ rfl rfl _ _; rotate_left; (solve | (rintro W ⟨h1, h2⟩; go_simp) | (rintro W ⟨h1, h2⟩; go_simp; with_reducible rfl)); simp only [Act.put, List.setIfInBounds_toArray, List.set_cons_zero, List.set_cons_succ]))
            refine C.wpMix_skip (W.drew.setCell ⟨g, I, none⟩ (.int .u64 (G J))) (by decide) rfl (by go_simp) (fun h => by cases h) ?_
            simp only [Act.put]
            clear c0 c1 f0
            generalize W.drew.setCell ⟨g, I, none⟩ (.int .u64 (G J)) = W1 at m0 m1 HSW ⊢
            repeat (first
              | (refine' C.wpMix_value _ rfl rfl _ _; rotate_left; (solve | (intro W; go_simp) | (intro W; go_simp; with_reducible rfl)); simp only [Act.put, List.setIfInBounds_toArray, List.set_cons_zero, List.set_cons_succ]))
            refine C.wpMix_skip (W1.setCell ⟨g, J, none⟩ (.int .u64 (G I))) (by decide) rfl (by go_simp) (fun h => by cases h) ?_
            simp only [Act.put]
            refine C.wpMix_end ?_
            clear m0 m1
            have he : siftDown ltInt hi F ch (Sort.swp d2 I J) = t := by
              have h1 := HLT.out
              rw [HG.out] at h1
              rw [← HE2.out, HSE.out, if_pos h1]
            have HE3 := hid he
            clear he
            go_wp2
            go_roundw
            case rel => exact ⟨ch, _, by omega, by go_num, HSW, HE3⟩
            case measure => simp [intOf]; omega
          | false =>
            have HL := hid (fun W => Less_u (G I) (G J) W)
            rw [hlt] at HL
            have he : d2 = t := by
              rw [HG.out] at hlt
              rw [← HE2.out, HSE.out, if_neg (by rw [hlt]; decide)]
            have HE3 := hid he
            clear hlt he
            go_upto_region 5 with fail
            go_quiet (first | (go_at_call 45; refine Calls.quiet_of_same (HL.out _)))
            have HS3 := hid (HSR.out.drewN nq)
            go_wp2
            refine bodyPost_ret (results_none rfl _ _ _) rfl ?_
            exact ⟨rfl, by rw [← HE3.out]; exact HS3.out⟩
      · have hcc : ch = if 2 * r + 2 < hi ∧ ltInt d2[F + (2 * r + 1)]! d2[F + (2 * r + 2)]! = true then 2 * r + 2 else 2 * r + 1 := by
          have hch := HCH.out
          rw [if_neg (fun e => by have := e.1; have := HC2.out; omega)]; omega
        have HCC := hid hcc
        have hrc : r < ch := by have := HCH.out; omega
        clear hcc
        go_upto_region 3 with fail
        go_quiet (fail)
        have HSR := hid (HS2.out.drewN nq)
        generalize wr.drewN nq = w2 at HSR ⊢
        obtain ⟨I, hI⟩ : ∃ I, I = F + r := ⟨_, rfl⟩
        obtain ⟨J, hJ⟩ : ∃ J, J = F + ch := ⟨_, rfl⟩
        have hIn : I < n := by omega
        have hJn : J < n := by omega
        have hwI : IntKind.i64.wrap ((F : Int) + (r : Int)) = (I : Int) := by
          rw [show (F : Int) + (r : Int) = (I : Int) by omega]; exact IntWalk.i64_in _ (by omega)
        have hwJ : IntKind.i64.wrap ((F : Int) + (ch : Int)) = (J : Int) := by
          rw [show (F : Int) + (ch : Int) = (J : Int) by omega]; exact IntWalk.i64_in _ (by omega)
        have HSE := hid (sift_eq hi F r ch d2 (by have := HCH.out; omega) HCC.out)
        rw [← hI, ← hJ] at HSE
        clear hI hJ
        have cI := HSR.out.rd HG.out hIn
        have cJ := HSR.out.rd HG.out hJn
        cases hlt : ltInt (G I) (G J) with
        | true =>
          have HL := hid (fun W => Less_u (G I) (G J) W)
          rw [hlt] at HL
          have HLT := hid hlt
          clear hlt
          go_upto_region 5 with fail
          go_quiet (first | (go_at_call 45; refine Calls.quiet_of_same (HL.out _)))
          go_upto_region 6 with fail
          clear cI cJ
          have HS3 := hid (HSR.out.drewN nq)
          generalize w2.drewN nq = W at HS3 ⊢
          obtain ⟨c0, c1, f0, ⟨v1, m0⟩, m1, hsw⟩ := HS3.out.sw HG.out (i := I) (j := J) hIn hJn
          have HSW := hid hsw
          clear hsw
          refine D.wp_region_mix [0, 0, 0, 0, 0, 0, 0, 0, 0, 0, 0, 0, 0, 1, 0, 0, 0, 0, 0, 1, 0, 3, 0, 3] (fun W' => W'.cell? ⟨g, I, none⟩ = some (.int .u64 (G I)) ∧ W'.cell? ⟨g, J, none⟩ = some (.int .u64 (G J))) (by kernel_rfl) (by kernel_rfl) ⟨c0, c1⟩ ?_
          repeat (first
            | (refine' C.wpMix_value _ rfl rfl _ _; rotate_left; (solve | (intro W; go_simp) | (intro W; go_simp; with_reducible rfl)); simp only [Act.put, List.setIfInBounds_toArray, List.set_cons_zero, List.set_cons_succ])
            | (refine' C.wpMix_read _ rfl rfl _ _; rotate_left; (solve | (rintro W ⟨h1, h2⟩; go_simp) | (rintro W ⟨h1, h2⟩; go_simp; with_reducible rfl)); simp only [Act.put, List.setIfInBounds_toArray, List.set_cons_zero, List.set_cons_succ]))
          refine C.wpMix_skip (W.drew.setCell ⟨g, I, none⟩ (.int .u64 (G J))) (by decide) rfl (by go_simp) (fun h => by cases h) ?_
          simp only [Act.put]
          clear c0 c1 f0
          generalize W.drew.setCell ⟨g, I, none⟩ (.int .u64 (G J)) = W1 at m0 m1 HSW ⊢
          repeat (first
            | (refine' C.wpMix_value _ rfl rfl _ _; rotate_left; (solve | (intro W; go_simp) | (intro W; go_simp; with_reducible rfl)); simp only [Act.put, List.setIfInBounds_toArray, List.set_cons_zero, List.set_cons_succ]))
          refine C.wpMix_skip (W1.setCell ⟨g, J, none⟩ (.int .u64 (G I))) (by decide) rfl (by go_simp) (fun h => by cases h) ?_
          simp only [Act.put]
          refine C.wpMix_end ?_
          clear m0 m1
          have he : siftDown ltInt hi F ch (Sort.swp d2 I J) = t := by
            have h1 := HLT.out
            rw [HG.out] at h1
            rw [← HE2.out, HSE.out, if_pos h1]
          have HE3 := hid he
          clear he
          go_wp2
          go_roundw
          case rel => exact ⟨ch, _, by omega, by go_num, HSW, HE3⟩
          case measure => simp [intOf]; omega
        | false =>
          have HL := hid (fun W => Less_u (G I) (G J) W)
          rw [hlt] at HL
          have he : d2 = t := by
            rw [HG.out] at hlt
            rw [← HE2.out, HSE.out, if_neg (by rw [hlt]; decide)]
          have HE3 := hid he
          clear hlt he
          go_upto_region 5 with fail
          go_quiet (first | (go_at_call 45; refine Calls.quiet_of_same (HL.out _)))
          have HS3 := hid (HSR.out.drewN nq)
          go_wp2
          refine bodyPost_ret (results_none rfl _ _ _) rfl ?_
          exact ⟨rfl, by rw [← HE3.out]; exact HS3.out⟩
    · have he : d2 = t := by
        rw [← HE2.out, siftDown, dif_pos (by have := HCH.out; omega)]
      have HE3 := hid he
      clear he
      go_wp2
      go_end0
      exact ⟨rfl, by rw [← HE3.out]; exact HS2.out⟩
end Go.Proofs.Ytbdhjkdojgdhbaa

namespace Go.Proofs.Ytbdhjkdojgdhbaa
open Go Go.ChangeShapes Go.WideShapes Go.ChangeAt Go.RowKit Go.Sort

set_option maxRecDepth 100000 in
set_option maxHeartbeats 8000000 in
theorem heap_u {w0 w : World} {g n c : Nat} {d : Array Int} (a b : Nat) (h : SoW w0 g n c w d) (hab : a < b) (hb : b ≤ n) (hn : n ≤ 1000000) :
    Calls Try.prog 40 #[.slice (some ⟨g, 0, none⟩) n c, .int .i64 a, .int .i64 b] w fun e w' => e = .returned (.tuple #[]) ∧ SoW w0 g n c w' (heapSort ltInt d a b) := by
  have HS := hid h
  obtain ⟨L, hL⟩ : ∃ L, L = b - a := ⟨_, rfl⟩
  obtain ⟨t, ht⟩ : ∃ t, t = heapSort ltInt d a b := ⟨_, rfl⟩
  rw [← ht]
  obtain ⟨m, hm⟩ : ∃ m, m = (L - 1) / 2 := ⟨_, rfl⟩
  have HE0 := hid (show heapPop ltInt a L (heapBuild ltInt L a (m + 1) d) = t by rw [hm, hL]; exact ht.symm)
  have hw1 : IntKind.i64.wrap ((b : Int) - (a : Int)) = (L : Int) := by
    rw [show (b : Int) - (a : Int) = (L : Int) by omega]; exact IntWalk.i64_in _ (by omega)
  have hL1 : 1 ≤ L := by omega
  have haL : a + L ≤ n := by omega
  have hq : ((L : Int) - 1).tdiv 2 = (m : Int) := by
    rw [Int.tdiv_eq_ediv_of_nonneg (by omega), hm]; omega
  have hmL : m < L := by omega
  have HM := hid hm
  have HL := hid hL
  clear h ht hm hL
  go_enter Try.func40, Try.ntmps40
  go_wp2
  go_loopw [9] (fun i wr => ∃ (k : Nat) (d' : Array Int), k ≤ m + 1 ∧ i = .int .i64 ((k : Int) - 1) ∧ RowKit.Hid (SoW w0 g n c wr d') ∧ RowKit.Hid (heapPop ltInt a L (heapBuild ltInt L a k d') = t)) (fun i _ => (intOf i + 1).toNat)
  case atStart => exact ⟨m + 1, d, by omega, by congr 1; omega, HS, HE0⟩
  case round =>
    obtain ⟨k, d2, hk, hi, HS2, HE2⟩ := hrel
    cases k with
    | succ k =>
      rw [show ((k + 1 : Nat) : Int) - 1 = (k : Int) by omega] at hi
      subst hi
      have HSI := hid (sift_u k L a HS2.out (by omega) (by omega) hn)
      go_wp2_with (first
        | (go_at_call 53; refine HSI.out.mono ?_; rintro e w1 ⟨rfl, hs1⟩; have HS1 := hid hs1; clear hs1)
        | fail)
      go_roundw
      case rel => exact ⟨k, _, by omega, by go_num, HS1, HE2⟩
      case measure => simp [intOf]
    | zero =>
      rw [show ((0 : Nat) : Int) - 1 = -1 by omega] at hi
      subst hi
      have HE3 := hid (show heapPop ltInt a L d2 = t from HE2.out)
      go_wp2
      go_loopw [10] (fun i wr => ∃ (k : Nat) (d' : Array Int), k ≤ L ∧ i = .int .i64 ((k : Int) - 1) ∧ RowKit.Hid (SoW w0 g n c wr d') ∧ RowKit.Hid (heapPop ltInt a k d' = t)) (fun i _ => (intOf i + 1).toNat)
      case atStart => exact ⟨L, d2, Nat.le_refl _, rfl, HS2, HE3⟩
      case round =>
        obtain ⟨k, d3, hk, hi, HS3, HE4⟩ := hrel
        cases k with
        | succ k =>
          rw [show ((k + 1 : Nat) : Int) - 1 = (k : Int) by omega] at hi
          subst hi
          obtain ⟨G, hG⟩ : ∃ G : Nat → Int, G = fun t => d3[t]! := ⟨_, rfl⟩
          have HG := hid hG
          obtain ⟨J, hJ⟩ : ∃ J, J = a + k := ⟨_, rfl⟩
          have hIn : a < n := by omega
          have hJn : J < n := by omega
          have hwJ : IntKind.i64.wrap ((a : Int) + (k : Int)) = (J : Int) := by
            rw [show (a : Int) + (k : Int) = (J : Int) by omega]; exact IntWalk.i64_in _ (by omega)
          have HJ := hid hJ
          clear hG hJ
          go_upto_region 10 with fail
          obtain ⟨c0, c1, f0, ⟨v1, m0⟩, m1, hsw⟩ := HS3.out.sw HG.out (i := a) (j := J) hIn hJn
          have HSW := hid hsw
          clear hsw
          refine D.wp_region_mix [0, 0, 0, 0, 0, 0, 0, 0, 0, 0, 0, 1, 0, 0, 0, 1, 0, 3, 0, 3] (fun W' => W'.cell? ⟨g, a, none⟩ = some (.int .u64 (G a)) ∧ W'.cell? ⟨g, J, none⟩ = some (.int .u64 (G J))) (by kernel_rfl) (by kernel_rfl) ⟨c0, c1⟩ ?_
          repeat (first
            | (refine' C.wpMix_value _ rfl rfl _ _; rotate_left; (solve | (intro W; go_simp) | (intro W; go_simp; with_reducible rfl)); simp only [Act.put, List.setIfInBounds_toArray, List.set_cons_zero, List.set_cons_succ])
            | (refine' C.wpMix_read _ rfl rfl _ _; rotate_left; (solve | (rintro W ⟨h1, h2⟩; go_simp) | (rintro W ⟨h1, h2⟩; go_simp; with_reducible rfl)); simp only [Act.put, List.setIfInBounds_toArray, List.set_cons_zero, List.set_cons_succ]))
          refine C.wpMix_skip (wr.drew.setCell ⟨g, a, none⟩ (.int .u64 (G J))) (by decide) rfl (by go_simp) (fun h => by cases h) ?_
          simp only [Act.put]
          clear c0 c1 f0
          generalize wr.drew.setCell ⟨g, a, none⟩ (.int .u64 (G J)) = W1 at m0 m1 HSW ⊢
          repeat (first
            | (refine' C.wpMix_value _ rfl rfl _ _; rotate_left; (solve | (intro W; go_simp) | (intro W; go_simp; with_reducible rfl)); simp only [Act.put, List.setIfInBounds_toArray, List.set_cons_zero, List.set_cons_succ]))
          refine C.wpMix_skip (W1.setCell ⟨g, J, none⟩ (.int .u64 (G a))) (by decide) rfl (by go_simp) (fun h => by cases h) ?_
          simp only [Act.put]
          refine C.wpMix_end ?_
          clear m0 m1
          have HSI := hid (sift_u 0 k a HSW.out (by omega) (by omega) hn)
          have he : heapPop ltInt a k (siftDown ltInt k a 0 (Sort.swp d3 a J)) = t := by
            rw [HJ.out]; exact HE4.out
          have HE5 := hid he
          clear he
          go_wp2_with (first
            | (go_at_call 53; refine HSI.out.mono ?_; rintro e w1 ⟨rfl, hs1⟩; have HS5 := hid hs1; clear hs1)
            | fail)
          go_roundw
          case rel => exact ⟨k, _, by omega, by go_num, HS5, HE5⟩
          case measure => simp [intOf]
        | zero =>
          subst hi
          go_wp2
          go_end0
          exact ⟨rfl, by rw [← HE4.out]; exact HS3.out⟩
end Go.Proofs.Ytbdhjkdojgdhbaa
