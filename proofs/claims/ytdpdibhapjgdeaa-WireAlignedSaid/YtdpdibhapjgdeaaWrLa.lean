/-
  The law WireAligned: what each call of the law's function comes to.
-/
import Derived.Test.YtdpdibhapjgdeaaWrJ
namespace Go.Proofs.Ytdpdibhapjgdeaa
open Go Go.ChangeShapes Go.WideShapes Go.ChangeAt Go.RowKit

def AlRel (w wr : World) (p q : Nat) : Prop := ∃ v xs, WrOwn w wr p v xs ∧ xs.length ≤ 16 * q
theorem num_len {xs : List Int} {n s : Int} : (if numOk n s then lay xs n s.toNat else xs).length ≤ xs.length + 15 := by
  split
  · rename_i h
    unfold numOk at h
    simp only [Bool.and_eq_true] at h
    obtain ⟨k, rfl, hk⟩ := fits_nat h.1
    rw [lay_len, Int.toNat_natCast]
    have := gap_lt (n := xs.length) hk
    rcases hk with rfl | rfl | rfl | rfl <;> omega
  · omega
set_option maxHeartbeats 2000000 in
set_option maxRecDepth 100000 in
theorem WireAligned_any (w : World) (ad : Option Addr) (n cap : Nat) (l : List It) (h : IRow w w.heap.size ad l) (hn : n = l.length) (hn2 : n ≤ 9223372036854775807) :
    Calls Try.prog 8 #[.slice ad n cap] w fun e w' => e = .returned (.bool true) ∧ Below w.heap.size w w' := by
  have H := hid h
  have HN := hid hn
  have HN2 := hid hn2
  clear h hn hn2
  go_enter Try.func8, Try.ntmps8
  go_wp2_with fail
  refine (NewWriter_any _).mono ?_
  rintro e w1 ⟨rfl, rfl⟩
  have h1 := WrOwn.new w
  obtain ⟨p, hp⟩ : ∃ p, p = w.heap.size := ⟨_, rfl⟩
  obtain ⟨w1, hw1⟩ : ∃ w1, w1 = w.alloc (.cells #[.slice none 0 0] 59) := ⟨_, rfl⟩
  rw [← hw1, ← hp] at h1 ⊢
  have H1 := hid h1
  clear hw1 h1 hp
  go_wp2
  go_loopw [4] (fun i wr => ∃ q : Nat, q ≤ n ∧ q ≤ 60 ∧ i = .int .i64 q ∧ RowKit.Hid (AlRel w wr p q)) (fun i _ => 60 - (intOf i).toNat)
  case atStart => exact ⟨0, by omega, by omega, rfl, hid ⟨_, _, H1.out, by simp⟩⟩
  case round =>
    obtain ⟨q, hq, hq1, rfl, HR⟩ := hrel
    by_cases hqn : q < n
    · by_cases hq9 : q < 60
      · obtain ⟨v, xs, ho, hxl⟩ := HR.out
        obtain ⟨b, o, rfl, _⟩ := H.out.some (by have := HN.out; omega)
        have hy : l[q]? = some (l[q]'(by have := HN.out; omega)) := List.getElem?_eq_getElem _
        generalize l[q]'(by have := HN.out; omega) = y at hy
        have HY := hid hy
        have c0 := (H.out.below ho.below).c0 hy
        have HO := hid ho
        have hok := H.out.ok y (List.mem_of_getElem? hy)
        have HOK := hid hok
        clear ho hy HR hok
        obtain ⟨L, hL⟩ : ∃ L, L = xs.length := ⟨_, rfl⟩
        have HL := hid hL
        rw [← hL] at hxl
        clear hL
        cases hyt : y.t with
        | true =>
          rw [hyt] at c0
          clear hyt
          go_wp2
          go_roundw
          case rel => exact ⟨q + 1, by omega, by omega, by go_num, hid ⟨_, _, HO.out, by rw [← HL.out]; omega⟩⟩
          case measure => simp [intOf]; omega
        | false =>
          rw [hyt] at c0
          clear hyt
          go_wp2_with fail
          refine (Bytes_any wr p v xs HO.out.wr (by rw [← HL.out]; omega)).mono ?_
          rintro e w2 ⟨v2, rfl, hrow2, hb2⟩
          rw [← HL.out] at hrow2
          obtain ⟨a2, k2, rfl⟩ := own_form hrow2
          have ho2 := HO.out.on hb2
          have i2 := H.out.below ho2.below
          have d1 := i2.c1 HY.out
          have d2 := i2.c2 HY.out
          have HO2 := hid ho2
          clear hrow2 hb2 ho2 i2 HO c0
          go_wp2
          refine D.wp_region_mix [0, 0, 0, 0, 0, 1, 0, 0, 0, 0, 1, 3, 0] (fun W => W.cell? ⟨b, o + q * 4 + 1, none⟩ = some (.int .u64 y.n) ∧ W.cell? ⟨b, o + q * 4 + 2, none⟩ = some (.int .i64 y.s)) (by kernel_rfl) (by kernel_rfl) ⟨by simpa using d1, by simpa using d2⟩ ?_
          repeat (first
            | (refine' C.wpMix_value _ rfl rfl _ _; rotate_left; (solve | (intro W; go_simp) | (intro W; go_simp; with_reducible rfl)); simp only [Act.put, List.setIfInBounds_toArray, List.set_cons_zero, List.set_cons_succ])
            | (refine' C.wpMix_read _ rfl rfl _ _; rotate_left; (solve | (rintro W ⟨h1, h2⟩; go_simp) | (rintro W ⟨h1, h2⟩; go_simp; with_reducible rfl)); simp only [Act.put, List.setIfInBounds_toArray, List.set_cons_zero, List.set_cons_succ]))
          refine C.wpMix_call 16 #[.pointer (some ⟨p, 0, none⟩), .int .u64 y.n, .int .i64 y.s] (by decide) rfl (by go_simp) ?_
          have ho3 := HO2.out.on ((Below.refl _ w2).drew)
          refine (Num_any w2.drew p v xs y.n y.s ho3.wr HOK.out.1.1 (by rw [← HL.out]; omega)).mono ?_
          rintro e w4 ⟨rfl, v4, ht4⟩
          have HO4 := hid (ho3.to ht4)
          have hnl := num_len (xs := xs) (n := y.n) (s := y.s)
          rw [← HL.out] at hnl
          have HNL := hid hnl
          clear ht4 ho3 hnl d1 d2 HO2
          refine ⟨_, rfl, (fun h => by cases h), ?_⟩
          simp only [Act.put, List.setIfInBounds_toArray, List.set_cons_zero, List.set_cons_succ]
          cases hok : numOk y.n y.s with
          | false =>
            rw [hok, if_neg (by simp)] at HO4
            rw [show code false = 1 from rfl]
            repeat (refine' C.wpMix_value _ rfl rfl _ _; rotate_left; (solve | (intro W; go_simp) | (intro W; go_simp; with_reducible rfl)); simp only [Act.put, List.setIfInBounds_toArray, List.set_cons_zero, List.set_cons_succ])
            refine C.wpMix_end ?_
            clear hok
            go_wp2
            go_roundw
            case rel => exact ⟨q + 1, by omega, by omega, by go_num, hid ⟨_, _, HO4.out, by rw [← HL.out]; omega⟩⟩
            case measure => simp [intOf]; omega
          | true =>
            obtain ⟨k, hyk, hk⟩ := fits_nat (show fits y.s = true by unfold numOk at hok; simp only [Bool.and_eq_true] at hok; exact hok.1)
            rw [hok, if_pos rfl, hyk, Int.toNat_natCast] at HO4
            rw [hok, if_pos rfl, hyk, Int.toNat_natCast] at HNL
            rw [show code true = 0 from rfl]
            repeat (refine' C.wpMix_value _ rfl rfl _ _; rotate_left; (solve | (intro W; go_simp) | (intro W; go_simp; with_reducible rfl)); simp only [Act.put, List.setIfInBounds_toArray, List.set_cons_zero, List.set_cons_succ])
            refine C.wpMix_end ?_
            clear hok
            have hll := lay_len xs y.n k
            have hgl := gap_lt (n := xs.length) hk
            have hgm := gap_mod (n := xs.length) hk
            have hk8 : k ≤ 8 := by rcases hk with rfl | rfl | rfl | rfl <;> omega
            have hk1 : 1 ≤ k := by rcases hk with rfl | rfl | rfl | rfl <;> omega
            have hz : ∀ j, L ≤ j → j < L + gap xs.length k → (lay xs y.n k)[j]? = some 0 := fun j h1 h2 => by
              unfold lay
              rw [List.getElem?_append_left (by have := HL.out; simp; omega), List.getElem?_append_right (by have := HL.out; omega), List.getElem?_replicate, if_pos (by have := HL.out; omega)]
            rw [← HL.out] at hll hgl hgm
            rw [← HL.out] at hz
            generalize lay xs y.n k = ys at *
            generalize gap L k = g at *
            obtain ⟨m, hm⟩ : ∃ m, m = L + g := ⟨_, rfl⟩
            rw [← hm] at hll hgm hz
            have HLL := hid hll
            have HZ := hid hz
            have HYK := hid hyk
            obtain ⟨M, hM⟩ : ∃ M, M = ys.length := ⟨_, rfl⟩
            have hMm : M = m + k := by omega
            have HM := hid hM
            have HMm := hid hMm
            have HMG := hid hm
            have hmL : L ≤ m := by omega
            have hM9 : M ≤ 10000 := by have := HNL.out; omega
            have hmL2 : m < L + k := by omega
            clear hll hz hyk hM hk hm hMm
            go_wp2_with fail
            refine (Bytes_any w4 p v4 ys HO4.out.wr (by rw [← HM.out]; omega)).mono ?_
            rintro e w5 ⟨v5, rfl, hrow5, hb5⟩
            rw [← HM.out] at hrow5
            obtain ⟨a5, k5, rfl⟩ := own_form hrow5
            have ho5 := HO4.out.on hb5
            have i5 := H.out.below ho5.below
            have d2 := i5.c2 HY.out
            rw [HYK.out] at d2
            have HO5 := hid ho5
            have HB5 := hid (own_bs hrow5)
            have hMk : (M : Int) - (k : Int) = ((m : Nat) : Int) := by have := HMm.out; omega
            have t1 : decide ((k : Int) < 1) = false := by simp; omega
            have t2 : ((m : Int) % (k : Int) != 0) = false := by have := mod_eq (a := m) (b := 0) (k := k) hgm; simpa using this
            have t3 : decide ((m : Int) < (L : Int)) = false := by simp; omega
            have t4 : decide ((k : Int) ≤ (m : Int) - (L : Int)) = false := by simp; omega
            have hwM : IntKind.i64.wrap ((M : Int) - (k : Int)) = ((m : Nat) : Int) := by rw [hMk]; exact IntWalk.i64_in _ (by omega)
            clear hrow5 hb5 ho5 i5 HO4 hgm
            obtain ⟨b5, o5, rfl, _⟩ := HB5.out.some (by have := HM.out; have := HMm.out; omega)
            go_wp2
            clear t1 t2 t3 t4 hMk hwM d2
            go_loop [8] (fun i => ∃ j : Nat, L ≤ j ∧ j ≤ m ∧ i = .int .i64 j) (fun i => m - (intOf i).toNat)
            case atStart => exact ⟨L, by omega, by omega, rfl⟩
            case round =>
              obtain ⟨j, hj1, hj2, rfl⟩ := hrel
              by_cases hjm : j < m
              · have hjM : j < M := by have := HMm.out; omega
                have cj := HB5.out.cells b5 o5 rfl j (.int .u8 0) (by
                  have := HZ.out j hj1 hjm
                  simp only [u8l, List.getElem?_map, this, Option.map_some])
                have u1 : decide ((M : Int) ≤ (j : Int)) = false := by simp; omega
                have u2 : decide (M ≤ j) = false := by simp; omega
                go_wp2
                go_round
                case rel => exact ⟨j + 1, by omega, by omega, by go_num⟩
                case measure => simp [intOf]; omega
              · obtain rfl : j = m := by omega
                go_wp2
                go_roundw
                case rel => exact ⟨q + 1, by omega, by omega, by go_num, hid ⟨_, _, HO5.out, by have := HNL.out; omega⟩⟩
                case measure => simp [intOf]; omega
      · obtain rfl : q = 60 := by omega
        obtain ⟨v, xs, ho, hxl⟩ := HR.out
        have HO := hid ho
        clear ho hxl HR
        go_wp2_with fail
        refine (awake_any _).mono ?_
        rintro e w2 ⟨rfl, h2⟩
        have H2 := hid (HO.out.below.trans (h2.mono HO.out.below.size))
        clear h2
        go_wp2
        go_ret
        exact ⟨rfl, H2.out⟩
    · obtain rfl : q = n := by omega
      obtain ⟨v, xs, ho, hxl⟩ := HR.out
      have HO := hid ho
      clear ho hxl HR
      go_wp2_with fail
      refine (awake_any _).mono ?_
      rintro e w2 ⟨rfl, h2⟩
      have H2 := hid (HO.out.below.trans (h2.mono HO.out.below.size))
      clear h2
      go_wp2
      go_ret
      exact ⟨rfl, H2.out⟩
end Go.Proofs.Ytdpdibhapjgdeaa
