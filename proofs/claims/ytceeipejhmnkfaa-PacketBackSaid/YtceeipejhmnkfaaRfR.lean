/-
  The contracts of the plain twin's Fits and Read (layer 5).
-/
import Derived.Test.YtceeipejhmnkfaaRfN
namespace Go.Proofs.Ytceeipejhmnkfaa
open Go Go.ChangeShapes Go.WideShapes Go.ChangeAt Go.RowKit

set_option maxRecDepth 100000 in
theorem Fits_any (s : Int) (w : World) : Calls Try.prog 78 #[.int .i64 s] w fun e w' => e = .returned (.bool (fits s)) ∧ w = w' := by
  by_cases h1 : s = 1
  · subst h1
    go_enter Try.func78, Try.ntmps78
    go_wp2
    go_ret
    exact ⟨rfl, rfl⟩
  · by_cases h2 : s = 2
    · subst h2
      go_enter Try.func78, Try.ntmps78
      go_wp2
      go_ret
      exact ⟨rfl, rfl⟩
    · by_cases h3 : s = 4
      · subst h3
        go_enter Try.func78, Try.ntmps78
        go_wp2
        go_ret
        exact ⟨rfl, rfl⟩
      · have E := hid (show fits s = (s == 8) by simp [fits, h1, h2, h3])
        have b1 : (s == 1) = false := by simpa using h1
        have b2 : (s == 2) = false := by simpa using h2
        have b3 : (s == 4) = false := by simpa using h3
        clear h1 h2 h3
        go_enter Try.func78, Try.ntmps78
        go_wp2
        go_ret
        exact ⟨ret_bool E.out.symm, rfl⟩

def rdV (r : Int × Nat × Int) : Value := .tuple #[.int .u64 r.1, .int .i64 r.2.1, .int .i64 r.2.2]
set_option maxRecDepth 100000 in
theorem rd_no {xs : List Int} {a : Nat} {s : Int} (h : fits s = false) : rd xs a s = (0, a, 1) := by unfold rd; rw [if_pos h]
set_option maxRecDepth 100000 in
theorem rd_short {xs : List Int} {a k : Nat} (hk : Siz k) (h : xs.length < a + gap a k + k) : rd xs a k = (0, a, 6) := by
  unfold rd
  rw [if_neg (by rw [hk.fits]; simp), Int.toNat_natCast, if_pos h]
set_option maxRecDepth 100000 in
theorem rd_form {xs : List Int} {a k j : Nat} {x : Int} (hk : Siz k) (h : ¬ xs.length < a + gap a k + k) (hj : j < gap a k) (hx : xs[a + j]? = some x) (h0 : x ≠ 0) : rd xs a k = (0, a, 5) := by
  unfold rd
  rw [if_neg (by rw [hk.fits]; simp), Int.toNat_natCast, if_neg h, if_pos]
  rw [List.all_eq_false]
  refine ⟨x, ?_, by simpa using h0⟩
  refine List.mem_of_getElem? (i := j) ?_
  rw [List.getElem?_take, if_pos hj, List.getElem?_drop]
  exact hx
set_option maxRecDepth 100000 in
theorem rd_yes {xs : List Int} {a k : Nat} (hk : Siz k) (h : ¬ xs.length < a + gap a k + k) (h0 : ∀ j, j < gap a k → xs[a + j]? = some 0) : rd xs a k = (valL ((xs.drop (a + gap a k)).take k), a + gap a k + k, 0) := by
  have hall : ((xs.drop a).take (gap a k)).all (· == 0) = true := by
    rw [List.all_eq_true]
    intro x hx
    obtain ⟨j, hj⟩ := List.mem_iff_getElem?.1 hx
    rw [List.getElem?_take] at hj
    split at hj
    · rename_i hlt
      rw [List.getElem?_drop, h0 j hlt] at hj
      cases hj; rfl
    · cases hj
  unfold rd
  rw [if_neg (by rw [hk.fits]; simp), Int.toNat_natCast, if_neg h, if_neg (by rw [hall]; simp)]
set_option maxRecDepth 100000 in
theorem valL_drop {l : List Int} {j : Nat} {x : Int} (h : l[j]? = some x) : valL (l.drop j) = x + 256 * valL (l.drop (j + 1)) := by
  obtain ⟨hj, rfl⟩ := List.getElem?_eq_some_iff.1 h
  rw [List.drop_eq_getElem_cons hj, valL]
set_option maxRecDepth 100000 in
set_option maxHeartbeats 1000000 in
theorem Read_far (w : World) (ad : Option Addr) (cap n a : Nat) (xs : List Int) (s : Int) (hbs : Bs w w.heap.size ad xs) (hn : n = xs.length) (hb : Byt xs) (hl : n ≤ 140737488351232) (ha : a ≤ 140737488351232) :
    Calls Try.prog 54 #[.slice ad n cap, .int .i64 a, .int .i64 s] w fun e w' => e = .returned (rdV (rd xs a s)) ∧ w = w' := by
  cases hf : fits s with
  | false =>
    have HS := hid (fun w => Fits_any s w)
    rw [hf] at HS
    rw [rd_no hf]
    clear hf hbs hn hb
    go_enter Try.func54, Try.ntmps54
    go_wp2_with (go_at_call 78; refine (HS.out _).mono ?_; rintro e w' ⟨rfl, rfl⟩)
    go_ret3
    exact ⟨rfl, rfl⟩
  | true =>
    obtain ⟨k, rfl, hk⟩ := fits_nat hf
    have HS := hid (fun w => Fits_any (k : Int) w)
    rw [hf] at HS
    have hgl := gap_lt (n := a) hk
    have hk8 : k ≤ 8 := by rcases hk with rfl | rfl | rfl | rfl <;> omega
    have hk1 : 1 ≤ k := by rcases hk with rfl | rfl | rfl | rfl <;> omega
    have PS := hid (rd_short (xs := xs) (a := a) hk)
    have PF := hid (fun j x => rd_form (xs := xs) (a := a) (j := j) (x := x) hk)
    have PY := hid (rd_yes (xs := xs) (a := a) hk)
    obtain ⟨g, hg⟩ : ∃ g, g = gap a k := ⟨_, rfl⟩
    simp only [← hn, ← hg] at PS PF PY
    rw [← hg] at hgl
    have HK := hid hk
    have HG := hid hg
    have HN := hid hn
    have HB := hid hb
    have HBS := hid hbs
    clear hn hg hb hf hk hbs
    go_enter Try.func54, Try.ntmps54
    go_wp2_with (go_at_call 78; refine (HS.out _).mono ?_; rintro e w' ⟨rfl, rfl⟩)
    go_loop [9] (fun i => ∃ q : Nat, q ≤ g ∧ i = .int .i64 ((a + q : Nat) : Int)) (fun i => a + g - (intOf i).toNat)
    case atStart => exact ⟨0, by omega, by simp⟩
    case round =>
      obtain ⟨q, hq, rfl⟩ := hrel
      by_cases hqg : q < g
      · have hd := mod_ne (gap_least (n := a) HK.out (by rw [← HG.out]; exact hqg))
        go_wp2
        go_round
        case rel => exact ⟨q + 1, by omega, by go_num⟩
        case measure => simp [intOf]; omega
      · obtain rfl : q = g := by omega
        have hd := mod_eq (by have := gap_mod (n := a) HK.out; rw [← HG.out] at this; exact this)
        obtain ⟨m, hm⟩ : ∃ m, m = a + q := ⟨_, rfl⟩
        have HM := hid hm
        rw [← hm]
        have hd' : (((m : Nat) : Int) % (k : Int) != 0) = false := by rw [hm]; simpa using hd
        simp only [← hm] at PS PF PY
        have ham : a ≤ m := by omega
        have hm9 : m ≤ 140737488351242 := by omega
        clear hm hd
        by_cases hsh : n < m + k
        · have HP := hid (PS.out hsh)
          have hd2 : decide ((n : Int) < (m : Int) + (k : Int)) = true := by simp; omega
          clear PS PF PY hsh
          go_wp2
          go_ret3
          exact ⟨by rw [HP.out]; rfl, rfl⟩
        · obtain ⟨b, o, rfl, _⟩ := HBS.out.some (by have := HN.out; omega)
          have PF' := hid (fun j x => PF.out j x hsh)
          have PY' := hid (PY.out hsh)
          have hge : m + k ≤ n := by omega
          have hd2 : decide ((n : Int) < (m : Int) + (k : Int)) = false := by simp; omega
          clear PS PF PY hsh
          go_wp2
          clear hd2 hd'
          go_loop [10] (fun i => ∃ j : Nat, j ≤ q ∧ i = .int .i64 ((a + j : Nat) : Int) ∧ RowKit.Hid (∀ t, t < j → xs[a + t]? = some 0)) (fun i => a + q - (intOf i).toNat)
          case atStart => exact ⟨0, by omega, by simp, hid (fun j hj => absurd hj (by omega))⟩
          case round =>
            obtain ⟨j, hj, rfl, HQ⟩ := hrel
            by_cases hjq : j < q
            · have hla : a + j < xs.length := by have := HN.out; have := HM.out; omega
              have cq := HBS.out.cell (j := a + j) hla
              have hx := getD_at hla
              generalize xs.getD (a + j) 0 = x at *
              have HX := hid hx
              clear hx hla
              obtain ⟨i, hi⟩ : ∃ i, i = a + j := ⟨_, rfl⟩
              have him : i < m := by have := HM.out; omega
              have hin : i < n := by omega
              rw [← hi] at cq ⊢
              have HI := hid hi
              clear hi
              by_cases hx0 : x = 0
              · subst hx0
                go_wp2
                go_round
                case rel => exact ⟨j + 1, by omega, by have := HI.out; go_num, hid (fun t ht => by
                  by_cases e : t = j
                  · subst e; exact HX.out
                  · exact HQ.out t (by omega))⟩
                case measure => have := HI.out; have := HM.out; simp [intOf]; omega
              · have HP := hid (PF'.out j x hjq HX.out hx0)
                have hd : (x != 0) = true := by simpa using hx0
                clear hx0
                go_wp2
                go_ret3
                exact ⟨by rw [HP.out]; rfl, rfl⟩
            · obtain rfl : j = q := by omega
              have HP := hid (PY'.out HQ.out)
              rw [← HM.out]
              clear PF' PY' hjq HQ
              have hl8 : ((xs.drop m).take k).length = k := by have := HN.out; simp; omega
              have hbp : Byt ((xs.drop m).take k) := HB.out.part m k
              have hat : ∀ t, t < k → ((xs.drop m).take k)[t]? = some (xs.getD (m + t) 0) := fun t ht => by
                rw [List.getElem?_take, if_pos ht, List.getElem?_drop]
                exact getD_at (by have := HN.out; omega)
              generalize (xs.drop m).take k = ys at *
              have HL8 := hid hl8
              have HBP := hid hbp
              have HAT := hid hat
              clear hl8 hbp hat
              go_wp2
              go_loop [11, 12] (fun v i => ∃ t : Nat, t ≤ k ∧ i = .int .i64 ((t : Int) - 1) ∧ ∃ z : Int, v = .int .u64 z ∧ RowKit.Hid (z = valL (ys.drop t))) (fun _ i => (intOf i + 1).toNat)
              case atStart => exact ⟨k, by omega, rfl, 0, rfl, hid (by rw [List.drop_of_length_le (by rw [HL8.out]; omega)]; rfl)⟩
              case round =>
                obtain ⟨t, ht, rfl, z, rfl, HZ⟩ := hrel
                by_cases ht0 : 1 ≤ t
                · obtain ⟨u, rfl⟩ : ∃ u, t = u + 1 := ⟨t - 1, by omega⟩
                  rw [show ((u + 1 : Nat) : Int) - 1 = (u : Int) by omega]
                  have hla : m + u < xs.length := by have := HN.out; omega
                  have cq := HBS.out.cell (j := m + u) hla
                  have hy := HAT.out u (by omega)
                  obtain ⟨b0, b1⟩ := getD_byt HB.out (m + u)
                  generalize xs.getD (m + u) 0 = x at *
                  have hvd := valL_drop hy
                  have hz := valL_le (HBP.out.sub fun _ h => List.mem_of_mem_drop h) 7 (show (ys.drop (u + 1)).length ≤ 7 by rw [List.length_drop, HL8.out]; omega)
                  rw [← HZ.out] at hz hvd
                  rw [show (256 : Int) ^ 7 = 72057594037927936 by decide] at hz
                  have hw1 : IntKind.u64.wrap (z * 256) = z * 256 := IntWalk.u64_in _ ⟨by omega, by omega⟩
                  have hw2 : IntKind.u64.wrap (z * 256 + x) = z * 256 + x := IntWalk.u64_in _ ⟨by omega, by omega⟩
                  have hwx : IntKind.u64.wrap x = x := IntWalk.u64_in _ ⟨by omega, by omega⟩
                  have HVD := hid hvd
                  have hmn : m + u < n := by omega
                  clear hvd hz hy hla ht0
                  go_wp2
                  go_round
                  case rel => exact ⟨u, by omega, by go_num, z * 256 + x, rfl, hid (by rw [HVD.out]; omega)⟩
                  case measure => simp [intOf]
                · obtain rfl : t = 0 := by omega
                  rw [show ((0 : Nat) : Int) - 1 = -1 by omega]
                  have hz := HZ.out
                  rw [List.drop_zero] at hz
                  have HZ' := hid hz
                  clear hz HZ ht0
                  go_wp2
                  go_ret3
                  exact ⟨by rw [HP.out, ← HZ'.out]; rfl, rfl⟩
set_option maxRecDepth 100000 in
theorem Read_any (w : World) (ad : Option Addr) (cap n a : Nat) (xs : List Int) (s : Int) (hbs : Bs w w.heap.size ad xs) (hn : n = xs.length) (hb : Byt xs) (hl : n ≤ 140737488351232) (ha : a ≤ n) :
    Calls Try.prog 54 #[.slice ad n cap, .int .i64 a, .int .i64 s] w fun e w' => e = .returned (rdV (rd xs a s)) ∧ w = w' := Read_far w ad cap n a xs s hbs hn hb hl (Nat.le_trans ha hl)
end Go.Proofs.Ytceeipejhmnkfaa
