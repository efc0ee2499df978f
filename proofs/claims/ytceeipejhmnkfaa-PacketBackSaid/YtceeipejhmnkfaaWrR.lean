/-
  A reader in memory; the contracts of NewReader, number, peek, Num.
-/
import Derived.Test.YtceeipejhmnkfaaWrSz
import Derived.Test.YtceeipejhmnkfaaWrClone
import Derived.Test.YtceeipejhmnkfaaMixD
namespace Go.Proofs.Ytceeipejhmnkfaa
open Go Go.ChangeShapes Go.WideShapes Go.ChangeAt Go.RowKit

set_option maxRecDepth 100000 in
/-- number: a row of eight bytes at most. -/
theorem number_any (w : World) (a : Option Addr) (ka n : Nat) (xs : List Int) (hn : n = xs.length) (ha : Bs w w.heap.size a xs) (hb : Byt xs) (hn2 : n ≤ 8) :
    Calls Try.prog 87 #[.slice a n ka] w fun e w' => e = .returned (.int .u64 (valL xs)) ∧ Below w.heap.size w w' := by
  have HA := hid ha
  have HN := hid hn
  have HB := hid hb
  clear ha hn hb
  go_enter Try.func87, Try.ntmps87
  go_wp2
  go_loopw [3, 7] (fun v i wr => ∃ q : Nat, q ≤ n ∧ i = .int .i64 q ∧ ∃ z : Int, v = .int .u64 z ∧ RowKit.Hid (z = valL (xs.take q)) ∧ RowKit.Hid (Below w.heap.size w wr)) (fun _ i _ => n - (intOf i).toNat)
  case atStart => exact ⟨0, by omega, rfl, 0, rfl, hid rfl, hid (Below.refl _ _)⟩
  case round =>
    obtain ⟨q, hq1, rfl, z, rfl, HZ, HW⟩ := hrel
    by_cases hql : q < n
    · obtain ⟨g, o, rfl, _⟩ := HA.out.some (by have := HN.out; omega)
      have c1 := (HA.out.below HW.out).cell (j := q) (by have := HN.out; omega)
      have e1 : xs[q]? = some (xs.getD q 0) := getD_at (by have := HN.out; omega)
      obtain ⟨b0, b1⟩ := getD_byt HB.out q
      generalize xs.getD q 0 = x at *
      have hz := valL_pos (xs.take q) (HB.out.sub fun _ h => List.mem_of_mem_take h)
      have hl : (xs.take q).length = q := by have := HN.out; simp; omega
      rw [hl, ← HZ.out] at hz
      have hor := or_pow (q := q) (by omega) hz.1 hz.2 b0 b1
      have hsh := shl_pow (q := q) (by omega) b0 b1
      have hnx := valL_take e1
      rw [← HZ.out] at hnx
      have HOR := hid hor
      have HSH := hid hsh
      have HNX := hid hnx
      clear hor hsh hnx hz hl e1
      go_wp2
      go_roundw
      case rel => exact ⟨q + 1, by omega, by go_num, z + x * 256 ^ q, by rw [pow8, HSH.out, HOR.out], hid HNX.out.symm, HW⟩
      case measure => simp [intOf]; omega
    · obtain rfl : q = n := by omega
      have ht : xs.take q = xs := List.take_of_length_le (by have := HN.out; omega)
      have hz := HZ.out
      rw [ht] at hz
      have HZZ := hid hz
      clear hz ht HZ
      go_wp2
      go_ret
      exact ⟨ret_int HZZ.out, HW.out⟩

/-- A reader in memory. -/
structure RdW (w : World) (p : Nat) (v : Value) (a : Nat) (xs : List Int) : Prop where
  hp : w.heap[p]? = some (.cells #[v, .int .i64 a] 86 (0, 0))
  row : w.ownsRow 0 5 1 v xs.length (u8l xs)
  ne : v.ownBlock ≠ some p
  le : a ≤ xs.length
section
variable {w w' : World} {p a : Nat} {v : Value} {xs : List Int}
set_option maxRecDepth 100000 in
theorem RdW.c0 (h : RdW w p v a xs) : w.cell? ⟨p, 0, none⟩ = some v := by rw [cell_of_row w p 0 _ 86 _ h.hp]; rfl
set_option maxRecDepth 100000 in
theorem RdW.c1 (h : RdW w p v a xs) : w.cell? ⟨p, 1, none⟩ = some (.int .i64 a) := by rw [cell_of_row w p 1 _ 86 _ h.hp]; rfl
set_option maxRecDepth 100000 in
theorem RdW.fz (h : RdW w p v a xs) (k : Nat) : w.frozen? ⟨p, k, none⟩ = false := frozen_of_row w p k _ 86 h.hp
set_option maxRecDepth 100000 in
theorem RdW.lt (h : RdW w p v a xs) : p < w.heap.size := (Array.getElem?_eq_some_iff.1 h.hp).1
set_option maxRecDepth 100000 in
theorem RdW.fr {fp : Nat → Prop} (h : RdW w p v a xs) (hf : Fr fp w w') (hp : ¬ fp p) (hv : ∀ k, v.ownBlock = some k → ¬ fp k) : RdW w' p v a xs :=
  ⟨by rw [hf.block p h.lt hp]; exact h.hp, hf.owns h.row hv, h.ne, h.le⟩
set_option maxRecDepth 100000 in
theorem RdW.set (h : RdW w p v a xs) (b : Nat) (hb : b ≤ xs.length) : RdW (w.setCell ⟨p, 1, none⟩ (.int .i64 b)) p v b xs :=
  ⟨by rw [heap_setCell_same w p 1 _ 86 _ h.hp]; rfl, ((Fr.refl (fun k => k = p) w).setCell ⟨p, 1, none⟩ (.int .i64 b) (fun _ => rfl)).owns h.row (fun k hk e => h.ne (by rw [← e]; exact hk)), h.ne, hb⟩
end
def NewRdPost (w : World) (xs : List Int) (e : Ending) (w' : World) : Prop := ∃ p v, e = .returned (.pointer (some ⟨p, 0, none⟩)) ∧ RdW w' p v 0 xs ∧ Below w.heap.size w w' ∧ w.heap.size ≤ p ∧ (∀ k, v.ownBlock = some k → w.heap.size ≤ k)
set_option maxRecDepth 100000 in
theorem NewReader_any (w : World) (ad : Option Addr) (ka n : Nat) (xs : List Int) (hn : n = xs.length) (ha : Bs w w.heap.size ad xs) (h0 : ad = none → ka = 0 ∧ n = 0) (hn2 : n ≤ 140737488351232) :
    Calls Try.prog 33 #[.slice ad n ka] w (NewRdPost w xs) := by
  have HC := hid (Clone_any w ad ka n xs hn ha h0 hn2)
  clear ha h0 hn
  go_enter Try.func33, Try.ntmps33
  go_wp2_with fail
  refine HC.out.mono ?_
  rintro e w1 ⟨v, rfl, h1, h2⟩
  have hs := h2.size
  have H1 := hid h1
  have H2 := hid h2
  obtain ⟨a1, k1, rfl⟩ := own_form h1
  clear h1 h2
  go_wp2
  go_ret
  refine ⟨_, _, rfl, ⟨heap_alloc_new _ _, owns_low (H1.out.alloc _) (Nat.zero_le _), fun e => ?_, Nat.zero_le _⟩, (H2.out.alloc hs _), hs, fun k hk => (H1.out.lt k hk).1⟩
  have := (H1.out.lt _ e).2
  omega
/-- What peek answers. -/
def pkV (xs : List Int) (a : Nat) (s : Int) : Value := .tuple #[.int .u64 (rd xs a s).1, .int .i64 (if (rd xs a s).2.2 = 0 then ((rd xs a s).2.1 : Int) else 0), .int .i64 (rd xs a s).2.2]
def PeekPost (w : World) (r : Value) (e : Ending) (w' : World) : Prop := e = .returned r ∧ Below w.heap.size w w'
set_option maxRecDepth 100000 in
theorem peek_no (w : World) (q : Value) (s : Int) (hf : fits s = false) : Calls Try.prog 85 #[q, .int .i64 s] w (PeekPost w (.tuple #[.int .u64 0, .int .i64 0, .int .i64 1])) := by
  have HS := hid (fun w => isSize_any s w)
  rw [hf] at HS
  clear hf
  go_enter Try.func85, Try.ntmps85
  go_wp2_with (go_at_call 56; refine (HS.out _).mono ?_; rintro e w' ⟨rfl, rfl⟩)
  go_ret3
  exact ⟨rfl, Below.refl _ _⟩
set_option maxRecDepth 100000 in
theorem peek_nil (w : World) (s : Int) (hf : fits s = true) : Calls Try.prog 85 #[.pointer none, .int .i64 s] w (PeekPost w (.tuple #[.int .u64 0, .int .i64 0, .int .i64 6])) := by
  have HS := hid (fun w => isSize_any s w)
  rw [hf] at HS
  clear hf
  go_enter Try.func85, Try.ntmps85
  go_wp2_with (go_at_call 56; refine (HS.out _).mono ?_; rintro e w' ⟨rfl, rfl⟩)
  go_ret3
  exact ⟨rfl, Below.refl _ _⟩
set_option maxRecDepth 100000 in
theorem pk_short {xs : List Int} {a k : Nat} (hk : Siz k) (h : xs.length < a + gap a k + k) : pkV xs a k = .tuple #[.int .u64 0, .int .i64 0, .int .i64 6] := by
  unfold pkV rd
  rw [if_neg (by rw [hk.fits]; simp), Int.toNat_natCast, if_pos h]; rfl
set_option maxRecDepth 100000 in
theorem pk_form {xs : List Int} {a k j : Nat} {x : Int} (hk : Siz k) (h : ¬ xs.length < a + gap a k + k) (hj : j < gap a k) (hx : xs[a + j]? = some x) (h0 : x ≠ 0) : pkV xs a k = .tuple #[.int .u64 0, .int .i64 0, .int .i64 5] := by
  unfold pkV rd
  rw [if_neg (by rw [hk.fits]; simp), Int.toNat_natCast, if_neg h, if_pos]
  · rfl
  · rw [List.all_eq_false]
    refine ⟨x, ?_, by simpa using h0⟩
    refine List.mem_of_getElem? (i := j) ?_
    rw [List.getElem?_take, if_pos hj, List.getElem?_drop]
    exact hx
set_option maxRecDepth 100000 in
theorem pk_yes {xs : List Int} {a k : Nat} (hk : Siz k) (h : ¬ xs.length < a + gap a k + k) (h0 : ∀ j, j < gap a k → xs[a + j]? = some 0) : pkV xs a k = .tuple #[.int .u64 (valL ((xs.drop (a + gap a k)).take k)), .int .i64 ((a + gap a k + k : Nat) : Int), .int .i64 0] := by
  have hall : ((xs.drop a).take (gap a k)).all (· == 0) = true := by
    rw [List.all_eq_true]
    intro x hx
    obtain ⟨j, hj⟩ := List.mem_iff_getElem?.1 hx
    rw [List.getElem?_take] at hj
    split at hj
    · rename_i hlt
      rw [List.getElem?_drop, h0 j hlt] at hj
      cases hj; rfl
    · cases hj
  unfold pkV rd
  rw [if_neg (by rw [hk.fits]; simp), Int.toNat_natCast, if_neg h, if_neg (by rw [hall]; simp)]
  simp
set_option maxRecDepth 100000 in
set_option maxHeartbeats 1000000 in
theorem peek_any (w : World) (p a : Nat) (v : Value) (xs : List Int) (s : Int) (h : RdW w p v a xs) (hb : Byt xs) (hl : xs.length ≤ 140737488351232) : Calls Try.prog 85 #[.pointer (some ⟨p, 0, none⟩), .int .i64 s] w (PeekPost w (pkV xs a s)) := by
  cases hf : fits s with
  | false =>
    have := peek_no w (.pointer (some ⟨p, 0, none⟩)) s hf
    have e : pkV xs a s = .tuple #[.int .u64 0, .int .i64 0, .int .i64 1] := by unfold pkV rd; rw [if_pos hf]; rfl
    rw [e]; exact this
  | true =>
    obtain ⟨k, rfl, hk⟩ := fits_nat hf
    have HS := hid (fun w => isSize_any (k : Int) w)
    rw [hf] at HS
    have hle := h.le
    have HG := hid (fun w => gap_any a k w hk (by omega))
    have hgl := gap_lt (n := a) hk
    have hk8 : k ≤ 8 := by rcases hk with rfl | rfl | rfl | rfl <;> omega
    have hk1 : 1 ≤ k := by rcases hk with rfl | rfl | rfl | rfl <;> omega
    have PS := hid (pk_short (xs := xs) (a := a) hk)
    have PF := hid (fun j x => pk_form (xs := xs) (a := a) (j := j) (x := x) hk)
    have PY := hid (pk_yes (xs := xs) (a := a) hk)
    have c0 := h.c0
    have c1 := h.c1
    obtain ⟨oa, oc, hov⟩ := own_form h.row
    rw [hov] at c0
    obtain ⟨n, hn⟩ : ∃ n, n = xs.length := ⟨_, rfl⟩
    obtain ⟨g, hg⟩ : ∃ g, g = gap a k := ⟨_, rfl⟩
    rw [← hn] at c0 hl hle
    simp only [← hn, ← hg] at PS PF PY HG
    rw [← hg] at hgl
    have H := hid h
    have HOV := hid hov
    have HN := hid hn
    have HB := hid hb
    clear h hov hn hg hb hf hk
    go_enter Try.func85, Try.ntmps85
    go_wp2_with (go_at_call 56; refine (HS.out _).mono ?_; rintro e w' ⟨rfl, rfl⟩)
    refine D.wp_region_mix [0, 0, 0, 1, 0, 0, 0, 1, 0, 2, 0, 0] (fun W => W.cell? ⟨p, 1, none⟩ = some (.int .i64 a)) (by kernel_rfl) (by kernel_rfl) (by simpa using c1) ?_
    repeat (first
      | (refine' C.wpMix_value _ rfl rfl _ _; rotate_left; (solve | (intro W; go_simp) | (intro W; go_simp; with_reducible rfl)); simp only [Act.put, List.setIfInBounds_toArray, List.set_cons_zero, List.set_cons_succ])
      | (refine' C.wpMix_read _ rfl rfl _ _; rotate_left; (solve | (rintro W h1; go_simp) | (rintro W h1; go_simp; with_reducible rfl)); simp only [Act.put, List.setIfInBounds_toArray, List.set_cons_zero, List.set_cons_succ]))
    refine C.wpMix_call 79 #[.int .i64 a, .int .i64 k] (by decide) rfl (by go_simp) ?_
    refine (HG.out _).mono ?_
    rintro e w' ⟨rfl, rfl⟩
    refine ⟨_, rfl, (fun _ => by simpa using c1), ?_⟩
    simp only [Act.put, List.setIfInBounds_toArray, List.set_cons_zero, List.set_cons_succ]
    have hwa : IntKind.i64.wrap ((a : Int) + (g : Int)) = ((a + g : Nat) : Int) := by rw [IntWalk.i64_in _ (by omega)]; simp
    repeat (first
      | (refine' C.wpMix_value _ rfl rfl _ _; rotate_left; (solve | (intro W; go_simp) | (intro W; go_simp; with_reducible rfl)); simp only [Act.put, List.setIfInBounds_toArray, List.set_cons_zero, List.set_cons_succ])
      | (refine' C.wpMix_read _ rfl rfl _ _; rotate_left; (solve | (rintro W h1; go_simp) | (rintro W h1; go_simp; with_reducible rfl)); simp only [Act.put, List.setIfInBounds_toArray, List.set_cons_zero, List.set_cons_succ]))
    refine C.wpMix_end ?_
    have h2 : RdW w.drew p v a xs := H.out.fr ((Fr.refl (fun _ => False) w).drew) (fun h => h) (fun _ _ h => h)
    have hb2 : Below w.heap.size w w.drew := (Below.refl _ w).drew
    obtain ⟨w2, hw2⟩ : ∃ w2, w2 = w.drew := ⟨_, rfl⟩
    rw [← hw2] at h2 hb2 ⊢
    have c02 := h2.c0
    have c12 := h2.c1
    rw [HOV.out, ← HN.out] at c02
    have H2 := hid h2
    have HB2 := hid hb2
    clear hwa hw2 h2 hb2 c0 c1 H HS HG
    obtain ⟨m, hm⟩ : ∃ m, m = a + g := ⟨_, rfl⟩
    rw [show (a : Int) + (g : Int) = ((m : Nat) : Int) by omega]
    simp only [← hm] at PS PF PY
    have HM := hid hm
    have ham : a ≤ m := by omega
    have hm9 : m ≤ 140737488351242 := by omega
    clear hm
    by_cases hsh : n < m + k
    · have HP := hid (PS.out hsh)
      have hd2 : decide ((n : Int) < (m : Int) + (k : Int)) = true := by simp; omega
      clear PS PF PY hsh
      go_wp2
      go_ret3
      exact ⟨by rw [HP.out]; rfl, HB2.out⟩
    · obtain ⟨b, cap, hov2, hcap, hcap2⟩ := own_form1 H2.out.row (by have := HN.out; omega)
      have e2 := hov2.symm.trans HOV.out
      rw [← HN.out] at hcap
      cases e2
      have PF' := hid (fun j x => PF.out j x hsh)
      have PY' := hid (PY.out hsh)
      have hge : m + k ≤ n := by omega
      clear PS PF PY hov2
      have hd2 : decide ((n : Int) < (m : Int) + (k : Int)) = false := by simp; omega
      clear hsh
      go_wp2
      have hmc : m ≤ oc := by omega
      have hne : ¬ oc = a := by omega
      refine D.wp_region_mix [0, 0, 0, 1, 0, 0, 0, 1, 0, 0, 0, 0] (fun W => W.cell? ⟨p, 0, none⟩ = some (.slice (some ⟨b, 0, none⟩) n oc) ∧ W.cell? ⟨p, 1, none⟩ = some (.int .i64 a)) (by kernel_rfl) (by kernel_rfl) ⟨by simpa using c02, by simpa using c12⟩ ?_
      repeat (first
        | (refine' C.wpMix_value _ rfl rfl _ _; rotate_left; (solve | (intro W; go_simp) | (intro W; go_simp; with_reducible rfl)); simp only [Act.put, List.setIfInBounds_toArray, List.set_cons_zero, List.set_cons_succ])
        | (refine' C.wpMix_read _ rfl rfl _ _; rotate_left; (solve | (rintro W ⟨h1, h2⟩; go_simp) | (rintro W ⟨h1, h2⟩; go_simp; with_reducible rfl)); simp only [Act.put, List.setIfInBounds_toArray, List.set_cons_zero, List.set_cons_succ]))
      refine C.wpMix_end ?_
      have hga : m - a = g := by have := HM.out; omega
      rw [hga]
      have h3 : RdW w2.drew p (.slice (some ⟨b, 0, none⟩) xs.length oc) a xs := by rw [← HOV.out]; exact H2.out.fr ((Fr.refl (fun _ => False) w2).drew) (fun h => h) (fun _ _ h => h)
      have hb3 : Below w.heap.size w w2.drew := HB2.out.drew
      obtain ⟨w3, hw3⟩ : ∃ w3, w3 = w2.drew := ⟨_, rfl⟩
      rw [← hw3] at h3 hb3 ⊢
      have c03 := h3.c0
      rw [← HN.out] at c03
      have HBS := hid (own_bs h3.row)
      have HB3 := hid hb3
      clear hga hw3 h3 hb3 c02 c12 H2 HB2
      go_wp2
      go_loop [10, 48] (fun _ i => ∃ q : Nat, q ≤ g ∧ i = .int .i64 q ∧ RowKit.Hid (∀ j, j < q → xs[a + j]? = some 0)) (fun _ i => g - (intOf i).toNat)
      case atStart => exact ⟨0, by omega, rfl, hid (fun j hj => absurd hj (by omega))⟩
      case round =>
        obtain ⟨q, hq, rfl, HQ⟩ := hrel
        by_cases hqg : q < g
        · have hla : a + q < xs.length := by have := HN.out; have := HM.out; omega
          have cq := HBS.out.cell (j := a + q) hla
          have hx := getD_at hla
          generalize xs.getD (a + q) 0 = x at *
          rw [Nat.zero_add] at cq
          have HX := hid hx
          clear hx hla
          by_cases hx0 : x = 0
          · subst hx0
            go_wp2
            go_round
            case rel => exact ⟨q + 1, by omega, by go_num, hid (fun j hj => by
              by_cases e : j = q
              · subst e; exact HX.out
              · exact HQ.out j (by omega))⟩
            case measure => simp [intOf]; omega
          · have HP := hid (PF'.out q x hqg HX.out hx0)
            have hd : (x != 0) = true := by simpa using hx0
            clear hx0
            go_wp2
            go_ret3
            exact ⟨by rw [HP.out]; rfl, HB3.out⟩
        · obtain rfl : q = g := by omega
          have HP := hid (PY'.out HQ.out)
          have hpart : Bs w3 w3.heap.size (some ⟨b, m, none⟩) ((xs.drop m).take k) := by
            have := (HBS.out.drop m).take k
            rw [Nat.zero_add] at this; exact this
          have HNU := hid (number_any w3 (some ⟨b, m, none⟩) (oc - m) k ((xs.drop m).take k) (by have := HN.out; simp; omega) hpart (HB.out.part m k) hk8)
          have hne2 : ¬ oc = m := by omega
          have hkc : m + k ≤ oc := by omega
          clear hpart PF' PY' hqg
          go_wp2_with fail
          refine HNU.out.mono ?_
          rintro e w4 ⟨rfl, h4⟩
          have HB4 := hid (HB3.out.trans (h4.mono HB3.out.size))
          clear h4
          go_wp2
          go_ret3
          exact ⟨by rw [HP.out]; rfl, HB4.out⟩

set_option maxRecDepth 100000 in
theorem rd_err {xs : List Int} {a : Nat} {s : Int} (h : (rd xs a s).2.2 ≠ 0) : (rd xs a s).1 = 0 ∧ (rd xs a s).2.1 = a := by
  unfold rd at h ⊢
  split
  · exact ⟨rfl, rfl⟩
  · rename_i h1
    rw [if_neg h1] at h
    split
    · exact ⟨rfl, rfl⟩
    · rename_i h2
      rw [if_neg h2] at h
      split
      · exact ⟨rfl, rfl⟩
      · rename_i h3
        rw [if_neg h3] at h
        exact absurd rfl h
def RNumPost (w : World) (p : Nat) (v : Value) (xs : List Int) (r : Int × Nat × Int) (e : Ending) (w' : World) : Prop :=
  e = .returned (.tuple #[.int .u64 r.1, .int .i64 r.2.2]) ∧ RdW w' p v r.2.1 xs ∧ Fr (fun j => j = p) w w'
set_option maxRecDepth 100000 in
theorem RdNum_any (w : World) (p a : Nat) (v : Value) (xs : List Int) (s : Int) (h : RdW w p v a xs) (hb : Byt xs) (hl : xs.length ≤ 140737488351232) : Calls Try.prog 81 #[.pointer (some ⟨p, 0, none⟩), .int .i64 s] w (RNumPost w p v xs (rd xs a s)) := by
  have HP := hid (peek_any w p a v xs s h hb hl)
  have hpl := rd_place (s := s) h.le
  have her := rd_err (xs := xs) (a := a) (s := s)
  unfold pkV at HP
  generalize rd xs a s = r at *
  obtain ⟨n, k, e⟩ := r
  simp only at HP hpl her
  have H := hid h
  by_cases he : e = 0
  · subst he
    rw [if_pos rfl] at HP
    clear h hb hl her
    go_enter Try.func81, Try.ntmps81
    go_wp2_with fail
    refine HP.out.mono ?_
    rintro e w1 ⟨rfl, hb1⟩
    have h1 := H.out.fr (Fr.of_below (fp := fun _ => False) hb1) (fun h => h) (fun _ _ h => h)
    have c1 := h1.c1
    have z1 := h1.fz 1
    have hs := H.out.lt
    have H1 := hid h1
    have HB1 := hid hb1
    clear h1 hb1
    go_wp2
    go_ret2
    exact ⟨rfl, H1.out.set k hpl, (Fr.of_below HB1.out).setCell _ _ (fun _ => rfl)⟩
  · obtain ⟨rfl, rfl⟩ := her he
    rw [if_neg he] at HP
    have hd : (e != 0) = true := by simpa using he
    clear h hb hl her he
    go_enter Try.func81, Try.ntmps81
    go_wp2_with fail
    refine HP.out.mono ?_
    rintro e w1 ⟨rfl, hb1⟩
    have HB1 := hid hb1
    clear hb1
    go_wp2
    go_ret2
    exact ⟨rfl, H.out.fr (Fr.of_below (fp := fun _ => False) HB1.out) (fun h => h) (fun _ _ h => h), Fr.of_below HB1.out⟩
set_option maxRecDepth 100000 in
theorem RdNum_nil (w : World) (s : Int) : Calls Try.prog 81 #[.pointer none, .int .i64 s] w fun e w' => e = .returned (.tuple #[.int .u64 0, .int .i64 (if fits s then 6 else 1)]) ∧ Below w.heap.size w w' := by
  cases hf : fits s with
  | false =>
    have HP := hid (peek_no w (.pointer none) s hf)
    clear hf
    go_enter Try.func81, Try.ntmps81
    go_wp2_with fail
    refine HP.out.mono ?_
    rintro e w1 ⟨rfl, hb1⟩
    have HB1 := hid hb1
    clear hb1
    go_wp2
    go_ret2
    exact ⟨rfl, HB1.out⟩
  | true =>
    have HP := hid (peek_nil w s hf)
    clear hf
    go_enter Try.func81, Try.ntmps81
    go_wp2_with fail
    refine HP.out.mono ?_
    rintro e w1 ⟨rfl, hb1⟩
    have HB1 := hid hb1
    clear hb1
    go_wp2
    go_ret2
    exact ⟨rfl, HB1.out⟩
end Go.Proofs.Ytceeipejhmnkfaa
