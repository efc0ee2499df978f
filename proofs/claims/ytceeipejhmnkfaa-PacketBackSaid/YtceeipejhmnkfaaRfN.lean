/-
  The contract of the plain twin's Num (layer 5).
-/
import Derived.Test.YtceeipejhmnkfaaWrA
namespace Go.Proofs.Ytceeipejhmnkfaa
open Go Go.ChangeShapes Go.WideShapes Go.ChangeAt Go.RowKit

set_option maxRecDepth 100000 in
theorem mod_ne {a b k : Nat} (h : (a + b) % k ≠ 0) : (((a : Int) + (b : Int)) % (k : Int) != 0) = true := by
  have e : ((a : Int) + (b : Int)) % (k : Int) = (((a + b) % k : Nat) : Int) := by simp
  rw [e]; simp only [bne_iff_ne, ne_eq]; omega
set_option maxRecDepth 100000 in
theorem mod_eq {a b k : Nat} (h : (a + b) % k = 0) : (((a : Int) + (b : Int)) % (k : Int) != 0) = false := by
  have e : ((a : Int) + (b : Int)) % (k : Int) = (((a + b) % k : Nat) : Int) := by simp
  rw [e, h]; rfl
set_option maxRecDepth 100000 in
set_option maxHeartbeats 1000000 in
theorem RNum_any (w : World) (ad : Option Addr) (cap L : Nat) (xs : List Int) (n : Int) (k : Nat) (hb : Bs w w.heap.size ad xs) (hL : L = xs.length) (h0 : ad = none → cap = 0 ∧ L = 0) (hk : Siz k) (hn0 : 0 ≤ n) (hn1 : n ≤ 18446744073709551615) (hl : L ≤ 100000000000000) :
    Calls Try.prog 30 #[.slice ad L cap, .int .u64 n, .int .i64 k] w (RowPost w (lay xs n k)) := by
  obtain ⟨i0, hi, hz0, hz1, hz2⟩ := info_parts info5
  have hi' := hid hi
  have hz0' := hid hz0
  have hz1' := hid hz1
  have hz2' := hid hz2
  have hgl := gap_lt (n := xs.length) hk
  have hk8 : k ≤ 8 := by rcases hk with rfl | rfl | rfl | rfl <;> omega
  obtain ⟨g, hg⟩ : ∃ g, g = gap xs.length k := ⟨_, rfl⟩
  rw [← hg] at hgl
  have HG := hid hg
  have HLL := hid hL
  have HK := hid hk
  have HB := hid hb
  have H0 := hid h0
  clear hi hz0 hz1 hz2 hg hL hk hb h0
  go_enter Try.func30, Try.ntmps30
  cases ad
  case' none =>
    have hv : Value.slice none L cap = .slice none 0 0 := by
      obtain ⟨e1, e2⟩ := H0.out rfl
      rw [e1, e2]
    have hx : xs = [] := List.eq_nil_of_length_eq_zero (by rw [← HLL.out]; exact (H0.out rfl).2)
    have HP := hid (show w.ownsRow w.heap.size 5 1 (.slice none 0 0) L (u8l xs) ∧ Below w.heap.size w w from ⟨by rw [HLL.out, hx]; exact World.ownsRow_nil _ _ _ _, Below.refl _ w⟩)
    rw [hv]
    clear hv hx
    go_wp2_with (at_builtin; refine wpList_append_own_none (o := ⟨some 11, _, _, _, _, _⟩) rfl (.tmp 9) (.tmp 10) 30 rfl w.heap.size 5 i0 1 Try.underlying30 hi'.out (.slice none 0 0) 0 [] rfl (World.ownsRow_nil _ _ _ _) rfl ?_)
  case' some ad =>
    have hnews : ∀ (j : Nat) (u : Value), (u8l xs)[j]? = some u → w.cell? (ad.add j) = some u := fun j u hu => by
      have hj : j < xs.length := by
        have := (List.getElem?_eq_some_iff.1 hu).1
        simpa [u8l] using this
      obtain ⟨b, o', he, hbl⟩ := HB.out.some (by omega)
      cases he
      exact HB.out.news j u hu
    have HNW := hid hnews
    have HL1 := hid (show (u8l xs).length = L * 1 by rw [u8l_len, HLL.out]; omega)
    clear hnews
    go_wp2_with (at_builtin; refine wpList_append_own_at _ (o := ⟨some 11, _, _, _, _, _⟩) rfl (.tmp 9) (.tmp 10) 30 rfl w.heap.size 5 i0 (.int .u8 0) 1 1 Try.underlying30 hi'.out hz0'.out hz1'.out hz2'.out rfl (by decide) (.slice none 0 0) 0 [] rfl (World.ownsRow_nil _ _ _ _) ad L cap (u8l xs) rfl HL1.out HNW.out (u8l_one xs) (by unfold maxLen; omega) (by omega) (Nat.le_refl _) ?_; intro v5 w5 hown5 hgrow5 hnil5 hat5; obtain ⟨a5, k5, rfl⟩ := own_form hown5; have HO5 := hid hown5; have HG5 := hid hgrow5; clear hown5 hgrow5 hnil5 hat5)
    have hp := own_push (xs := []) (zs := xs) (Below.refl _ w) (World.ownsRow_nil _ _ _ _) (Fr.refl _ w) HO5.out HG5.out
    rw [List.nil_append, ← HLL.out] at hp
    have HP := hid hp
    clear hp HO5 HG5
  all_goals
    go_loopw [7] (fun ov wr => ∃ q : Nat, q ≤ g ∧ RowKit.Hid (wr.ownsRow w.heap.size 5 1 ov (L + q) (u8l (xs ++ List.replicate q 0))) ∧ RowKit.Hid (Below w.heap.size w wr)) (fun ov _ => L + g - (match ov with | .slice _ n _ => n | _ => 0))
    case atStart => exact ⟨0, by omega, hid (by simpa using HP.out.1), hid HP.out.2⟩
    case round =>
      obtain ⟨q, hq, HR, HW⟩ := hrel
      obtain ⟨oa, oc, hov⟩ := own_form HR.out
      subst hov
      by_cases hqg : q < g
      · have hd : (((L : Int) + (q : Int)) % (k : Int) != 0) = true := by
          have := gap_least (n := xs.length) HK.out (by rw [← HG.out]; exact hqg)
          rw [← HLL.out] at this
          exact mod_ne this
        go_wp2_with (at_builtin; refine wpList_append_own_at _ (o := ⟨some 19, _, _, _, _, _⟩) rfl (.tmp 17) (.tmp 18) 30 rfl w.heap.size 5 i0 (.int .u8 0) 1 1 Try.underlying30 hi'.out hz0'.out hz1'.out hz2'.out rfl (by decide) (.slice oa (L + q) oc) (L + q) _ rfl (HR.out.alloc _) ⟨wr.heap.size, 0, none⟩ 1 1 [.int .u8 0] rfl rfl (World.news_of_block (heap_alloc_new wr _)) (by simp [Value.oneCell']) (by unfold maxLen; omega) (by omega) (by have := HW.out.size; simp; omega) ?_; intro v5 w5 hown5 hgrow5 hnil5 hat5; obtain ⟨a5, k5, rfl⟩ := own_form hown5; have HO5 := hid hown5; have HG5 := hid hgrow5; clear hown5 hgrow5 hnil5 hat5)
        have hlq : (xs ++ List.replicate q (0 : Int)).length = L + q := by rw [HLL.out]; simp
        have hp := own_push (xs := xs ++ List.replicate q 0) (zs := [0]) HW.out (by rw [hlq]; exact HR.out) (frA wr _) HO5.out HG5.out
        rw [List.append_assoc, show List.replicate q (0 : Int) ++ [0] = List.replicate (q + 1) 0 from (List.replicate_succ' (n := q) (a := (0 : Int))).symm] at hp
        have hlq2 : (xs ++ List.replicate (q + 1) (0 : Int)).length = L + (q + 1) := by rw [HLL.out]; simp
        rw [hlq2] at hp
        have HP2 := hid hp
        clear hp hlq hlq2 HO5 HG5 hd
        go_roundw
        case rel => exact ⟨q + 1, by omega, hid HP2.out.1, hid HP2.out.2⟩
        case measure => simp; omega
      · obtain rfl : q = g := by omega
        have hd : (((L : Int) + (q : Int)) % (k : Int) != 0) = false := by
          have := gap_mod (n := xs.length) HK.out
          rw [← HG.out, ← HLL.out] at this
          exact mod_eq this
        go_wp2
        clear hd
        go_loopw [1, 7, 8] (fun v ov i wr => ∃ j : Nat, j ≤ k ∧ i = .int .i64 j ∧ (∃ z : Int, v = .int .u64 z ∧ 0 ≤ z ∧ z ≤ 18446744073709551615 ∧ RowKit.Hid (z = n / 256 ^ j)) ∧ RowKit.Hid (wr.ownsRow w.heap.size 5 1 ov (L + q + j) (u8l (xs ++ List.replicate q 0 ++ byt n j))) ∧ RowKit.Hid (Below w.heap.size w wr)) (fun _ _ i _ => k - (intOf i).toNat)
        case atStart => exact ⟨0, by omega, rfl, ⟨n, rfl, hn0, hn1, hid (by simp)⟩, hid (by simpa [byt] using HR.out), HW⟩
        case round =>
          clear HR HW
          obtain ⟨j, hj, rfl, ⟨z, rfl, hz0, hz1, HZ⟩, HR, HW⟩ := hrel
          obtain ⟨ob, oc2, hov⟩ := own_form HR.out
          subst hov
          by_cases hjk : j < k
          · have hw256 := wrap_div256 hz0 hz1
            have hz2 : z / 256 ≤ 18446744073709551615 := by omega
            have hz3 : 0 ≤ z / 256 := by omega
            have hwt : IntKind.u64.wrap (z.tmod 256) = z % 256 := by
              rw [Int.tmod_eq_emod_of_nonneg hz0]; exact IntWalk.u64_in _ ⟨by omega, by omega⟩
            have hw8 : IntKind.u8.wrap (z % 256) = z % 256 := IntWalk.u8_in _ ⟨by omega, by omega⟩
            go_wp2_with (at_builtin; refine wpList_append_own_at _ (o := ⟨some 30, _, _, _, _, _⟩) rfl (.tmp 25) (.tmp 29) 30 rfl w.heap.size 5 i0 (.int .u8 0) 1 1 Try.underlying30 hi'.out hz0'.out hz1'.out hz2'.out rfl (by decide) (.slice ob (L + q + j) oc2) (L + q + j) _ rfl (HR.out.alloc _) ⟨wr.heap.size, 0, none⟩ 1 1 [.int .u8 (z % 256)] rfl rfl (World.news_of_block (heap_alloc_new wr _)) (by simp [Value.oneCell']) (by unfold maxLen; omega) (by omega) (by have := HW.out.size; simp; omega) ?_; intro v5 w5 hown5 hgrow5 hnil5 hat5; obtain ⟨a5, k5, rfl⟩ := own_form hown5; have HO5 := hid hown5; have HG5 := hid hgrow5; clear hown5 hgrow5 hnil5 hat5)
            have hlq : (xs ++ List.replicate q (0 : Int) ++ byt n j).length = L + q + j := by rw [HLL.out]; simp [byt_len]; omega
            have hp := own_push (xs := xs ++ List.replicate q 0 ++ byt n j) (zs := [z % 256]) HW.out (by rw [hlq]; exact HR.out) (frA wr _) HO5.out HG5.out
            rw [List.append_assoc, show byt n j ++ [z % 256] = byt n (j + 1) by rw [byt_succ, HZ.out]] at hp
            have hlq2 : (xs ++ List.replicate q (0 : Int) ++ byt n (j + 1)).length = L + q + (j + 1) := by rw [HLL.out]; simp [byt_len]; omega
            rw [hlq2] at hp
            have HP2 := hid hp
            clear hp hlq hlq2 HO5 HG5
            go_roundw
            case rel => exact ⟨j + 1, by omega, by go_num, ⟨z / 256, rfl, hz3, hz2, hid (by rw [HZ.out, div_pow_succ])⟩, hid HP2.out.1, hid HP2.out.2⟩
            case measure => simp [intOf]; omega
          · obtain rfl : j = k := by omega
            have he : lay xs n j = xs ++ List.replicate q 0 ++ byt n j := by unfold lay; rw [← HG.out]
            have hlq : (lay xs n j).length = L + q + j := by rw [lay_len, ← HG.out, ← HLL.out]
            have HE := hid he
            have HLQ := hid hlq
            clear he hlq
            go_wp2
            go_ret
            exact ⟨_, rfl, by rw [HLQ.out, HE.out]; exact HR.out, HW.out⟩
end Go.Proofs.Ytceeipejhmnkfaa
