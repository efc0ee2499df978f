/- RfN FcX ClEn in one -/
import Derived.Test.YtgfimkeopohjaaaDoorWrA
import Derived.Test.YtgfimkeopohjaaaDoorFcG
import Derived.Test.YtgfimkeopohjaaaDoorClP
import Derived.Test.YtgfimkeopohjaaaDoorClT
namespace Go.Proofs.YtgfimkeopohjaaaDoor
open Go Go.ChangeShapes Go.WideShapes Go.ChangeAt Go.RowKit

set_option maxRecDepth 100000 in
theorem mod_ne {a b k : Nat} (h : (a + b) % k ≠ 0) : (((a : Int) + (b : Int)) % (k : Int) != 0) = true := by
  have e : ((a : Int) + (b : Int)) % (k : Int) = (((a + b) % k : Nat) : Int) := by simp
  rw [e]; simp only [bne_iff_ne, ne_eq]; omega
set_option maxRecDepth 100000 in
theorem mod_eq {a b k : Nat} (h : (a + b) % k = 0) : (((a : Int) + (b : Int)) % (k : Int) != 0) = false := by
  have e : ((a : Int) + (b : Int)) % (k : Int) = (((a + b) % k : Nat) : Int) := by simp
  rw [e, h]; rfl
set_option maxRecDepth 100000 in
set_option maxHeartbeats 1000000 in
theorem RNum_any (w : World) (ad : Option Addr) (cap L : Nat) (xs : List Int) (n : Int) (k : Nat) (hb : Bs w w.heap.size ad xs) (hL : L = xs.length) (h0 : ad = none → cap = 0 ∧ L = 0) (hk : Siz k) (hn0 : 0 ≤ n) (hn1 : n ≤ 18446744073709551615) (hl : L ≤ 100000000000000) :
    Calls Tryd.prog 35 #[.slice ad L cap, .int .u64 n, .int .i64 k] w (RowPost w (lay xs n k)) := by
  obtain ⟨i0, hi, hz0, hz1, hz2⟩ := info_parts info5
  have hi' := hid hi
  have hz0' := hid hz0
  have hz1' := hid hz1
  have hz2' := hid hz2
  have hgl := gap_lt (n := xs.length) hk
  have hk8 : k ≤ 8 := by rcases hk with rfl | rfl | rfl | rfl <;> omega
  obtain ⟨g, hg⟩ : ∃ g, g = gap xs.length k := ⟨_, rfl⟩
  rw [← hg] at hgl
  have HG := hid hg
  have HLL := hid hL
  have HK := hid hk
  have HB := hid hb
  have H0 := hid h0
  clear hi hz0 hz1 hz2 hg hL hk hb h0
  go_enter Tryd.func35, Tryd.ntmps35
  cases ad
  case' none =>
    have hv : Value.slice none L cap = .slice none 0 0 := by
      obtain ⟨e1, e2⟩ := H0.out rfl
      rw [e1, e2]
    have hx : xs = [] := List.eq_nil_of_length_eq_zero (by rw [← HLL.out]; exact (H0.out rfl).2)
    have HP := hid (show w.ownsRow w.heap.size 5 1 (.slice none 0 0) L (u8l xs) ∧ Below w.heap.size w w from ⟨by rw [HLL.out, hx]; exact World.ownsRow_nil _ _ _ _, Below.refl _ w⟩)
    rw [hv]
    clear hv hx
    go_wp2_with (at_builtin; refine wpList_append_own_none (o := ⟨some 11, _, _, _, _, _⟩) rfl (.tmp 9) (.tmp 10) 40 rfl w.heap.size 5 i0 1 Tryd.underlying40 hi'.out (.slice none 0 0) 0 [] rfl (World.ownsRow_nil _ _ _ _) rfl ?_)
  case' some ad =>
    have hnews : ∀ (j : Nat) (u : Value), (u8l xs)[j]? = some u → w.cell? (ad.add j) = some u := fun j u hu => by
      have hj : j < xs.length := by
        have := (List.getElem?_eq_some_iff.1 hu).1
        simpa [u8l] using this
      obtain ⟨b, o', he, hbl⟩ := HB.out.some (by omega)
      cases he
      exact HB.out.news j u hu
    have HNW := hid hnews
    have HL1 := hid (show (u8l xs).length = L * 1 by rw [u8l_len, HLL.out]; omega)
    clear hnews
    go_wp2_with (at_builtin; refine wpList_append_own_at _ (o := ⟨some 11, _, _, _, _, _⟩) rfl (.tmp 9) (.tmp 10) 40 rfl w.heap.size 5 i0 (.int .u8 0) 1 1 Tryd.underlying40 hi'.out hz0'.out hz1'.out hz2'.out rfl (by decide) (.slice none 0 0) 0 [] rfl (World.ownsRow_nil _ _ _ _) ad L cap (u8l xs) rfl HL1.out HNW.out (u8l_one xs) (by unfold maxLen; omega) (by omega) (Nat.le_refl _) ?_; intro v5 w5 hown5 hgrow5 hnil5 hat5; obtain ⟨a5, k5, rfl⟩ := own_form hown5; have HO5 := hid hown5; have HG5 := hid hgrow5; clear hown5 hgrow5 hnil5 hat5)
    have hp := own_push (xs := []) (zs := xs) (Below.refl _ w) (World.ownsRow_nil _ _ _ _) (Fr.refl _ w) HO5.out HG5.out
    rw [List.nil_append, ← HLL.out] at hp
    have HP := hid hp
    clear hp HO5 HG5
  all_goals
    go_loopw [7] (fun ov wr => ∃ q : Nat, q ≤ g ∧ RowKit.Hid (wr.ownsRow w.heap.size 5 1 ov (L + q) (u8l (xs ++ List.replicate q 0))) ∧ RowKit.Hid (Below w.heap.size w wr)) (fun ov _ => L + g - (match ov with | .slice _ n _ => n | _ => 0))
    case atStart => exact ⟨0, by omega, hid (by simpa using HP.out.1), hid HP.out.2⟩
    case round =>
      obtain ⟨q, hq, HR, HW⟩ := hrel
      obtain ⟨oa, oc, hov⟩ := own_form HR.out
      subst hov
      by_cases hqg : q < g
      · have hd : (((L : Int) + (q : Int)) % (k : Int) != 0) = true := by
          have := gap_least (n := xs.length) HK.out (by rw [← HG.out]; exact hqg)
          rw [← HLL.out] at this
          exact mod_ne this
        go_wp2_with (at_builtin; refine wpList_append_own_at _ (o := ⟨some 19, _, _, _, _, _⟩) rfl (.tmp 17) (.tmp 18) 40 rfl w.heap.size 5 i0 (.int .u8 0) 1 1 Tryd.underlying40 hi'.out hz0'.out hz1'.out hz2'.out rfl (by decide) (.slice oa (L + q) oc) (L + q) _ rfl (HR.out.alloc _) ⟨wr.heap.size, 0, none⟩ 1 1 [.int .u8 0] rfl rfl (World.news_of_block (heap_alloc_new wr _)) (by simp [Value.oneCell']) (by unfold maxLen; omega) (by omega) (by have := HW.out.size; simp; omega) ?_; intro v5 w5 hown5 hgrow5 hnil5 hat5; obtain ⟨a5, k5, rfl⟩ := own_form hown5; have HO5 := hid hown5; have HG5 := hid hgrow5; clear hown5 hgrow5 hnil5 hat5)
        have hlq : (xs ++ List.replicate q (0 : Int)).length = L + q := by rw [HLL.out]; simp
        have hp := own_push (xs := xs ++ List.replicate q 0) (zs := [0]) HW.out (by rw [hlq]; exact HR.out) (frA wr _) HO5.out HG5.out
        rw [List.append_assoc, show List.replicate q (0 : Int) ++ [0] = List.replicate (q + 1) 0 from (List.replicate_succ' (n := q) (a := (0 : Int))).symm] at hp
        have hlq2 : (xs ++ List.replicate (q + 1) (0 : Int)).length = L + (q + 1) := by rw [HLL.out]; simp
        rw [hlq2] at hp
        have HP2 := hid hp
        clear hp hlq hlq2 HO5 HG5 hd
        go_roundw
        case rel => exact ⟨q + 1, by omega, hid HP2.out.1, hid HP2.out.2⟩
        case measure => simp; omega
      · obtain rfl : q = g := by omega
        have hd : (((L : Int) + (q : Int)) % (k : Int) != 0) = false := by
          have := gap_mod (n := xs.length) HK.out
          rw [← HG.out, ← HLL.out] at this
          exact mod_eq this
        go_wp2
        clear hd
        go_loopw [1, 7, 8] (fun v ov i wr => ∃ j : Nat, j ≤ k ∧ i = .int .i64 j ∧ (∃ z : Int, v = .int .u64 z ∧ 0 ≤ z ∧ z ≤ 18446744073709551615 ∧ RowKit.Hid (z = n / 256 ^ j)) ∧ RowKit.Hid (wr.ownsRow w.heap.size 5 1 ov (L + q + j) (u8l (xs ++ List.replicate q 0 ++ byt n j))) ∧ RowKit.Hid (Below w.heap.size w wr)) (fun _ _ i _ => k - (intOf i).toNat)
        case atStart => exact ⟨0, by omega, rfl, ⟨n, rfl, hn0, hn1, hid (by simp)⟩, hid (by simpa [byt] using HR.out), HW⟩
        case round =>
          clear HR HW
          obtain ⟨j, hj, rfl, ⟨z, rfl, hz0, hz1, HZ⟩, HR, HW⟩ := hrel
          obtain ⟨ob, oc2, hov⟩ := own_form HR.out
          subst hov
          by_cases hjk : j < k
          · have hw256 := wrap_div256 hz0 hz1
            have hz2 : z / 256 ≤ 18446744073709551615 := by omega
            have hz3 : 0 ≤ z / 256 := by omega
            have hwt : IntKind.u64.wrap (z.tmod 256) = z % 256 := by
              rw [Int.tmod_eq_emod_of_nonneg hz0]; exact IntWalk.u64_in _ ⟨by omega, by omega⟩
            have hw8 : IntKind.u8.wrap (z % 256) = z % 256 := IntWalk.u8_in _ ⟨by omega, by omega⟩
            go_wp2_with (at_builtin; refine wpList_append_own_at _ (o := ⟨some 30, _, _, _, _, _⟩) rfl (.tmp 25) (.tmp 29) 40 rfl w.heap.size 5 i0 (.int .u8 0) 1 1 Tryd.underlying40 hi'.out hz0'.out hz1'.out hz2'.out rfl (by decide) (.slice ob (L + q + j) oc2) (L + q + j) _ rfl (HR.out.alloc _) ⟨wr.heap.size, 0, none⟩ 1 1 [.int .u8 (z % 256)] rfl rfl (World.news_of_block (heap_alloc_new wr _)) (by simp [Value.oneCell']) (by unfold maxLen; omega) (by omega) (by have := HW.out.size; simp; omega) ?_; intro v5 w5 hown5 hgrow5 hnil5 hat5; obtain ⟨a5, k5, rfl⟩ := own_form hown5; have HO5 := hid hown5; have HG5 := hid hgrow5; clear hown5 hgrow5 hnil5 hat5)
            have hlq : (xs ++ List.replicate q (0 : Int) ++ byt n j).length = L + q + j := by rw [HLL.out]; simp [byt_len]; omega
            have hp := own_push (xs := xs ++ List.replicate q 0 ++ byt n j) (zs := [z % 256]) HW.out (by rw [hlq]; exact HR.out) (frA wr _) HO5.out HG5.out
            rw [List.append_assoc, show byt n j ++ [z % 256] = byt n (j + 1) by rw [byt_succ, HZ.out]] at hp
            have hlq2 : (xs ++ List.replicate q (0 : Int) ++ byt n (j + 1)).length = L + q + (j + 1) := by rw [HLL.out]; simp [byt_len]; omega
            rw [hlq2] at hp
            have HP2 := hid hp
            clear hp hlq hlq2 HO5 HG5
            go_roundw
            case rel => exact ⟨j + 1, by omega, by go_num, ⟨z / 256, rfl, hz3, hz2, hid (by rw [HZ.out, div_pow_succ])⟩, hid HP2.out.1, hid HP2.out.2⟩
            case measure => simp [intOf]; omega
          · obtain rfl : j = k := by omega
            have he : lay xs n j = xs ++ List.replicate q 0 ++ byt n j := by unfold lay; rw [← HG.out]
            have hlq : (lay xs n j).length = L + q + j := by rw [lay_len, ← HG.out, ← HLL.out]
            have HE := hid he
            have HLQ := hid hlq
            clear he hlq
            go_wp2
            go_ret
            exact ⟨_, rfl, by rw [HLQ.out, HE.out]; exact HR.out, HW.out⟩
end Go.Proofs.YtgfimkeopohjaaaDoor

namespace Go.Proofs.YtgfimkeopohjaaaDoor
open Go Go.ChangeShapes Go.WideShapes Go.ChangeAt Go.RowKit

/-- The cells of no face. -/
def f0 : Array Value := #[.int .u8 0, .int .u8 0, .int .u8 0, .int .u8 0, .int .u8 0, .int .u8 0, .int .u8 0, .int .u8 0, .int .u8 0, .int .u8 0, .int .u8 0, .int .u8 0, .int .u8 0, .int .u8 0, .int .u8 0, .int .u8 0, .int .i64 0]
theorem fcl_one {x : Face} : (fcl x).toArray.all (·.oneCell') = true := by
  rw [Array.all_eq_true_iff_forall_mem]
  intro v hv
  simp [fcl, u8l] at hv
  rcases hv with ⟨n, _, rfl⟩ | rfl <;> rfl
theorem fcl_info {x : Face} (hx : x.id.length = 16) : (Tryd.prog.info? 74).map (·.size) = some (fcl x).toArray.size := by
  rw [List.size_toArray, fcl_len hx]; exact size30
theorem f0_size {x : Face} (hx : x.id.length = 16) : f0.size = (fcl x).toArray.size := by simp [f0, fcl_len hx]
/-- A face, copied into a block of its own. -/
def boxF (w : World) (f : Face) : World := (w.alloc (.cells f0 74)).setRow w.heap.size (fcl f).toArray
theorem boxF_row (w : World) (f : Face) : (boxF w f).heap[w.heap.size]? = some (.cells (fcl f).toArray 74 (0, 0)) := setRow_heap _ _ _ _ 74 (0, 0) (heap_alloc_new _ _)
theorem boxF_fr (w : World) (f : Face) : Fr (fun _ => False) w (boxF w f) := by
  unfold boxF
  refine ⟨rfl, rfl, rfl, by simp [World.setRow], fun k hk _ => ?_⟩
  rw [setRow_other _ _ _ _ (by omega), Below.heap_alloc _ _ _ hk]
theorem boxF_id (w : World) (f : Face) (hf : f.id.length = 16) : AtL (boxF w f) w.heap.size 0 (u8s f.id).toList := fun j v hv => by
  rw [Nat.zero_add, cell_of_row _ _ j _ _ _ (boxF_row w f)]
  have := fcl_id hf j v (by simpa using hv)
  simpa using this
theorem boxF_base (w : World) (f : Face) (hf : f.id.length = 16) : (boxF w f).cell? ⟨w.heap.size, 16, none⟩ = some (.int .i64 f.base) := by
  rw [cell_of_row _ _ 16 _ _ _ (boxF_row w f)]
  have := fcl_base hf
  simpa using this
end Go.Proofs.YtgfimkeopohjaaaDoor

namespace Go.Proofs.YtgfimkeopohjaaaDoor
open Go Go.ChangeShapes Go.WideShapes Go.ChangeAt Go.RowKit

/-- A class, copied into a block of its own. -/
def boxC (w : World) (cs : List Value) : World := (w.alloc (.cells zC 38)).setRow w.heap.size cs.toArray
theorem boxC_row (w : World) (cs : List Value) : (boxC w cs).heap[w.heap.size]? = some (.cells cs.toArray 38 (0, 0)) := setRow_heap _ _ _ _ _ (0, 0) (heap_alloc_new _ _)
theorem boxC_below (w : World) (cs : List Value) : Below w.heap.size w (boxC w cs) := below_setRow ((Below.refl _ _).alloc (Nat.le_refl _) _) _ _ (Nat.le_refl _)
def g16 : Array Value := u8s (List.replicate 16 0)
def boxG (w : World) (g : List Int) : World := (w.alloc (.cells g16 34)).setRow w.heap.size (u8s g)
theorem boxG_row (w : World) (g : List Int) : (boxG w g).heap[w.heap.size]? = some (.cells (u8s g) 34 (0, 0)) := setRow_heap _ _ _ _ _ (0, 0) (heap_alloc_new _ _)
theorem boxG_below (w : World) (g : List Int) : Below w.heap.size w (boxG w g) := below_setRow ((Below.refl _ _).alloc (Nat.le_refl _) _) _ _ (Nat.le_refl _)
theorem at_news {W : World} {b o : Nat} {cs : List Value} (h : AtL W b o cs) : ∀ j u, cs[j]? = some u → W.cell? ((⟨b, o, none⟩ : Addr).add j) = some u := fun j u hu => by
  have h1 := h j u hu
  cases j with
  | zero => simpa [Addr.add] using h1
  | succ j => simpa [Addr.add] using h1
set_option maxRecDepth 100000 in
set_option maxHeartbeats 8000000 in
theorem REncode_any (w : World) (ad : Option Addr) (N cap : Nat) (l : List Cls) (hF : RwC w w.heap.size ad l) (hN : N = l.length) (hc : N ≤ cap) (hc2 : cap ≤ 9223372036854775807) (hlen : (formM l).length ≤ 1000000) :
    Calls Tryd.prog 16 #[.agg #[.slice ad N cap]] w (RowPost w (formM l)) := by
  obtain ⟨i0, hi, hz0, hz1, hz2⟩ := info_parts info5
  have hi' := hid hi
  have hz0' := hid hz0
  have hz1' := hid hz1
  have hz2' := hid hz2
  obtain ⟨w1, hw1⟩ : ∃ w1, w1 = w.alloc (.cells #[.slice ad N cap] 24) := ⟨_, rfl⟩
  have hb1 : Below w.heap.size w w1 := by rw [hw1]; exact (Below.refl _ _).alloc (Nat.le_refl _) _
  have hm1 : Boxed w1 w.heap.size 24 (.slice ad N cap) := by rw [hw1]; exact Boxed.new w _ _
  have HF := hid (hF.on hb1)
  have HN := hid hN
  have HB1 := hid hb1
  have HW := hid hw1
  have HM := hid hm1
  have HLEN := hid hlen
  have cm0 := hm1.cell
  clear hF hN hb1 hm1 hw1 hlen hi hz0 hz1 hz2
  go_enter Tryd.func16, Tryd.ntmps16
  go_upto_region 1 with (fail)
  change Code.wp _ _ _ _ (w.alloc (.cells #[.slice ad N cap] 24))
  rw [← HW.out]
  go_upto_region 2 with (fail)
  have h2 : EB w1 (w1.alloc (.cells (u8s [u8w N]) 5)) (.slice (some ⟨w1.heap.size, 0, none⟩) 1 1) [u8w N] :=
    ⟨World.ownsRow_lit w1 (u8s [u8w N]) 1 (Nat.le_refl _) (by unfold maxLen; omega) rfl, (Below.refl _ _).alloc (Nat.le_refl _) _⟩
  obtain ⟨w2, hw2⟩ : ∃ w2, w2 = w1.alloc (.cells (u8s [u8w N]) 5) := ⟨_, rfl⟩
  change Code.wp _ _ _ _ (w1.alloc (.cells (u8s [u8w N]) 5))
  rw [← hw2] at h2 ⊢
  have HE2 := hid h2
  have HQ2 := hid (show formM l = [u8w N] ++ (l.drop 0).flatMap clF by rw [HN.out]; rfl)
  obtain ⟨v2, hv2⟩ : ∃ v2, v2 = Value.slice (some ⟨w1.heap.size, 0, none⟩) 1 1 := ⟨_, rfl⟩
  rw [← hv2] at HE2 ⊢
  clear h2 hw2 cm0 HW hv2
  go_wp2
  go_loopw [4, 3, 5, 6, 7, 8, 9, 10] (fun p v _ _ _ _ _ _ wr => ∃ (q : Nat) (out : List Int), q ≤ N ∧ p = .int .i64 q ∧ RowKit.Hid (formM l = out ++ (l.drop q).flatMap clF) ∧ RowKit.Hid (EB w1 wr v out)) (fun p _ _ _ _ _ _ _ _ => N - (intOf p).toNat)
  case atStart => exact ⟨0, _, by omega, rfl, HQ2, HE2⟩
  case round =>
    obtain ⟨q, out, hq, rfl, HQ, HE⟩ := hrel
    have cm : wr.cell? ⟨w.heap.size, 0, none⟩ = some (.slice ad N cap) := Boxed.cell ((HE.out.2.block w.heap.size HM.out.lt).trans HM.out)
    by_cases hql : q < N
    · have hx : l[q]? = some (l[q]'(by have := HN.out; omega)) := List.getElem?_eq_getElem (by have := HN.out; omega)
      generalize (l[q]'(by have := HN.out; omega)) = f at hx
      obtain ⟨b, o, rfl, hb⟩ := HF.out.at_ (by have := HN.out; omega)
      obtain ⟨vf, vm, hat, hcc⟩ := HF.out.rows b o rfl q f hx
      have hst := HQ.out
      rw [flat_step hx] at hst
      have HX := hid hx
      have HAT := hid (hat.below HE.out.2)
      have HID := hid hcc.id
      have HLN := hid (clc_len (vf := vf) (vm := vm) hcc.id)
      have HIN := hid (show (Tryd.prog.info? 38).map (·.size) = some (clc f vf vm).toArray.size by rw [List.size_toArray, HLN.out]; exact sizeC)
      have HON := hid (show (clc f vf vm).toArray.all (·.oneCell') = true from clc_one (by obtain ⟨a, c, rfl, _⟩ := hcc.f; rfl) (by obtain ⟨a, c, rfl, _⟩ := hcc.m; rfl))
      have hbc := boxC_below wr (clc f vf vm)
      have HC5 := hid (show InC (boxC wr (clc f vf vm)) wr.heap.size f vf vm from boxC_row _ _)
      have HCC := hid hcc
      have HE5 := hid (HE.out.on hbc)
      have HST := hid hst
      clear hx hat hcc hst hbc
      go_upto_region 6 with (first
        | ((with_reducible refine at_op ⟨some 27, _, _, _, _, _⟩ ?_); refine wpList_run rfl _ (load_c rfl rfl HAT.out HLN.out) ?_)
        | ((with_reducible refine at_op ⟨none, .store 38 (.tmp 5) (.tmp 27), _, _, _, _⟩ ?_); refine wpList_store_row rfl 38 _ _ rfl wr.heap.size (clc f vf vm).toArray rfl rfl 38 zC (heap_alloc_new _ _) HIN.out (by show 19 = _; rw [List.size_toArray, HLN.out]) HON.out ?_)
        | fail)
      change Code.wp _ _ _ _ (boxC wr (clc f vf vm))
      obtain ⟨w5, hw5⟩ : ∃ w5, w5 = boxC wr (clc f vf vm) := ⟨_, rfl⟩
      obtain ⟨g5, hg5⟩ : ∃ g, g = wr.heap.size := ⟨_, rfl⟩
      rw [← hw5, ← hg5] at HC5
      rw [← hw5] at HE5 ⊢
      rw [← hg5]
      clear hw5 hg5 HAT HLN HIN HON cm HE HQ
      obtain ⟨af, kf, rfl, hFf, hkf, hmf⟩ := HCC.out.f
      obtain ⟨am, km, rfl, hMm, hkm, hmm⟩ := HCC.out.m
      have HFF := hid hFf
      have HMM := hid hMm
      clear hFf hMm HCC
      obtain ⟨nf, hnf⟩ : ∃ n, n = f.faces.length := ⟨_, rfl⟩
      obtain ⟨nm, hnm⟩ : ∃ n, n = f.methods.length := ⟨_, rfl⟩
      rw [← hnf] at hkf HC5 ⊢
      rw [← hnm] at hkm HC5 ⊢
      obtain ⟨R, hR⟩ : ∃ R, R = (l.drop (q + 1)).flatMap clF := ⟨_, rfl⟩
      rw [← hR] at HST
      have HRR := hid hR
      have h0 : formM l = out ++ (f.id ++ ([u8w nf] ++ (f.faces.flatMap faF ++ ([u8w f.slots, u8w nm] ++ (f.methods.flatMap meF ++ R))))) := by
        have := HST.out
        rw [this, hnf, hnm]
        simp [clF]
      have NF := hid hnf
      have NM := hid hnm
      have hbd := form_bound h0 HLEN.out
      simp only [List.length_append, List.length_cons, List.length_nil] at hbd
      rw [HID.out] at hbd
      have HNW := hid (show ∀ j u, (u8l f.id)[j]? = some u → w5.cell? ((⟨g5, 0, none⟩ : Addr).add j) = some u from fun j u hu => at_news HC5.out.at j u (by
        unfold clc
        rw [List.getElem?_append_left (List.getElem?_eq_some_iff.1 hu).1]; exact hu))
      have H0 := hid h0
      clear hR hnf hnm h0 HST
      go_upto_region 7 with (first
        | (at_builtin; refine wpList_append_own_at _ (o := ⟨some 31, _, _, _, _, _⟩) rfl (.tmp 28) (.tmp 30) 40 rfl w1.heap.size 5 i0 (.int .u8 0) 1 1 Tryd.underlying40 hi'.out hz0'.out hz1'.out hz2'.out rfl (by decide) u3 _ _ rfl HE5.out.1 ⟨g5, 0, none⟩ 16 16 (u8l f.id) rfl (by rw [u8l_len, HID.out]) HNW.out (u8l_one _) (by unfold maxLen; omega) (by omega) (by have := HE5.out.2.size; simp; omega) ?_; intro vz wz hownz hgrowz hnilz hatz; have HOz := hid hownz; have HGz := hid hgrowz; clear hownz hgrowz hnilz hatz)
        | fail)
      have hkk := HE5.out.other (Fr.refl _ w5) HGz.out HC5.out (by decide)
      have hz := HE5.out.push (zs := f.id) (Fr.refl _ w5) HOz.out HGz.out
      obtain ⟨w6, hwn⟩ : ∃ x, x = wz := ⟨_, rfl⟩
      obtain ⟨v6, hvn⟩ : ∃ x, x = vz := ⟨_, rfl⟩
      rw [← hwn, ← hvn] at hz
      rw [← hwn] at hkk
      rw [← hwn, ← hvn]
      have HE6 := hid hz
      have HC6 := hid (show InC w6 g5 f _ _ from hkk)
      clear hz hkk hwn hvn HOz HGz HE5 HNW HC5
      have c16 := HC6.out.cf HID.out
      have L6 := hid (show (out ++ f.id).length = out.length + 16 by rw [List.length_append, HID.out])
      have hL6 := L6.out
      go_upto_region 8 with (first
        | (at_builtin; refine wpList_append_own_at _ (o := ⟨some 38, _, _, _, _, _⟩) rfl (.tmp 32) (.tmp 37) 40 rfl w1.heap.size 5 i0 (.int .u8 0) 1 1 Tryd.underlying40 hi'.out hz0'.out hz1'.out hz2'.out rfl (by decide) v6 _ _ rfl (HE6.out.1.alloc _) ⟨w6.heap.size, 0, none⟩ 1 1 (u8l [u8w nf]) rfl rfl (World.news_of_block (heap_alloc_new w6 _)) (u8l_one _) (by unfold maxLen; omega) (by omega) (by have := HE6.out.2.size; simp; omega) ?_; intro vz wz hownz hgrowz hnilz hatz; have HOz := hid hownz; have HGz := hid hgrowz; clear hownz hgrowz hnilz hatz)
        | fail)
      have hkk := HE6.out.other (frA w6 _) HGz.out HC6.out (by decide)
      have hz := HE6.out.push (zs := [u8w nf]) (frA w6 _) HOz.out HGz.out
      obtain ⟨w7, hwn⟩ : ∃ x, x = wz := ⟨_, rfl⟩
      obtain ⟨v7, hvn⟩ : ∃ x, x = vz := ⟨_, rfl⟩
      rw [← hwn, ← hvn] at hz
      rw [← hwn] at hkk
      rw [← hwn, ← hvn]
      have HE7 := hid hz
      have HC7 := hid (show InC w7 g5 f _ _ from hkk)
      clear hz hkk hwn hvn HOz HGz HE6 HC6 c16 hL6
      obtain ⟨out7, ho7⟩ : ∃ x, x = out ++ f.id ++ [u8w nf] := ⟨_, rfl⟩
      rw [← ho7] at HE7
      have H7 := hid (show formM l = out7 ++ ((f.faces.drop 0).flatMap faF ++ ([u8w f.slots, u8w nm] ++ (f.methods.flatMap meF ++ R))) by rw [H0.out, ho7]; simp)
      clear H0 hbd L6 ho7
      go_wp2
      go_loopw [6, 3, 7] (fun p v _ wr => ∃ (k : Nat) (out : List Int), k ≤ nf ∧ p = .int .i64 k ∧ RowKit.Hid (formM l = out ++ ((f.faces.drop k).flatMap faF ++ ([u8w f.slots, u8w nm] ++ (f.methods.flatMap meF ++ R)))) ∧ RowKit.Hid (EB w1 wr v out) ∧ RowKit.Hid (InC wr g5 f (.slice af nf kf) (.slice am nm km))) (fun p _ _ _ => nf - (intOf p).toNat)
      case atStart => exact ⟨0, _, by omega, rfl, H7, HE7, HC7⟩
      case round =>
        obtain ⟨k, ou, hk, rfl, HK, HEk, HCk⟩ := hrel
        clear H7 HE7 HC7
        have c16 := HCk.out.cf HID.out
        by_cases hkn : k < nf
        · have hx : f.faces[k]? = some (f.faces[k]'(by have := NF.out; omega)) := List.getElem?_eq_getElem _
          generalize (f.faces[k]'(by have := NF.out; omega)) = f1 at hx
          obtain ⟨b3, o3, rfl, hb3⟩ := HFF.out.some (by have := NF.out; omega)
          have HL1 := hid (HFF.out.len f1 (List.mem_of_getElem? hx))
          have HA1 := hid (AtL.below (HFF.out.id hx) HEk.out.2)
          have HBS := hid (fun (W : World) (hB : Below w1.heap.size w1 W) => (HFF.out.below hB).base hx)
          have hkq := HK.out
          rw [flat_step hx] at hkq
          have H0 := hid (show formM l = ou ++ (f1.id ++ ([wrap64 (f1.base + 1) % 256] ++ ((f.faces.drop (k + 1)).flatMap faF ++ ([u8w f.slots, u8w nm] ++ (f.methods.flatMap meF ++ R))))) by rw [hkq]; simp [faF])
          have hbd := form_bound H0.out HLEN.out
          simp only [List.length_append, List.length_cons, List.length_nil] at hbd
          rw [HL1.out] at hbd
          clear hx hkq HK
          go_upto_region 12 with (first
            | ((with_reducible refine at_op ⟨some 51, _, _, _, _, _⟩ ?_); refine wpList_run rfl _ (load_id rfl rfl HA1.out HL1.out) ?_)
            | ((with_reducible refine at_op ⟨none, .store 34 (.tmp 7) (.tmp 51), _, _, _, _⟩ ?_); refine wpList_store_row rfl 34 _ _ rfl wr.heap.size (u8s f1.id) rfl rfl 34 g16 (heap_alloc_new _ _) (by rw [u8s_size, HL1.out]; exact size28) (by rw [u8s_size, HL1.out]; rfl) (u8s_one _) ?_)
            | fail)
          change Code.wp _ _ _ _ (boxG wr f1.id)
          have hbg := boxG_below wr f1.id
          have HE8 := hid (HEk.out.on hbg)
          have HC8 := hid (HCk.out.on hbg)
          have hrg := boxG_row wr f1.id
          obtain ⟨w8, hw8⟩ : ∃ w8, w8 = boxG wr f1.id := ⟨_, rfl⟩
          obtain ⟨g7, hg7⟩ : ∃ g, g = wr.heap.size := ⟨_, rfl⟩
          rw [← hw8, ← hg7] at hrg
          rw [← hw8] at HE8 HC8 ⊢
          rw [← hg7]
          have HNW := hid (show ∀ j u, (u8l f1.id)[j]? = some u → w8.cell? ((⟨g7, 0, none⟩ : Addr).add j) = some u from at_news (AtL.row (cs := u8l f1.id) hrg))
          clear hbg hrg hw8 hg7 HEk HCk HA1 c16
          go_upto_region 13 with (first
            | (at_builtin; refine wpList_append_own_at _ (o := ⟨some 54, _, _, _, _, _⟩) rfl (.tmp 52) (.tmp 53) 40 rfl w1.heap.size 5 i0 (.int .u8 0) 1 1 Tryd.underlying40 hi'.out hz0'.out hz1'.out hz2'.out rfl (by decide) u3 _ _ rfl HE8.out.1 ⟨g7, 0, none⟩ 16 16 (u8l f1.id) rfl (by rw [u8l_len, HL1.out]) HNW.out (u8l_one _) (by unfold maxLen; omega) (by omega) (by have := HE8.out.2.size; simp; omega) ?_; intro vz wz hownz hgrowz hnilz hatz; have HOz := hid hownz; have HGz := hid hgrowz; clear hownz hgrowz hnilz hatz)
            | fail)
          have hkk := HE8.out.other (Fr.refl _ w8) HGz.out HC8.out (by decide)
          have hz := HE8.out.push (zs := f1.id) (Fr.refl _ w8) HOz.out HGz.out
          obtain ⟨w9, hwn⟩ : ∃ x, x = wz := ⟨_, rfl⟩
          obtain ⟨v9, hvn⟩ : ∃ x, x = vz := ⟨_, rfl⟩
          rw [← hwn, ← hvn] at hz
          rw [← hwn] at hkk
          rw [← hwn, ← hvn]
          have HE9 := hid hz
          have HC9 := hid (show InC w9 g5 f _ _ from hkk)
          clear hz hkk hwn hvn HOz HGz HE8 HNW HC8
          have c16 := HC9.out.cf HID.out
          have cb := HBS.out w9 HE9.out.2
          have hL9 : (ou ++ f1.id).length = ou.length + 16 := by rw [List.length_append, HL1.out]
          go_upto_region 10 with (first
            | (at_builtin; refine wpList_append_own_at _ (o := ⟨some 65, _, _, _, _, _⟩) rfl (.tmp 55) (.tmp 64) 40 rfl w1.heap.size 5 i0 (.int .u8 0) 1 1 Tryd.underlying40 hi'.out hz0'.out hz1'.out hz2'.out rfl (by decide) v9 _ _ rfl (HE9.out.1.alloc _) ⟨w9.heap.size, 0, none⟩ 1 1 (u8l [wrap64 (f1.base + 1) % 256]) rfl rfl (World.news_of_block (heap_alloc_new w9 _)) (u8l_one _) (by unfold maxLen; omega) (by omega) (by have := HE9.out.2.size; simp; omega) ?_; intro vz wz hownz hgrowz hnilz hatz; have HOz := hid hownz; have HGz := hid hgrowz; clear hownz hgrowz hnilz hatz)
            | fail)
          have hkk := HE9.out.other (frA w9 _) HGz.out HC9.out (by decide)
          have hz := HE9.out.push (zs := [wrap64 (f1.base + 1) % 256]) (frA w9 _) HOz.out HGz.out
          obtain ⟨w10, hwn⟩ : ∃ x, x = wz := ⟨_, rfl⟩
          obtain ⟨v10, hvn⟩ : ∃ x, x = vz := ⟨_, rfl⟩
          rw [← hwn, ← hvn] at hz
          rw [← hwn] at hkk
          rw [← hwn, ← hvn]
          have HE10 := hid hz
          have HC10 := hid (show InC w10 g5 f _ _ from hkk)
          clear hz hkk hwn hvn HOz HGz HE9 HC9 c16 cb hL9
          go_wp2
          go_roundw
          case rel => exact ⟨k + 1, _, by omega, by go_num, hid (by rw [H0.out]; simp), HE10, HC10⟩
          case measure => simp [intOf]; omega
        · obtain rfl : k = nf := by omega
          have hkq := HK.out
          rw [NF.out, flat_end, List.nil_append] at hkq
          have H0 := hid hkq
          have hbd := form_bound hkq HLEN.out
          simp only [List.length_append, List.length_cons, List.length_nil] at hbd
          clear hkq HK
          go_upto_region 14 with (fail)
          have c17 := HCk.out.cs HID.out
          have c18 := HCk.out.cm HID.out
          clear c16
          go_upto_region 15 with (first
            | (at_builtin; refine wpList_append_own_at _ (o := ⟨some 75, _, _, _, _, _⟩) rfl (.tmp 66) (.tmp 74) 40 rfl w1.heap.size 5 i0 (.int .u8 0) 1 1 Tryd.underlying40 hi'.out hz0'.out hz1'.out hz2'.out rfl (by decide) u3 _ _ rfl (HEk.out.1.alloc _) ⟨wr.heap.size, 0, none⟩ 2 2 (u8l [u8w f.slots, u8w nm]) rfl rfl (World.news_of_block (heap_alloc_new wr _)) (u8l_one _) (by unfold maxLen; omega) (by omega) (by have := HEk.out.2.size; simp; omega) ?_; intro vz wz hownz hgrowz hnilz hatz; have HOz := hid hownz; have HGz := hid hgrowz; clear hownz hgrowz hnilz hatz)
            | fail)
          have hkk := HEk.out.other (frA wr _) HGz.out HCk.out (by decide)
          have hz := HEk.out.push (zs := [u8w f.slots, u8w nm]) (frA wr _) HOz.out HGz.out
          obtain ⟨w11, hwn⟩ : ∃ x, x = wz := ⟨_, rfl⟩
          obtain ⟨v11, hvn⟩ : ∃ x, x = vz := ⟨_, rfl⟩
          rw [← hwn, ← hvn] at hz
          rw [← hwn] at hkk
          rw [← hwn, ← hvn]
          have HE11 := hid hz
          have HC11 := hid (show InC w11 g5 f _ _ from hkk)
          clear hz hkk hwn hvn HOz HGz HEk HCk c17 c18
          obtain ⟨out11, ho11⟩ : ∃ x, x = ou ++ [u8w f.slots, u8w nm] := ⟨_, rfl⟩
          rw [← ho11] at HE11
          have H11 := hid (show formM l = out11 ++ ((f.methods.drop 0).flatMap meF ++ R) by rw [H0.out, ho11]; simp)
          clear H0 hbd ho11
          go_wp2
          go_loopw [8, 3, 9, 10] (fun p v _ _ wr => ∃ (j : Nat) (out : List Int), j ≤ nm ∧ p = .int .i64 j ∧ RowKit.Hid (formM l = out ++ ((f.methods.drop j).flatMap meF ++ R)) ∧ RowKit.Hid (EB w1 wr v out) ∧ RowKit.Hid (InC wr g5 f (.slice af k kf) (.slice am nm km))) (fun p _ _ _ _ => nm - (intOf p).toNat)
          case atStart => exact ⟨0, _, by omega, rfl, H11, HE11, HC11⟩
          case round =>
            obtain ⟨j, om, hj, rfl, HJ, HEj, HCj⟩ := hrel
            clear H11 HE11 HC11
            have c18 := HCj.out.cm HID.out
            by_cases hjn : j < nm
            · have hx : f.methods[j]? = some (f.methods[j]'(by have := NM.out; omega)) := List.getElem?_eq_getElem _
              generalize (f.methods[j]'(by have := NM.out; omega)) = m at hx
              obtain ⟨b4, o4, rfl, hb4⟩ := HMM.out.at_ (by have := NM.out; omega)
              obtain ⟨vm4, hv4, al, cl, rfl, hri, hlc, hlm, _⟩ := HMM.out.rows b4 o4 rfl j m hx
              have cv := (World.cell?_of_block (HEj.out.2.block b4 (World.block_lt_of_cell? _ _ hv4))).trans hv4
              have HRI := hid hri
              have hkq := HJ.out
              rw [flat_step hx] at hkq
              obtain ⟨nl, hnl⟩ : ∃ n, n = m.length := ⟨_, rfl⟩
              obtain ⟨R2, hR2⟩ : ∃ R2, R2 = (f.methods.drop (j + 1)).flatMap meF ++ R := ⟨_, rfl⟩
              have H0 := hid (show formM l = om ++ ([u8w nl] ++ (m.flatMap inF ++ R2)) by rw [hkq, hR2, hnl]; simp [meF])
              have HR2 := hid hR2
              rw [← hnl] at cv hlc
              have NL := hid hnl
              have hbd := form_bound H0.out HLEN.out
              simp only [List.length_append, List.length_cons, List.length_nil] at hbd
              clear hx hkq HJ hv4 hri hR2 hnl
              go_upto_region 20 with (first
                | (at_builtin; refine wpList_append_own_at _ (o := ⟨some 93, _, _, _, _, _⟩) rfl (.tmp 88) (.tmp 92) 40 rfl w1.heap.size 5 i0 (.int .u8 0) 1 1 Tryd.underlying40 hi'.out hz0'.out hz1'.out hz2'.out rfl (by decide) u3 _ _ rfl (HEj.out.1.alloc _) ⟨wr.heap.size, 0, none⟩ 1 1 (u8l [u8w nl]) rfl rfl (World.news_of_block (heap_alloc_new wr _)) (u8l_one _) (by unfold maxLen; omega) (by omega) (by have := HEj.out.2.size; simp; omega) ?_; intro vz wz hownz hgrowz hnilz hatz; have HOz := hid hownz; have HGz := hid hgrowz; clear hownz hgrowz hnilz hatz)
                | fail)
              have hkk := HEj.out.other (frA wr _) HGz.out HCj.out (by decide)
              have hz := HEj.out.push (zs := [u8w nl]) (frA wr _) HOz.out HGz.out
              obtain ⟨w12, hwn⟩ : ∃ x, x = wz := ⟨_, rfl⟩
              obtain ⟨v12, hvn⟩ : ∃ x, x = vz := ⟨_, rfl⟩
              rw [← hwn, ← hvn] at hz
              rw [← hwn] at hkk
              rw [← hwn, ← hvn]
              have HE12 := hid hz
              have HC12 := hid (show InC w12 g5 f _ _ from hkk)
              clear hz hkk hwn hvn HOz HGz HEj HCj cv c18
              obtain ⟨out12, ho12⟩ : ∃ x, x = om ++ [u8w nl] := ⟨_, rfl⟩
              rw [← ho12] at HE12
              have H12 := hid (show formM l = out12 ++ ((m.drop 0).flatMap inF ++ R2) by rw [H0.out, ho12]; simp)
              clear H0 hbd ho12
              go_wp2
              go_loopw [10, 3] (fun p v wr => ∃ (i : Nat) (out : List Int), i ≤ nl ∧ p = .int .i64 i ∧ RowKit.Hid (formM l = out ++ ((m.drop i).flatMap inF ++ R2)) ∧ RowKit.Hid (EB w1 wr v out) ∧ RowKit.Hid (InC wr g5 f (.slice af k kf) (.slice (some ⟨b4, o4, none⟩) nm km))) (fun p _ _ => nl - (intOf p).toNat)
              case atStart => exact ⟨0, _, by omega, rfl, H12, HE12, HC12⟩
              case round =>
                obtain ⟨i, oi, hi5, rfl, HI5, HEi, HCi⟩ := hrel
                clear H12 HE12 HC12
                by_cases hin : i < nl
                · have hx : m[i]? = some (m[i]'(by have := NL.out; omega)) := List.getElem?_eq_getElem _
                  generalize (m[i]'(by have := NL.out; omega)) = x1 at hx
                  obtain ⟨b6, o6, rfl, hb6⟩ := HRI.out.at_ (by have := NL.out; omega)
                  have hat6 := HRI.out.rows b6 o6 rfl i x1 hx
                  have HC3 := hid (fun (W : World) (hB : Below w1.heap.size w1 W) => (show W.cell? ⟨b6, o6 + i * 3, none⟩ = some (.int .i64 x1.op) ∧ W.cell? ⟨b6, o6 + i * 3 + 1, none⟩ = some (.int .i64 x1.a) ∧ W.cell? ⟨b6, o6 + i * 3 + 2, none⟩ = some (.int .i64 x1.b) from
                    ⟨by simpa using AtL.below hat6 hB 0 _ rfl, AtL.below hat6 hB 1 _ rfl, AtL.below hat6 hB 2 _ rfl⟩))
                  have hkq := HI5.out
                  rw [flat_step hx] at hkq
                  obtain ⟨R3, hR3⟩ : ∃ R3, R3 = (m.drop (i + 1)).flatMap inF ++ R2 := ⟨_, rfl⟩
                  have H0 := hid (show formM l = oi ++ ([u8w x1.op, u8w x1.b] ++ (lay [] (IntKind.u32.wrap x1.a) 4 ++ R3)) by rw [hkq, hR3]; simp [inF])
                  have HR3 := hid hR3
                  have hbd := form_bound H0.out HLEN.out
                  simp only [List.length_append, List.length_cons, List.length_nil] at hbd
                  rw [lay4_len] at hbd
                  clear hx hkq HI5 hat6 hR3
                  go_upto_region 23 with (fail)
                  refine wp_region_mix [0, 0, 0, 0, 0, 1, 0, 0, 0, 0, 0, 1, 0, 2, 2, 0] (fun W => Below w1.heap.size w1 W) (by kernel_rfl) (by kernel_rfl) HEi.out.2.drew ?_
                  repeat (first
                    | (refine' wpMix_read _ rfl rfl _ _; rotate_left; (solve | (intro W hS; obtain ⟨k1, k2, k3⟩ := HC3.out W hS; clear hS; go_simp) | (intro W hS; obtain ⟨k1, k2, k3⟩ := HC3.out W hS; clear hS; go_simp; with_reducible rfl)); simp only [Act.put, List.setIfInBounds_toArray, List.set_cons_zero, List.set_cons_succ])
                    | (refine' wpMix_value _ rfl rfl _ _; rotate_left; (solve | (intro W; go_simp) | (intro W; go_simp; with_reducible rfl)); simp only [Act.put, List.setIfInBounds_toArray, List.set_cons_zero, List.set_cons_succ]))
                  obtain ⟨wd, hwd⟩ : ∃ wd, wd = wr.drew := ⟨_, rfl⟩
                  have hEd : EB w1 wd u3 oi := by rw [hwd]; exact HEi.out.on (Below.refl _ _).drew
                  have hCd : InC wd g5 f (.slice af k kf) (.slice (some ⟨b4, o4, none⟩) nm km) := by rw [hwd]; exact HCi.out
                  rw [← hwd]
                  have HEd := hid hEd
                  have HCd := hid hCd
                  clear hwd hEd hCd HEi HCi
                  refine wpMix_write (.slice (some ⟨wd.heap.size, 0, none⟩) 2 2) (wd.alloc (.cells #[.int .u8 (u8w x1.op), .int .u8 (u8w x1.b)] 5)) (by decide) rfl ?nrun1 ?nS1 ?nrest1
                  case nrun1 => first | (go_simp; done) | (go_simp; rfl)
                  case nS1 => exact fun _ => HEd.out.2.alloc HEd.out.2.size _
                  simp only [Act.put, List.setIfInBounds_toArray, List.set_cons_zero, List.set_cons_succ]
                  refine wpMix_append (by decide) rfl (.tmp 100) (.tmp 113) 40 rfl w1.heap.size 5 i0 (.int .u8 0) 1 1 Tryd.underlying40 hi'.out hz0'.out hz1'.out hz2'.out rfl (by decide) u3 _ _ rfl (HEd.out.1.alloc _) ⟨wd.heap.size, 0, none⟩ 2 2 (u8l [u8w x1.op, u8w x1.b]) rfl rfl (World.news_of_block (heap_alloc_new _ _)) (u8l_one _) (by decide) (by unfold maxLen; omega) (by omega) (by have := HEd.out.2.size; simp; omega) (wd.heap.size + 1) (by simp) ?_
                  intro g3 k3 wz hownz hgrowz hatz hltz
                  have HOz := hid hownz
                  have HGz := hid hgrowz
                  clear hownz hgrowz hatz hltz
                  have hkk := HEd.out.other (frA wd _) HGz.out HCd.out (by decide)
                  have hz := HEd.out.push (zs := [u8w x1.op, u8w x1.b]) (frA wd _) HOz.out HGz.out
                  obtain ⟨w13, hwn⟩ : ∃ x, x = wz := ⟨_, rfl⟩
                  obtain ⟨v13, hvn⟩ : ∃ x, x = Value.slice (some ⟨g3, 0, none⟩) (oi.length + 2) k3 := ⟨_, rfl⟩
                  rw [← hwn, ← hvn] at hz
                  rw [← hwn] at hkk
                  rw [← hwn, ← hvn]
                  have HE13 := hid hz
                  have HC13 := hid (show InC w13 g5 f _ _ from hkk)
                  clear hz hkk hwn hvn HOz HGz HEd HCd
                  refine ⟨fun _ => HE13.out.2, ?_⟩
                  simp only [Act.put, List.setIfInBounds_toArray, List.set_cons_zero, List.set_cons_succ]
                  repeat (first
                    | (refine' wpMix_value _ rfl rfl _ _; rotate_left; (solve | (intro W; go_simp) | (intro W; go_simp; with_reducible rfl)); simp only [Act.put, List.setIfInBounds_toArray, List.set_cons_zero, List.set_cons_succ]))
                  refine wpMix_end ?_
                  have k2 := (HC3.out w13 HE13.out.2).2.1
                  have wu := u32_u64 x1.a
                  have HNU := hid (RNum_any w13 none 0 0 [] (IntKind.u32.wrap x1.a) 4 (Bs.nil _ _ _) rfl (fun _ => ⟨rfl, rfl⟩) (.inr (.inr (.inl rfl))) (u32_ok x1.a).1 (u32_ok x1.a).2 (by decide))
                  obtain ⟨na, hna⟩ : ∃ n, n = IntKind.u32.wrap x1.a := ⟨_, rfl⟩
                  have HNA := hid hna
                  rw [← hna] at HNU H0 wu
                  rw [show ((4 : Nat) : Int) = 4 from rfl] at HNU
                  have wna : IntKind.u32.wrap x1.a = na := hna.symm
                  clear hna
                  go_wp2_with fail
                  refine HNU.out.mono ?_
                  rintro e w14 ⟨vn, rfl, hrow, hb14⟩
                  rw [lay4_len] at hrow
                  obtain ⟨gn, cn, rfl, hcn1, hcn2⟩ := own_form1 hrow (by decide)
                  have HE14 := hid (HE13.out.on hb14)
                  have HC14 := hid (HC13.out.on hb14)
                  have HNW := hid ((own_bs hrow).news)
                  have hL13 : (oi ++ [u8w x1.op, u8w x1.b]).length = oi.length + 2 := by simp
                  clear hrow hb14 HE13 HC13 HNU k2 wu wna
                  go_upto_region 22 with (first
                    | (at_builtin; refine wpList_append_own_at _ (o := ⟨some 124, _, _, _, _, _⟩) rfl (.tmp 115) (.tmp 123) 40 rfl w1.heap.size 5 i0 (.int .u8 0) 1 1 Tryd.underlying40 hi'.out hz0'.out hz1'.out hz2'.out rfl (by decide) v13 _ _ rfl HE14.out.1 ⟨gn, 0, none⟩ 4 cn (u8l (lay [] na 4)) rfl (by rw [u8l_len, lay4_len]) HNW.out (u8l_one _) (by unfold maxLen; omega) (by omega) (by have := HE14.out.2.size; simp; omega) ?_; intro vz wz hownz hgrowz hnilz hatz; have HOz := hid hownz; have HGz := hid hgrowz; clear hownz hgrowz hnilz hatz)
                    | fail)
                  have hkk := HE14.out.other (Fr.refl _ w14) HGz.out HC14.out (by decide)
                  have hz := HE14.out.push (zs := (lay [] na 4)) (Fr.refl _ w14) HOz.out HGz.out
                  obtain ⟨w15, hwn⟩ : ∃ x, x = wz := ⟨_, rfl⟩
                  obtain ⟨v15, hvn⟩ : ∃ x, x = vz := ⟨_, rfl⟩
                  rw [← hwn, ← hvn] at hz
                  rw [← hwn] at hkk
                  rw [← hwn, ← hvn]
                  have HE15 := hid hz
                  have HC15 := hid (show InC w15 g5 f _ _ from hkk)
                  clear hz hkk hwn hvn HOz HGz HE14 HC14 HNW hL13
                  go_wp2
                  go_roundw
                  case rel => exact ⟨i + 1, _, by omega, by go_num, hid (by rw [H0.out, HR3.out]; simp), HE15, HC15⟩
                  case measure => simp [intOf]; omega
                · obtain rfl : i = nl := by omega
                  have hkq := HI5.out
                  rw [NL.out, flat_end, List.nil_append, HR2.out] at hkq
                  have HRL := hid hkq
                  clear hkq
                  go_wp2
                  go_roundw
                  case rel => exact ⟨j + 1, _, by omega, by go_num, HRL, HEi, HCi⟩
                  case measure => simp [intOf]; omega
            · obtain rfl : j = nm := by omega
              have hkq := HJ.out
              rw [NM.out, flat_end, List.nil_append, HRR.out] at hkq
              have HRL := hid hkq
              clear hkq
              go_wp2
              go_roundw
              case rel => exact ⟨q + 1, _, by omega, by go_num, HRL, HEj⟩
              case measure => simp [intOf]; omega
    · obtain rfl : q = N := by omega
      have hfin : formM l = out := by
        have h1 := HQ.out
        rw [HN.out, flat_end, List.append_nil] at h1
        exact h1
      have HFIN := hid hfin
      clear hfin
      go_wp2
      go_ret
      refine ⟨_, rfl, ?_, HB1.out.trans (HE.out.2.mono HB1.out.size)⟩
      rw [HFIN.out]
      exact owns_low HE.out.1 HB1.out.size
end Go.Proofs.YtgfimkeopohjaaaDoor
