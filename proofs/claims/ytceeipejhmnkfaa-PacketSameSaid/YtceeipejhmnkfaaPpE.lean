/-
  The program's Same of packets: slices.Equal at Objrefs, then field by field.
-/
import Derived.Test.YtceeipejhmnkfaaPkS
import Derived.Test.YtceeipejhmnkfaaPkL
import Derived.Test.YtceeipejhmnkfaaSure
namespace Go.Proofs.Ytceeipejhmnkfaa
open Go Go.ChangeShapes Go.WideShapes Go.ChangeAt Go.RowKit

set_option maxRecDepth 100000 in
set_option maxHeartbeats 2000000 in
theorem equalO_any (xs ys : List Orf) (hx : ∀ x ∈ xs, OrfOk x) (hy : ∀ x ∈ ys, OrfOk x) (a b : Option Addr) (c d : Nat) (w : World) (hr : RwO w w.heap.size a xs) (hs : RwO w w.heap.size b ys)
    (hl : xs.length ≤ 4611686018427387904 ∧ ys.length ≤ 4611686018427387904 ∧ xs.length ≤ c ∧ ys.length ≤ d ∧ c ≤ 9223372036854775807 ∧ d ≤ 9223372036854775807) :
    Calls Try.prog 37 #[.slice a xs.length c, .slice b ys.length d] w fun e w' => e = .returned (.bool (eqRs xs ys)) ∧ Below w.heap.size w w' := by
  have HR := hid hr
  have HS := hid hs
  have HL := hid hl
  have Hx := hid hx
  have Hy := hid hy
  clear hr hs hx hy
  by_cases hne : xs.length = ys.length
  case neg =>
    have e1 : ((xs.length : Int) != (ys.length : Int)) = true := by simp; omega
    have HZ := hid (eqRs_false (xs := xs) (ys := ys) (fun h => hne (by rw [h])))
    clear hne hl
    go_enter Try.func37, Try.ntmps37
    go_wp2
    go_ret
    exact ⟨ret_bool HZ.out.symm, Below.refl _ _⟩
  have e1 : ((xs.length : Int) != (ys.length : Int)) = false := by rw [hne]; simp
  have HNE := hid hne
  have HP0 : RowKit.Hid (∀ j, j < 0 → xs[j]? = ys[j]?) := hid (fun j hj => by omega)
  have HXR := hid (fun W (hW : Below w.heap.size w W) => HR.out.kept hW)
  have HYR := hid (fun W (hW : Below w.heap.size w W) => HS.out.kept hW)
  obtain ⟨n, hn⟩ : ∃ n, n = xs.length := ⟨_, rfl⟩
  have hn2 : ys.length = n := by rw [hn]; exact hne.symm
  have HN := hid hn
  have HN2 := hid hn2
  have hnl : n ≤ 4611686018427387904 := by have := HL.out; omega
  have hnc : n ≤ c ∧ n ≤ d := by have := HL.out; omega
  rw [← hn] at e1 ⊢
  rw [hn2] at e1 ⊢
  clear hn hn2 hl hne
  go_enter Try.func37, Try.ntmps37
  go_wp2
  go_loopw [13] (fun iv wr => ∃ r : Nat, r ≤ n ∧ iv = .int .i64 r ∧ RowKit.Hid (∀ j, j < r → xs[j]? = ys[j]?) ∧ RowKit.Hid (Below w.heap.size w wr)) (fun iv _ => n - (intOf iv).toNat)
  case atStart => exact ⟨0, by omega, rfl, HP0, hid (Below.refl _ _)⟩
  case round =>
    obtain ⟨r, hr1, rfl, HT, HBr⟩ := hrel
    by_cases hrl : r < n
    · have hrI : ((r : Int) < (n : Int)) := by omega
      have hdr : decide ((r : Int) < (n : Int)) = true := by simpa using hrI
      obtain ⟨x, hx⟩ : ∃ x, xs[r]? = some x := ⟨_, List.getElem?_eq_getElem (by have := HN.out; omega)⟩
      obtain ⟨y, hy⟩ : ∃ y, ys[r]? = some y := ⟨_, List.getElem?_eq_getElem (by have := HN2.out; omega)⟩
      have hxok : OrfOk x := Hx.out x (List.mem_of_getElem? hx)
      have hyok : OrfOk y := Hy.out y (List.mem_of_getElem? hy)
      obtain ⟨bo, oo, hae, _⟩ := HR.out.at_ (by have := HN.out; omega)
      obtain ⟨bp, op, hbe, _⟩ := HS.out.at_ (by have := HN2.out; omega)
      have HXA := hid (fun W hW => (HXR.out W hW).rows bo oo hae r x hx)
      have HYA := hid (fun W hW => (HYR.out W hW).rows bp op hbe r y hy)
      subst hae hbe
      have HX := hid hx
      have HY := hid hy
      have heq := eqObj x y hxok hyok
      have hgu := guardO
      clear hx hy
      by_cases hxy : eqO x y = true
      · rw [hxy] at heq
        have HXY := hid (eqO_iff.1 hxy)
        clear hxy
        go_upto_region 6 with (fail)
        refine wp_region_sure (fun W => Below w.heap.size w W) (by kernel_rfl) (by kernel_rfl) HBr.out.drew ?_
        repeat (first
          | ((with_reducible refine atS ⟨some 19, _, _, _, _, _⟩ ?_); refine wpSure_read (.agg (orA x)) rfl (fun W hS => load_oa rfl rfl (HXA.out W hS) hxok) ?_; simp only [Act.put, List.setIfInBounds_toArray, List.set_cons_zero, List.set_cons_succ])
          | ((with_reducible refine atS ⟨some 23, _, _, _, _, _⟩ ?_); refine wpSure_read (.agg (orA y)) rfl (fun W hS => load_oa rfl rfl (HYA.out W hS) hyok) ?_; simp only [Act.put, List.setIfInBounds_toArray, List.set_cons_zero, List.set_cons_succ])
          | (refine' wpSure_value _ rfl _ _; rotate_left; (solve | (intro W; go_simp) | (intro W; go_simp; with_reducible rfl)); simp only [Act.put, List.setIfInBounds_toArray, List.set_cons_zero, List.set_cons_succ]))
        refine wpSure_end (fun w6 hS6 => ?_)
        clear HXA HYA
        go_wp2_with fail
        go_roundw
        case rel =>
          refine ⟨r + 1, by omega, by go_num, hid (fun j hj => ?_), hid hS6⟩
          by_cases hjr : j = r
          · subst hjr; rw [HX.out, HY.out, HXY.out]
          · exact HT.out j (by omega)
        case measure => simp [intOf]; omega
      · have hf : eqO x y = false := by simpa using hxy
        rw [hf] at heq
        have hz : eqRs xs ys = false := by
          refine eqRs_false (fun h => hxy ?_)
          have h1 := HX.out
          rw [h, HY.out] at h1
          cases h1
          exact eqO_self _
        have HZ := hid hz
        clear hxy hf hz
        go_upto_region 6 with (fail)
        refine wp_region_sure (fun W => Below w.heap.size w W) (by kernel_rfl) (by kernel_rfl) HBr.out.drew ?_
        repeat (first
          | ((with_reducible refine atS ⟨some 19, _, _, _, _, _⟩ ?_); refine wpSure_read (.agg (orA x)) rfl (fun W hS => load_oa rfl rfl (HXA.out W hS) hxok) ?_; simp only [Act.put, List.setIfInBounds_toArray, List.set_cons_zero, List.set_cons_succ])
          | ((with_reducible refine atS ⟨some 23, _, _, _, _, _⟩ ?_); refine wpSure_read (.agg (orA y)) rfl (fun W hS => load_oa rfl rfl (HYA.out W hS) hyok) ?_; simp only [Act.put, List.setIfInBounds_toArray, List.set_cons_zero, List.set_cons_succ])
          | (refine' wpSure_value _ rfl _ _; rotate_left; (solve | (intro W; go_simp) | (intro W; go_simp; with_reducible rfl)); simp only [Act.put, List.setIfInBounds_toArray, List.set_cons_zero, List.set_cons_succ]))
        refine wpSure_end (fun w6 hS6 => ?_)
        clear HXA HYA
        go_wp2_with fail
        all_goals (go_ret; exact ⟨by first | rfl | exact ret_bool (by rw [HZ.out]), hS6⟩)
    · have hrn : r = n := by omega
      have hdr : decide ((r : Int) < (n : Int)) = false := by simp; omega
      have hrs : xs = ys := by
        refine List.ext_getElem? (fun j => ?_)
        by_cases hj : j < r
        · exact HT.out j hj
        · rw [List.getElem?_eq_none (by have := HN.out; omega), List.getElem?_eq_none (by have := HN2.out; omega)]
      have HZ := hid (eqRs_iff.2 hrs)
      clear hrn hrs
      go_wp2
      go_ret
      exact ⟨ret_bool HZ.out.symm, HBr.out⟩
theorem eqP_split (p q : Pk) : eqP p q = ((p.ki == q.ki) && ((p.fr == q.fr) && ((p.to == q.to) && ((p.sq == q.sq) && ((p.ca == q.ca) && ((p.ip == q.ip) && ((p.me == q.me) && ((p.n == q.n) && ((p.co == q.co) && eqRs p.rs q.rs))))))))) := by
  unfold eqP eqF8
  rw [Bool.and_comm]
  simp only [Bool.and_assoc]
set_option maxRecDepth 100000 in
set_option maxHeartbeats 4000000 in
theorem same_any (p q : Pk) (hp : PkOk p) (hq : PkOk q) (a b : Option Addr) (c d : Nat) (w : World) (hr : RwO w w.heap.size a p.rs) (hs : RwO w w.heap.size b q.rs)
    (hl : p.rs.length ≤ 4611686018427387904 ∧ q.rs.length ≤ 4611686018427387904 ∧ p.rs.length ≤ c ∧ q.rs.length ≤ d ∧ c ≤ 9223372036854775807 ∧ d ≤ 9223372036854775807) :
    Calls Try.prog 20 #[.agg (pkA p a c), .agg (pkA q b d)] w fun e w' => e = .returned (.bool (eqP p q)) ∧ Below w.heap.size w w' := by
  obtain ⟨w2, hw2⟩ : ∃ w2, w2 = (w.alloc (.cells (pkA p a c) 28)).alloc (.cells (pkA q b d) 28) := ⟨_, rfl⟩
  have hB2 : Below w.heap.size w w2 := by rw [hw2]; exact ((Below.refl _ _).alloc (Nat.le_refl _) _).alloc (by simp) _
  have hp2 : InP w2 w.heap.size p a c := by
    unfold InP
    rw [hw2, heap_alloc_old _ _ (by simp)]; exact heap_alloc_new _ _
  have hq2 : InP w2 (w.heap.size + 1) q b d := by
    unfold InP
    have h1 := heap_alloc_new (w.alloc (.cells (pkA p a c) 28)) (.cells (pkA q b d) 28)
    rw [hw2]
    simpa using h1
  have HB2 := hid hB2
  have HI := hid hp2.ip
  have HJ := hid hq2.ip
  have h16 := hp.ip.len
  have k16 := hq.ip.len
  have HE := hid (equalO_any p.rs q.rs hp.rs hq.rs a b c d w2 (hr.on hB2) (hs.on hB2) hl)
  have gp : ∀ j, (pkA p a c)[j]? = w2.cell? ⟨w.heap.size, j, none⟩ := fun j => by rw [hp2.cell j]; simp [pkA]
  have gq : ∀ j, (pkA q b d)[j]? = w2.cell? ⟨w.heap.size + 1, j, none⟩ := fun j => by rw [hq2.cell j]; simp [pkA]
  have a0 := (gp 0).trans hp2.c0
  have a1 := (gp 1).trans hp2.c1
  have a2 := (gp 2).trans hp2.c2
  have a3 := (gp 3).trans hp2.c3
  have a4 := (gp 4).trans hp2.c4
  have a21 := (gp 21).trans (hp2.c21 h16)
  have a22 := (gp 22).trans (hp2.c22 h16)
  have a23 := (gp 23).trans (hp2.c23 h16)
  have a24 := (gp 24).trans (hp2.c24 h16)
  have b0 := (gq 0).trans hq2.c0
  have b1 := (gq 1).trans hq2.c1
  have b2 := (gq 2).trans hq2.c2
  have b3 := (gq 3).trans hq2.c3
  have b4 := (gq 4).trans hq2.c4
  have b21 := (gq 21).trans (hq2.c21 k16)
  have b22 := (gq 22).trans (hq2.c22 k16)
  have b23 := (gq 23).trans (hq2.c23 k16)
  have b24 := (gq 24).trans (hq2.c24 k16)
  clear gp gq
  have heq := eqG' p.ip q.ip h16 k16
  have hgu := guardG'
  have HZ := hid (eqP_split p q)
  generalize eqP p q = z at *
  generalize eqRs p.rs q.rs = er at *
  clear hB2 hp2 hq2 hr hs hl hp hq
  subst hw2
  go_enter Try.func20, Try.ntmps20
  go_wp2_with (first
    | ((with_reducible refine at_op ⟨some 40, _, _, _, _, _⟩ ?_); refine wpList_runW rfl (.agg (u8s p.ip)) (load_g rfl rfl HI.out h16) ?_)
    | ((with_reducible refine at_op ⟨some 42, _, _, _, _, _⟩ ?_); refine wpList_runW rfl (.agg (u8s q.ip)) (load_g rfl rfl HJ.out k16) ?_)
    | (go_at_call 37; refine HE.out.mono ?_; rintro e w3 ⟨rfl, hb3⟩; have HB3 := hid (HB2.out.trans (hb3.mono HB2.out.size)); clear hb3)
    | fail)
  all_goals go_ret
  all_goals first
    | exact ⟨ret_bool (by rw [HZ.out]; clear HZ HB3 HB2 HE HI HJ heq hgu a0 a1 a2 a3 a4 a21 a22 a23 a24 b0 b1 b2 b3 b4 b21 b22 b23 b24; first | (simp_all; done) | (simp_all; omega)), HB3.out⟩
    | exact ⟨ret_bool (by rw [HZ.out]; clear HZ HB2 HE HI HJ heq hgu a0 a1 a2 a3 a4 a21 a22 a23 a24 b0 b1 b2 b3 b4 b21 b22 b23 b24; first | (simp_all; done) | (simp_all; omega)), HB2.out⟩
end Go.Proofs.Ytceeipejhmnkfaa
