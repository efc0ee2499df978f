/-
  The plain twin's Same of packets.
-/
import Derived.Test.YtceeipejhmnkfaaPkA
namespace Go.Proofs.Ytceeipejhmnkfaa
open Go Go.ChangeShapes Go.WideShapes Go.ChangeAt Go.RowKit

def eqRs : List Orf → List Orf → Bool
  | [], [] => true
  | x :: xs, y :: ys => eqO x y && eqRs xs ys
  | _, _ => false
theorem eqRs_iff : ∀ {xs ys : List Orf}, eqRs xs ys = true ↔ xs = ys
  | [], [] => by simp [eqRs]
  | [], _ :: _ => by simp [eqRs]
  | _ :: _, [] => by simp [eqRs]
  | x :: xs, y :: ys => by simp [eqRs, eqO_iff, eqRs_iff]
/-- The fields but the references. -/
def eqF8 (p q : Pk) : Bool := (p.ki == q.ki) && ((p.fr == q.fr) && ((p.to == q.to) && ((p.sq == q.sq) && ((p.ca == q.ca) && ((p.ip == q.ip) && ((p.me == q.me) && ((p.n == q.n) && (p.co == q.co))))))))
def eqP (p q : Pk) : Bool := eqRs p.rs q.rs && eqF8 p q
theorem eqP_iff {p q : Pk} : eqP p q = true ↔ p = q := by
  cases p; cases q
  simp only [eqP, eqF8, Bool.and_eq_true, eqRs_iff, beq_iff_eq, Pk.mk.injEq]
  constructor
  · rintro ⟨h0, h1, h2, h3, h4, h5, h6, h7, h8, h9⟩; exact ⟨h1, h2, h3, h4, h5, h6, h7, h8, h9, h0⟩
  · rintro ⟨h1, h2, h3, h4, h5, h6, h7, h8, h9, h0⟩; exact ⟨h0, h1, h2, h3, h4, h5, h6, h7, h8, h9⟩
theorem eqP_self (p : Pk) : eqP p p = true := eqP_iff.2 rfl
theorem eqRs_false {xs ys : List Orf} (h : xs ≠ ys) : eqRs xs ys = false := by
  cases hq : eqRs xs ys
  · rfl
  · exact absurd (eqRs_iff.1 hq) h

set_option maxHeartbeats 4000000 in
set_option maxRecDepth 100000 in
theorem pkSame_any (p q : Pk) (hp : PkOk p) (hq : PkOk q) (a b : Option Addr) (c d : Nat) (w : World) (hr : RwO w w.heap.size a p.rs) (hs : RwO w w.heap.size b q.rs)
    (hl : p.rs.length ≤ 4611686018427387904 ∧ q.rs.length ≤ 4611686018427387904 ∧ p.rs.length ≤ c ∧ q.rs.length ≤ d ∧ c ≤ 9223372036854775807 ∧ d ≤ 9223372036854775807) :
    Calls Try.prog 16 #[.agg (pkA p a c), .agg (pkA q b d)] w fun e w' => e = .returned (.bool (eqP p q)) ∧ Below w.heap.size w w' := by
  obtain ⟨w2, hw2⟩ : ∃ w2, w2 = (w.alloc (.cells (pkA p a c) 28)).alloc (.cells (pkA q b d) 28) := ⟨_, rfl⟩
  have hB2 : Below w.heap.size w w2 := by rw [hw2]; exact ((Below.refl _ _).alloc (Nat.le_refl _) _).alloc (by simp) _
  have hp2 : InP w2 w.heap.size p a c := by
    unfold InP
    rw [hw2, heap_alloc_old _ _ (by simp)]; exact heap_alloc_new _ _
  have hq2 : InP w2 (w.heap.size + 1) q b d := by
    unfold InP
    have h1 := heap_alloc_new (w.alloc (.cells (pkA p a c) 28)) (.cells (pkA q b d) 28)
    rw [hw2]
    simpa using h1
  have HW2 := hid hw2
  have HB2 := hid hB2
  have HP2 := hid hp2
  have HQ2 := hid hq2
  have HR2 := hid (hr.on hB2)
  have HS2 := hid (hs.on hB2)
  have h16 := hp.ip.len
  have k16 := hq.ip.len
  have HL := hid hl
  have hc24 := hid hp2
  clear hw2 hB2 hr hs hl
  go_enter Try.func16, Try.ntmps16
  go_upto_region 1 with (fail)
  rw [← HW2.out]
  clear HW2
  have c24 := hp2.c24 h16
  have d24 := hq2.c24 k16
  by_cases hne : p.rs.length = q.rs.length
  · have e1 : ((p.rs.length : Int) == (q.rs.length : Int)) = true := by rw [hne]; simp
    have HNE := hid hne
    clear hne hp2 hq2 hc24
    have HP0 : RowKit.Hid (∀ j, j < 0 → p.rs[j]? = q.rs[j]?) := hid (fun j hj => by omega)
    have HC1 := hid (fun W (hW : Below w2.heap.size w2 W) => (HP2.out.below hW).c24 h16)
    have HC2 := hid (fun W (hW : Below w2.heap.size w2 W) => (HQ2.out.below hW).c24 k16)
    have HXR := hid (fun W (hW : Below w2.heap.size w2 W) => HR2.out.kept hW)
    have HYR := hid (fun W (hW : Below w2.heap.size w2 W) => HS2.out.kept hW)
    obtain ⟨n, hn⟩ : ∃ n, n = p.rs.length := ⟨_, rfl⟩
    have hn2 : q.rs.length = n := by rw [hn]; exact HNE.out.symm
    have HN := hid hn
    have HN2 := hid hn2
    have hnl : n ≤ 4611686018427387904 := by have := HL.out; omega
    have hnc : n ≤ c ∧ n ≤ d := by have := HL.out; omega
    rw [← hn] at c24 e1 HC1
    rw [hn2] at d24 e1 HC2
    clear hn hn2
    go_wp2_with fail
    go_loopw [5] (fun iv wr => ∃ r : Nat, r ≤ n ∧ iv = .int .i64 r ∧ RowKit.Hid (∀ j, j < r → p.rs[j]? = q.rs[j]?) ∧ RowKit.Hid (Below w2.heap.size w2 wr)) (fun iv _ => n - (intOf iv).toNat)
    case atStart => exact ⟨0, by omega, rfl, HP0, hid (Below.refl _ _)⟩
    case round =>
      clear c24 d24
      obtain ⟨r, hr1, rfl, HT, HBr⟩ := hrel
      have c24 := HC1.out wr HBr.out
      have d24 := HC2.out wr HBr.out
      by_cases hrl : r < n
      · have hrI : ((r : Int) < (n : Int)) := by omega
        have hdr : decide ((r : Int) < (n : Int)) = true := by simpa using hrI
        obtain ⟨x, hx⟩ : ∃ x, p.rs[r]? = some x := ⟨_, List.getElem?_eq_getElem (by have := HN.out; omega)⟩
        obtain ⟨y, hy⟩ : ∃ y, q.rs[r]? = some y := ⟨_, List.getElem?_eq_getElem (by have := HN2.out; omega)⟩
        have hxok : OrfOk x := hp.rs x (List.mem_of_getElem? hx)
        have hyok : OrfOk y := hq.rs y (List.mem_of_getElem? hy)
        obtain ⟨bo, oo, hae, _⟩ := HR2.out.at_ (by have := HN.out; omega)
        obtain ⟨bp, op, hbe, _⟩ := HS2.out.at_ (by have := HN2.out; omega)
        have HXA := hid (fun W hW => (HXR.out W hW).rows bo oo hae r x hx)
        have HYA := hid (fun W hW => (HYR.out W hW).rows bp op hbe r y hy)
        subst hae hbe
        have HX := hid hx
        have HY := hid hy
        have heq := eqObj x y hxok hyok
        have hgu := guardO
        clear hx hy
        by_cases hxy : eqO x y = true
        · rw [hxy] at heq
          have HXY := hid (eqO_iff.1 hxy)
          clear hxy
          go_upto_region 6 with (fail)
          refine wp_region_sure (fun W => Below w2.heap.size w2 W) (by kernel_rfl) (by kernel_rfl) HBr.out.drew ?_
          repeat (first
            | ((with_reducible refine atS ⟨some 24, _, _, _, _, _⟩ ?_); refine wpSure_read (.agg (orA x)) rfl (fun W hS => load_oa rfl rfl (HXA.out W hS) hxok) ?_; simp only [Act.put, List.setIfInBounds_toArray, List.set_cons_zero, List.set_cons_succ])
            | ((with_reducible refine atS ⟨some 29, _, _, _, _, _⟩ ?_); refine wpSure_read (.agg (orA y)) rfl (fun W hS => load_oa rfl rfl (HYA.out W hS) hyok) ?_; simp only [Act.put, List.setIfInBounds_toArray, List.set_cons_zero, List.set_cons_succ])
            | (refine' wpSure_value _ rfl _ _; rotate_left; (solve | (intro W; go_simp) | (intro W; go_simp; with_reducible rfl)); simp only [Act.put, List.setIfInBounds_toArray, List.set_cons_zero, List.set_cons_succ])
            | (refine' wpSure_read _ rfl _ _; rotate_left; (solve | (intro W hS; have f1 := HC1.out W hS; have f2 := HC2.out W hS; go_simp) | (intro W hS; have f1 := HC1.out W hS; have f2 := HC2.out W hS; go_simp; with_reducible rfl)); simp only [Act.put, List.setIfInBounds_toArray, List.set_cons_zero, List.set_cons_succ]))
          refine wpSure_end (fun w6 hS6 => ?_)
          clear HXA HYA
          go_wp2_with fail
          go_roundw
          case rel =>
            refine ⟨r + 1, by omega, by go_num, hid (fun j hj => ?_), hid hS6⟩
            by_cases hjr : j = r
            · subst hjr; rw [HX.out, HY.out, HXY.out]
            · exact HT.out j (by omega)
          case measure => simp [intOf]; omega
        · have hf : eqO x y = false := by simpa using hxy
          rw [hf] at heq
          have hz : eqP p q = false := by
            rw [eqP, eqRs_false (fun h => hxy ?_), Bool.false_and]
            have h1 := HX.out
            rw [h, HY.out] at h1
            cases h1
            exact eqO_self _
          have HZ := hid hz
          clear hxy hf hz
          go_upto_region 6 with (fail)
          refine wp_region_sure (fun W => Below w2.heap.size w2 W) (by kernel_rfl) (by kernel_rfl) HBr.out.drew ?_
          repeat (first
            | ((with_reducible refine atS ⟨some 24, _, _, _, _, _⟩ ?_); refine wpSure_read (.agg (orA x)) rfl (fun W hS => load_oa rfl rfl (HXA.out W hS) hxok) ?_; simp only [Act.put, List.setIfInBounds_toArray, List.set_cons_zero, List.set_cons_succ])
            | ((with_reducible refine atS ⟨some 29, _, _, _, _, _⟩ ?_); refine wpSure_read (.agg (orA y)) rfl (fun W hS => load_oa rfl rfl (HYA.out W hS) hyok) ?_; simp only [Act.put, List.setIfInBounds_toArray, List.set_cons_zero, List.set_cons_succ])
            | (refine' wpSure_value _ rfl _ _; rotate_left; (solve | (intro W; go_simp) | (intro W; go_simp; with_reducible rfl)); simp only [Act.put, List.setIfInBounds_toArray, List.set_cons_zero, List.set_cons_succ])
            | (refine' wpSure_read _ rfl _ _; rotate_left; (solve | (intro W hS; have f1 := HC1.out W hS; have f2 := HC2.out W hS; go_simp) | (intro W hS; have f1 := HC1.out W hS; have f2 := HC2.out W hS; go_simp; with_reducible rfl)); simp only [Act.put, List.setIfInBounds_toArray, List.set_cons_zero, List.set_cons_succ]))
          refine wpSure_end (fun w6 hS6 => ?_)
          clear HXA HYA
          go_wp2_with fail
          all_goals (go_ret; exact ⟨by first | rfl | exact ret_bool (by rw [HZ.out]), HB2.out.trans (hS6.mono HB2.out.size)⟩)
      · have hrn : r = n := by omega
        have hdr : decide ((r : Int) < (n : Int)) = false := by simp; omega
        have hrs : p.rs = q.rs := by
          refine List.ext_getElem? (fun j => ?_)
          by_cases hj : j < r
          · exact HT.out j hj
          · rw [List.getElem?_eq_none (by have := HN.out; omega), List.getElem?_eq_none (by have := HN2.out; omega)]
        have hz : eqP p q = eqF8 p q := by rw [eqP, hrs, eqRs_iff.2 rfl, Bool.true_and]
        have HZ := hid hz
        have hp3 := HP2.out.below HBr.out
        have hq3 := HQ2.out.below HBr.out
        have HI := hid hp3.ip
        have HJ := hid hq3.ip
        have a0 := hp3.c0
        have a1 := hp3.c1
        have a2 := hp3.c2
        have a3 := hp3.c3
        have a4 := hp3.c4
        have a21 := hp3.c21 h16
        have a22 := hp3.c22 h16
        have a23 := hp3.c23 h16
        have b0 := hq3.c0
        have b1 := hq3.c1
        have b2 := hq3.c2
        have b3 := hq3.c3
        have b4 := hq3.c4
        have b21 := hq3.c21 k16
        have b22 := hq3.c22 k16
        have b23 := hq3.c23 k16
        have heq := eqG' p.ip q.ip h16 k16
        have hgu := guardG'
        have HB6 := hid (HB2.out.trans (HBr.out.mono HB2.out.size))
        clear hrn hrs hz HT HN HN2 HXR HYR HC1 HC2 hp3 hq3 HP2 HQ2 HR2 HS2 HL HNE hnl hnc
        go_wp2_with (first
          | ((with_reducible refine at_op ⟨some 66, _, _, _, _, _⟩ ?_); refine wpList_runW rfl (.agg (u8s p.ip)) (load_g rfl rfl HI.out h16) ?_)
          | ((with_reducible refine at_op ⟨some 68, _, _, _, _, _⟩ ?_); refine wpList_runW rfl (.agg (u8s q.ip)) (load_g rfl rfl HJ.out k16) ?_)
          | fail)
        all_goals (go_ret; exact ⟨ret_bool (by rw [HZ.out, eqF8]; clear HZ HB6 HI HJ heq hgu a0 a1 a2 a3 a4 a21 a22 a23 b0 b1 b2 b3 b4 b21 b22 b23 c24 d24; first | (simp_all; done) | (simp_all; omega)), HB6.out⟩)
  · have e1 : ((p.rs.length : Int) == (q.rs.length : Int)) = false := by simp; omega
    have hz : eqP p q = false := by
      rw [eqP, eqRs_false (fun h => hne (by rw [h])), Bool.false_and]
    have HZ := hid hz
    clear hne hz hp2 hq2 hc24
    go_wp2_with fail
    all_goals (go_ret; exact ⟨by first | rfl | exact ret_bool (by rw [HZ.out]), HB2.out⟩)
end Go.Proofs.Ytceeipejhmnkfaa
