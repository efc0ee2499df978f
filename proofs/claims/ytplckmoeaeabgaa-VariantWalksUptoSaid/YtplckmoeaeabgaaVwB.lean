/-
  The contract of the walk over all values in one, as it calls itself.
-/
import Derived.Test.YtplckmoeaeabgaaVwA
import Derived.Test.YtplckmoeaeabgaaVrD
namespace Go.Proofs.Ytplckmoeaeabgaa
open Go Go.ChangeShapes Go.WideShapes Go.ChangeAt Go.RowKit Go.Shelf
attribute [local go_sem] Oper.semAt_some

/-- A row of parts told as far as so many. -/
def partsM (l : List Mv) (d : Int) : List (Int × Mv) := l.flatMap fun x => walkM x (wrap64 (d + 1))
theorem parts_take {l : List Mv} {q : Nat} {x : Mv} (d : Int) (h : l[q]? = some x) : partsM (l.take (q + 1)) d = partsM (l.take q) d ++ walkM x (wrap64 (d + 1)) := by
  unfold partsM
  rw [List.take_add_one, h, List.flatMap_append]
  simp
theorem parts_le (l : List Mv) (q : Nat) (d : Int) : partsM (l.take q) d <+: partsM l d := by
  have h : partsM l d = partsM (l.take q) d ++ partsM (l.drop q) d := by unfold partsM; rw [← List.flatMap_append, List.take_append_drop]
  rw [h]; exact List.prefix_append _ _
theorem AtL.ks {S : Nat → Prop} {W W' : World} {b o : Nat} {cs : List Value} (h : AtL W b o cs) (hK : KS S W W') (hS : S b) : AtL W' b o cs := fun j v hv => hK.cell (p := ⟨b, o + j, none⟩) hS (h j v hv)
abbrev yargs (x : Int × Mv) : Array Value := #[.int .i64 x.1, .agg x.2.cells.toArray]
def WalkPost (S : Nat → Prop) (full don : List (Int × Mv)) (J Jx : List (Int × Mv) → World → Prop) (W : World) (e : Ending) (W' : World) : Prop :=
  (e = .returned (.bool true) ∧ J don W' ∧ KQ S W W') ∨ (e = .returned (.bool false) ∧ ∃ pre, pre <+: full ∧ Jx pre W')
set_option maxRecDepth 100000 in
set_option maxHeartbeats 2000000 in
theorem walk_any (n lp : Nat) (S : Nat → Prop) (full : List (Int × Mv)) (J Jx : List (Int × Mv) → World → Prop)
    (hA : ∀ pre W W', J pre W → W.grownBy W' none → J pre W')
    (hY : ∀ pre x W, J pre W → pre ++ [x] <+: full → YieldAt Fence.wide (n - 1) Try.prog lp (yargs x) W fun e W' =>
      (e = .returned (.bool true) ∧ J (pre ++ [x]) W' ∧ KQ S W W') ∨ (e = .returned (.bool false) ∧ Jx (pre ++ [x]) W')) (v : Mv) :
    ∀ (d : Int) (pre0 : List (Int × Mv)) (W : World), MS W S v → pre0 ++ walkM v d <+: full → J pre0 W →
      CallsIn Fence.wide n Try.prog 42 #[.int .i64 d, .agg v.cells.toArray, .func (.yield lp) #[] #[]] W (WalkPost S full (pre0 ++ walkM v d) J Jx W) := by
  induction v using Mv.ind with
  | h k m s a c l ih =>
    intro d pre0 W hM hpre hJ
    have hM' := hM
    cases hM' with
    | mk _ _ _ _ _ _ hk hn hs hc h0 ha hl hp =>
    have hwk : walkM (.mk k m s a c l) d = (d, .mk k m s a c l) :: partsM l d := walkM_mk ..
    rw [hwk] at hpre ⊢
    have hp1 : pre0 ++ [(d, Mv.mk k m s a c l)] <+: full := (List.IsPrefix.trans (by rw [List.append_cons pre0 _ (partsM l d)]; exact List.prefix_append _ _) hpre)
    simp only [Mv.cells, Mv.k, Mv.n, Mv.s, Mv.a, Mv.l, Mv.c]
    have hb1 : Below W.heap.size W (W.alloc (.cells #[.int .i64 k, .int .i64 m, .string (strI s), .slice a l.length c] 24)) := (Below.refl _ _).alloc (Nat.le_refl _) _
    have hx1 : (W.alloc (.cells #[.int .i64 k, .int .i64 m, .string (strI s), .slice a l.length c] 24)).heap[W.heap.size]? = some (.cells #[.int .i64 k, .int .i64 m, .string (strI s), .slice a l.length c] 24 (0, 0)) := heap_alloc_new _ _
    have hJ1 := hA pre0 _ _ hJ (World.grownBy_alloc W (.cells #[.int .i64 k, .int .i64 m, .string (strI s), .slice a l.length c] 24) none)
    have hM1 := hM.ks (KQ.ks (KQ.below (S := S) hb1))
    have hy0 := hY pre0 (d, .mk k m s a c l) _ hJ1 hp1
    simp only [yargs, Mv.cells, Mv.k, Mv.n, Mv.s, Mv.a, Mv.l, Mv.c] at hy0
    obtain ⟨L, hL⟩ : ∃ L, L = l.length := ⟨_, rfl⟩
    rw [← hL] at hc hy0 hb1 hx1 hJ1 hM1 ⊢
    generalize strI s = bs at *
    obtain ⟨fn, tmps, assign, body, hy, hRd⟩ := hy0
    obtain ⟨c0, c1, c2, c3⟩ := box_cells hx1
    have HL := hid hL
    have HB1 := hid hb1
    have HX1 := hid hx1
    have HM1 := hid hM1
    have HRD := hid hRd
    have HPRE := hid hpre
    have HP1 := hid hp1
    have HLL := hid hl
    have HHA := hid ha
    have HIH := hid ih
    have HYY := hid hY
    have HAB := hid hA
    have HPP := hid hp
    have hc1 := hc.1
    have hc2 := hc.2
    clear hM hpre hp1 hb1 hx1 hRd hL hl ha ih hY hA hJ hJ1 hwk hs hp hk hn h0 hM1 hc
    refine callsIn_of_wp Try.func42 rfl trivial ?_ rfl
    simp only [Try.ntmps42, List.size_toArray, List.length_cons, List.length_nil, Nat.reduceAdd, Nat.reduceSub, Array.replicate_succ, Array.replicate_zero, List.push_toArray, List.append_toArray, List.nil_append, List.cons_append]
    gi_wp2
    refine ⟨(fun h => by cases h), HRD.out.mono ?_⟩
    rintro e W3 (⟨rfl, hJ3, hk3⟩ | ⟨rfl, hJx3⟩)
    · have hx3 := hk3 _ _ _ _ (.inr rfl) HX1.out
      have hk13 := (KQ.below (S := S) HB1.out).t hk3
      obtain ⟨w1, hw1⟩ : ∃ w1, w1 = W.alloc (.cells #[.int .i64 k, .int .i64 m, .string bs, .slice a L c] 24) := ⟨_, rfl⟩
      obtain ⟨bx, hbq⟩ : ∃ bx, bx = W.heap.size := ⟨_, rfl⟩
      rw [← hbq] at hx3 ⊢
      have HX3 := hid hx3
      have HK3 := hid hk13
      have HJ3 := hid (show J (pre0 ++ (d, Mv.mk k m s a c l) :: partsM (l.take 0) d) W3 from hJ3)
      obtain ⟨e0, e1, e2, e3⟩ := box_cells hx3
      clear hk3 hJ3 hx3 hk13 hw1 c0 c1 c2 c3 hy HX1 HRD HB1 HM1 hbq
      gi_wp2
      gi_loopw [17] (fun i wr => ∃ q : Nat, q ≤ L ∧ i = .int .i64 q ∧ RowKit.Hid (J (pre0 ++ (d, Mv.mk k m s a c l) :: partsM (l.take q) d) wr) ∧ RowKit.Hid (KQ S W wr) ∧ RowKit.Hid (wr.heap[bx]? = some (.cells #[.int .i64 k, .int .i64 m, .string bs, .slice a L c] 24 (0, 0)))) (fun i _ => L - (intOf i).toNat)
      case atStart => exact ⟨0, by omega, rfl, HJ3, HK3, HX3⟩
      case round =>
        obtain ⟨q, hq, rfl, HJr, HKr, HXr⟩ := hrel
        obtain ⟨_, _, _, c3⟩ := box_cells HXr.out
        by_cases hqL : q < L
        · have hx : l[q]? = some (l[q]'(by rw [← HL.out]; exact hqL)) := List.getElem?_eq_getElem _
          generalize l[q]'(by rw [← HL.out]; exact hqL) = x at hx
          obtain ⟨b, o, rfl, hSb⟩ := HHA.out (by rw [← HL.out]; omega)
          have hat := (HLL.out b o rfl q x hx).ks (HKr.out.ks) hSb
          have hxm := (HPP.out x (List.mem_of_getElem? hx)).ks HKr.out.ks
          have hpt := parts_take d hx
          have hpx : (pre0 ++ (d, Mv.mk k m s (some ⟨b, o, none⟩) c l) :: partsM (l.take q) d) ++ walkM x (wrap64 (d + 1)) = pre0 ++ (d, Mv.mk k m s (some ⟨b, o, none⟩) c l) :: partsM (l.take (q + 1)) d := by rw [hpt, List.append_assoc, List.cons_append]
          have hpre2 : pre0 ++ (d, Mv.mk k m s (some ⟨b, o, none⟩) c l) :: partsM (l.take (q + 1)) d <+: full := List.IsPrefix.trans (by rw [List.prefix_append_right_inj, List.cons_prefix_cons]; exact ⟨rfl, parts_le l (q + 1) d⟩) HPRE.out
          have hcells : x.cells = [.int .i64 x.k, .int .i64 x.n, .string (strI x.s), .slice x.a x.l.length x.c] := rfl
          rw [hcells] at hat
          obtain ⟨e0, e1, e2, e3⟩ := row_cells hat
          have hHI := HIH.out x (List.mem_of_getElem? hx) (wrap64 (d + 1)) (pre0 ++ (d, Mv.mk k m s (some ⟨b, o, none⟩) c l) :: partsM (l.take q) d)
          rw [hpx, hcells] at hHI
          have HIX := hid (fun bl => hHI (wr.alloc bl) (hxm.ks ((KS.refl S wr).alloc bl)) hpre2 (HAB.out _ _ _ HJr.out (World.grownBy_alloc wr bl none)))
          clear hx hat hxm hpt hpx hpre2 hcells hHI
          generalize x.k = xk at *
          generalize x.n = xn at *
          generalize strI x.s = xs at *
          generalize x.l.length = xl at *
          generalize x.a = xa at *
          generalize x.c = xc at *
          gi_wp2_with fail
          refine ⟨trivial, (fun h => by cases h), (callsIn_wide.2 (callsIn_wide.1 (HIX.out (.cells #[.int .i64 xk, .int .i64 xn, .string xs, .slice xa xl xc] 24)))).mono ?_⟩
          rintro e W5 (⟨rfl, hJ5, hk5⟩ | ⟨rfl, hJx5⟩)
          · have HJ5 := hid hJ5
            have hk5' := HKr.out.t ((KQ.below ((Below.refl _ wr).alloc (Nat.le_refl _) _)).t hk5)
            have HK5 := hid hk5'
            have HX5 := hid (hk5 _ _ _ _ (.inr rfl) ((Below.heap_alloc wr _ bx (lt_of_heap HXr.out)).trans HXr.out))
            clear hJ5 hk5 hk5' e0 e1 e2 e3 c3
            gi_wp2
            go_roundw
            case rel => exact ⟨q + 1, by omega, by go_num, HJ5, HK5, HX5⟩
            case measure => simp [intOf]; omega
          · have HJ5 := hid hJx5
            clear hJx5 e0 e1 e2 e3 c3
            gi_wp2
            go_ret
            exact .inr ⟨rfl, HJ5.out⟩
        · obtain rfl : q = L := by omega
          have hall : l.take q = l := List.take_of_length_le (by rw [HL.out]; exact Nat.le_refl _)
          rw [hall] at HJr
          clear hall
          gi_wp2
          go_ret
          exact .inl ⟨rfl, HJr.out, HKr.out⟩
    · have J3 := hid hJx3
      clear hJx3
      gi_wp2
      go_ret
      exact .inr ⟨rfl, _, HP1.out, J3.out⟩
end Go.Proofs.Ytplckmoeaeabgaa
