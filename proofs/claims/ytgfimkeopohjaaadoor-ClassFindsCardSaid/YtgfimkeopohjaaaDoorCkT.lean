/- CkB CkC CkM CkT in one -/
import Derived.Test.YtgfimkeopohjaaaDoorCkA
import Derived.Test.YtgfimkeopohjaaaDoorCdQ
import Derived.Great.BuildSlice
namespace Go.Proofs.YtgfimkeopohjaaaDoor
open Go Go.ChangeShapes Go.WideShapes Go.ChangeAt Go.RowKit

/-- What holds of an Op. -/
structure Rw where
  op : Int
  a : Int
  b : Int
  takes : Int
  lays : Int
def rwc (r : Rw) : List Value := [.int .i64 r.op, .int .i64 r.a, .int .i64 r.b, .int .i64 r.takes, .int .i64 r.lays]
def rwA (r : Rw) : Array Value := (rwc r).toArray
def RwB (W : World) (b : Nat) (r : Rw) : Prop := W.heap[b]? = some (.cells (rwA r) 107 (0, 0))
section
variable {W : World} {b : Nat} {r : Rw}
theorem RwB.c0 (h : RwB W b r) : W.cell? ⟨b, 0, none⟩ = some (.int .i64 r.op) := by unfold RwB at h; simp [World.cell?, h, rwA, rwc]
theorem RwB.c1 (h : RwB W b r) : W.cell? ⟨b, 1, none⟩ = some (.int .i64 r.a) := by unfold RwB at h; simp [World.cell?, h, rwA, rwc]
theorem RwB.c2 (h : RwB W b r) : W.cell? ⟨b, 2, none⟩ = some (.int .i64 r.b) := by unfold RwB at h; simp [World.cell?, h, rwA, rwc]
theorem RwB.c3 (h : RwB W b r) : W.cell? ⟨b, 3, none⟩ = some (.int .i64 r.takes) := by unfold RwB at h; simp [World.cell?, h, rwA, rwc]
theorem RwB.c4 (h : RwB W b r) : W.cell? ⟨b, 4, none⟩ = some (.int .i64 r.lays) := by unfold RwB at h; simp [World.cell?, h, rwA, rwc]
end
/-- A step: the height ahead, the one behind, why it is wrong. -/
def stA (h b e : Int) : Array Value := #[.int .i64 h, .int .i64 b, .int .i64 e]
theorem stA_one (h b e : Int) : (stA h b e).all (·.oneCell') = true := by simp [stA, Value.oneCell']
theorem heap_st {W : World} {q : Nat} {h b e0 : Int} (hq : W.heap[q]? = some (.cells (stA h b e0) 94 (0, 0))) (e : Int) : (W.setCell ⟨q, 2, none⟩ (.int .i64 e)).heap[q]? = some (.cells (stA h b e) 94 (0, 0)) := by
  rw [heap_setCell_same W q 2 _ _ _ hq]
  rfl
def whyP (r : Rw) (x : Ins) (s : Int) (one : Bool) (h rest : Int) : Int :=
  if opP r.a x.a s = false ∨ opP r.b x.b s = false then 5
  else if one = false ∨ h < r.takes ∨ (x.op = 11 ∧ h ≠ 1) then 5
  else if 8 < h - r.takes + r.lays then 16
  else if x.op ≠ 11 ∧ rest ≤ passP x then 5 else 0
set_option maxRecDepth 100000 in
set_option maxHeartbeats 4000000 in
theorem stepOf_any (r : Rw) (x : Ins) (s rest : Int) (m : Nat) (hm : m < 512) (w : World) (hT : TabB w) (ha : r.a = 0 ∨ r.a = 1 ∨ r.a = 2 ∨ r.a = 3 ∨ r.a = 4) (hb : r.b = 0 ∨ r.b = 1 ∨ r.b = 2 ∨ r.b = 3 ∨ r.b = 4) (ht : 0 ≤ r.takes ∧ r.takes ≤ 2) (hl : 0 ≤ r.lays ∧ r.lays ≤ 1) :
    Calls Tryd.prog 55 #[.agg (rwA r), .agg (insA x), .int .i64 s, .int .u16 m, .int .i64 rest] w fun e w' =>
      e = .returned (.agg (stA (onlyP m).1 ((onlyP m).1 - r.takes + r.lays) (whyP r x s (onlyP m).2 (onlyP m).1 rest))) ∧ Below w.heap.size w w' := by
  obtain ⟨w1, hw1⟩ : ∃ w1, w1 = ((w.alloc (.cells (rwA r) 107)).alloc (.cells (insA x) 61)).alloc (.cells (stA 0 0 0) 94) := ⟨_, rfl⟩
  have hr1 : RwB w1 w.heap.size r := by rw [hw1]; exact (heap_alloc_old _ _ _ (by simp; omega)).trans (heap_alloc2_old _ _ _)
  have hx1 : InI w1 (w.heap.size + 1) x := by rw [hw1]; exact (heap_alloc_old _ _ _ (by simp)).trans (heap_alloc2_new _ _ _)
  have hz1 : w1.heap[w.heap.size + 1 + 1]? = some (.cells (stA 0 0 0) 94 (0, 0)) := by rw [hw1]; simpa using World.alloc_heap_new ((w.alloc (.cells (rwA r) 107)).alloc (.cells (insA x) 61)) (.cells (stA 0 0 0) 94)
  have hs1 : w1.heap.size = w.heap.size + 1 + 1 + 1 := by rw [hw1]; simp
  have hB : Below w.heap.size w w1 := by rw [hw1]; exact (((Below.refl _ _).alloc (Nat.le_refl _) _).alloc (by simp) _).alloc (by simp; omega) _
  have HO := hid (fun W (hb : Below w.heap.size w W) => only_any m hm W (hT.on hb))
  have HA := hid (operand_any r.a x.a s · ha)
  have HBo := hid (operand_any r.b x.b s · hb)
  have hj : 0 ≤ (onlyP m).1 ∧ (onlyP m).1 ≤ 8 := by
    unfold onlyP
    split
    · rename_i h1
      have := (low_of_one ⟨m, hm⟩ h1).2.1
      dsimp only at this ⊢
      omega
    · simp
  have HX := hid hx1
  have HZ := hid hz1
  have HR := hid hr1
  have HB := hid hB
  have HW := hid hw1
  have HS := hid hs1
  clear hw1 hr1 hx1 hz1 hs1 hB ha hb hm hT
  unfold onlyV at HO
  generalize onlyP m = om at *
  obtain ⟨h, one⟩ := om
  obtain ⟨rop, ra, rb, rt, rl⟩ := r
  obtain ⟨xop, xa, xb⟩ := x
  simp only at *
  have wr1 : IntKind.i64.wrap (h - rt) = h - rt := IntWalk.i64_in _ (by omega)
  have wr2 : IntKind.i64.wrap (h - rt + rl) = h - rt + rl := IntWalk.i64_in _ (by omega)
  clear hj ht hl
  have HWY := hid (show whyP ⟨rop, ra, rb, rt, rl⟩ ⟨xop, xa, xb⟩ s one h rest = if opP ra xa s = false ∨ opP rb xb s = false then 5 else if one = false ∨ h < rt ∨ (xop = 11 ∧ h ≠ 1) then 5 else if 8 < h - rt + rl then 16 else if xop ≠ 11 ∧ rest ≤ passP ⟨xop, xa, xb⟩ then 5 else 0 from rfl)
  obtain ⟨why, hwhy⟩ : ∃ v, v = whyP ⟨rop, ra, rb, rt, rl⟩ ⟨xop, xa, xb⟩ s one h rest := ⟨_, rfl⟩
  rw [← hwhy] at HWY ⊢
  have hpa := passed_any ⟨xop, xa, xb⟩
  have HPA := hid hpa
  clear hwhy hpa
  obtain ⟨pa, hpa⟩ : ∃ v, v = opP ra xa s := ⟨_, rfl⟩
  obtain ⟨pb, hpb⟩ : ∃ v, v = opP rb xb s := ⟨_, rfl⟩
  obtain ⟨pp, hpp⟩ : ∃ v, v = passP ⟨xop, xa, xb⟩ := ⟨_, rfl⟩
  obtain ⟨bh, hbh⟩ : ∃ v, v = h - rt + rl := ⟨_, rfl⟩
  rw [← hpa, ← hpb, ← hpp, ← hbh] at HWY
  rw [← hpa] at HA
  rw [← hpb] at HBo
  rw [← hpp] at HPA
  rw [← hbh] at wr2 ⊢
  have wr3 : IntKind.i64.wrap (h - rt + rl) = bh := by rw [hbh]; rw [← hbh]; exact wr2
  clear hpa hpb hpp hbh wr2
  go_enter Tryd.func55, Tryd.ntmps55
  go_upto_region 1 with (fail)
  change Code.wp _ _ _ _ (((w.alloc (.cells (rwA ⟨rop, ra, rb, rt, rl⟩) 107)).alloc (.cells (insA ⟨xop, xa, xb⟩) 61)).alloc (.cells (stA 0 0 0) 94))
  rw [← HW.out]
  clear HW
  go_wp2_with fail
  refine (HO.out _ HB.out).mono ?_
  rintro e w2 ⟨rfl, hb2⟩
  have hr2 : RwB w2 w.heap.size _ := (hb2.block _ (by rw [HS.out]; omega)).trans HR.out
  have hx2 : InI w2 (w.heap.size + 1) _ := (hb2.block _ (by rw [HS.out]; omega)).trans HX.out
  have hz2 := (hb2.block _ (by rw [HS.out]; omega)).trans HZ.out
  have hs2 : w.heap.size + 1 + 1 < w2.heap.size := by have := hb2.size; rw [HS.out] at this; omega
  have HB2 := hid (HB.out.trans (hb2.mono HB.out.size))
  have HR2 := hid hr2
  have HX2 := hid hx2
  have HZ2 := hid hz2
  have HS2 := hid hs2
  have r3 := hr2.c3
  have r4 := hr2.c4
  clear hb2 hr2 hx2 hz2 hs2 HO HB HR HX HZ HS
  go_upto_region 3 with (fail)
  change Code.wp _ _ _ _ (w2.alloc (.cells (stA h (bh) 0) 94))
  obtain ⟨w3, hw3⟩ : ∃ w3, w3 = w2.alloc (.cells (stA h (bh) 0) 94) := ⟨_, rfl⟩
  rw [← hw3]
  clear r3 r4 wr1 wr3
  have hb3 : Below w2.heap.size w2 w3 := by rw [hw3]; exact (Below.refl _ _).alloc (Nat.le_refl _) _
  have hr3 : RwB w3 w.heap.size _ := (hb3.block _ (by have := HS2.out; omega)).trans HR2.out
  have hx3 : InI w3 (w.heap.size + 1) _ := (hb3.block _ (by have := HS2.out; omega)).trans HX2.out
  have hz3 := (hb3.block _ HS2.out).trans HZ2.out
  have hq3 : w3.heap[w2.heap.size]? = some (.cells (stA h (bh) 0) 94 (0, 0)) := by rw [hw3]; exact heap_alloc_new _ _
  obtain ⟨q, hq⟩ : ∃ q, q = w2.heap.size := ⟨_, rfl⟩
  rw [← hq] at hq3 ⊢
  have hqn : w.heap.size + 1 + 1 < q := by rw [hq]; exact HS2.out
  have HB3 := hid (HB2.out.trans (hb3.mono HB2.out.size))
  clear hw3 HR2 HX2 HZ2 HB2 HS2 hb3 hq
  obtain ⟨n0, hn0⟩ : ∃ n0, n0 = w.heap.size + 1 + 1 := ⟨_, rfl⟩
  have hn1 : w.heap.size ≤ n0 := by omega
  rw [← hn0] at hqn hz3
  have r1 := hr3.c1
  have r2 := hr3.c2
  have r3 := hr3.c3
  have x0 := hx3.c0
  have x1 := hx3.c1
  have x2 := hx3.c2
  have s1 : w3.cell? ⟨q, 1, none⟩ = some (.int .i64 (bh)) := by simp [World.cell?, hq3, stA]
  have s2 : w3.cell? ⟨q, 2, none⟩ = some (.int .i64 0) := by simp [World.cell?, hq3, stA]
  have f2 : w3.frozen? ⟨q, 2, none⟩ = false := by simp [World.frozen?, hq3]
  have HAT : RowKit.Hid (AtL w3 (w.heap.size + 1) 0 (insc ⟨xop, xa, xb⟩)) := hid (fun j u hu => by
    match j, hu with
    | 0, hu => cases hu; exact x0
    | 1, hu => cases hu; exact x1
    | 2, hu => cases hu; exact x2)
  have HQE := hid (fun e => heap_st hq3 e)
  have HZE := hid (fun e => (Below.heap_setCell w3 ⟨q, 2, none⟩ (.int .i64 e) n0 (by show n0 ≠ q; omega)).trans hz3)
  have HBE := hid (fun e => HB3.out.setCell (p := ⟨q, 2, none⟩) (by show w.heap.size ≤ q; omega) (.int .i64 e))
  have HNQ := hid (show n0 ≠ q by omega)
  have HNR := hid (show w.heap.size ≤ q by omega)
  have HQ3 := hid hq3
  have HZ3 := hid hz3
  have HN0 := hid hn0
  have HN1 := hid hn1
  simp only at x0 x1 x2 r1 r2 r3
  clear hr3 hx3 hq3 hz3 hqn hn1
  cases pa with
  | false =>
    go_wp2_with fail
    refine (HA.out _).mono ?_
    rintro e w4 ⟨rfl, rfl⟩
    go_wp2_with (first | ((with_reducible refine at_op ⟨some 75, _, _, _, _, _⟩ ?_); refine wpList_load_row rfl 94 _ rfl q rfl 94 (stA h bh 5) (0, 0) _ (HQE.out 5) Tryd.underlying94 rfl rfl ?_) | ((with_reducible refine at_op ⟨none, .store 94 (.tmp 10) (.tmp 75), _, _, _, _⟩ ?_); refine wpList_store_row rfl 94 _ _ rfl n0 (stA h bh 5) (by rw [HN0.out]; rfl) rfl 94 (stA 0 0 0) (HZE.out 5) rfl rfl (stA_one _ _ _) ?_))
    refine cells_ret (r := 10) (T := 94) (g := n0) rfl (by rw [HN0.out]; rfl) rfl (run_loadVar_row (P := Tryd.prog) _ _ _ 94 _ (0, 0) _ (setRow_heap _ _ _ _ _ _ (HZE.out 5)) Tryd.underlying94 rfl rfl) ⟨?_, below_setRow (HBE.out 5) _ _ HN1.out⟩
    have hwy : why = 5 := by rw [HWY.out]; simp
    rw [hwy]
  | true =>
  go_wp2_with fail
  refine (HA.out _).mono ?_
  rintro e w4 ⟨rfl, rfl⟩
  clear HA
  cases pb with
  | false =>
    go_wp2_with fail
    refine (HBo.out _).mono ?_
    rintro e w4 ⟨rfl, rfl⟩
    go_wp2_with (first | ((with_reducible refine at_op ⟨some 75, _, _, _, _, _⟩ ?_); refine wpList_load_row rfl 94 _ rfl q rfl 94 (stA h bh 5) (0, 0) _ (HQE.out 5) Tryd.underlying94 rfl rfl ?_) | ((with_reducible refine at_op ⟨none, .store 94 (.tmp 10) (.tmp 75), _, _, _, _⟩ ?_); refine wpList_store_row rfl 94 _ _ rfl n0 (stA h bh 5) (by rw [HN0.out]; rfl) rfl 94 (stA 0 0 0) (HZE.out 5) rfl rfl (stA_one _ _ _) ?_))
    refine cells_ret (r := 10) (T := 94) (g := n0) rfl (by rw [HN0.out]; rfl) rfl (run_loadVar_row (P := Tryd.prog) _ _ _ 94 _ (0, 0) _ (setRow_heap _ _ _ _ _ _ (HZE.out 5)) Tryd.underlying94 rfl rfl) ⟨?_, below_setRow (HBE.out 5) _ _ HN1.out⟩
    have hwy : why = 5 := by rw [HWY.out]; simp
    rw [hwy]
  | true =>
  rw [if_neg (by simp)] at HWY
  go_wp2_with fail
  refine (HBo.out _).mono ?_
  rintro e w4 ⟨rfl, rfl⟩
  clear HBo
  cases one with
  | false =>
    go_wp2_with (first | ((with_reducible refine at_op ⟨some 75, _, _, _, _, _⟩ ?_); refine wpList_load_row rfl 94 _ rfl q rfl 94 (stA h bh 5) (0, 0) _ (HQE.out 5) Tryd.underlying94 rfl rfl ?_) | ((with_reducible refine at_op ⟨none, .store 94 (.tmp 10) (.tmp 75), _, _, _, _⟩ ?_); refine wpList_store_row rfl 94 _ _ rfl n0 (stA h bh 5) (by rw [HN0.out]; rfl) rfl 94 (stA 0 0 0) (HZE.out 5) rfl rfl (stA_one _ _ _) ?_))
    refine cells_ret (r := 10) (T := 94) (g := n0) rfl (by rw [HN0.out]; rfl) rfl (run_loadVar_row (P := Tryd.prog) _ _ _ 94 _ (0, 0) _ (setRow_heap _ _ _ _ _ _ (HZE.out 5)) Tryd.underlying94 rfl rfl) ⟨?_, below_setRow (HBE.out 5) _ _ HN1.out⟩
    have hwy : why = 5 := by rw [HWY.out]; simp
    rw [hwy]
  | true =>
  by_cases h1 : h < rt
  · have d1 : decide (h < rt) = true := decide_eq_true h1
    rw [if_pos (.inr (.inl h1))] at HWY
    clear h1
    go_wp2_with (first | ((with_reducible refine at_op ⟨some 75, _, _, _, _, _⟩ ?_); refine wpList_load_row rfl 94 _ rfl q rfl 94 (stA h bh 5) (0, 0) _ (HQE.out 5) Tryd.underlying94 rfl rfl ?_) | ((with_reducible refine at_op ⟨none, .store 94 (.tmp 10) (.tmp 75), _, _, _, _⟩ ?_); refine wpList_store_row rfl 94 _ _ rfl n0 (stA h bh 5) (by rw [HN0.out]; rfl) rfl 94 (stA 0 0 0) (HZE.out 5) rfl rfl (stA_one _ _ _) ?_))
    refine cells_ret (r := 10) (T := 94) (g := n0) rfl (by rw [HN0.out]; rfl) rfl (run_loadVar_row (P := Tryd.prog) _ _ _ 94 _ (0, 0) _ (setRow_heap _ _ _ _ _ _ (HZE.out 5)) Tryd.underlying94 rfl rfl) ⟨?_, below_setRow (HBE.out 5) _ _ HN1.out⟩
    have hwy : why = 5 := by rw [HWY.out]
    rw [hwy]
  have d1 : decide (h < rt) = false := decide_eq_false h1
  by_cases h2 : xop = 11
  · subst h2
    by_cases h3 : h = 1
    · subst h3
      rw [if_neg (by simp; omega)] at HWY
      clear h1
      by_cases h4 : 8 < bh
      · have d4 : decide (8 < bh) = true := decide_eq_true h4
        rw [if_pos h4] at HWY
        clear h4
        go_wp2_with (first | ((with_reducible refine at_op ⟨some 75, _, _, _, _, _⟩ ?_); refine wpList_load_row rfl 94 _ rfl q rfl 94 (stA 1 bh 16) (0, 0) _ (HQE.out 16) Tryd.underlying94 rfl rfl ?_) | ((with_reducible refine at_op ⟨none, .store 94 (.tmp 10) (.tmp 75), _, _, _, _⟩ ?_); refine wpList_store_row rfl 94 _ _ rfl n0 (stA 1 bh 16) (by rw [HN0.out]; rfl) rfl 94 (stA 0 0 0) (HZE.out 16) rfl rfl (stA_one _ _ _) ?_))
        refine cells_ret (r := 10) (T := 94) (g := n0) rfl (by rw [HN0.out]; rfl) rfl (run_loadVar_row (P := Tryd.prog) _ _ _ 94 _ (0, 0) _ (setRow_heap _ _ _ _ _ _ (HZE.out 16)) Tryd.underlying94 rfl rfl) ⟨?_, below_setRow (HBE.out 16) _ _ HN1.out⟩
        have hwy : why = 16 := by rw [HWY.out]
        rw [hwy]
      · have d4 : decide (8 < bh) = false := decide_eq_false h4
        rw [if_neg h4, if_neg (by simp)] at HWY
        clear h4
        go_wp2_with (first | ((with_reducible refine at_op ⟨some 75, _, _, _, _, _⟩ ?_); refine wpList_load_row rfl 94 _ rfl q rfl 94 (stA 1 bh 0) (0, 0) _ HQ3.out Tryd.underlying94 rfl rfl ?_) | ((with_reducible refine at_op ⟨none, .store 94 (.tmp 10) (.tmp 75), _, _, _, _⟩ ?_); refine wpList_store_row rfl 94 _ _ rfl n0 (stA 1 bh 0) (by rw [HN0.out]; rfl) rfl 94 (stA 0 0 0) HZ3.out rfl rfl (stA_one _ _ _) ?_))
        refine cells_ret (r := 10) (T := 94) (g := n0) rfl (by rw [HN0.out]; rfl) rfl (run_loadVar_row (P := Tryd.prog) _ _ _ 94 _ (0, 0) _ (setRow_heap _ _ _ _ _ _ HZ3.out) Tryd.underlying94 rfl rfl) ⟨?_, below_setRow HB3.out _ _ HN1.out⟩
        have hwy : why = 0 := by rw [HWY.out]
        rw [hwy]
    · have d3 : (h != 1) = true := by simpa using h3
      rw [if_pos (.inr (.inr ⟨rfl, h3⟩))] at HWY
      clear h1 h3
      go_wp2_with (first | ((with_reducible refine at_op ⟨some 75, _, _, _, _, _⟩ ?_); refine wpList_load_row rfl 94 _ rfl q rfl 94 (stA h bh 5) (0, 0) _ (HQE.out 5) Tryd.underlying94 rfl rfl ?_) | ((with_reducible refine at_op ⟨none, .store 94 (.tmp 10) (.tmp 75), _, _, _, _⟩ ?_); refine wpList_store_row rfl 94 _ _ rfl n0 (stA h bh 5) (by rw [HN0.out]; rfl) rfl 94 (stA 0 0 0) (HZE.out 5) rfl rfl (stA_one _ _ _) ?_))
      refine cells_ret (r := 10) (T := 94) (g := n0) rfl (by rw [HN0.out]; rfl) rfl (run_loadVar_row (P := Tryd.prog) _ _ _ 94 _ (0, 0) _ (setRow_heap _ _ _ _ _ _ (HZE.out 5)) Tryd.underlying94 rfl rfl) ⟨?_, below_setRow (HBE.out 5) _ _ HN1.out⟩
      have hwy : why = 5 := by rw [HWY.out]
      rw [hwy]
  have d2 : (xop == 11) = false := by simpa using h2
  have d2b : (xop != 11) = true := by simpa using h2
  rw [if_neg (by simp [h1, h2])] at HWY
  by_cases h4 : 8 < bh
  · have d4 : decide (8 < bh) = true := decide_eq_true h4
    rw [if_pos h4] at HWY
    clear h1 h2 h4
    go_wp2_with (first | ((with_reducible refine at_op ⟨some 75, _, _, _, _, _⟩ ?_); refine wpList_load_row rfl 94 _ rfl q rfl 94 (stA h bh 16) (0, 0) _ (HQE.out 16) Tryd.underlying94 rfl rfl ?_) | ((with_reducible refine at_op ⟨none, .store 94 (.tmp 10) (.tmp 75), _, _, _, _⟩ ?_); refine wpList_store_row rfl 94 _ _ rfl n0 (stA h bh 16) (by rw [HN0.out]; rfl) rfl 94 (stA 0 0 0) (HZE.out 16) rfl rfl (stA_one _ _ _) ?_))
    refine cells_ret (r := 10) (T := 94) (g := n0) rfl (by rw [HN0.out]; rfl) rfl (run_loadVar_row (P := Tryd.prog) _ _ _ 94 _ (0, 0) _ (setRow_heap _ _ _ _ _ _ (HZE.out 16)) Tryd.underlying94 rfl rfl) ⟨?_, below_setRow (HBE.out 16) _ _ HN1.out⟩
    have hwy : why = 16 := by rw [HWY.out]
    rw [hwy]
  have d4 : decide (8 < bh) = false := decide_eq_false h4
  rw [if_neg h4] at HWY
  clear h1 h4
  by_cases h5 : rest ≤ pp
  · have d5 : decide (rest ≤ pp) = true := decide_eq_true h5
    rw [if_pos ⟨h2, h5⟩] at HWY
    clear h2 h5
    go_wp2_with (first | ((with_reducible refine at_op ⟨some 69, _, _, _, _, _⟩ ?_); refine wpList_runW rfl (.agg (insA ⟨xop, xa, xb⟩)) (load_ia rfl rfl HAT.out) ?_) | fail)
    refine (HPA.out _).mono ?_
    rintro e w4 ⟨rfl, hb4⟩
    have HQ4 := hid ((hb4.block q (Array.getElem?_eq_some_iff.1 HQ3.out).1).trans HQ3.out)
    have HZ4 := hid ((hb4.block n0 (Array.getElem?_eq_some_iff.1 HZ3.out).1).trans HZ3.out)
    have HB4 := hid (HB3.out.trans (hb4.mono HB3.out.size))
    have hq4 := HQ4.out
    have s2b : w4.cell? ⟨q, 2, none⟩ = some (.int .i64 0) := by simp [World.cell?, hq4, stA]
    have f2b : w4.frozen? ⟨q, 2, none⟩ = false := by simp [World.frozen?, hq4]
    have HQ4E := hid (fun e => heap_st hq4 e)
    have HZ4E := hid (fun e => (Below.heap_setCell w4 ⟨q, 2, none⟩ (.int .i64 e) n0 (by show n0 ≠ q; exact HNQ.out)).trans HZ4.out)
    have HB4E := hid (fun e => HB4.out.setCell (p := ⟨q, 2, none⟩) (by show w.heap.size ≤ q; exact HNR.out) (.int .i64 e))
    clear hb4 hq4 HPA s2 f2 x0 x1 x2 r1 r2 r3 s1 HQE HZE HBE
    go_wp2_with (first | ((with_reducible refine at_op ⟨some 75, _, _, _, _, _⟩ ?_); refine wpList_load_row rfl 94 _ rfl q rfl 94 (stA h bh 5) (0, 0) _ (HQ4E.out 5) Tryd.underlying94 rfl rfl ?_) | ((with_reducible refine at_op ⟨none, .store 94 (.tmp 10) (.tmp 75), _, _, _, _⟩ ?_); refine wpList_store_row rfl 94 _ _ rfl n0 (stA h bh 5) (by rw [HN0.out]; rfl) rfl 94 (stA 0 0 0) (HZ4E.out 5) rfl rfl (stA_one _ _ _) ?_))
    refine cells_ret (r := 10) (T := 94) (g := n0) rfl (by rw [HN0.out]; rfl) rfl (run_loadVar_row (P := Tryd.prog) _ _ _ 94 _ (0, 0) _ (setRow_heap _ _ _ _ _ _ (HZ4E.out 5)) Tryd.underlying94 rfl rfl) ⟨?_, below_setRow (HB4E.out 5) _ _ HN1.out⟩
    have hwy : why = 5 := by rw [HWY.out]
    rw [hwy]
  · have d5 : decide (rest ≤ pp) = false := decide_eq_false h5
    rw [if_neg (fun hh => h5 hh.2)] at HWY
    clear h2 h5
    go_wp2_with (first | ((with_reducible refine at_op ⟨some 69, _, _, _, _, _⟩ ?_); refine wpList_runW rfl (.agg (insA ⟨xop, xa, xb⟩)) (load_ia rfl rfl HAT.out) ?_) | fail)
    refine (HPA.out _).mono ?_
    rintro e w4 ⟨rfl, hb4⟩
    have HQ4 := hid ((hb4.block q (Array.getElem?_eq_some_iff.1 HQ3.out).1).trans HQ3.out)
    have HZ4 := hid ((hb4.block n0 (Array.getElem?_eq_some_iff.1 HZ3.out).1).trans HZ3.out)
    have HB4 := hid (HB3.out.trans (hb4.mono HB3.out.size))
    have hq4 := HQ4.out
    have s2b : w4.cell? ⟨q, 2, none⟩ = some (.int .i64 0) := by simp [World.cell?, hq4, stA]
    have f2b : w4.frozen? ⟨q, 2, none⟩ = false := by simp [World.frozen?, hq4]
    have HQ4E := hid (fun e => heap_st hq4 e)
    have HZ4E := hid (fun e => (Below.heap_setCell w4 ⟨q, 2, none⟩ (.int .i64 e) n0 (by show n0 ≠ q; exact HNQ.out)).trans HZ4.out)
    have HB4E := hid (fun e => HB4.out.setCell (p := ⟨q, 2, none⟩) (by show w.heap.size ≤ q; exact HNR.out) (.int .i64 e))
    clear hb4 hq4 HPA s2 f2 x0 x1 x2 r1 r2 r3 s1 HQE HZE HBE
    go_wp2_with (first | ((with_reducible refine at_op ⟨some 75, _, _, _, _, _⟩ ?_); refine wpList_load_row rfl 94 _ rfl q rfl 94 (stA h bh 0) (0, 0) _ HQ4.out Tryd.underlying94 rfl rfl ?_) | ((with_reducible refine at_op ⟨none, .store 94 (.tmp 10) (.tmp 75), _, _, _, _⟩ ?_); refine wpList_store_row rfl 94 _ _ rfl n0 (stA h bh 0) (by rw [HN0.out]; rfl) rfl 94 (stA 0 0 0) HZ4.out rfl rfl (stA_one _ _ _) ?_))
    refine cells_ret (r := 10) (T := 94) (g := n0) rfl (by rw [HN0.out]; rfl) rfl (run_loadVar_row (P := Tryd.prog) _ _ _ 94 _ (0, 0) _ (setRow_heap _ _ _ _ _ _ HZ4.out) Tryd.underlying94 rfl rfl) ⟨?_, below_setRow HB4.out _ _ HN1.out⟩
    have hwy : why = 0 := by rw [HWY.out]
    rw [hwy]
end Go.Proofs.YtgfimkeopohjaaaDoor

namespace Go.Proofs.YtgfimkeopohjaaaDoor
open Go Go.ChangeShapes Go.WideShapes Go.ChangeAt Go.RowKit

def rowL : List Rw := [⟨1, 1, 0, 0, 1⟩, ⟨2, 0, 0, 0, 1⟩, ⟨3, 0, 0, 0, 1⟩, ⟨4, 0, 0, 1, 0⟩, ⟨5, 0, 0, 2, 1⟩, ⟨6, 0, 0, 1, 1⟩, ⟨7, 2, 0, 1, 0⟩, ⟨8, 3, 4, 1, 1⟩, ⟨9, 3, 0, 0, 0⟩, ⟨10, 3, 0, 0, 0⟩, ⟨11, 0, 0, 1, 0⟩]
def rowsA : Array Value := (rowL.flatMap rwc).toArray
def zerosA : Array Value := (List.replicate 55 (Value.int .i64 0)).toArray
theorem rows_one : rowsA.all (·.oneCell') = true := by decide +kernel
theorem rows_size : (Tryd.prog.info? 108).map (·.size) = some rowsA.size := by kernel_rfl
theorem zeros_size : zerosA.size = rowsA.size := by decide +kernel
set_option maxRecDepth 100000 in
set_option maxHeartbeats 4000000 in
theorem rows_any (w : World) : Calls Tryd.prog 54 #[] w fun e w' => e = .returned (.agg rowsA) ∧ Below w.heap.size w w' := by
  have hz : (w.alloc (.cells zerosA 108)).heap[w.heap.size]? = some (.cells zerosA 108 (0, 0)) := heap_alloc_new _ _
  obtain ⟨w1, hw1⟩ : ∃ w1, w1 = w.alloc (.cells zerosA 108) := ⟨_, rfl⟩
  rw [← hw1] at hz
  have HB := hid (show Below w.heap.size w w1 by rw [hw1]; exact (Below.refl _ _).alloc (Nat.le_refl _) _)
  have HZ := hid hz
  have HW := hid hw1
  clear hz hw1
  go_enter Tryd.func54, Tryd.ntmps54
  go_upto_region 1 with (fail)
  change Code.wp _ _ _ _ (w.alloc (.cells zerosA 108))
  rw [← HW.out]
  go_wp2_with (first
    | ((with_reducible refine at_op ⟨some 12, _, _, _, _, _⟩ ?_); refine wpList_buildTo rfl 108 _ rfl (some 12) rfl rowsA (by kernel_rfl) ?_)
    | ((with_reducible refine at_op ⟨none, .store 108 (.tmp 0) (.tmp 12), _, _, _, _⟩ ?_); refine wpList_store_rowTo rfl 108 _ _ rfl rfl w.heap.size rowsA rfl rfl 108 zerosA HZ.out rows_size zeros_size rows_one ?_))
  refine cells_ret (r := 0) (T := 108) (g := w.heap.size) rfl rfl rfl (run_loadVar_row (P := Tryd.prog) _ _ _ 108 _ (0, 0) _ (setRow_heap _ _ _ _ _ _ HZ.out) Tryd.underlying108 rfl rows_size) ⟨rfl, below_setRow HB.out _ _ (Nat.le_refl _)⟩
def nextP (i : Int) (x : Ins) : List Int := if x.op = 11 then [] else if x.op = 7 then [i + 1, i + 1 + x.a] else [i + 1]
theorem ei_new {w w1 : World} (hB : Below w.heap.size w w1) (xs : List Int) (n : Nat) (hn : n = xs.length) (hm : n ≤ 100) : EI w (w1.alloc (.cells (i64l xs).toArray 3)) (.slice (some ⟨w1.heap.size, 0, none⟩) n n) n xs := by
  refine ⟨?_, hB.alloc hB.size _, hn⟩
  subst hn
  exact ⟨by simp [i64l_len], .inr ⟨w1.heap.size, xs.length, (i64l xs).toArray, rfl, hB.size, heap_alloc_new w1 _, Nat.le_refl _, by unfold maxLen; omega, by simp [i64l_len], by simp; exact List.take_of_length_le (by rw [i64l_len]; omega)⟩⟩
def NextP (w : World) (xs : List Int) (e : Ending) (w' : World) : Prop := ∃ a c, e = .returned (.slice a xs.length c) ∧ EI w w' (.slice a xs.length c) xs.length xs
set_option maxRecDepth 100000 in
set_option maxHeartbeats 4000000 in
theorem next_any (i : Int) (x : Ins) (w : World) (hi : 0 ≤ i ∧ i ≤ 1000) (hx : x.op = 7 → 1 ≤ x.a ∧ x.a ≤ 1000) : Calls Tryd.prog 56 #[.int .i64 i, .agg (insA x)] w (NextP w (nextP i x)) := by
  obtain ⟨w1, hw1⟩ : ∃ w1, w1 = w.alloc (.cells (insA x) 61) := ⟨_, rfl⟩
  have ho : InI w1 w.heap.size x := by rw [hw1]; exact heap_alloc_new _ _
  have hB : Below w.heap.size w w1 := by rw [hw1]; exact (Below.refl _ _).alloc (Nat.le_refl _) _
  have hs1 : w1.heap.size = w.heap.size + 1 := by rw [hw1]; simp
  have c0 := ho.c0
  have c1 := ho.c1
  have HB := hid hB
  have HW := hid hw1
  have HS := hid hs1
  have HI := hid hi
  obtain ⟨op, a, b⟩ := x
  simp only at c0 c1 hx
  clear hw1 ho hB hs1
  by_cases h1 : op = 11
  · subst h1
    have hz : nextP i ⟨11, a, b⟩ = [] := rfl
    rw [hz]
    clear hz hx hi
    go_enter Tryd.func56, Tryd.ntmps56
    go_upto_region 1 with (fail)
    change Code.wp _ _ _ _ (w.alloc (.cells (insA ⟨11, a, b⟩) 61))
    rw [← HW.out]
    go_wp2
    go_ret
    exact ⟨none, 0, rfl, World.ownsRow_nil _ _ _ _, HB.out, rfl⟩
  have d1 : (op == 11) = false := by simpa using h1
  by_cases h2 : op = 7
  · subst h2
    have hz : nextP i ⟨7, a, b⟩ = [i + 1, i + 1 + a] := rfl
    rw [hz]
    have ha := hx rfl
    have wr1 : IntKind.i64.wrap (i + 1) = i + 1 := IntWalk.i64_in _ (by omega)
    have wr2 : IntKind.i64.wrap (i + 1 + a) = i + 1 + a := IntWalk.i64_in _ (by omega)
    clear hz h1 hx hi ha
    go_enter Tryd.func56, Tryd.ntmps56
    go_upto_region 1 with (fail)
    change Code.wp _ _ _ _ (w.alloc (.cells (insA ⟨7, a, b⟩) 61))
    rw [← HW.out]
    go_wp2
    go_ret
    refine ⟨some ⟨w1.heap.size, 0, none⟩, 2, rfl, ei_new HB.out [i + 1, i + 1 + a] 2 rfl (by decide)⟩
  · have d2 : (op == 7) = false := by simpa using h2
    have hz : nextP i ⟨op, a, b⟩ = [i + 1] := by unfold nextP; rw [if_neg h1, if_neg h2]
    rw [hz]
    have wr1 : IntKind.i64.wrap (i + 1) = i + 1 := IntWalk.i64_in _ (by omega)
    clear hz h1 h2 hx hi
    go_enter Tryd.func56, Tryd.ntmps56
    go_upto_region 1 with (fail)
    change Code.wp _ _ _ _ (w.alloc (.cells (insA ⟨op, a, b⟩) 61))
    rw [← HW.out]
    go_wp2
    go_ret
    refine ⟨some ⟨w1.heap.size, 0, none⟩, 1, rfl, ei_new HB.out [i + 1] 1 rfl (by decide)⟩
end Go.Proofs.YtgfimkeopohjaaaDoor

namespace Go.Proofs.YtgfimkeopohjaaaDoor
open Go Go.ChangeShapes Go.WideShapes Go.ChangeAt Go.RowKit

/-- The heights met at j, by what is ahead of k. -/
def maskP (ls : List Ins) (s : Int) (h : List Int) (j : Nat) : Nat → Nat
  | 0 => if j = 0 then 1 else 0
  | k + 1 => match ls[k]? with
    | some x => if goesP x k j then maskP ls s h j k ||| 2 ^ (leftP x s (h.getD k 0)).toNat else maskP ls s h j k
    | none => maskP ls s h j k
theorem or_self9 : ∀ a : Fin 9, 2 ^ a.val ||| 2 ^ a.val = 2 ^ a.val := by decide +kernel
theorem or_two : ∀ a b : Fin 9, a ≠ b → 2 ≤ Lib.onesCount (2 ^ a.val ||| 2 ^ b.val) := by decide +kernel
theorem or_more : ∀ k : Fin 9, ∀ m : Fin 512, 2 ≤ Lib.onesCount m.val → 2 ≤ Lib.onesCount (m.val ||| 2 ^ k.val) := by decide +kernel
theorem pow_lt9 : ∀ a : Fin 9, 2 ^ a.val < 512 ∧ Lib.onesCount (2 ^ a.val) = 1 ∧ Nat.log2 (2 ^ a.val) = a.val := by decide +kernel
/-- What a mask says of the one height. -/
def MN (m : Nat) : Option Int → Prop
  | some now => (now = -1 ∧ m = 0) ∨ (0 ≤ now ∧ now ≤ 8 ∧ m = 2 ^ now.toNat)
  | none => 2 ≤ Lib.onesCount m
def nextN (l : Int) : Option Int → Option Int
  | none => none
  | some now => if 0 ≤ now ∧ now ≠ l then none else some l
def onlyN : Option Int → Int × Bool
  | none => (0, false)
  | some now => if 0 ≤ now then (now, true) else (0, false)
theorem MN.or {m : Nat} {o : Option Int} {l : Int} (hm : m < 512) (h : MN m o) (h0 : 0 ≤ l) (h8 : l ≤ 8) :
    m ||| 2 ^ l.toNat < 512 ∧ MN (m ||| 2 ^ l.toNat) (nextN l o) := by
  have hl : l.toNat < 9 := by omega
  refine ⟨or_lt ⟨l.toNat, hl⟩ ⟨m, hm⟩, ?_⟩
  cases o with
  | none => exact or_more ⟨l.toNat, hl⟩ ⟨m, hm⟩ h
  | some now =>
    rcases h with ⟨rfl, rfl⟩ | ⟨h1, h2, rfl⟩
    · rw [nextN, if_neg (by omega)]
      exact .inr ⟨h0, h8, by simp⟩
    · rw [nextN]
      by_cases he : now = l
      · subst he
        rw [if_neg (by omega)]
        exact .inr ⟨h0, h8, or_self9 ⟨now.toNat, hl⟩⟩
      · rw [if_pos ⟨h1, he⟩]
        exact or_two ⟨now.toNat, by omega⟩ ⟨l.toNat, hl⟩ (fun e => he (by have := congrArg Fin.val e; simp only at this; omega))
theorem mask_now {ls : List Ins} {s : Int} {h : List Int} {i : Nat} (hr : runP ls s i = (h, none)) (hi : i ≤ ls.length) (j : Nat) : ∀ k, k ≤ i → maskP ls s h j k < 512 ∧ MN (maskP ls s h j k) (nowP ls s h j k)
  | 0, _ => by
    rw [maskP, nowP]
    by_cases hj : j = 0
    · rw [if_pos hj, if_pos hj]; exact ⟨by decide, .inr ⟨by decide, by decide, by decide⟩⟩
    · rw [if_neg hj, if_neg hj]; exact ⟨by decide, .inl ⟨rfl, rfl⟩⟩
  | k + 1, hk => by
    obtain ⟨h1, h2⟩ := mask_now hr hi j k (by omega)
    have hx : ls[k]? = some ls[k] := List.getElem?_eq_getElem (by omega)
    obtain ⟨_, _, l0, l8⟩ := (run_small i hr hi).2 k (by omega) _ hx
    by_cases hg : goesP ls[k] k j = true
    · have hm : maskP ls s h j (k + 1) = maskP ls s h j k ||| 2 ^ (leftP ls[k] s (h.getD k 0)).toNat := by
        rw [maskP, hx]; simp only; rw [if_pos hg]
      have e : nowP ls s h j (k + 1) = nextN (leftP ls[k] s (h.getD k 0)) (nowP ls s h j k) := by
        cases hn : nowP ls s h j k with
        | none => rw [nowP, hn]; rfl
        | some now =>
          rw [nextN]
          by_cases hc : 0 ≤ now ∧ now ≠ leftP ls[k] s (h.getD k 0)
          · rw [if_pos hc]; exact now_conf hn hx hg hc
          · rw [if_neg hc]; exact now_take hn hx hg hc
      rw [hm, e]
      exact h2.or h1 l0 l8
    · have hm : maskP ls s h j (k + 1) = maskP ls s h j k := by
        rw [maskP, hx]; simp only; rw [if_neg hg]
      have e : nowP ls s h j (k + 1) = nowP ls s h j k := by
        cases hn : nowP ls s h j k with
        | none => rw [nowP, hn]
        | some now => exact now_skip hn hx (by simpa using hg)
      rw [hm, e]
      exact ⟨h1, h2⟩
theorem only_now {m : Nat} {o : Option Int} (hm : MN m o) : onlyP m = onlyN o := by
  cases o with
  | none =>
    unfold onlyP
    have : 2 ≤ Lib.onesCount m := hm
    rw [if_neg (by omega)]
    rfl
  | some now =>
    rcases hm with ⟨rfl, rfl⟩ | ⟨h1, h2, rfl⟩
    · rw [onlyN, if_neg (by omega)]; rfl
    · rw [onlyN, if_pos h1]
      obtain ⟨_, q1, q2⟩ := pow_lt9 ⟨now.toNat, by omega⟩
      simp only at q1 q2
      unfold onlyP
      rw [if_pos q1, q2]
      simp; omega
theorem row_shape {r : Rw} (hr : r ∈ rowL) (x : Ins) (s : Int) (ho : x.op = r.op) : shapeP x s = (r.takes, r.lays, opP r.a x.a s && opP r.b x.b s) := by
  obtain ⟨op, a, b⟩ := x
  simp only at ho
  subst ho
  simp only [rowL, List.mem_cons, List.not_mem_nil, or_false] at hr
  rcases hr with rfl | rfl | rfl | rfl | rfl | rfl | rfl | rfl | rfl | rfl | rfl
  all_goals
    simp only [shapeP, opP]
    simp (config := { decide := true }) only [if_true, if_false]
  all_goals try rfl
  · rw [Bool.and_assoc]
  · have e : decide (b ≤ 7) = decide (b < 8) := by rw [decide_eq_decide]; omega
    rw [e]
theorem row_none {x : Ins} {s : Int} (h : ∀ r ∈ rowL, r.op ≠ x.op) : (shapeP x s).2.2 = false := by
  have h1 := h ⟨1, 1, 0, 0, 1⟩ (by simp [rowL])
  have h2 := h ⟨2, 0, 0, 0, 1⟩ (by simp [rowL])
  have h3 := h ⟨3, 0, 0, 0, 1⟩ (by simp [rowL])
  have h4 := h ⟨4, 0, 0, 1, 0⟩ (by simp [rowL])
  have h5 := h ⟨5, 0, 0, 2, 1⟩ (by simp [rowL])
  have h6 := h ⟨6, 0, 0, 1, 1⟩ (by simp [rowL])
  have h7 := h ⟨7, 2, 0, 1, 0⟩ (by simp [rowL])
  have h8 := h ⟨8, 3, 4, 1, 1⟩ (by simp [rowL])
  have h9 := h ⟨9, 3, 0, 0, 0⟩ (by simp [rowL])
  have h10 := h ⟨10, 3, 0, 0, 0⟩ (by simp [rowL])
  have h11 := h ⟨11, 0, 0, 1, 0⟩ (by simp [rowL])
  simp only at h1 h2 h3 h4 h5 h6 h7 h8 h9 h10 h11
  unfold shapeP
  rw [if_neg (by omega), if_neg (by omega), if_neg (by omega), if_neg (by omega), if_neg (by omega), if_neg (by omega), if_neg (by omega), if_neg (by omega)]
/-- A step finds what the plain twin finds. -/
theorem step_why {ls : List Ins} {s : Int} {h : List Int} {i : Nat} {x : Ins} {r : Rw} (hrun : runP ls s i = (h, none)) (hi : i < ls.length) (hx : ls[i]? = some x) (hr : r ∈ rowL) (ho : x.op = r.op) {m : Nat} (hm : m = maskP ls s h i i) :
    whyP r x s (onlyP m).2 (onlyP m).1 ((ls.length : Int) - i - 1) = (stepE ls s h i).1 ∧
    ((stepE ls s h i).1 = 0 → (onlyP m).1 = (stepE ls s h i).2 ∧ (onlyP m).1 - r.takes + r.lays = leftP x s (stepE ls s h i).2) := by
  subst hm
  have hmn := only_now (mask_now hrun (by omega) i i (Nat.le_refl _)).2
  have hsh := row_shape hr x s ho
  have hl : ∀ v, leftP x s v = v - r.takes + r.lays := fun v => by unfold leftP; rw [hsh]
  have hbool : ((opP r.a x.a s && opP r.b x.b s) = false) ↔ (opP r.a x.a s = false ∨ opP r.b x.b s = false) := by cases opP r.a x.a s <;> cases opP r.b x.b s <;> decide
  unfold stepE
  rw [hx]
  cases hn : nowP ls s h i i with
  | none =>
    rw [hn, onlyN] at hmn
    rw [hmn]
    simp only
    refine ⟨?_, fun h => by omega⟩
    unfold whyP
    split
    · rfl
    · rw [if_pos (.inl rfl)]
  | some now =>
    rw [hn, onlyN] at hmn
    simp only
    unfold badP
    rw [hsh, hl]
    simp only
    by_cases h0 : 0 ≤ now
    · rw [if_pos h0] at hmn
      rw [hmn]
      simp only
      refine ⟨?_, fun _ => by first | trivial | exact ⟨rfl, by rw [hl]⟩⟩
      unfold whyP
      by_cases q1 : opP r.a x.a s = false ∨ opP r.b x.b s = false
      · rw [if_pos q1, if_pos (.inl (hbool.2 q1))]
      · rw [if_neg q1]
        by_cases q2 : now < r.takes ∨ (x.op = 11 ∧ now ≠ 1)
        · rw [if_pos (.inr q2), if_pos (by rcases q2 with q | q; exact .inr (.inr (.inl q)); exact .inr (.inr (.inr q)))]
        · have n1 : ¬ (true = false ∨ now < r.takes ∨ (x.op = 11 ∧ now ≠ 1)) := by simp only [Bool.true_eq_false, false_or]; exact q2
          have n2 : ¬ ((opP r.a x.a s && opP r.b x.b s) = false ∨ now < 0 ∨ now < r.takes ∨ (x.op = 11 ∧ now ≠ 1)) := by
            rintro (e | e | e)
            · exact q1 (hbool.1 e)
            · omega
            · exact q2 e
          rw [if_neg n1, if_neg n2]
          by_cases q3 : 8 < now - r.takes + r.lays
          · rw [if_pos q3, if_pos q3]
          · rw [if_neg q3, if_neg q3]
            unfold passP
            have ha1 : x.op = 7 → 1 ≤ x.a := fun h7 => by
              have : r = ⟨7, 2, 0, 1, 0⟩ := by
                simp only [rowL, List.mem_cons, List.not_mem_nil, or_false] at hr
                rcases hr with rfl | rfl | rfl | rfl | rfl | rfl | rfl | rfl | rfl | rfl | rfl <;> simp_all
              subst this
              simp only [opP] at q1
              simp at q1
              exact q1.1
            by_cases q4 : x.op = 7
            · have := ha1 q4
              rw [if_pos q4]
              by_cases q5 : (ls.length : Int) - i - 1 ≤ x.a
              · rw [if_pos ⟨by omega, q5⟩, if_pos (.inr ⟨q4, by omega⟩)]
              · rw [if_neg (fun e => q5 e.2), if_neg (by rintro (e | e) <;> omega)]
            · rw [if_neg q4]
              by_cases q5 : x.op ≠ 11 ∧ (i : Int) = (ls.length : Int) - 1
              · rw [if_pos ⟨q5.1, by omega⟩, if_pos (.inl q5)]
              · rw [if_neg (fun e => q5 ⟨e.1, by omega⟩), if_neg (by rintro (e | e); exact q5 e; exact q4 e.1)]
    · rw [if_neg h0] at hmn
      rw [hmn]
      simp only
      rw [if_pos (.inr (.inl (by omega)))]
      refine ⟨?_, fun h => by omega⟩
      unfold whyP
      split
      · rfl
      · rw [if_pos (.inl rfl)]
/-- An Op without a row. -/
theorem step_none {ls : List Ins} {s : Int} {h : List Int} {i : Nat} {x : Ins} (hx : ls[i]? = some x) (hr : ∀ r ∈ rowL, r.op ≠ x.op) : (stepE ls s h i).1 = 5 := by
  unfold stepE
  rw [hx]
  cases hn : nowP ls s h i i with
  | none => rfl
  | some now =>
    simp only
    unfold badP
    rw [if_pos (.inl (row_none hr))]
end Go.Proofs.YtgfimkeopohjaaaDoor

namespace Go.Proofs.YtgfimkeopohjaaaDoor
open Go Go.ChangeShapes Go.WideShapes Go.ChangeAt Go.RowKit

theorem getD_app {h : List Int} {v : Int} {k : Nat} (hk : k < h.length) : (h ++ [v]).getD k 0 = h.getD k 0 := by
  rw [List.getD_eq_getElem?_getD, List.getD_eq_getElem?_getD, List.getElem?_append_left hk]
theorem getD_end (h : List Int) (v : Int) : (h ++ [v]).getD h.length 0 = v := by
  rw [List.getD_eq_getElem?_getD, List.getElem?_append_right (Nat.le_refl _), Nat.sub_self]; rfl
theorem mask_app {ls : List Ins} {s : Int} {h : List Int} {v : Int} {j : Nat} : ∀ {k : Nat}, k ≤ h.length → maskP ls s (h ++ [v]) j k = maskP ls s h j k
  | 0, _ => rfl
  | k + 1, hk => by
    rw [maskP, maskP, mask_app (by omega), getD_app (by omega)]
/-- Where x goes on. -/
def nextK (i : Nat) (x : Ins) : List Nat := if x.op = 11 then [] else if x.op = 7 then [i + 1, i + 1 + x.a.toNat] else [i + 1]
theorem next_k (i : Nat) (x : Ins) (ha : x.op = 7 → 1 ≤ x.a) : nextP i x = (nextK i x).map Int.ofNat := by
  unfold nextP nextK
  split
  · rfl
  · split
    · rename_i h7
      have := ha h7
      simp
      omega
    · simp
def updM (b : Nat) (f : Nat → Nat) (t : Nat) : Nat → Nat := fun j => if j = t then f j ||| 2 ^ b else f j
theorem mask_step {ls : List Ins} {s : Int} {h : List Int} {v : Int} {i : Nat} {x : Ins} (hl : h.length = i) (hx : ls[i]? = some x) (ha : x.op = 7 → 1 ≤ x.a) :
    (nextK i x).foldl (updM (leftP x s v).toNat) (fun j => maskP ls s h j i) = fun j => maskP ls s (h ++ [v]) j (i + 1) := by
  have he : ∀ j, maskP ls s (h ++ [v]) j (i + 1) = if goesP x i j then maskP ls s h j i ||| 2 ^ (leftP x s v).toNat else maskP ls s h j i := fun j => by
    rw [maskP, hx, mask_app (by omega)]
    simp only
    rw [← hl, getD_end]
  funext j
  rw [he]
  unfold nextK goesP
  by_cases h1 : x.op = 11
  · rw [if_pos h1, if_pos h1]; simp
  rw [if_neg h1, if_neg h1]
  by_cases h2 : x.op = 7
  · rw [if_pos h2]
    have := ha h2
    have d2 : (x.op == 7) = true := by simpa using h2
    rw [d2, Bool.true_and]
    simp only [List.foldl_cons, List.foldl_nil, updM]
    by_cases q1 : j = i + 1
    · subst q1
      rw [if_neg (by omega), if_pos rfl, if_pos (by simp)]
    · have d1 : (j == i + 1) = false := by simpa using q1
      rw [d1, Bool.false_or]
      by_cases q2 : j = i + 1 + x.a.toNat
      · have d3 : (x.a == (j : Int) - i - 1) = true := by simp; omega
        rw [if_pos q2, if_neg q1, d3]; simp
      · have d3 : (x.a == (j : Int) - i - 1) = false := by simp; omega
        rw [if_neg q2, if_neg q1, d3]; simp
  · rw [if_neg h2]
    have d2 : (x.op == 7) = false := by simpa using h2
    rw [d2, Bool.false_and, Bool.or_false]
    simp only [List.foldl_cons, List.foldl_nil, updM]
    by_cases q1 : j = i + 1
    · subst q1
      rw [if_pos rfl, if_pos (by simp)]
    · have d1 : (j == i + 1) = false := by simpa using q1
      rw [if_neg q1, d1]; simp
/-- A right step. -/
theorem step_right {ls : List Ins} {s : Int} {h : List Int} {i : Nat} {x : Ins} (hx : ls[i]? = some x) (h0 : (stepE ls s h i).1 = 0) : (x.op = 7 → 1 ≤ x.a ∧ x.a ≤ (ls.length : Int) - 2 - i) ∧ (x.op ≠ 11 → i + 1 < ls.length) := by
  have hi := (List.getElem?_eq_some_iff.1 hx).1
  unfold stepE at h0
  rw [hx] at h0
  cases hn : nowP ls s h i i with
  | none => rw [hn] at h0; simp at h0
  | some now =>
    rw [hn] at h0
    simp only at h0
    unfold badP at h0
    split at h0
    · omega
    · rename_i n1
      split at h0
      · omega
      · split at h0
        · omega
        · rename_i n3
          refine ⟨fun h7 => ?_, fun h11 => ?_⟩
          · have hok : (shapeP x s).2.2 ≠ false := fun e => n1 (.inl e)
            unfold shapeP at hok
            rw [if_neg (by omega), if_neg (by omega), if_neg (by omega), if_neg (by omega), if_neg (by omega), if_pos h7] at hok
            simp at hok
            refine ⟨hok.1, ?_⟩
            have := fun e => n3 (.inr ⟨h7, e⟩)
            omega
          · have := fun e => n3 (.inl ⟨h11, e⟩)
            omega
theorem next_lt {n i : Nat} {x : Ins} (h7 : x.op = 7 → 1 ≤ x.a ∧ x.a ≤ (n : Int) - 2 - i) (h1 : x.op ≠ 11 → i + 1 < n) : ∀ t ∈ nextK i x, t < n := fun t ht => by
  unfold nextK at ht
  split at ht
  · cases ht
  · rename_i h11
    have := h1 h11
    split at ht
    · rename_i hh
      have := h7 hh
      simp only [List.mem_cons, List.not_mem_nil, or_false] at ht
      rcases ht with rfl | rfl <;> omega
    · simp only [List.mem_singleton] at ht
      omega
/-- What is told: a place, its height, the one behind, why it is wrong. -/
structure Stp where
  i : Int
  h : Int
  b : Int
  e : Int
def leftA (ls : List Ins) (s : Int) (k : Nat) (v : Int) : Int := match ls[k]? with | some x => leftP x s v | none => 0
def goodL (ls : List Ins) (s : Int) (h : List Int) : List Stp := (List.range h.length).map fun (k : Nat) => ⟨(k : Int), h.getD k 0, leftA ls s k (h.getD k 0), 0⟩
theorem good_len (ls : List Ins) (s : Int) (h : List Int) : (goodL ls s h).length = h.length := by simp [goodL]
theorem good_app {ls : List Ins} {s : Int} {h : List Int} {v : Int} {x : Ins} (hx : ls[h.length]? = some x) : goodL ls s (h ++ [v]) = goodL ls s h ++ [⟨h.length, v, leftP x s v, 0⟩] := by
  unfold goodL
  rw [List.length_append, List.length_singleton, List.range_succ, List.map_append]
  congr 1
  · refine List.map_congr_left fun k hk => ?_
    rw [getD_app (by simpa using hk)]
  · simp only [List.map_cons, List.map_nil, getD_end, leftA, hx]
theorem good_e {ls : List Ins} {s : Int} {h : List Int} : ∀ x ∈ goodL ls s h, x.e = 0 := fun x hx => by
  simp only [goodL, List.mem_map] at hx
  obtain ⟨k, _, rfl⟩ := hx
  rfl
theorem good_h (ls : List Ins) (s : Int) (h : List Int) : (goodL ls s h).map Stp.h = h := by
  apply List.ext_getElem?
  intro k
  simp only [goodL, List.map_map, List.getElem?_map]
  by_cases hk : k < h.length
  · rw [List.getElem?_range hk]; simp [List.getD_eq_getElem?_getD, hk]
  · rw [List.getElem?_eq_none (by simpa using hk), List.getElem?_eq_none (by omega)]; rfl
/-- All that is told. -/
def Told (ls : List Ins) (s : Int) (ys : List Stp) : Prop :=
  ((heightP ls s).2.2 = 0 ∧ ys = goodL ls s (heightP ls s).1) ∨
  ((heightP ls s).2.2 ≠ 0 ∧ ∃ a b, ys = goodL ls s (heightP ls s).1 ++ [⟨(heightP ls s).2.1, a, b, (heightP ls s).2.2⟩])
def ToldTo (ls : List Ins) (s : Int) (pre : List Stp) : Prop := ∃ ys, Told ls s ys ∧ pre <+: ys
theorem told_done {ls : List Ins} {s : Int} {ys : List Stp} (h : Told ls s ys) (h0 : ∀ x ∈ ys, x.e = 0) : (heightP ls s).2.2 = 0 ∧ ys = goodL ls s (heightP ls s).1 := by
  rcases h with h | ⟨h1, a, b, rfl⟩
  · exact h
  · exact absurd (h0 _ (List.mem_append_right _ (List.mem_singleton_self _))) h1
theorem told_stop {ls : List Ins} {s : Int} {p : List Stp} {x : Stp} (h : ToldTo ls s (p ++ [x])) (hx : x.e ≠ 0) : (heightP ls s).2.2 ≠ 0 ∧ x.i = (heightP ls s).2.1 ∧ x.e = (heightP ls s).2.2 ∧ p = goodL ls s (heightP ls s).1 := by
  obtain ⟨ys, hy, hp⟩ := h
  rcases hy with ⟨_, rfl⟩ | ⟨h1, a, b, rfl⟩
  · exact absurd (good_e x (hp.subset (by simp))) hx
  · have hl := hp.length_le
    simp only [List.length_append, List.length_singleton] at hl
    by_cases hlt : p.length < (goodL ls s (heightP ls s).1).length
    · exfalso
      obtain ⟨t, ht⟩ := hp
      have h2 : (p ++ [x] ++ t)[p.length]? = some x := by simp
      rw [ht, List.getElem?_append_left hlt] at h2
      exact hx (good_e x (List.mem_of_getElem? h2))
    · have he := hp.eq_of_length (by simp only [List.length_append, List.length_singleton]; omega)
      obtain ⟨h3, h4⟩ := List.append_inj' he rfl
      simp only [List.cons.injEq, and_true] at h4
      exact ⟨h1, by rw [h4], by rw [h4], h3⟩
theorem told_len {ls : List Ins} {s : Int} {ys : List Stp} (h : Told ls s ys) : ys.length ≤ 33 := by
  have hh : (heightP ls s).1.length ≤ 32 := by
    unfold heightP
    split
    · simp
    · rename_i hn
      cases hr : runP ls s ls.length with
      | mk hs o =>
        have key : ∀ j hj oo, runP ls s j = (hj, oo) → hj.length ≤ j := by
          intro j
          induction j with
          | zero => intro hj oo hq; rw [runP] at hq; cases hq; exact Nat.le_refl _
          | succ j ih =>
            intro hj oo hq
            rw [runP] at hq
            cases hp : runP ls s j with
            | mk h0 o0 =>
              rw [hp] at hq
              have := ih _ _ hp
              cases o0 with
              | some e => simp only at hq; cases hq; omega
              | none =>
                simp only at hq
                split at hq <;> cases hq
                · simp; omega
                · omega
        have := key _ _ _ hr
        cases o with
        | none => simp only; omega
        | some e => obtain ⟨i, e⟩ := e; simp only; omega
  rcases h with ⟨_, rfl⟩ | ⟨_, a, b, rfl⟩
  · rw [good_len]; omega
  · rw [List.length_append, good_len, List.length_singleton]; omega
theorem told_at {ls : List Ins} {s : Int} {h : List Int} {i : Nat} {e : Int} (a b : Int) (hr : runP ls s i = (h, none)) (hi : i < ls.length) (h32 : ls.length ≤ 32) (he : e = (stepE ls s h i).1) (h0 : e ≠ 0) : Told ls s (goodL ls s h ++ [⟨(i : Int), a, b, e⟩]) := by
  subst he
  have := run_stop hr hi h32 h0
  right
  rw [this]
  exact ⟨h0, a, b, rfl⟩
theorem told_all {ls : List Ins} {s : Int} {h : List Int} (hr : runP ls s ls.length = (h, none)) (h1 : 1 ≤ ls.length) (h32 : ls.length ≤ 32) : Told ls s (goodL ls s h) := by
  left
  have : heightP ls s = (h, 0, 0) := by rw [heightP, if_neg (by omega), hr]
  rw [this]
  exact ⟨rfl, rfl⟩
theorem told_none {ls : List Ins} {s : Int} (a b : Int) (h : ls.length < 1 ∨ 32 < ls.length) : Told ls s [⟨0, a, b, 20⟩] := by
  right
  have : heightP ls s = ([], 0, 20) := by rw [heightP, if_pos (by omega)]
  rw [this]
  exact ⟨by simp, a, b, rfl⟩
theorem run_prefix {ls : List Ins} {s : Int} {h : List Int} {i : Nat} (hr : runP ls s i = (h, none)) : ∀ j, i ≤ j → h <+: (runP ls s j).1 := by
  intro j hj
  induction j with
  | zero =>
    obtain rfl : i = 0 := by omega
    rw [hr]; exact List.prefix_rfl
  | succ j ih =>
    by_cases hij : i = j + 1
    · subst hij; rw [hr]; exact List.prefix_rfl
    · have h1 := ih (by omega)
      rw [runP]
      cases hp : runP ls s j with
      | mk h0 o =>
        rw [hp] at h1
        cases o with
        | some e => exact h1
        | none =>
          simp only
          split
          · exact h1.trans (List.prefix_append _ _)
          · exact h1
theorem good_prefix {ls : List Ins} {s : Int} {h h' : List Int} (hp : h <+: h') : goodL ls s h <+: goodL ls s h' := by
  obtain ⟨t, rfl⟩ := hp
  induction t generalizing h with
  | nil => rw [List.append_nil]; exact List.prefix_rfl
  | cons v t ih =>
    have h1 := ih (h := h ++ [v])
    rw [List.append_assoc] at h1
    refine List.IsPrefix.trans ?_ h1
    refine ⟨[⟨h.length, v, leftA ls s h.length v, 0⟩], ?_⟩
    unfold goodL
    rw [List.length_append, List.length_singleton, List.range_succ, List.map_append]
    congr 1
    · refine List.map_congr_left fun k hk => ?_
      rw [getD_app (by simpa using hk)]
    · simp only [List.map_cons, List.map_nil, getD_end]
theorem told_to {ls : List Ins} {s : Int} {h : List Int} {i : Nat} (hr : runP ls s i = (h, none)) (hi : i ≤ ls.length) (h1 : 1 ≤ ls.length) (h32 : ls.length ≤ 32) : ToldTo ls s (goodL ls s h) := by
  have h2 := run_prefix hr ls.length hi
  have h3 : (heightP ls s).1 = (runP ls s ls.length).1 := by
    rw [heightP, if_neg (by omega)]
    cases runP ls s ls.length with
    | mk a o => cases o with
      | none => rfl
      | some e => rfl
  rw [← h3] at h2
  have h4 := good_prefix (ls := ls) (s := s) h2
  by_cases h0 : (heightP ls s).2.2 = 0
  · exact ⟨_, .inl ⟨h0, rfl⟩, h4⟩
  · exact ⟨_, .inr ⟨h0, 0, 0, rfl⟩, h4.trans (List.prefix_append _ _)⟩
/-- The greatest one behind. -/
def mostS (ys : List Stp) : Int := ys.foldl (fun m x => max m x.b) 0
theorem mostS_app (ys : List Stp) (x : Stp) : mostS (ys ++ [x]) = max (mostS ys) x.b := by simp [mostS]
theorem good_most {ls : List Ins} {s : Int} {h : List Int} (hl : h.length ≤ ls.length) : mostS (goodL ls s h) = mostP ls s h h.length := by
  have key : ∀ m, m ≤ h.length → mostS ((List.range m).map fun (k : Nat) => (⟨(k : Int), h.getD k 0, leftA ls s k (h.getD k 0), 0⟩ : Stp)) = mostP ls s h m := fun m => by
    induction m with
    | zero => intro _; rfl
    | succ m ih =>
      intro hm
      have hx : ls[m]? = some ls[m] := List.getElem?_eq_getElem (by omega)
      rw [List.range_succ, List.map_append, List.map_cons, List.map_nil, mostS_app, ih (by omega), mostP, hx]
      simp only [leftA, hx]
  exact key h.length (Nat.le_refl _)
end Go.Proofs.YtgfimkeopohjaaaDoor
