/-
  The rows of the Ops; one step.
-/
import Derived.Test.YtcoclaabainibaaDoorCkA
namespace Go.Proofs.YtcoclaabainibaaDoor
open Go Go.ChangeShapes Go.WideShapes Go.ChangeAt Go.RowKit

/-- What holds of an Op. -/
structure Rw where
  op : Int
  a : Int
  b : Int
  takes : Int
  lays : Int
def rwc (r : Rw) : List Value := [.int .i64 r.op, .int .i64 r.a, .int .i64 r.b, .int .i64 r.takes, .int .i64 r.lays]
def rwA (r : Rw) : Array Value := (rwc r).toArray
def RwB (W : World) (b : Nat) (r : Rw) : Prop := W.heap[b]? = some (.cells (rwA r) 80 (0, 0))
section
variable {W : World} {b : Nat} {r : Rw}
theorem RwB.c0 (h : RwB W b r) : W.cell? ⟨b, 0, none⟩ = some (.int .i64 r.op) := by unfold RwB at h; simp [World.cell?, h, rwA, rwc]
theorem RwB.c1 (h : RwB W b r) : W.cell? ⟨b, 1, none⟩ = some (.int .i64 r.a) := by unfold RwB at h; simp [World.cell?, h, rwA, rwc]
theorem RwB.c2 (h : RwB W b r) : W.cell? ⟨b, 2, none⟩ = some (.int .i64 r.b) := by unfold RwB at h; simp [World.cell?, h, rwA, rwc]
theorem RwB.c3 (h : RwB W b r) : W.cell? ⟨b, 3, none⟩ = some (.int .i64 r.takes) := by unfold RwB at h; simp [World.cell?, h, rwA, rwc]
theorem RwB.c4 (h : RwB W b r) : W.cell? ⟨b, 4, none⟩ = some (.int .i64 r.lays) := by unfold RwB at h; simp [World.cell?, h, rwA, rwc]
end
/-- A step: the height ahead, the one behind, why it is wrong. -/
def stA (h b e : Int) : Array Value := #[.int .i64 h, .int .i64 b, .int .i64 e]
theorem stA_one (h b e : Int) : (stA h b e).all (·.oneCell') = true := by simp [stA, Value.oneCell']
theorem heap_st {W : World} {q : Nat} {h b e0 : Int} (hq : W.heap[q]? = some (.cells (stA h b e0) 70 (0, 0))) (e : Int) : (W.setCell ⟨q, 2, none⟩ (.int .i64 e)).heap[q]? = some (.cells (stA h b e) 70 (0, 0)) := by
  rw [heap_setCell_same W q 2 _ _ _ hq]
  rfl
def whyP (r : Rw) (x : Ins) (s : Int) (one : Bool) (h rest : Int) : Int :=
  if opP r.a x.a s = false ∨ opP r.b x.b s = false then 5
  else if one = false ∨ h < r.takes ∨ (x.op = 11 ∧ h ≠ 1) then 5
  else if 8 < h - r.takes + r.lays then 16
  else if x.op ≠ 11 ∧ rest ≤ passP x then 5 else 0
set_option maxRecDepth 100000 in
set_option maxHeartbeats 4000000 in
theorem stepOf_any (r : Rw) (x : Ins) (s rest : Int) (m : Nat) (hm : m < 512) (w : World) (hT : TabB w) (ha : r.a = 0 ∨ r.a = 1 ∨ r.a = 2 ∨ r.a = 3 ∨ r.a = 4) (hb : r.b = 0 ∨ r.b = 1 ∨ r.b = 2 ∨ r.b = 3 ∨ r.b = 4) (ht : 0 ≤ r.takes ∧ r.takes ≤ 2) (hl : 0 ≤ r.lays ∧ r.lays ≤ 1) :
    Calls Tryd.prog 33 #[.agg (rwA r), .agg (insA x), .int .i64 s, .int .u16 m, .int .i64 rest] w fun e w' =>
      e = .returned (.agg (stA (onlyP m).1 ((onlyP m).1 - r.takes + r.lays) (whyP r x s (onlyP m).2 (onlyP m).1 rest))) ∧ Below w.heap.size w w' := by
  obtain ⟨w1, hw1⟩ : ∃ w1, w1 = ((w.alloc (.cells (rwA r) 80)).alloc (.cells (insA x) 45)).alloc (.cells (stA 0 0 0) 70) := ⟨_, rfl⟩
  have hr1 : RwB w1 w.heap.size r := by rw [hw1]; exact (heap_alloc_old _ _ _ (by simp; omega)).trans (heap_alloc2_old _ _ _)
  have hx1 : InI w1 (w.heap.size + 1) x := by rw [hw1]; exact (heap_alloc_old _ _ _ (by simp)).trans (heap_alloc2_new _ _ _)
  have hz1 : w1.heap[w.heap.size + 1 + 1]? = some (.cells (stA 0 0 0) 70 (0, 0)) := by rw [hw1]; simpa using World.alloc_heap_new ((w.alloc (.cells (rwA r) 80)).alloc (.cells (insA x) 45)) (.cells (stA 0 0 0) 70)
  have hs1 : w1.heap.size = w.heap.size + 1 + 1 + 1 := by rw [hw1]; simp
  have hB : Below w.heap.size w w1 := by rw [hw1]; exact (((Below.refl _ _).alloc (Nat.le_refl _) _).alloc (by simp) _).alloc (by simp; omega) _
  have HO := hid (fun W (hb : Below w.heap.size w W) => only_any m hm W (hT.on hb))
  have HA := hid (operand_any r.a x.a s · ha)
  have HBo := hid (operand_any r.b x.b s · hb)
  have hj : 0 ≤ (onlyP m).1 ∧ (onlyP m).1 ≤ 8 := by
    unfold onlyP
    split
    · rename_i h1
      have := (low_of_one ⟨m, hm⟩ h1).2.1
      dsimp only at this ⊢
      omega
    · simp
  have HX := hid hx1
  have HZ := hid hz1
  have HR := hid hr1
  have HB := hid hB
  have HW := hid hw1
  have HS := hid hs1
  clear hw1 hr1 hx1 hz1 hs1 hB ha hb hm hT
  unfold onlyV at HO
  generalize onlyP m = om at *
  obtain ⟨h, one⟩ := om
  obtain ⟨rop, ra, rb, rt, rl⟩ := r
  obtain ⟨xop, xa, xb⟩ := x
  simp only at *
  have wr1 : IntKind.i64.wrap (h - rt) = h - rt := IntWalk.i64_in _ (by omega)
  have wr2 : IntKind.i64.wrap (h - rt + rl) = h - rt + rl := IntWalk.i64_in _ (by omega)
  clear hj ht hl
  have HWY := hid (show whyP ⟨rop, ra, rb, rt, rl⟩ ⟨xop, xa, xb⟩ s one h rest = if opP ra xa s = false ∨ opP rb xb s = false then 5 else if one = false ∨ h < rt ∨ (xop = 11 ∧ h ≠ 1) then 5 else if 8 < h - rt + rl then 16 else if xop ≠ 11 ∧ rest ≤ passP ⟨xop, xa, xb⟩ then 5 else 0 from rfl)
  obtain ⟨why, hwhy⟩ : ∃ v, v = whyP ⟨rop, ra, rb, rt, rl⟩ ⟨xop, xa, xb⟩ s one h rest := ⟨_, rfl⟩
  rw [← hwhy] at HWY ⊢
  have hpa := passed_any ⟨xop, xa, xb⟩
  have HPA := hid hpa
  clear hwhy hpa
  obtain ⟨pa, hpa⟩ : ∃ v, v = opP ra xa s := ⟨_, rfl⟩
  obtain ⟨pb, hpb⟩ : ∃ v, v = opP rb xb s := ⟨_, rfl⟩
  obtain ⟨pp, hpp⟩ : ∃ v, v = passP ⟨xop, xa, xb⟩ := ⟨_, rfl⟩
  obtain ⟨bh, hbh⟩ : ∃ v, v = h - rt + rl := ⟨_, rfl⟩
  rw [← hpa, ← hpb, ← hpp, ← hbh] at HWY
  rw [← hpa] at HA
  rw [← hpb] at HBo
  rw [← hpp] at HPA
  rw [← hbh] at wr2 ⊢
  have wr3 : IntKind.i64.wrap (h - rt + rl) = bh := by rw [hbh]; rw [← hbh]; exact wr2
  clear hpa hpb hpp hbh wr2
  go_enter Tryd.func33, Tryd.ntmps33
  go_upto_region 1 with (fail)
  change Code.wp _ _ _ _ (((w.alloc (.cells (rwA ⟨rop, ra, rb, rt, rl⟩) 80)).alloc (.cells (insA ⟨xop, xa, xb⟩) 45)).alloc (.cells (stA 0 0 0) 70))
  rw [← HW.out]
  clear HW
  go_wp2_with fail
  refine (HO.out _ HB.out).mono ?_
  rintro e w2 ⟨rfl, hb2⟩
  have hr2 : RwB w2 w.heap.size _ := (hb2.block _ (by rw [HS.out]; omega)).trans HR.out
  have hx2 : InI w2 (w.heap.size + 1) _ := (hb2.block _ (by rw [HS.out]; omega)).trans HX.out
  have hz2 := (hb2.block _ (by rw [HS.out]; omega)).trans HZ.out
  have hs2 : w.heap.size + 1 + 1 < w2.heap.size := by have := hb2.size; rw [HS.out] at this; omega
  have HB2 := hid (HB.out.trans (hb2.mono HB.out.size))
  have HR2 := hid hr2
  have HX2 := hid hx2
  have HZ2 := hid hz2
  have HS2 := hid hs2
  have r3 := hr2.c3
  have r4 := hr2.c4
  clear hb2 hr2 hx2 hz2 hs2 HO HB HR HX HZ HS
  go_upto_region 3 with (fail)
  change Code.wp _ _ _ _ (w2.alloc (.cells (stA h (bh) 0) 70))
  obtain ⟨w3, hw3⟩ : ∃ w3, w3 = w2.alloc (.cells (stA h (bh) 0) 70) := ⟨_, rfl⟩
  rw [← hw3]
  clear r3 r4 wr1 wr3
  have hb3 : Below w2.heap.size w2 w3 := by rw [hw3]; exact (Below.refl _ _).alloc (Nat.le_refl _) _
  have hr3 : RwB w3 w.heap.size _ := (hb3.block _ (by have := HS2.out; omega)).trans HR2.out
  have hx3 : InI w3 (w.heap.size + 1) _ := (hb3.block _ (by have := HS2.out; omega)).trans HX2.out
  have hz3 := (hb3.block _ HS2.out).trans HZ2.out
  have hq3 : w3.heap[w2.heap.size]? = some (.cells (stA h (bh) 0) 70 (0, 0)) := by rw [hw3]; exact heap_alloc_new _ _
  obtain ⟨q, hq⟩ : ∃ q, q = w2.heap.size := ⟨_, rfl⟩
  rw [← hq] at hq3 ⊢
  have hqn : w.heap.size + 1 + 1 < q := by rw [hq]; exact HS2.out
  have HB3 := hid (HB2.out.trans (hb3.mono HB2.out.size))
  clear hw3 HR2 HX2 HZ2 HB2 HS2 hb3 hq
  obtain ⟨n0, hn0⟩ : ∃ n0, n0 = w.heap.size + 1 + 1 := ⟨_, rfl⟩
  have hn1 : w.heap.size ≤ n0 := by omega
  rw [← hn0] at hqn hz3
  have r1 := hr3.c1
  have r2 := hr3.c2
  have r3 := hr3.c3
  have x0 := hx3.c0
  have x1 := hx3.c1
  have x2 := hx3.c2
  have s1 : w3.cell? ⟨q, 1, none⟩ = some (.int .i64 (bh)) := by simp [World.cell?, hq3, stA]
  have s2 : w3.cell? ⟨q, 2, none⟩ = some (.int .i64 0) := by simp [World.cell?, hq3, stA]
  have f2 : w3.frozen? ⟨q, 2, none⟩ = false := by simp [World.frozen?, hq3]
  have HAT : RowKit.Hid (AtL w3 (w.heap.size + 1) 0 (insc ⟨xop, xa, xb⟩)) := hid (fun j u hu => by
    match j, hu with
    | 0, hu => cases hu; exact x0
    | 1, hu => cases hu; exact x1
    | 2, hu => cases hu; exact x2)
  have HQE := hid (fun e => heap_st hq3 e)
  have HZE := hid (fun e => (Below.heap_setCell w3 ⟨q, 2, none⟩ (.int .i64 e) n0 (by show n0 ≠ q; omega)).trans hz3)
  have HBE := hid (fun e => HB3.out.setCell (p := ⟨q, 2, none⟩) (by show w.heap.size ≤ q; omega) (.int .i64 e))
  have HNQ := hid (show n0 ≠ q by omega)
  have HNR := hid (show w.heap.size ≤ q by omega)
  have HQ3 := hid hq3
  have HZ3 := hid hz3
  have HN0 := hid hn0
  have HN1 := hid hn1
  simp only at x0 x1 x2 r1 r2 r3
  clear hr3 hx3 hq3 hz3 hqn hn1
  cases pa with
  | false =>
    go_wp2_with fail
    refine (HA.out _).mono ?_
    rintro e w4 ⟨rfl, rfl⟩
    go_wp2_with (first | ((with_reducible refine at_op ⟨some 75, _, _, _, _, _⟩ ?_); refine wpList_load_row rfl 70 _ rfl q rfl 70 (stA h bh 5) (0, 0) _ (HQE.out 5) Tryd.underlying70 rfl rfl ?_) | ((with_reducible refine at_op ⟨none, .store 70 (.tmp 10) (.tmp 75), _, _, _, _⟩ ?_); refine wpList_store_row rfl 70 _ _ rfl n0 (stA h bh 5) (by rw [HN0.out]; rfl) rfl 70 (stA 0 0 0) (HZE.out 5) rfl rfl (stA_one _ _ _) ?_))
    refine cells_ret (r := 10) (T := 70) (g := n0) rfl (by rw [HN0.out]; rfl) rfl (run_loadVar_row (P := Tryd.prog) _ _ _ 70 _ (0, 0) _ (setRow_heap _ _ _ _ _ _ (HZE.out 5)) Tryd.underlying70 rfl rfl) ⟨?_, below_setRow (HBE.out 5) _ _ HN1.out⟩
    have hwy : why = 5 := by rw [HWY.out]; simp
    rw [hwy]
  | true =>
  go_wp2_with fail
  refine (HA.out _).mono ?_
  rintro e w4 ⟨rfl, rfl⟩
  clear HA
  cases pb with
  | false =>
    go_wp2_with fail
    refine (HBo.out _).mono ?_
    rintro e w4 ⟨rfl, rfl⟩
    go_wp2_with (first | ((with_reducible refine at_op ⟨some 75, _, _, _, _, _⟩ ?_); refine wpList_load_row rfl 70 _ rfl q rfl 70 (stA h bh 5) (0, 0) _ (HQE.out 5) Tryd.underlying70 rfl rfl ?_) | ((with_reducible refine at_op ⟨none, .store 70 (.tmp 10) (.tmp 75), _, _, _, _⟩ ?_); refine wpList_store_row rfl 70 _ _ rfl n0 (stA h bh 5) (by rw [HN0.out]; rfl) rfl 70 (stA 0 0 0) (HZE.out 5) rfl rfl (stA_one _ _ _) ?_))
    refine cells_ret (r := 10) (T := 70) (g := n0) rfl (by rw [HN0.out]; rfl) rfl (run_loadVar_row (P := Tryd.prog) _ _ _ 70 _ (0, 0) _ (setRow_heap _ _ _ _ _ _ (HZE.out 5)) Tryd.underlying70 rfl rfl) ⟨?_, below_setRow (HBE.out 5) _ _ HN1.out⟩
    have hwy : why = 5 := by rw [HWY.out]; simp
    rw [hwy]
  | true =>
  rw [if_neg (by simp)] at HWY
  go_wp2_with fail
  refine (HBo.out _).mono ?_
  rintro e w4 ⟨rfl, rfl⟩
  clear HBo
  cases one with
  | false =>
    go_wp2_with (first | ((with_reducible refine at_op ⟨some 75, _, _, _, _, _⟩ ?_); refine wpList_load_row rfl 70 _ rfl q rfl 70 (stA h bh 5) (0, 0) _ (HQE.out 5) Tryd.underlying70 rfl rfl ?_) | ((with_reducible refine at_op ⟨none, .store 70 (.tmp 10) (.tmp 75), _, _, _, _⟩ ?_); refine wpList_store_row rfl 70 _ _ rfl n0 (stA h bh 5) (by rw [HN0.out]; rfl) rfl 70 (stA 0 0 0) (HZE.out 5) rfl rfl (stA_one _ _ _) ?_))
    refine cells_ret (r := 10) (T := 70) (g := n0) rfl (by rw [HN0.out]; rfl) rfl (run_loadVar_row (P := Tryd.prog) _ _ _ 70 _ (0, 0) _ (setRow_heap _ _ _ _ _ _ (HZE.out 5)) Tryd.underlying70 rfl rfl) ⟨?_, below_setRow (HBE.out 5) _ _ HN1.out⟩
    have hwy : why = 5 := by rw [HWY.out]; simp
    rw [hwy]
  | true =>
  by_cases h1 : h < rt
  · have d1 : decide (h < rt) = true := decide_eq_true h1
    rw [if_pos (.inr (.inl h1))] at HWY
    clear h1
    go_wp2_with (first | ((with_reducible refine at_op ⟨some 75, _, _, _, _, _⟩ ?_); refine wpList_load_row rfl 70 _ rfl q rfl 70 (stA h bh 5) (0, 0) _ (HQE.out 5) Tryd.underlying70 rfl rfl ?_) | ((with_reducible refine at_op ⟨none, .store 70 (.tmp 10) (.tmp 75), _, _, _, _⟩ ?_); refine wpList_store_row rfl 70 _ _ rfl n0 (stA h bh 5) (by rw [HN0.out]; rfl) rfl 70 (stA 0 0 0) (HZE.out 5) rfl rfl (stA_one _ _ _) ?_))
    refine cells_ret (r := 10) (T := 70) (g := n0) rfl (by rw [HN0.out]; rfl) rfl (run_loadVar_row (P := Tryd.prog) _ _ _ 70 _ (0, 0) _ (setRow_heap _ _ _ _ _ _ (HZE.out 5)) Tryd.underlying70 rfl rfl) ⟨?_, below_setRow (HBE.out 5) _ _ HN1.out⟩
    have hwy : why = 5 := by rw [HWY.out]
    rw [hwy]
  have d1 : decide (h < rt) = false := decide_eq_false h1
  by_cases h2 : xop = 11
  · subst h2
    by_cases h3 : h = 1
    · subst h3
      rw [if_neg (by simp; omega)] at HWY
      clear h1
      by_cases h4 : 8 < bh
      · have d4 : decide (8 < bh) = true := decide_eq_true h4
        rw [if_pos h4] at HWY
        clear h4
        go_wp2_with (first | ((with_reducible refine at_op ⟨some 75, _, _, _, _, _⟩ ?_); refine wpList_load_row rfl 70 _ rfl q rfl 70 (stA 1 bh 16) (0, 0) _ (HQE.out 16) Tryd.underlying70 rfl rfl ?_) | ((with_reducible refine at_op ⟨none, .store 70 (.tmp 10) (.tmp 75), _, _, _, _⟩ ?_); refine wpList_store_row rfl 70 _ _ rfl n0 (stA 1 bh 16) (by rw [HN0.out]; rfl) rfl 70 (stA 0 0 0) (HZE.out 16) rfl rfl (stA_one _ _ _) ?_))
        refine cells_ret (r := 10) (T := 70) (g := n0) rfl (by rw [HN0.out]; rfl) rfl (run_loadVar_row (P := Tryd.prog) _ _ _ 70 _ (0, 0) _ (setRow_heap _ _ _ _ _ _ (HZE.out 16)) Tryd.underlying70 rfl rfl) ⟨?_, below_setRow (HBE.out 16) _ _ HN1.out⟩
        have hwy : why = 16 := by rw [HWY.out]
        rw [hwy]
      · have d4 : decide (8 < bh) = false := decide_eq_false h4
        rw [if_neg h4, if_neg (by simp)] at HWY
        clear h4
        go_wp2_with (first | ((with_reducible refine at_op ⟨some 75, _, _, _, _, _⟩ ?_); refine wpList_load_row rfl 70 _ rfl q rfl 70 (stA 1 bh 0) (0, 0) _ HQ3.out Tryd.underlying70 rfl rfl ?_) | ((with_reducible refine at_op ⟨none, .store 70 (.tmp 10) (.tmp 75), _, _, _, _⟩ ?_); refine wpList_store_row rfl 70 _ _ rfl n0 (stA 1 bh 0) (by rw [HN0.out]; rfl) rfl 70 (stA 0 0 0) HZ3.out rfl rfl (stA_one _ _ _) ?_))
        refine cells_ret (r := 10) (T := 70) (g := n0) rfl (by rw [HN0.out]; rfl) rfl (run_loadVar_row (P := Tryd.prog) _ _ _ 70 _ (0, 0) _ (setRow_heap _ _ _ _ _ _ HZ3.out) Tryd.underlying70 rfl rfl) ⟨?_, below_setRow HB3.out _ _ HN1.out⟩
        have hwy : why = 0 := by rw [HWY.out]
        rw [hwy]
    · have d3 : (h != 1) = true := by simpa using h3
      rw [if_pos (.inr (.inr ⟨rfl, h3⟩))] at HWY
      clear h1 h3
      go_wp2_with (first | ((with_reducible refine at_op ⟨some 75, _, _, _, _, _⟩ ?_); refine wpList_load_row rfl 70 _ rfl q rfl 70 (stA h bh 5) (0, 0) _ (HQE.out 5) Tryd.underlying70 rfl rfl ?_) | ((with_reducible refine at_op ⟨none, .store 70 (.tmp 10) (.tmp 75), _, _, _, _⟩ ?_); refine wpList_store_row rfl 70 _ _ rfl n0 (stA h bh 5) (by rw [HN0.out]; rfl) rfl 70 (stA 0 0 0) (HZE.out 5) rfl rfl (stA_one _ _ _) ?_))
      refine cells_ret (r := 10) (T := 70) (g := n0) rfl (by rw [HN0.out]; rfl) rfl (run_loadVar_row (P := Tryd.prog) _ _ _ 70 _ (0, 0) _ (setRow_heap _ _ _ _ _ _ (HZE.out 5)) Tryd.underlying70 rfl rfl) ⟨?_, below_setRow (HBE.out 5) _ _ HN1.out⟩
      have hwy : why = 5 := by rw [HWY.out]
      rw [hwy]
  have d2 : (xop == 11) = false := by simpa using h2
  have d2b : (xop != 11) = true := by simpa using h2
  rw [if_neg (by simp [h1, h2])] at HWY
  by_cases h4 : 8 < bh
  · have d4 : decide (8 < bh) = true := decide_eq_true h4
    rw [if_pos h4] at HWY
    clear h1 h2 h4
    go_wp2_with (first | ((with_reducible refine at_op ⟨some 75, _, _, _, _, _⟩ ?_); refine wpList_load_row rfl 70 _ rfl q rfl 70 (stA h bh 16) (0, 0) _ (HQE.out 16) Tryd.underlying70 rfl rfl ?_) | ((with_reducible refine at_op ⟨none, .store 70 (.tmp 10) (.tmp 75), _, _, _, _⟩ ?_); refine wpList_store_row rfl 70 _ _ rfl n0 (stA h bh 16) (by rw [HN0.out]; rfl) rfl 70 (stA 0 0 0) (HZE.out 16) rfl rfl (stA_one _ _ _) ?_))
    refine cells_ret (r := 10) (T := 70) (g := n0) rfl (by rw [HN0.out]; rfl) rfl (run_loadVar_row (P := Tryd.prog) _ _ _ 70 _ (0, 0) _ (setRow_heap _ _ _ _ _ _ (HZE.out 16)) Tryd.underlying70 rfl rfl) ⟨?_, below_setRow (HBE.out 16) _ _ HN1.out⟩
    have hwy : why = 16 := by rw [HWY.out]
    rw [hwy]
  have d4 : decide (8 < bh) = false := decide_eq_false h4
  rw [if_neg h4] at HWY
  clear h1 h4
  by_cases h5 : rest ≤ pp
  · have d5 : decide (rest ≤ pp) = true := decide_eq_true h5
    rw [if_pos ⟨h2, h5⟩] at HWY
    clear h2 h5
    go_wp2_with (first | ((with_reducible refine at_op ⟨some 69, _, _, _, _, _⟩ ?_); refine wpList_runW rfl (.agg (insA ⟨xop, xa, xb⟩)) (load_ia rfl rfl HAT.out) ?_) | fail)
    refine (HPA.out _).mono ?_
    rintro e w4 ⟨rfl, hb4⟩
    have HQ4 := hid ((hb4.block q (Array.getElem?_eq_some_iff.1 HQ3.out).1).trans HQ3.out)
    have HZ4 := hid ((hb4.block n0 (Array.getElem?_eq_some_iff.1 HZ3.out).1).trans HZ3.out)
    have HB4 := hid (HB3.out.trans (hb4.mono HB3.out.size))
    have hq4 := HQ4.out
    have s2b : w4.cell? ⟨q, 2, none⟩ = some (.int .i64 0) := by simp [World.cell?, hq4, stA]
    have f2b : w4.frozen? ⟨q, 2, none⟩ = false := by simp [World.frozen?, hq4]
    have HQ4E := hid (fun e => heap_st hq4 e)
    have HZ4E := hid (fun e => (Below.heap_setCell w4 ⟨q, 2, none⟩ (.int .i64 e) n0 (by show n0 ≠ q; exact HNQ.out)).trans HZ4.out)
    have HB4E := hid (fun e => HB4.out.setCell (p := ⟨q, 2, none⟩) (by show w.heap.size ≤ q; exact HNR.out) (.int .i64 e))
    clear hb4 hq4 HPA s2 f2 x0 x1 x2 r1 r2 r3 s1 HQE HZE HBE
    go_wp2_with (first | ((with_reducible refine at_op ⟨some 75, _, _, _, _, _⟩ ?_); refine wpList_load_row rfl 70 _ rfl q rfl 70 (stA h bh 5) (0, 0) _ (HQ4E.out 5) Tryd.underlying70 rfl rfl ?_) | ((with_reducible refine at_op ⟨none, .store 70 (.tmp 10) (.tmp 75), _, _, _, _⟩ ?_); refine wpList_store_row rfl 70 _ _ rfl n0 (stA h bh 5) (by rw [HN0.out]; rfl) rfl 70 (stA 0 0 0) (HZ4E.out 5) rfl rfl (stA_one _ _ _) ?_))
    refine cells_ret (r := 10) (T := 70) (g := n0) rfl (by rw [HN0.out]; rfl) rfl (run_loadVar_row (P := Tryd.prog) _ _ _ 70 _ (0, 0) _ (setRow_heap _ _ _ _ _ _ (HZ4E.out 5)) Tryd.underlying70 rfl rfl) ⟨?_, below_setRow (HB4E.out 5) _ _ HN1.out⟩
    have hwy : why = 5 := by rw [HWY.out]
    rw [hwy]
  · have d5 : decide (rest ≤ pp) = false := decide_eq_false h5
    rw [if_neg (fun hh => h5 hh.2)] at HWY
    clear h2 h5
    go_wp2_with (first | ((with_reducible refine at_op ⟨some 69, _, _, _, _, _⟩ ?_); refine wpList_runW rfl (.agg (insA ⟨xop, xa, xb⟩)) (load_ia rfl rfl HAT.out) ?_) | fail)
    refine (HPA.out _).mono ?_
    rintro e w4 ⟨rfl, hb4⟩
    have HQ4 := hid ((hb4.block q (Array.getElem?_eq_some_iff.1 HQ3.out).1).trans HQ3.out)
    have HZ4 := hid ((hb4.block n0 (Array.getElem?_eq_some_iff.1 HZ3.out).1).trans HZ3.out)
    have HB4 := hid (HB3.out.trans (hb4.mono HB3.out.size))
    have hq4 := HQ4.out
    have s2b : w4.cell? ⟨q, 2, none⟩ = some (.int .i64 0) := by simp [World.cell?, hq4, stA]
    have f2b : w4.frozen? ⟨q, 2, none⟩ = false := by simp [World.frozen?, hq4]
    have HQ4E := hid (fun e => heap_st hq4 e)
    have HZ4E := hid (fun e => (Below.heap_setCell w4 ⟨q, 2, none⟩ (.int .i64 e) n0 (by show n0 ≠ q; exact HNQ.out)).trans HZ4.out)
    have HB4E := hid (fun e => HB4.out.setCell (p := ⟨q, 2, none⟩) (by show w.heap.size ≤ q; exact HNR.out) (.int .i64 e))
    clear hb4 hq4 HPA s2 f2 x0 x1 x2 r1 r2 r3 s1 HQE HZE HBE
    go_wp2_with (first | ((with_reducible refine at_op ⟨some 75, _, _, _, _, _⟩ ?_); refine wpList_load_row rfl 70 _ rfl q rfl 70 (stA h bh 0) (0, 0) _ HQ4.out Tryd.underlying70 rfl rfl ?_) | ((with_reducible refine at_op ⟨none, .store 70 (.tmp 10) (.tmp 75), _, _, _, _⟩ ?_); refine wpList_store_row rfl 70 _ _ rfl n0 (stA h bh 0) (by rw [HN0.out]; rfl) rfl 70 (stA 0 0 0) HZ4.out rfl rfl (stA_one _ _ _) ?_))
    refine cells_ret (r := 10) (T := 70) (g := n0) rfl (by rw [HN0.out]; rfl) rfl (run_loadVar_row (P := Tryd.prog) _ _ _ 70 _ (0, 0) _ (setRow_heap _ _ _ _ _ _ HZ4.out) Tryd.underlying70 rfl rfl) ⟨?_, below_setRow HB4.out _ _ HN1.out⟩
    have hwy : why = 0 := by rw [HWY.out]
    rw [hwy]
end Go.Proofs.YtcoclaabainibaaDoor
