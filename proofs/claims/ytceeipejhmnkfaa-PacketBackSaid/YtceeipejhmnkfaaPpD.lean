/- PpA PpB PpC PpD in one -/
import Derived.Test.YtceeipejhmnkfaaPkA
import Derived.Test.YtceeipejhmnkfaaMixC
import Derived.Test.YtceeipejhmnkfaaObE
import Derived.Test.YtceeipejhmnkfaaPkL
import Derived.Test.YtceeipejhmnkfaaObS
namespace Go.Proofs.Ytceeipejhmnkfaa
open Go Go.ChangeShapes Go.WideShapes Go.ChangeAt Go.RowKit

def homeB (n : Int) : Bool := decide (0 ≤ n) && decide (n < 4)
def homesB (f t : Int) : Bool := homeB f && (homeB t && (f != t))
def numB (k n : Int) : Bool := if k = 3 ∨ k = 4 then decide (1 ≤ n) && decide (n ≤ 4294967295) else true
def refB (rs : List Orf) : Bool := (rs.length == 0) || ((rs.length == 1) && rs.all rightO)
def fieldsB (p : Pk) : Bool := decide (0 ≤ p.me) && (decide (p.me < 8) && (decide (0 ≤ p.co) && (decide (p.co ≤ 20) && (numB p.ki p.n && refB p.rs))))
set_option maxRecDepth 100000 in
theorem isHome_any (n : Int) (w : World) : Calls Try.prog 48 #[.int .i64 n] w fun e w' => e = .returned (.bool (homeB n)) ∧ w = w' := by
  by_cases h : 0 ≤ n
  · have d : decide (0 ≤ n) = true := decide_eq_true h
    have HZ := hid (show homeB n = decide (n < 4) by unfold homeB; rw [d]; rfl)
    clear h
    go_enter Try.func48, Try.ntmps48
    go_wp2
    go_ret
    exact ⟨ret_bool HZ.out.symm, rfl⟩
  · have d : decide (0 ≤ n) = false := decide_eq_false h
    have HZ := hid (show homeB n = false by unfold homeB; rw [d]; rfl)
    clear h
    go_enter Try.func48, Try.ntmps48
    go_wp2
    go_ret
    exact ⟨ret_bool HZ.out.symm, rfl⟩
set_option maxRecDepth 100000 in
theorem homesMayBe_any (f t : Int) (w : World) : Calls Try.prog 27 #[.int .i64 f, .int .i64 t] w fun e w' => e = .returned (.bool (homesB f t)) ∧ w = w' := by
  have H1 := hid (fun w => isHome_any f w)
  have H2 := hid (fun w => isHome_any t w)
  have HZ : RowKit.Hid (homesB f t = (homeB f && (homeB t && (f != t)))) := rfl
  generalize homesB f t = z at *
  generalize homeB f = x at *
  generalize homeB t = y at *
  cases x with
  | false =>
    go_enter Try.func27, Try.ntmps27
    go_wp2_with fail
    refine (H1.out _).mono ?_
    rintro e w1 ⟨rfl, rfl⟩
    go_wp2_with fail
    go_ret
    exact ⟨ret_bool HZ.out.symm, rfl⟩
  | true =>
    cases y with
    | false =>
      go_enter Try.func27, Try.ntmps27
      go_wp2_with fail
      refine (H1.out _).mono ?_
      rintro e w1 ⟨rfl, rfl⟩
      go_wp2_with fail
      refine (H2.out _).mono ?_
      rintro e w1 ⟨rfl, rfl⟩
      go_wp2_with fail
      go_ret
      exact ⟨ret_bool HZ.out.symm, rfl⟩
    | true =>
      go_enter Try.func27, Try.ntmps27
      go_wp2_with fail
      refine (H1.out _).mono ?_
      rintro e w1 ⟨rfl, rfl⟩
      go_wp2_with fail
      refine (H2.out _).mono ?_
      rintro e w1 ⟨rfl, rfl⟩
      go_wp2_with fail
      go_ret
      exact ⟨ret_bool HZ.out.symm, rfl⟩
set_option maxRecDepth 100000 in
theorem numberMayBe_any (k n : Int) (w : World) : Calls Try.prog 49 #[.int .i64 k, .int .i64 n] w fun e w' => e = .returned (.bool (numB k n)) ∧ w = w' := by
  have HZ : RowKit.Hid (numB k n = if k = 3 ∨ k = 4 then decide (1 ≤ n) && decide (n ≤ 4294967295) else true) := rfl
  generalize numB k n = z at *
  cases h : decide (1 ≤ n)
  all_goals
    rw [h] at HZ
    by_cases h3 : k = 3
    · subst h3
      go_enter Try.func49, Try.ntmps49
      go_wp2
      go_ret
      exact ⟨ret_bool (by rw [HZ.out]; rfl), rfl⟩
    by_cases h4 : k = 4
    · subst h4
      go_enter Try.func49, Try.ntmps49
      go_wp2
      go_ret
      exact ⟨ret_bool (by rw [HZ.out]; rfl), rfl⟩
    · have e3 : (k == 3) = false := by simpa using h3
      have e4 : (k == 4) = false := by simpa using h4
      rw [if_neg (by omega)] at HZ
      clear h3 h4
      go_enter Try.func49, Try.ntmps49
      go_wp2
      go_ret
      exact ⟨ret_bool (by rw [HZ.out]), rfl⟩
/-- Which fields a kind has. -/
def rowL (k : Int) : List Bool :=
  if k = 1 then [true, true, true, false, true, true] else if k = 2 then [true, false, false, true, true, false]
  else if k = 3 ∨ k = 4 then [false, true, false, false, true, false] else [false, false, false, false, false, false]
def bools (l : List Bool) : Array Value := (l.map Value.bool).toArray
def RowP (w : World) (k : Int) (e : Ending) (w' : World) : Prop := e = .returned (.agg (bools (rowL k))) ∧ Below w.heap.size w w'
end Go.Proofs.Ytceeipejhmnkfaa

namespace Go.Proofs.Ytceeipejhmnkfaa
open Go Go.ChangeShapes Go.WideShapes Go.ChangeAt Go.RowKit

/-- An array of one-celled values, read at a place. -/
theorem run_index_cs {P : Program} (w : World) (t e n : Nat) (cs : Array Value) (k : Nat) (v : Value) (ht : P.underlying t = some (.array n e)) (he : ∀ w, (sizeOf e).run P w = .ok 1 w) (ha : ∀ w, (isAgg e).run P w = .ok false w) (hk : k < n) (hv : cs[k]? = some v) :
    (Instr.index t (.agg cs) (.int .i64 (k : Int))).run P w = .ok v w := by
  simp [Instr.index, asIntOf, run_underlying ht, he, ha, hk, part, hv]
set_option maxRecDepth 100000 in
theorem szBo (w : World) : (sizeOf 4).run Try.prog w = .ok 1 w := by kernel_rfl
set_option maxRecDepth 100000 in
theorem agBo (w : World) : (isAgg 4).run Try.prog w = .ok false w := by kernel_rfl
theorem bools_get {l : List Bool} {k : Nat} (h : k < l.length) : (bools l)[k]? = some (.bool (l.getD k false)) := by simp [bools, h]
theorem bools_cell {w : World} {g t k : Nat} {l : List Bool} (h : w.heap[g]? = some (.cells (bools l) t (0, 0))) (hk : k < l.length) : w.cell? ⟨g, k, none⟩ = some (.bool (l.getD k false)) := by
  simp [World.cell?, h, bools, hk]
theorem bools_one (l : List Bool) : (bools l).all (·.oneCell') = true := by
  refine Array.all_eq_true_iff_forall_mem.2 (fun v hv => ?_)
  have hm : v ∈ l.map Value.bool := by simpa [bools] using hv
  obtain ⟨x, _, rfl⟩ := List.mem_map.1 hm
  rfl
theorem bools_size (l : List Bool) : (bools l).size = l.length := by simp [bools]
theorem rowL_len (k : Int) : (rowL k).length = 6 := by
  unfold rowL
  repeat' split
  all_goals rfl
set_option maxRecDepth 100000 in
theorem szRow : (Try.prog.info? 50).map (·.size) = some 6 := by kernel_rfl
def row0 : List Bool := [false, false, false, false, false, false]
/-- The result's cells hold a row. -/
theorem row_ret {fn : Func} {Q : Ending → World → Prop} {a : Act} {W : World} {g : Nat} {l : List Bool} (hf : fn.results = #[.cell 2 50]) (h2 : a.tmps.getD 2 undef = .pointer (some ⟨g, 0, none⟩)) (hd : a.defers = [])
    (hg : W.heap[g]? = some (.cells (bools l) 50 (0, 0))) (h6 : l.length = 6) (h : Q (.returned (.agg (bools l))) W) : bodyPost Try.prog fn Q .ret a W := by
  refine bodyPost_ret (v := .agg (bools l)) ?_ hd h
  rw [results_cell1 hf, h2]
  have hl := run_loadVar_row (P := Try.prog) W g 50 50 (bools l) (0, 0) _ hg Try.underlying50 rfl (by rw [bools_size, h6]; exact szRow)
  simp [asAddr, hl, Result.andThen]
set_option maxRecDepth 100000 in
theorem rowOf_any (k : Int) (w : World) : Calls Try.prog 23 #[.int .i64 k] w (RowP w k) := by
  have HN := hid (show (w.alloc (.cells (bools row0) 50)).heap[w.heap.size]? = some (.cells (bools row0) 50 (0, 0)) from heap_alloc_new _ _)
  have HB := hid (show Below w.heap.size w (w.alloc (.cells (bools row0) 50)) from (Below.refl _ _).alloc (Nat.le_refl _) _)
  have HZ := hid (szRow)
  have fin : ∀ (l : List Bool) (a : Act), l.length = 6 → rowL k = l → a.tmps.getD 2 undef = .pointer (some ⟨w.heap.size, 0, none⟩) → a.defers = [] →
      bodyPost Try.prog Try.f23 (RowP w k) .ret a ((w.alloc (.cells (bools row0) 50)).setRow w.heap.size (bools l)) := fun l a h6 hl h2 hd =>
    row_ret rfl h2 hd (setRow_heap _ _ _ _ _ _ HN.out) h6 ⟨by rw [hl], below_setRow HB.out _ _ (Nat.le_refl _)⟩
  have FIN := hid fin
  clear fin
  by_cases h1 : k = 1
  · subst h1
    go_enter Try.func23, Try.ntmps23
    go_wp2_with (first | ((with_reducible refine at_op ⟨none, .store 50 (.tmp 2) (.tmp 6), _, _, _, _⟩ ?_); refine wpList_store_row rfl 50 _ _ rfl w.heap.size (bools [true, true, true, false, true, true]) rfl rfl 50 (bools row0) HN.out HZ.out rfl (bools_one _) ?_))
    refine FIN.out _ _ rfl rfl rfl rfl
  by_cases h2 : k = 2
  · subst h2
    go_enter Try.func23, Try.ntmps23
    go_wp2_with (first | ((with_reducible refine at_op ⟨none, .store 50 (.tmp 2) (.tmp 9), _, _, _, _⟩ ?_); refine wpList_store_row rfl 50 _ _ rfl w.heap.size (bools [true, false, false, true, true, false]) rfl rfl 50 (bools row0) HN.out HZ.out rfl (bools_one _) ?_))
    refine FIN.out _ _ rfl rfl rfl rfl
  by_cases h3 : k = 3
  · subst h3
    go_enter Try.func23, Try.ntmps23
    go_wp2_with (first | ((with_reducible refine at_op ⟨none, .store 50 (.tmp 2) (.tmp 13), _, _, _, _⟩ ?_); refine wpList_store_row rfl 50 _ _ rfl w.heap.size (bools [false, true, false, false, true, false]) rfl rfl 50 (bools row0) HN.out HZ.out rfl (bools_one _) ?_))
    refine FIN.out _ _ rfl rfl rfl rfl
  by_cases h4 : k = 4
  · subst h4
    go_enter Try.func23, Try.ntmps23
    go_wp2_with (first | ((with_reducible refine at_op ⟨none, .store 50 (.tmp 2) (.tmp 13), _, _, _, _⟩ ?_); refine wpList_store_row rfl 50 _ _ rfl w.heap.size (bools [false, true, false, false, true, false]) rfl rfl 50 (bools row0) HN.out HZ.out rfl (bools_one _) ?_))
    refine FIN.out _ _ rfl rfl rfl rfl
  have e1 : (k == 1) = false := by simpa using h1
  have e2 : (k == 2) = false := by simpa using h2
  have e3 : (k == 3) = false := by simpa using h3
  have e4 : (k == 4) = false := by simpa using h4
  have HR := hid (show rowL k = row0 by rw [rowL, if_neg h1, if_neg h2, if_neg (by omega)]; rfl)
  clear h1 h2 h3 h4
  go_enter Try.func23, Try.ntmps23
  go_wp2_with (first | ((with_reducible refine at_op ⟨none, .store 50 (.tmp 2) (.tmp 14), _, _, _, _⟩ ?_); refine wpList_store_row rfl 50 _ _ rfl w.heap.size (bools row0) rfl rfl 50 (bools row0) HN.out HZ.out rfl (bools_one _) ?_))
  refine FIN.out row0 _ rfl HR.out rfl rfl
/-- A whole row is stored. -/
theorem exec_store_row {P : Program} {o : Oper} {f : Operand → Value} {W : World} (ty : TypeId) (x y : Operand) (ho : o.op = .store ty x y) (g : Nat) (cells : Array Value) (hx : f x = .pointer (some ⟨g, 0, none⟩)) (hy : f y = .agg cells)
    (t : TypeId) (old : Array Value) (hg : W.heap[g]? = some (.cells old t (0, 0))) (hi : (P.info? ty).map (·.size) = some cells.size) (hold : old.size = cells.size) (h1 : cells.all (·.oneCell') = true) :
    (execOp f o).run P W = .ok .skip (W.setRow g cells) := by
  unfold execOp
  simp only [ho, hx, hy, Instr.storeAt, Instr.sureAddr, Sem.run_bind, Sem.run_pure, Result.andThen_ok, run_storeVar_row W g t ty old cells hg hi hold h1]
/-- Which fields aren't zero. -/
def fillL (p : Pk) : List Bool := [p.ca != 0, p.ip != g0, p.me != 0, p.co != 0, p.n != 0, decide (0 < p.rs.length)]
def FillP (w : World) (p : Pk) (e : Ending) (w' : World) : Prop := e = .returned (.agg (bools (fillL p))) ∧ Below w.heap.size w w'
set_option maxRecDepth 100000 in
set_option maxHeartbeats 1000000 in
theorem filled_any (p : Pk) (hp : PkOk p) (ad : Option Addr) (c : Nat) (w : World) : Calls Try.prog 29 #[.agg (pkA p ad c)] w (FillP w p) := by
  obtain ⟨w1, hw1⟩ : ∃ w1, w1 = w.alloc (.cells (pkA p ad c) 28) := ⟨_, rfl⟩
  have ho : InP w1 w.heap.size p ad c := by rw [hw1]; exact heap_alloc_new _ _
  have hsz : w1.heap.size = w.heap.size + 1 := by rw [hw1]; simp
  have hB1 : Below w.heap.size w w1 := by rw [hw1]; exact (Below.refl _ _).alloc (Nat.le_refl _) _
  obtain ⟨w2, hw2⟩ : ∃ w2, w2 = w1.alloc (.cells (bools row0) 50) := ⟨_, rfl⟩
  have hz : w2.heap[w.heap.size + 1]? = some (.cells (bools row0) 50 (0, 0)) := by rw [hw2, ← hsz]; exact heap_alloc_new _ _
  have ho2 : InP w2 w.heap.size p ad c := by unfold InP; rw [hw2, heap_alloc_old _ _ (by omega)]; exact ho
  have hB2 : Below w.heap.size w w2 := by rw [hw2]; exact hB1.alloc hB1.size _
  have h16 := hp.ip.len
  have c4 := ho2.c4
  have c21 := ho2.c21 h16
  have c22 := ho2.c22 h16
  have c23 := ho2.c23 h16
  have c24 := ho2.c24 h16
  have HO := hid ho2
  have HZ := hid hz
  have HB := hid hB2
  have HW := hid (show w2 = (w.alloc (.cells (pkA p ad c) 28)).alloc (.cells (bools row0) 50) by rw [hw2, hw1])
  have heq := eqG' p.ip g0 h16 rfl
  have hgu := guardG'
  have HSZ := hid szRow
  clear hw1 ho hB1 hw2 hz ho2 hB2 hsz
  go_enter Try.func29, Try.ntmps29
  go_upto_region 1 with (fail)
  change Code.wp _ _ _ _ ((w.alloc (.cells (pkA p ad c) 28)).alloc (.cells (bools row0) 50))
  rw [← HW.out]
  have HC := hid (show InP w2.drew w.heap.size p ad c from HO.out)
  refine C.wp_region_mix [0, 1, 0, 0, 1, 0, 0, 0, 1, 0, 0, 1, 0, 0, 1, 0, 0, 1, 0, 0, 0, 3] (fun W => InP W w.heap.size p ad c) (by kernel_rfl) (by kernel_rfl) HO.out ?_
  repeat (first
    | ((with_reducible refine C.atM ⟨some 8, _, _, _, _, _⟩ ?_); refine C.wpMix_value (.agg (u8s g0)) rfl rfl (by intro W; go_simp; rfl) ?_; simp only [Act.put, List.setIfInBounds_toArray, List.set_cons_zero, List.set_cons_succ])
    | (refine' C.wpMix_value _ rfl rfl _ _; rotate_left; (solve | (intro W; go_simp) | (intro W; go_simp; with_reducible rfl)); simp only [Act.put, List.setIfInBounds_toArray, List.set_cons_zero, List.set_cons_succ])
    | (refine' C.wpMix_read _ rfl rfl _ _; rotate_left; (solve | (rintro W (h1 : InP W w.heap.size p ad c); have c4 := h1.c4; have c21 := h1.c21 h16; have c22 := h1.c22 h16; have c23 := h1.c23 h16; have c24 := h1.c24 h16; clear h1; go_simp) | (rintro W (h1 : InP W w.heap.size p ad c); have c4 := h1.c4; have c21 := h1.c21 h16; have c22 := h1.c22 h16; have c23 := h1.c23 h16; have c24 := h1.c24 h16; clear h1; go_simp; with_reducible rfl)); simp only [Act.put, List.setIfInBounds_toArray, List.set_cons_zero, List.set_cons_succ])
    | (refine C.wpMix_read (.agg (u8s p.ip)) rfl rfl (fun W h1 => load_g rfl rfl (InP.ip h1) h16) ?_; simp only [Act.put, List.setIfInBounds_toArray, List.set_cons_zero, List.set_cons_succ]))
  refine C.wpMix_skip (w2.drew.setRow (w.heap.size + 1) (bools (fillL p))) (by decide) rfl (exec_store_row 50 _ _ rfl (w.heap.size + 1) (bools (fillL p)) rfl rfl 50 (bools row0) HZ.out HSZ.out rfl (bools_one _)) (fun h => by cases h) ?_
  simp only [Act.put]
  refine C.wpMix_end ?_
  go_wp2
  exact row_ret rfl rfl rfl (setRow_heap _ _ _ _ _ _ HZ.out) rfl ⟨rfl, below_setRow HB.out.drew _ _ (by omega)⟩
end Go.Proofs.Ytceeipejhmnkfaa

namespace Go.Proofs.Ytceeipejhmnkfaa
open Go Go.ChangeShapes Go.WideShapes Go.ChangeAt Go.RowKit

def BoolB (w : World) (b : Bool) (e : Ending) (w' : World) : Prop := e = .returned (.bool b) ∧ Below w.heap.size w w'
set_option maxRecDepth 100000 in
theorem refMayBe_any (rs : List Orf) (hok : ∀ x ∈ rs, OrfOk x) (a : Option Addr) (c : Nat) (w : World) (hr : RwO w w.heap.size a rs) (hc : rs.length ≤ c ∧ c ≤ 9223372036854775807) :
    Calls Try.prog 50 #[.slice a rs.length c] w (BoolB w (refB rs)) := by
  by_cases h0 : rs.length = 0
  · have HZ := hid (show refB rs = true by unfold refB; rw [h0]; rfl)
    have e0 : ((rs.length : Int) == 0) = true := by simp [h0]
    clear h0 hr hc hok
    go_enter Try.func50, Try.ntmps50
    go_wp2_with fail
    go_ret
    exact ⟨ret_bool HZ.out.symm, Below.refl _ _⟩
  by_cases h1 : rs.length = 1
  · obtain ⟨x, rfl⟩ : ∃ x, rs = [x] := by
      match rs, h1 with
      | [x], _ => exact ⟨x, rfl⟩
    have hx : OrfOk x := hok x (by simp)
    have HZ := hid (show refB [x] = rightO x by simp [refB])
    obtain ⟨bo, oo, rfl, _⟩ := hr.at_ (by simp)
    have hat := hr.rows bo oo rfl 0 x rfl
    have HAT := hid (show AtL w bo oo (orc x) by simpa using hat)
    have HCK := hid (Check_any x w)
    have HE : RowKit.Hid (errO x = if rightO x then 0 else 5) := rfl
    obtain ⟨z, hz⟩ : ∃ z, z = errO x := ⟨_, rfl⟩
    rw [← hz] at HCK HE
    clear hz hat hr hok h0 h1
    simp only [List.length_singleton]
    go_enter Try.func50, Try.ntmps50
    go_wp2_with (first | ((with_reducible refine at_op ⟨some 13, _, _, _, _, _⟩ ?_); refine wpList_runW rfl (.agg (orA x)) (load_oa rfl rfl HAT.out hx) ?_) | fail)
    refine HCK.out.mono ?_
    rintro e w1 ⟨rfl, hb1⟩
    have HB1 := hid hb1
    clear hb1
    go_wp2_with fail
    go_ret
    exact ⟨ret_bool (by rw [HZ.out, HE.out]; cases rightO x <;> rfl), HB1.out⟩
  · have HZ := hid (show refB rs = false by
      unfold refB
      rw [show (rs.length == 0) = false by simpa using h0, show (rs.length == 1) = false by simpa using h1]; rfl)
    have e0 : ((rs.length : Int) == 0) = false := by simp; simpa using h0
    have e1 : ((rs.length : Int) == 1) = false := by simp; omega
    clear h0 h1 hr hc hok
    go_enter Try.func50, Try.ntmps50
    go_wp2_with fail
    go_ret
    exact ⟨ret_bool HZ.out.symm, Below.refl _ _⟩
set_option maxRecDepth 100000 in
set_option maxHeartbeats 1000000 in
theorem fieldsMayBe_any (p : Pk) (hp : PkOk p) (ad : Option Addr) (c : Nat) (w : World) (hr : RwO w w.heap.size ad p.rs) (hc : p.rs.length ≤ c ∧ c ≤ 9223372036854775807) :
    Calls Try.prog 28 #[.agg (pkA p ad c)] w (BoolB w (fieldsB p)) := by
  obtain ⟨w1, hw1⟩ : ∃ w1, w1 = w.alloc (.cells (pkA p ad c) 28) := ⟨_, rfl⟩
  have ho : InP w1 w.heap.size p ad c := by rw [hw1]; exact heap_alloc_new _ _
  have hB1 : Below w.heap.size w w1 := by rw [hw1]; exact (Below.refl _ _).alloc (Nat.le_refl _) _
  have hr1 := hr.on hB1
  have h16 := hp.ip.len
  have c0 := ho.c0
  have c21 := ho.c21 h16
  have c22 := ho.c22 h16
  have c23 := ho.c23 h16
  have c24 := ho.c24 h16
  have HN := hid (fun w => numberMayBe_any p.ki p.n w)
  have HR := hid (refMayBe_any p.rs hp.rs ad c w1 hr1 hc)
  have HB := hid hB1
  have HW := hid hw1
  have HZ : RowKit.Hid (fieldsB p = (decide (0 ≤ p.me) && (decide (p.me < 8) && (decide (0 ≤ p.co) && (decide (p.co ≤ 20) && (numB p.ki p.n && refB p.rs)))))) := rfl
  generalize fieldsB p = z at *
  generalize numB p.ki p.n = x at *
  generalize refB p.rs = y at *
  clear hw1 ho hB1 hr hr1 hc hp h16
  by_cases hd1 : 0 ≤ p.me
  case neg =>
    have d1 : decide (0 ≤ p.me) = false := decide_eq_false hd1
    rw [d1] at HZ
    clear hd1
    go_enter Try.func28, Try.ntmps28
    go_upto_region 1 with (fail)
    rw [← HW.out]
    go_wp2_with fail
    go_ret
    exact ⟨ret_bool (by rw [HZ.out]; rfl), HB.out⟩
  have d1 : decide (0 ≤ p.me) = true := decide_eq_true hd1
  rw [d1, Bool.true_and] at HZ
  by_cases hd2 : p.me < 8
  case neg =>
    have d2 : decide (p.me < 8) = false := decide_eq_false hd2
    rw [d2] at HZ
    clear hd2
    go_enter Try.func28, Try.ntmps28
    go_upto_region 1 with (fail)
    rw [← HW.out]
    go_wp2_with fail
    go_ret
    exact ⟨ret_bool (by rw [HZ.out]; rfl), HB.out⟩
  have d2 : decide (p.me < 8) = true := decide_eq_true hd2
  rw [d2, Bool.true_and] at HZ
  by_cases hd3 : 0 ≤ p.co
  case neg =>
    have d3 : decide (0 ≤ p.co) = false := decide_eq_false hd3
    rw [d3] at HZ
    clear hd3
    go_enter Try.func28, Try.ntmps28
    go_upto_region 1 with (fail)
    rw [← HW.out]
    go_wp2_with fail
    go_ret
    exact ⟨ret_bool (by rw [HZ.out]; rfl), HB.out⟩
  have d3 : decide (0 ≤ p.co) = true := decide_eq_true hd3
  rw [d3, Bool.true_and] at HZ
  by_cases hd4 : p.co ≤ 20
  case neg =>
    have d4 : decide (p.co ≤ 20) = false := decide_eq_false hd4
    rw [d4] at HZ
    clear hd4
    go_enter Try.func28, Try.ntmps28
    go_upto_region 1 with (fail)
    rw [← HW.out]
    go_wp2_with fail
    go_ret
    exact ⟨ret_bool (by rw [HZ.out]; rfl), HB.out⟩
  have d4 : decide (p.co ≤ 20) = true := decide_eq_true hd4
  rw [d4, Bool.true_and] at HZ
  clear hd1 hd2 hd3 hd4
  cases x with
  | false =>
    rw [Bool.false_and] at HZ
    go_enter Try.func28, Try.ntmps28
    go_upto_region 1 with (fail)
    rw [← HW.out]
    go_wp2_with fail
    refine (HN.out _).mono ?_
    rintro e w2 ⟨rfl, rfl⟩
    go_wp2_with fail
    go_ret
    exact ⟨ret_bool (by rw [HZ.out]), HB.out⟩
  | true =>
    rw [Bool.true_and] at HZ
    go_enter Try.func28, Try.ntmps28
    go_upto_region 1 with (fail)
    rw [← HW.out]
    go_wp2_with fail
    refine (HN.out _).mono ?_
    rintro e w2 ⟨rfl, rfl⟩
    go_wp2_with fail
    refine HR.out.mono ?_
    rintro e w3 ⟨rfl, hb3⟩
    have HB3 := hid (HB.out.trans (hb3.mono HB.out.size))
    clear hb3
    go_wp2_with fail
    go_ret
    exact ⟨ret_bool (by rw [HZ.out]), HB3.out⟩
end Go.Proofs.Ytceeipejhmnkfaa

namespace Go.Proofs.Ytceeipejhmnkfaa
open Go Go.ChangeShapes Go.WideShapes Go.ChangeAt Go.RowKit

def allowB (F R : List Bool) : Bool := (List.range 6).all fun k => !(F.getD k false) || R.getD k false
def checkB (p : Pk) : Bool := decide (1 ≤ p.ki) && (decide (p.ki ≤ 5) && (homesB p.fr p.to && (fieldsB p && allowB (fillL p) (rowL p.ki))))
def errP (p : Pk) : Int := if rightP p then 0 else 5
theorem allow6 (a b c d e f a' b' c' d' e' f' : Bool) : allowB [a, b, c, d, e, f] [a', b', c', d', e', f'] = ((!a || a') && ((!b || b') && ((!c || c') && ((!d || d') && ((!e || e') && (!f || f')))))) := by
  simp [allowB, List.range, List.range.loop]
theorem checkB_eq (p : Pk) : checkB p = rightP p := by
  by_cases hg : p.fr < 0 ∨ 3 < p.fr ∨ p.to < 0 ∨ 3 < p.to ∨ p.fr = p.to
  · rw [rightP, if_pos hg]
    have : homesB p.fr p.to = false := by
      unfold homesB homeB
      rw [Bool.eq_false_iff]
      simp only [Bool.and_eq_true, decide_eq_true_eq, bne_iff_ne, ne_eq]
      omega
    rw [checkB, this]; simp
  have hh : homesB p.fr p.to = true := by
    unfold homesB homeB
    simp only [Bool.and_eq_true, decide_eq_true_eq, bne_iff_ne, ne_eq]
    omega
  rw [rightP, if_neg hg, checkB, hh, fillL, rowL, fieldsB, numB, refB]
  clear hg hh
  have hl : (((p.rs.length : Int) == 0) : Bool) = (p.rs.length == 0) := by
    rw [Bool.eq_iff_iff]; simp
  have hz : p.rs.length = 0 → p.rs.all rightO = true := fun h => by rw [List.eq_nil_of_length_eq_zero h]; rfl
  rw [hl]
  generalize p.rs.all rightO = X at *
  generalize p.rs.length = L at *
  generalize hG : (p.ip == g0) = G at *
  have hG2 : (p.ip != g0) = !G := by rw [← hG]; rfl
  rw [hG2]
  clear hG hG2 hl
  generalize p.ki = k at *
  generalize p.me = m at *
  generalize p.co = o at *
  generalize p.n = n at *
  generalize p.ca = ca at *
  rw [Bool.eq_iff_iff]
  by_cases h1 : k = 1
  · subst h1
    cases X <;> simp [allow6] at hz ⊢ <;> omega
  by_cases h2 : k = 2
  · subst h2
    cases G <;> simp [allow6] <;> omega
  by_cases h3 : k = 3 ∨ k = 4
  · rw [if_neg h1, if_neg h2, if_pos h3, if_pos h3, if_neg h1, if_neg h2, if_pos h3]
    simp [allow6]
    omega
  by_cases h5 : k = 5
  · subst h5
    cases G <;> simp [allow6] <;> omega
  · simp only [if_neg h1, if_neg h2, if_neg h3, if_neg h5]
    simp
    intro a b
    omega
/-- What Check answers. -/
def ChkP (w : World) (p : Pk) (e : Ending) (w' : World) : Prop := e = .returned (.int .i64 (errP p)) ∧ Below w.heap.size w w'
set_option maxRecDepth 100000 in
set_option maxHeartbeats 1000000 in
theorem pkCheck_any (p : Pk) (hp : PkOk p) (ad : Option Addr) (c : Nat) (w : World) (hr : RwO w w.heap.size ad p.rs) (hc : p.rs.length ≤ c ∧ c ≤ 9223372036854775807) :
    Calls Try.prog 10 #[.agg (pkA p ad c)] w (ChkP w p) := by
  obtain ⟨w1, hw1⟩ : ∃ w1, w1 = w.alloc (.cells (pkA p ad c) 28) := ⟨_, rfl⟩
  have ho : InP w1 w.heap.size p ad c := by rw [hw1]; exact heap_alloc_new _ _
  have hB1 : Below w.heap.size w w1 := by rw [hw1]; exact (Below.refl _ _).alloc (Nat.le_refl _) _
  have hr1 := hr.on hB1
  have h16 := hp.ip.len
  have c0 := ho.c0
  have c1 := ho.c1
  have c2 := ho.c2
  have HO := hid ho
  have HH := hid (fun w => homesMayBe_any p.fr p.to w)
  have HF := hid (fieldsMayBe_any p hp ad c w1 hr1 hc)
  have HRO := hid (fun w => rowOf_any p.ki w)
  have HFI := hid (fun w => filled_any p hp ad c w)
  have HB := hid hB1
  have HW := hid hw1
  have HSZ := hid szRow
  have HZ : RowKit.Hid (errP p = if checkB p then 0 else 5) := hid (by rw [checkB_eq]; rfl)
  unfold checkB at HZ
  unfold RowP at HRO
  unfold FillP at HFI
  have HFL := hid (show (fillL p).length = 6 from rfl)
  have HRL := hid (rowL_len p.ki)
  unfold ChkP
  generalize errP p = z at *
  generalize homesB p.fr p.to = x at *
  generalize fieldsB p = y at *
  generalize fillL p = F at *
  generalize rowL p.ki = R at *
  clear hw1 ho hB1 hr hr1 hc hp
  by_cases hd1 : p.ki < 1
  case pos =>
    have d1 : decide (p.ki < 1) = true := decide_eq_true hd1
    rw [decide_eq_false (show ¬ 1 ≤ p.ki by omega)] at HZ
    clear hd1
    go_enter Try.func10, Try.ntmps10
    go_upto_region 1 with (fail)
    rw [← HW.out]
    go_wp2_with fail
    go_ret
    exact ⟨ret_i64 (by rw [HZ.out]; rfl), HB.out⟩
  have d1 : decide (p.ki < 1) = false := decide_eq_false hd1
  rw [decide_eq_true (show 1 ≤ p.ki by omega), Bool.true_and] at HZ
  by_cases hd2 : 5 < p.ki
  case pos =>
    have d2 : decide (5 < p.ki) = true := decide_eq_true hd2
    rw [decide_eq_false (show ¬ p.ki ≤ 5 by omega)] at HZ
    clear hd1 hd2
    go_enter Try.func10, Try.ntmps10
    go_upto_region 1 with (fail)
    rw [← HW.out]
    go_wp2_with fail
    go_ret
    exact ⟨ret_i64 (by rw [HZ.out]; rfl), HB.out⟩
  have d2 : decide (5 < p.ki) = false := decide_eq_false hd2
  rw [decide_eq_true (show p.ki ≤ 5 by omega), Bool.true_and] at HZ
  clear hd1 hd2
  go_enter Try.func10, Try.ntmps10
  go_upto_region 1 with (fail)
  rw [← HW.out]
  cases x with
  | false =>
    rw [Bool.false_and] at HZ
    go_wp2_with fail
    refine (HH.out _).mono ?_
    rintro e w2 ⟨rfl, rfl⟩
    go_wp2_with fail
    go_ret
    exact ⟨ret_i64 (by rw [HZ.out]; rfl), HB.out⟩
  | true =>
  rw [Bool.true_and] at HZ
  go_wp2_with (first | (go_at_call 27; refine (HH.out _).mono ?_; rintro e w2 ⟨rfl, rfl⟩) | ((with_reducible refine at_op ⟨some 23, _, _, _, _, _⟩ ?_); refine wpList_runW rfl (.agg (pkA p ad c)) (load_p rfl rfl HO.out h16) ?_) | fail)
  refine HF.out.mono ?_
  rintro e w2 ⟨rfl, hb2⟩
  have HB2 := hid (HB.out.trans (hb2.mono HB.out.size))
  have HO2 := hid (HO.out.below hb2)
  have c0' := HO2.out.c0
  clear hb2 c0 c1 c2
  cases y with
  | false =>
    rw [Bool.false_and] at HZ
    go_wp2_with fail
    go_ret
    exact ⟨ret_i64 (by rw [HZ.out]; rfl), HB2.out⟩
  | true =>
  rw [Bool.true_and] at HZ
  go_wp2_with fail
  refine (HRO.out _).mono ?_
  rintro e w3 ⟨rfl, hb3⟩
  have HB3 := hid (HB2.out.trans (hb3.mono HB2.out.size))
  have HO3 := hid (HO2.out.below hb3)
  obtain ⟨w4, hw4⟩ : ∃ w4, w4 = w3.alloc (.cells (bools row0) 50) := ⟨_, rfl⟩
  have hn4 : w4.heap[w3.heap.size]? = some (.cells (bools row0) 50 (0, 0)) := by rw [hw4]; exact heap_alloc_new _ _
  have hb4 : Below w.heap.size w w4 := by rw [hw4]; exact HB3.out.alloc HB3.out.size _
  have ho4 : InP w4 w.heap.size p ad c := by unfold InP; rw [hw4, heap_alloc_old _ _ HO3.out.lt]; exact HO3.out
  obtain ⟨w5, hw5⟩ : ∃ w5, w5 = w4.setRow w3.heap.size (bools R) := ⟨_, rfl⟩
  have hn5 : w5.heap[w3.heap.size]? = some (.cells (bools R) 50 (0, 0)) := by rw [hw5]; exact setRow_heap _ _ _ _ _ _ hn4
  have hlt3 := HO3.out.lt
  have hb5 : Below w.heap.size w w5 := by rw [hw5]; exact below_setRow hb4 _ _ HB3.out.size
  have ho5 : InP w5 w.heap.size p ad c := by unfold InP; rw [hw5, setRow_other _ _ _ _ (by omega)]; exact ho4
  have HN4 := hid hn4
  have HN5 := hid hn5
  have HB5 := hid hb5
  have HO5 := hid ho5
  have HW5 := hid (show w5 = (w3.alloc (.cells (bools row0) 50)).setRow w3.heap.size (bools R) by rw [hw5, hw4])
  rw [hw4] at HN4
  have HSR := hid (show (Try.prog.info? 50).map (·.size) = some (bools R).size by rw [bools_size, HRL.out]; exact szRow)
  have HSE := hid (show (bools row0).size = (bools R).size by rw [bools_size, bools_size, HRL.out]; rfl)
  clear hb3 hw4 hn4 hb4 ho4 hw5 hn5 hb5 ho5 c0' hlt3
  go_upto_region 4 with (first | ((with_reducible refine at_op ⟨none, .store 50 (.tmp 3) (.tmp 29), _, _, _, _⟩ ?_); refine wpList_store_row rfl 50 _ _ rfl w3.heap.size (bools R) rfl rfl 50 (bools row0) HN4.out HSR.out HSE.out (bools_one _) ?_) | fail)
  change Code.wp _ _ _ _ ((w3.alloc (.cells (bools row0) 50)).setRow w3.heap.size (bools R))
  rw [← HW5.out]
  go_wp2_with (first | ((with_reducible refine at_op ⟨some 30, _, _, _, _, _⟩ ?_); refine wpList_runW rfl (.agg (pkA p ad c)) (load_p rfl rfl HO5.out h16) ?_) | fail)
  refine (HFI.out _).mono ?_
  rintro e w6 ⟨rfl, hb6⟩
  have HB6 := hid (HB5.out.trans (hb6.mono HB5.out.size))
  have HN6 := hid (show w6.heap[w3.heap.size]? = some (.cells (bools R) 50 (0, 0)) by rw [hb6.block _ (lt_of_heap HN5.out)]; exact HN5.out)
  clear hb6 HN4 HN5 HB5 HO5 HW5 HSR HSE
  go_wp2
  go_loop [32] (fun i => ∃ k : Nat, k ≤ 6 ∧ i = .int .i64 k ∧ RowKit.Hid (∀ j, j < k → (!(F.getD j false) || R.getD j false) = true)) (fun i => 6 - (intOf i).toNat)
  case atStart => exact ⟨0, by omega, rfl, hid (fun j hj => absurd hj (by omega))⟩
  case round =>
    obtain ⟨k, hk, rfl, HQ⟩ := hrel
    by_cases hk6 : k < 6
    · have hix := fun w => run_index_cs (P := Try.prog) w 50 4 6 (bools F) k _ Try.underlying50 szBo agBo hk6 (bools_get (by rw [HFL.out]; exact hk6))
      have hcl := bools_cell (k := k) HN6.out (by rw [HRL.out]; exact hk6)
      have HK : RowKit.Hid ((!(F.getD k false) || R.getD k false) = (!(F.getD k false) || R.getD k false)) := rfl
      generalize hf : F.getD k false = f at *
      generalize hrr : R.getD k false = r at *
      have HFF := hid hf
      have HRR := hid hrr
      clear hf hrr HK
      cases f with
      | false =>
        go_wp2
        go_round
        case rel => exact ⟨k + 1, by omega, by go_num, hid (fun j hj => by
          by_cases e : j = k
          · subst e; rw [HFF.out]; rfl
          · exact HQ.out j (by omega))⟩
        case measure => simp [intOf]; omega
      | true =>
        cases r with
        | true =>
          go_wp2
          go_round
          case rel => exact ⟨k + 1, by omega, by go_num, hid (fun j hj => by
            by_cases e : j = k
            · subst e; rw [HFF.out, HRR.out]; rfl
            · exact HQ.out j (by omega))⟩
          case measure => simp [intOf]; omega
        | false =>
          have HA := hid (show allowB F R = false by
            unfold allowB
            rw [List.all_eq_false]
            exact ⟨k, by simpa using hk6, by rw [HFF.out, HRR.out]; decide⟩)
          go_wp2
          go_ret
          exact ⟨ret_i64 (by rw [HZ.out, HA.out]; rfl), HB6.out⟩
    · obtain rfl : k = 6 := by omega
      have HA := hid (show allowB F R = true by
        unfold allowB
        rw [List.all_eq_true]
        exact fun j hj => HQ.out j (by simpa using hj))
      clear hk6
      go_wp2
      go_ret
      exact ⟨ret_i64 (by rw [HZ.out, HA.out]; rfl), HB6.out⟩
end Go.Proofs.Ytceeipejhmnkfaa
