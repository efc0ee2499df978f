/-
  Objrefs in memory: their cells; Check and its plain twin; two held against each other.
-/
import Derived.Test.YtceeipejhmnkfaaOCm
import Derived.Test.YtceeipejhmnkfaaWrA
import Derived.Test.YtceeipejhmnkfaaEq
namespace Go.Proofs.Ytceeipejhmnkfaa
open Go Go.ChangeShapes Go.WideShapes Go.ChangeAt Go.RowKit

/-- An Objref, plainly. -/
structure Orf where
  fl : Int
  rf : Int
  ox : Int
  oi : Int
  ip : List Int
  ii : List Int
structure OrfOk (x : Orf) : Prop where
  fl0 : 0 ≤ x.fl
  fl1 : x.fl ≤ 4294967295
  rf0 : 0 ≤ x.rf
  rf1 : x.rf ≤ 4294967295
  ox0 : 0 ≤ x.ox
  ox1 : x.ox ≤ 18446744073709551615
  oi0 : 0 ≤ x.oi
  oi1 : x.oi ≤ 18446744073709551615
  ip : IsG x.ip
  ii : IsG x.ii
def orc (x : Orf) : List Value := [.int .u32 x.fl, .int .u32 x.rf, .int .u64 x.ox, .int .u64 x.oi] ++ (u8l x.ip ++ u8l x.ii)
def orA (x : Orf) : Array Value := (orc x).toArray
def orZ : Orf := ⟨0, 0, 0, 0, List.replicate 16 0, List.replicate 16 0⟩
def rightO (x : Orf) : Bool := if x.fl = 0 then decide (0 < x.rf) else if x.fl = 1 ∨ x.fl = 2 then x.rf == 0 else false
def errO (x : Orf) : Int := if rightO x then 0 else 5
set_option maxRecDepth 100000 in
theorem orZ_ok : OrfOk orZ := ⟨by decide, by decide, by decide, by decide, by decide, by decide, by decide, by decide, ⟨rfl, fun j => by
  show 0 ≤ (List.replicate 16 (0 : Int)).getD j 0
  rw [List.getD_eq_getElem?_getD, List.getElem?_replicate]; split <;> decide, fun j => by
  show (List.replicate 16 (0 : Int)).getD j 0 ≤ 255
  rw [List.getD_eq_getElem?_getD, List.getElem?_replicate]; split <;> decide⟩, ⟨rfl, fun j => by
  show 0 ≤ (List.replicate 16 (0 : Int)).getD j 0
  rw [List.getD_eq_getElem?_getD, List.getElem?_replicate]; split <;> decide, fun j => by
  show (List.replicate 16 (0 : Int)).getD j 0 ≤ 255
  rw [List.getD_eq_getElem?_getD, List.getElem?_replicate]; split <;> decide⟩⟩
set_option maxRecDepth 100000 in
theorem orc_len {x : Orf} (h1 : x.ip.length = 16) (h2 : x.ii.length = 16) : (orc x).length = 36 := by simp [orc, u8l, h1, h2]
set_option maxRecDepth 100000 in
theorem orA_size {x : Orf} (h : OrfOk x) : (orA x).size = 36 := by
  show (orc x).toArray.size = 36
  rw [List.size_toArray, orc_len h.ip.len h.ii.len]
set_option maxRecDepth 100000 in
theorem orA_one (x : Orf) : (orA x).all (·.oneCell') = true := by
  rw [Array.all_eq_true_iff_forall_mem]
  intro v hv
  simp [orA, orc, u8l] at hv
  rcases hv with rfl | rfl | rfl | rfl | ⟨n, _, rfl⟩ | ⟨n, _, rfl⟩ <;> rfl
set_option maxRecDepth 100000 in
theorem szO : (Try.prog.info? 58).map (·.size) = some 36 := by kernel_rfl
set_option maxRecDepth 100000 in
theorem infoO {x : Orf} (h : OrfOk x) : (Try.prog.info? 58).map (·.size) = some (orA x).size := by rw [orA_size h]; exact szO

/-- An Objref in a block of its own. -/
def InO (W : World) (b : Nat) (x : Orf) : Prop := W.heap[b]? = some (.cells (orA x) 58 (0, 0))
set_option maxRecDepth 100000 in
theorem InO.cell {W : World} {b : Nat} {x : Orf} (h : InO W b x) (j : Nat) : W.cell? ⟨b, j, none⟩ = (orc x)[j]? := by
  rw [cell_of_row W b j _ _ _ h]; simp [orA]
set_option maxRecDepth 100000 in
theorem InO.c0 {W : World} {b : Nat} {x : Orf} (h : InO W b x) : W.cell? ⟨b, 0, none⟩ = some (.int .u32 x.fl) := h.cell 0
set_option maxRecDepth 100000 in
theorem InO.c1 {W : World} {b : Nat} {x : Orf} (h : InO W b x) : W.cell? ⟨b, 1, none⟩ = some (.int .u32 x.rf) := h.cell 1
set_option maxRecDepth 100000 in
theorem InO.c2 {W : World} {b : Nat} {x : Orf} (h : InO W b x) : W.cell? ⟨b, 2, none⟩ = some (.int .u64 x.ox) := h.cell 2
set_option maxRecDepth 100000 in
theorem InO.c3 {W : World} {b : Nat} {x : Orf} (h : InO W b x) : W.cell? ⟨b, 3, none⟩ = some (.int .u64 x.oi) := h.cell 3
set_option maxRecDepth 100000 in
theorem InO.ip {W : World} {b : Nat} {x : Orf} (h : InO W b x) (hx : x.ip.length = 16) : AtL W b 4 (u8l x.ip) := fun j v hv => by
  have hj : j < 16 := by
    have := (List.getElem?_eq_some_iff.1 hv).1
    simpa [u8l, hx] using this
  rw [h.cell]
  unfold orc
  rw [List.getElem?_append_right (by simp), List.getElem?_append_left (by simp [u8l, hx]; omega)]
  simpa using hv
set_option maxRecDepth 100000 in
theorem InO.ii {W : World} {b : Nat} {x : Orf} (h : InO W b x) (hx : x.ip.length = 16) : AtL W b 20 (u8l x.ii) := fun j v hv => by
  rw [h.cell]
  unfold orc
  rw [List.getElem?_append_right (by simp; omega), List.getElem?_append_right (by simp [u8l, hx]; omega)]
  simp only [u8l_len, List.length_cons, List.length_nil, hx]
  rw [show 20 + j - (0 + 1 + 1 + 1 + 1) - 16 = j by omega]
  exact hv
set_option maxRecDepth 100000 in
theorem InO.lt {W : World} {b : Nat} {x : Orf} (h : InO W b x) : b < W.heap.size := lt_of_heap h
set_option maxRecDepth 100000 in
theorem InO.below {W W' : World} {b : Nat} {x : Orf} (h : InO W b x) (hB : Below W.heap.size W W') : InO W' b x := by
  unfold InO
  rw [hB.block b h.lt]; exact h
set_option maxRecDepth 100000 in
theorem InO.fr {fp : Nat → Prop} {W W' : World} {b : Nat} {x : Orf} (h : InO W b x) (hB : Fr fp W W') (hb : ¬ fp b) : InO W' b x := by
  unfold InO
  rw [hB.block b h.lt hb]; exact h
set_option maxRecDepth 100000 in
theorem InO.row {W : World} {b : Nat} {x : Orf} (h : InO W b x) (hx : OrfOk x) : (loadVar 58 ⟨b, 0, none⟩).run Try.prog W = .ok (.agg (orA x)) W :=
  run_loadVar_row W b 58 58 (orA x) (0, 0) _ h Try.underlying58 rfl (infoO hx)
set_option maxRecDepth 100000 in
theorem u8l_arr (xs : List Int) : (u8l xs).toArray = u8s xs := rfl
set_option maxRecDepth 100000 in
theorem AtL.loadG {W : World} {b o : Nat} {xs : List Int} (h : AtL W b o (u8l xs)) (hn : xs.length = 16) : (loadVar 24 ⟨b, o, none⟩).run Try.prog W = .ok (.agg (u8s xs)) W := by
  have h1 := h.run (P := Try.prog)
  cases hq : Try.prog.info? 24 with
  | none => have := infoG; simp [hq] at this
  | some i =>
    have hi : i.size = 16 := by have := infoG; simpa [hq] using this
    rw [u8l_len, hn, u8l_arr] at h1
    simp [loadVar, sizeOf, typeInfo, hq, hi, loadCells, h1]
set_option maxRecDepth 100000 in
/-- An operation that loads a GUID out of the middle of a block. -/
theorem load_g {o : Oper} {f : Operand → Value} {p : Operand} {b off : Nat} {x : List Int} {W : World} (ho : o.op = .load 24 p) (hp : f p = .pointer (some ⟨b, off, none⟩)) (h : AtL W b off (u8l x)) (hx : x.length = 16) : (execOp f o).run Try.prog W = .ok (.value (.agg (u8s x))) W := by
  have h1 := h.loadG hx
  unfold execOp
  simp only [ho, hp, Instr.loadAt, Instr.sureAddr, Sem.run_bind, Sem.run_pure, Result.andThen_ok, h1]

set_option maxRecDepth 100000 in
/-- Check: right or not. -/
theorem Check_any (x : Orf) (w : World) : Calls Try.prog 60 #[.agg (orA x)] w fun e w' => e = .returned (.int .i64 (errO x)) ∧ Below w.heap.size w w' := by
  have hb : InO (w.alloc (.cells (orA x) 58)) w.heap.size x := heap_alloc_new _ _
  have c0 := hb.c0
  have c1 := hb.c1
  have hB := (Below.refl w.heap.size w).alloc (Nat.le_refl _) (.cells (orA x) 58)
  have HB := hid hB
  have HE : RowKit.Hid (errO x = if (if x.fl = 0 then decide (0 < x.rf) else if x.fl = 1 ∨ x.fl = 2 then x.rf == 0 else false) then 0 else 5) := rfl
  generalize errO x = z at *
  generalize x.fl = f at *
  generalize x.rf = r at *
  clear hb hB
  by_cases h0 : f = 0
  · subst h0
    by_cases h1 : 0 < r
    · have d : decide (0 < r) = true := by simpa using h1
      go_enter Try.func60, Try.ntmps60
      go_wp2
      go_ret
      exact ⟨ret_i64 (by rw [HE.out]; simp [h1]), HB.out⟩
    · have d : decide (0 < r) = false := by simpa using h1
      go_enter Try.func60, Try.ntmps60
      go_wp2
      go_ret
      exact ⟨ret_i64 (by rw [HE.out]; simp [d]), HB.out⟩
  · have d0 : (f == 0) = false := by simpa using h0
    by_cases h1 : f = 1
    · subst h1
      by_cases hr : r = 0
      · subst hr
        go_enter Try.func60, Try.ntmps60
        go_wp2
        go_ret
        exact ⟨ret_i64 (by rw [HE.out]; rfl), HB.out⟩
      · have d : (r == 0) = false := by simpa using hr
        go_enter Try.func60, Try.ntmps60
        go_wp2
        go_ret
        exact ⟨ret_i64 (by rw [HE.out]; simp [hr]), HB.out⟩
    · have d1 : (f == 1) = false := by simpa using h1
      by_cases h2 : f = 2
      · subst h2
        by_cases hr : r = 0
        · subst hr
          go_enter Try.func60, Try.ntmps60
          go_wp2
          go_ret
          exact ⟨ret_i64 (by rw [HE.out]; rfl), HB.out⟩
        · have d : (r == 0) = false := by simpa using hr
          go_enter Try.func60, Try.ntmps60
          go_wp2
          go_ret
          exact ⟨ret_i64 (by rw [HE.out]; simp [hr]), HB.out⟩
      · have d2 : (f == 2) = false := by simpa using h2
        go_enter Try.func60, Try.ntmps60
        go_wp2
        go_ret
        exact ⟨ret_i64 (by rw [HE.out]; simp [h0, h1, h2]), HB.out⟩
set_option maxRecDepth 100000 in
theorem Right_any (x : Orf) (w : World) : Calls Try.prog 26 #[.agg (orA x)] w fun e w' => e = .returned (.bool (rightO x)) ∧ Below w.heap.size w w' := by
  have hb : InO (w.alloc (.cells (orA x) 58)) w.heap.size x := heap_alloc_new _ _
  have c0 := hb.c0
  have c1 := hb.c1
  have hB := (Below.refl w.heap.size w).alloc (Nat.le_refl _) (.cells (orA x) 58)
  have HB := hid hB
  have HE : RowKit.Hid (rightO x = if x.fl = 0 then decide (0 < x.rf) else if x.fl = 1 ∨ x.fl = 2 then x.rf == 0 else false) := rfl
  generalize rightO x = z at *
  generalize x.fl = f at *
  generalize x.rf = r at *
  clear hb hB
  by_cases h0 : f = 0
  · subst h0
    go_enter Try.func26, Try.ntmps26
    go_wp2
    go_ret
    exact ⟨ret_bool (by rw [HE.out]; simp), HB.out⟩
  · have d0 : (f == 0) = false := by simpa using h0
    by_cases h1 : f = 1
    · subst h1
      go_enter Try.func26, Try.ntmps26
      go_wp2
      go_ret
      exact ⟨ret_bool (by rw [HE.out]; simp), HB.out⟩
    · have d1 : (f == 1) = false := by simpa using h1
      by_cases h2 : f = 2
      · subst h2
        go_enter Try.func26, Try.ntmps26
        go_wp2
        go_ret
        exact ⟨ret_bool (by rw [HE.out]; simp), HB.out⟩
      · have d2 : (f == 2) = false := by simpa using h2
        go_enter Try.func26, Try.ntmps26
        go_wp2
        go_ret
        exact ⟨ret_bool (by rw [HE.out]; simp [h0, h1, h2]), HB.out⟩
end Go.Proofs.Ytceeipejhmnkfaa
