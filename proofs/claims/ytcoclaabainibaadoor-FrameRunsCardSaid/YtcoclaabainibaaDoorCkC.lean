/-
  The rows of all Ops; where an instruction may go on.
-/
import Derived.Test.YtcoclaabainibaaDoorCkB
import Derived.Test.YtcoclaabainibaaDoorCdC
import Derived.Great.BuildSlice
namespace Go.Proofs.YtcoclaabainibaaDoor
open Go Go.ChangeShapes Go.WideShapes Go.ChangeAt Go.RowKit

def rowL : List Rw := [⟨1, 1, 0, 0, 1⟩, ⟨2, 0, 0, 0, 1⟩, ⟨3, 0, 0, 0, 1⟩, ⟨4, 0, 0, 1, 0⟩, ⟨5, 0, 0, 2, 1⟩, ⟨6, 0, 0, 1, 1⟩, ⟨7, 2, 0, 1, 0⟩, ⟨8, 3, 4, 1, 1⟩, ⟨9, 3, 0, 0, 0⟩, ⟨10, 3, 0, 0, 0⟩, ⟨11, 0, 0, 1, 0⟩]
def rowsA : Array Value := (rowL.flatMap rwc).toArray
def zerosA : Array Value := (List.replicate 55 (Value.int .i64 0)).toArray
theorem rows_one : rowsA.all (·.oneCell') = true := by decide +kernel
theorem rows_size : (Tryd.prog.info? 81).map (·.size) = some rowsA.size := by kernel_rfl
theorem zeros_size : zerosA.size = rowsA.size := by decide +kernel
set_option maxRecDepth 100000 in
set_option maxHeartbeats 4000000 in
theorem rows_any (w : World) : Calls Tryd.prog 32 #[] w fun e w' => e = .returned (.agg rowsA) ∧ Below w.heap.size w w' := by
  have hz : (w.alloc (.cells zerosA 81)).heap[w.heap.size]? = some (.cells zerosA 81 (0, 0)) := heap_alloc_new _ _
  obtain ⟨w1, hw1⟩ : ∃ w1, w1 = w.alloc (.cells zerosA 81) := ⟨_, rfl⟩
  rw [← hw1] at hz
  have HB := hid (show Below w.heap.size w w1 by rw [hw1]; exact (Below.refl _ _).alloc (Nat.le_refl _) _)
  have HZ := hid hz
  have HW := hid hw1
  clear hz hw1
  go_enter Tryd.func32, Tryd.ntmps32
  go_upto_region 1 with (fail)
  change Code.wp _ _ _ _ (w.alloc (.cells zerosA 81))
  rw [← HW.out]
  go_wp2_with (first
    | ((with_reducible refine at_op ⟨some 12, _, _, _, _, _⟩ ?_); refine wpList_buildTo rfl 81 _ rfl (some 12) rfl rowsA (by kernel_rfl) ?_)
    | ((with_reducible refine at_op ⟨none, .store 81 (.tmp 0) (.tmp 12), _, _, _, _⟩ ?_); refine wpList_store_rowTo rfl 81 _ _ rfl rfl w.heap.size rowsA rfl rfl 81 zerosA HZ.out rows_size zeros_size rows_one ?_))
  refine cells_ret (r := 0) (T := 81) (g := w.heap.size) rfl rfl rfl (run_loadVar_row (P := Tryd.prog) _ _ _ 81 _ (0, 0) _ (setRow_heap _ _ _ _ _ _ HZ.out) Tryd.underlying81 rfl rows_size) ⟨rfl, below_setRow HB.out _ _ (Nat.le_refl _)⟩
def nextP (i : Int) (x : Ins) : List Int := if x.op = 11 then [] else if x.op = 7 then [i + 1, i + 1 + x.a] else [i + 1]
theorem ei_new {w w1 : World} (hB : Below w.heap.size w w1) (xs : List Int) (n : Nat) (hn : n = xs.length) (hm : n ≤ 100) : EI w (w1.alloc (.cells (i64l xs).toArray 3)) (.slice (some ⟨w1.heap.size, 0, none⟩) n n) n xs := by
  refine ⟨?_, hB.alloc hB.size _, hn⟩
  subst hn
  exact ⟨by simp [i64l_len], .inr ⟨w1.heap.size, xs.length, (i64l xs).toArray, rfl, hB.size, heap_alloc_new w1 _, Nat.le_refl _, by unfold maxLen; omega, by simp [i64l_len], by simp; exact List.take_of_length_le (by rw [i64l_len]; omega)⟩⟩
def NextP (w : World) (xs : List Int) (e : Ending) (w' : World) : Prop := ∃ a c, e = .returned (.slice a xs.length c) ∧ EI w w' (.slice a xs.length c) xs.length xs
set_option maxRecDepth 100000 in
set_option maxHeartbeats 4000000 in
theorem next_any (i : Int) (x : Ins) (w : World) (hi : 0 ≤ i ∧ i ≤ 1000) (hx : x.op = 7 → 1 ≤ x.a ∧ x.a ≤ 1000) : Calls Tryd.prog 34 #[.int .i64 i, .agg (insA x)] w (NextP w (nextP i x)) := by
  obtain ⟨w1, hw1⟩ : ∃ w1, w1 = w.alloc (.cells (insA x) 45) := ⟨_, rfl⟩
  have ho : InI w1 w.heap.size x := by rw [hw1]; exact heap_alloc_new _ _
  have hB : Below w.heap.size w w1 := by rw [hw1]; exact (Below.refl _ _).alloc (Nat.le_refl _) _
  have hs1 : w1.heap.size = w.heap.size + 1 := by rw [hw1]; simp
  have c0 := ho.c0
  have c1 := ho.c1
  have HB := hid hB
  have HW := hid hw1
  have HS := hid hs1
  have HI := hid hi
  obtain ⟨op, a, b⟩ := x
  simp only at c0 c1 hx
  clear hw1 ho hB hs1
  by_cases h1 : op = 11
  · subst h1
    have hz : nextP i ⟨11, a, b⟩ = [] := rfl
    rw [hz]
    clear hz hx hi
    go_enter Tryd.func34, Tryd.ntmps34
    go_upto_region 1 with (fail)
    change Code.wp _ _ _ _ (w.alloc (.cells (insA ⟨11, a, b⟩) 45))
    rw [← HW.out]
    go_wp2
    go_ret
    exact ⟨none, 0, rfl, World.ownsRow_nil _ _ _ _, HB.out, rfl⟩
  have d1 : (op == 11) = false := by simpa using h1
  by_cases h2 : op = 7
  · subst h2
    have hz : nextP i ⟨7, a, b⟩ = [i + 1, i + 1 + a] := rfl
    rw [hz]
    have ha := hx rfl
    have wr1 : IntKind.i64.wrap (i + 1) = i + 1 := IntWalk.i64_in _ (by omega)
    have wr2 : IntKind.i64.wrap (i + 1 + a) = i + 1 + a := IntWalk.i64_in _ (by omega)
    clear hz h1 hx hi ha
    go_enter Tryd.func34, Tryd.ntmps34
    go_upto_region 1 with (fail)
    change Code.wp _ _ _ _ (w.alloc (.cells (insA ⟨7, a, b⟩) 45))
    rw [← HW.out]
    go_wp2
    go_ret
    refine ⟨some ⟨w1.heap.size, 0, none⟩, 2, rfl, ei_new HB.out [i + 1, i + 1 + a] 2 rfl (by decide)⟩
  · have d2 : (op == 7) = false := by simpa using h2
    have hz : nextP i ⟨op, a, b⟩ = [i + 1] := by unfold nextP; rw [if_neg h1, if_neg h2]
    rw [hz]
    have wr1 : IntKind.i64.wrap (i + 1) = i + 1 := IntWalk.i64_in _ (by omega)
    clear hz h1 h2 hx hi
    go_enter Tryd.func34, Tryd.ntmps34
    go_upto_region 1 with (fail)
    change Code.wp _ _ _ _ (w.alloc (.cells (insA ⟨op, a, b⟩) 45))
    rw [← HW.out]
    go_wp2
    go_ret
    refine ⟨some ⟨w1.heap.size, 0, none⟩, 1, rfl, ei_new HB.out [i + 1] 1 rfl (by decide)⟩
end Go.Proofs.YtcoclaabainibaaDoor
