/-
  More small laws that the proofs of this family share.
-/
import Derived.Test.YtbdhjkdojgdhbaaLib
import Derived.Deep.MidRow
import Derived.Deep.RegionHeld3
namespace Go.Proofs.Ytbdhjkdojgdhbaa
open Go.ChangeShapes Go.WideShapes Go.ChangeAt Go.RowKit
/-- The walk stands at this operation: a guard. -/
theorem at_op {P : Program} {ops : Array Oper} {Q : Exit → Act → World → Prop} {rest : List Oper} {a : Act} {w : World} (o : Oper) (h : wpList P ops Q (o :: rest) a w) : wpList P ops Q (o :: rest) a w := h
/-- The cells of a row of bytes, as a list. -/
def u8l (xs : List Int) : List Value := xs.map (Value.int .u8)
theorem u8l_len (xs : List Int) : (u8l xs).length = xs.length := by simp [u8l]
theorem range_u8 {w : World} {b t : Nat} {xs : List Int} {fr : Nat × Nat} (h : w.heap[b]? = some (.cells (u8s xs) t fr)) : w.rangeAt b 0 (u8l xs) := fun j v hv => by
  rw [Nat.zero_add, cell_of_row w b j _ t fr h]
  simpa [u8s, u8l] using hv
theorem range_below {w w1 : World} {b : Nat} {cs : List Value} (h : w.rangeAt b 0 cs) (hB : Below w.heap.size w w1) : w1.rangeAt b 0 cs := fun j v hv => by
  have h1 := h j v hv
  rw [hB.cell (World.block_lt_of_cell? w _ h1)]
  exact h1
theorem below_next {n : Nat} {w0 w w1 : World} (h : Below n w0 w) (hn : n ≤ w.heap.size) (hB : Below w.heap.size w w1) : Below n w0 w1 := h.trans (hB.mono hn)
theorem below_on {w0 w w1 : World} (h : Below w0.heap.size w0 w) (hB : Below w.heap.size w w1) : Below w0.heap.size w0 w1 := below_next h h.size hB
theorem range_drew {w : World} {b : Nat} {cs : List Value} (h : w.rangeAt b 0 cs) : w.drew.rangeAt b 0 cs := (World.rangeAt_drew w b 0 cs).2 h
end Go.Proofs.Ytbdhjkdojgdhbaa
