/-
  Laws of any program: operations whose run is known; cells as results; an array of one-celled values at a place; a whole row stored.
-/
import Derived.Test.YtbdhjkdojgdhbaaRng
import Derived.Test.YtbdhjkdojgdhbaaLibB
import Derived.BigFrame
namespace Go.Proofs.Ytbdhjkdojgdhbaa
open Go Go.ChangeShapes Go.WideShapes Go.ChangeAt Go.RowKit

theorem wpList_runW {P : Program} {w : World} {ops : Array Oper} {rest : List Oper} {o : Oper} {a : Act} {Q : Exit → Act → World → Prop} (hw : Region.wanted o (yielded ops a.tmps) = true) (v : Value)
    (hr : (execOp a.eval o).run P w = .ok (.value v) w) (h : wpList P ops Q rest (a.put o.dst v) w) : wpList P ops Q (o :: rest) a w :=
  BigFrame.wpList_want hw fun K hK => by
    unfold Oper.wp
    rw [hr]
    exact hK _ _ h
theorem results_cell1 {fn : Func} {p : Tmp} {ty : TypeId} (h : fn.results = #[.cell p ty]) (tmps : Array Value) (P : Program) (w : World) :
    (results fn tmps).run P w = ((asAddr (tmps.getD p undef)).run P w).andThen fun a w₁ => (loadVar ty a).run P w₁ := by
  simp only [results, h]
  simp [Sem.run_bind, Result.andThen]
/-- An operation whose run is known, and that makes memory. -/
theorem wpList_runN {P : Program} {w : World} {ops : Array Oper} {rest : List Oper} {o : Oper} {a : Act} {Q : Exit → Act → World → Prop} (hw : Region.wanted o (yielded ops a.tmps) = true) (v : Value) (W' : World)
    (hr : (execOp a.eval o).run P w = .ok (.value v) W') (h : wpList P ops Q rest (a.put o.dst v) W') : wpList P ops Q (o :: rest) a w :=
  BigFrame.wpList_want hw fun K hK => by
    unfold Oper.wp
    rw [hr]
    exact hK _ _ h
/-- An array of one-celled values, read at a place. -/
theorem run_index_cs {P : Program} (w : World) (t e n : Nat) (cs : Array Value) (k : Nat) (v : Value) (ht : P.underlying t = some (.array n e)) (he : ∀ w, (sizeOf e).run P w = .ok 1 w) (ha : ∀ w, (isAgg e).run P w = .ok false w) (hk : k < n) (hv : cs[k]? = some v) :
    (Instr.index t (.agg cs) (.int .i64 (k : Int))).run P w = .ok v w := by
  simp [Instr.index, asIntOf, run_underlying ht, he, ha, hk, part, hv]
/-- A whole row is stored. -/
theorem exec_store_row {P : Program} {o : Oper} {f : Operand → Value} {W : World} (ty : TypeId) (x y : Operand) (ho : o.op = .store ty x y) (g : Nat) (cells : Array Value) (hx : f x = .pointer (some ⟨g, 0, none⟩)) (hy : f y = .agg cells)
    (t : TypeId) (old : Array Value) (hg : W.heap[g]? = some (.cells old t (0, 0))) (hi : (P.info? ty).map (·.size) = some cells.size) (hold : old.size = cells.size) (h1 : cells.all (·.oneCell') = true) :
    (execOp f o).run P W = .ok .skip (W.setRow g cells) := by
  unfold execOp
  simp only [ho, hx, hy, Instr.storeAt, Instr.sureAddr, Sem.run_bind, Sem.run_pure, Result.andThen_ok, run_storeVar_row W g t ty old cells hg hi hold h1]
/-- The result's cells hold what is said. -/
theorem cells_ret {P : Program} {fn : Func} {Q : Ending → World → Prop} {a : Act} {W : World} {g : Nat} {r : Tmp} {T : TypeId} {cs : Array Value} (hf : fn.results = #[.cell r T]) (h2 : a.tmps.getD r undef = .pointer (some ⟨g, 0, none⟩)) (hd : a.defers = [])
    (hl : (loadVar T ⟨g, 0, none⟩).run P W = .ok (.agg cs) W) (h : Q (.returned (.agg cs)) W) : bodyPost P fn Q .ret a W := by
  refine bodyPost_ret (v := .agg cs) ?_ hd h
  rw [results_cell1 hf, h2]
  simp [asAddr, hl, Result.andThen]
end Go.Proofs.Ytbdhjkdojgdhbaa
