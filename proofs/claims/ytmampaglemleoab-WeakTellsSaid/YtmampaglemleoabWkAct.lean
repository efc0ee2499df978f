/-
  The acts of layer 12's laws: rows that came in; a loop's own act.
-/
import Derived.Test.YtmampaglemleoabNum
import Derived.Test.YtmampaglemleoabRowIn
import Derived.Test.YtmampaglemleoabLib
namespace Go.Proofs.Ytmampaglemleoab
open Go Go.ChangeShapes Go.WideShapes Go.ChangeAt Go.RowKit

/-- An act. -/
structure WAct where
  kind : Int
  h : Int
  t : Int
  raw : Int
def wac (x : WAct) : List Value := [.int .i64 x.kind, .int .i64 x.h, .int .u64 x.t, .int .u64 x.raw]
def WActOk (x : WAct) : Prop := Nm x.kind ∧ Nm x.h ∧ U64 x.t ∧ U64 x.raw
abbrev RwW (W : World) (B : Nat) (ad : Option Addr) (l : List WAct) : Prop := RowIn 4 wac WActOk W B ad l
abbrev RwU (W : World) (B : Nat) (ad : Option Addr) (l : List Int) : Prop := RowIn 1 (fun x => [u64v x]) U64 W B ad l
abbrev RwT (W : World) (B : Nat) (ad : Option Addr) (l : List Bool) : Prop := RowIn 1 (fun x => [Value.bool x]) (fun _ => True) W B ad l
def zWAct : Array Value := (wac ⟨0, 0, 0, 0⟩).toArray
def InWA (W : World) (b : Nat) (x : WAct) : Prop := W.heap[b]? = some (.cells (wac x).toArray 37 (0, 0))
def boxW (w : World) (x : WAct) : World := (w.alloc (.cells zWAct 37)).setRow w.heap.size (wac x).toArray
theorem boxW_row (w : World) (x : WAct) : InWA (boxW w x) w.heap.size x := setRow_heap _ _ _ _ _ (0, 0) (heap_alloc_new _ _)
theorem boxW_below (w : World) (x : WAct) : Below w.heap.size w (boxW w x) := below_setRow ((Below.refl _ _).alloc (Nat.le_refl _) _) _ _ (Nat.le_refl _)
set_option maxRecDepth 100000 in
theorem sizeW (x : WAct) : (Try.prog.info? 37).map (·.size) = some (wac x).toArray.size := by
  show _ = some 4
  kernel_rfl
theorem oneW (x : WAct) : (wac x).toArray.all (·.oneCell') = true := by simp [wac, Value.oneCell']
theorem load_wact {o : Oper} {f : Operand → Value} {p : Operand} {b off : Nat} {x : WAct} {W : World} (ho : o.op = .load 37 p) (hp : f p = .pointer (some ⟨b, off, none⟩)) (h : AtL W b off (wac x)) : (execOp f o).run Try.prog W = .ok (.value (.agg (wac x).toArray)) W :=
  load_cells Try.underlying37 rfl (sizeW x) ho hp h
section
variable {W : World} {b : Nat} {x : WAct}
theorem InWA.c0 (h : InWA W b x) : W.cell? ⟨b, 0, none⟩ = some (.int .i64 x.kind) := by unfold InWA at h; simp [World.cell?, h, wac]
theorem InWA.c1 (h : InWA W b x) : W.cell? ⟨b, 1, none⟩ = some (.int .i64 x.h) := by unfold InWA at h; simp [World.cell?, h, wac]
theorem InWA.c2 (h : InWA W b x) : W.cell? ⟨b, 2, none⟩ = some (.int .u64 x.t) := by unfold InWA at h; simp [World.cell?, h, wac]
theorem InWA.c3 (h : InWA W b x) : W.cell? ⟨b, 3, none⟩ = some (.int .u64 x.raw) := by unfold InWA at h; simp [World.cell?, h, wac]
theorem InWA.on {W' : World} (h : InWA W b x) (hb : Below W.heap.size W W') : InWA W' b x := (hb.block _ (Array.getElem?_eq_some_iff.1 h).1).trans h
end
end Go.Proofs.Ytmampaglemleoab
