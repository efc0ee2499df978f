/-
  The acts of layer 11's laws: rows that came in; a loop's own act.
-/
import Derived.Test.YtmkajdfajcodjaaHpC
import Derived.Test.YtmkajdfajcodjaaGen
namespace Go.Proofs.Ytmkajdfajcodjaa
open Go Go.ChangeShapes Go.WideShapes Go.ChangeAt Go.RowKit

/-- An act. -/
structure HAct where
  kind : Int
  a : Int
  h : Int
  x : Int
  raw : Int
def acc (x : HAct) : List Value := [.int .i64 x.kind, .int .i64 x.a, .int .i64 x.h, .int .i64 x.x, .int .u64 x.raw]
def HActOk (x : HAct) : Prop := Nm x.kind ∧ Nm x.a ∧ Nm x.h ∧ Nm x.x ∧ Hn x.raw
structure RwH (W : World) (B : Nat) (ad : Option Addr) (l : List HAct) : Prop where
  at_ : 0 < l.length → ∃ b o, ad = some ⟨b, o, none⟩ ∧ b < B
  rows : ∀ b o, ad = some ⟨b, o, none⟩ → ∀ (i : Nat) x, l[i]? = some x → AtL W b (o + i * 5) (acc x)
  ok : ∀ x ∈ l, HActOk x
theorem RwH.below {W W' : World} {B : Nat} {ad : Option Addr} {l : List HAct} (h : RwH W B ad l) (hB : Below B W W') : RwH W' B ad l :=
  ⟨h.at_, fun b o he i x hx j u hu => by
    obtain ⟨b', o', h1, h2⟩ := h.at_ (by have := (List.getElem?_eq_some_iff.1 hx).1; omega)
    rw [he] at h1; cases h1
    exact (World.cell?_of_block (w := W) (w' := W') (a := ⟨b, o + i * 5 + j, none⟩) (hB.block b h2)).trans (h.rows b o he i x hx j u hu), h.ok⟩
def zAct : Array Value := (acc ⟨0, 0, 0, 0, 0⟩).toArray
def InA (W : World) (b : Nat) (x : HAct) : Prop := W.heap[b]? = some (.cells (acc x).toArray 36 (0, 0))
def boxA (w : World) (x : HAct) : World := (w.alloc (.cells zAct 36)).setRow w.heap.size (acc x).toArray
theorem boxA_row (w : World) (x : HAct) : InA (boxA w x) w.heap.size x := setRow_heap _ _ _ _ _ (0, 0) (heap_alloc_new _ _)
theorem boxA_below (w : World) (x : HAct) : Below w.heap.size w (boxA w x) := below_setRow ((Below.refl _ _).alloc (Nat.le_refl _) _) _ _ (Nat.le_refl _)
set_option maxRecDepth 100000 in
theorem sizeA (x : HAct) : (Try.prog.info? 36).map (·.size) = some (acc x).toArray.size := by
  show _ = some 5
  kernel_rfl
theorem oneA (x : HAct) : (acc x).toArray.all (·.oneCell') = true := by simp [acc, Value.oneCell']
theorem load_act {o : Oper} {f : Operand → Value} {p : Operand} {b off : Nat} {x : HAct} {W : World} (ho : o.op = .load 36 p) (hp : f p = .pointer (some ⟨b, off, none⟩)) (h : AtL W b off (acc x)) : (execOp f o).run Try.prog W = .ok (.value (.agg (acc x).toArray)) W := by
  have h1 := h.run (P := Try.prog)
  have h2 : (loadVar 36 ⟨b, off, none⟩).run Try.prog W = .ok (.agg (acc x).toArray) W := by
    cases hq : Try.prog.info? 36 with
    | none => have := sizeA x; simp [hq] at this
    | some i =>
      have hi : i.size = 5 := by have := sizeA x; simpa [hq, acc] using this
      have h3 : (acc x).length = 5 := rfl
      rw [h3] at h1
      simp [loadVar, sizeOf, typeInfo, hq, hi, loadCells, h1]
  unfold execOp
  simp only [ho, hp, Instr.loadAt, Instr.sureAddr, Sem.run_bind, Sem.run_pure, Result.andThen_ok, h2]
section
variable {W : World} {b : Nat} {x : HAct}
theorem InA.c0 (h : InA W b x) : W.cell? ⟨b, 0, none⟩ = some (.int .i64 x.kind) := by unfold InA at h; simp [World.cell?, h, acc]
theorem InA.c1 (h : InA W b x) : W.cell? ⟨b, 1, none⟩ = some (.int .i64 x.a) := by unfold InA at h; simp [World.cell?, h, acc]
theorem InA.c2 (h : InA W b x) : W.cell? ⟨b, 2, none⟩ = some (.int .i64 x.h) := by unfold InA at h; simp [World.cell?, h, acc]
theorem InA.c3 (h : InA W b x) : W.cell? ⟨b, 3, none⟩ = some (.int .i64 x.x) := by unfold InA at h; simp [World.cell?, h, acc]
theorem InA.c4 (h : InA W b x) : W.cell? ⟨b, 4, none⟩ = some (.int .u64 x.raw) := by unfold InA at h; simp [World.cell?, h, acc]
theorem InA.on {W' : World} (h : InA W b x) (hb : Below W.heap.size W W') : InA W' b x := (hb.block _ (Array.getElem?_eq_some_iff.1 h).1).trans h
end
set_option maxRecDepth 100000 in
theorem infoU : (Try.prog.info? 34).map (fun i => (i.zero, i.size, i.bytes)) = some (some (.int .u64 0), 1, 8) := by kernel_rfl
end Go.Proofs.Ytmkajdfajcodjaa
