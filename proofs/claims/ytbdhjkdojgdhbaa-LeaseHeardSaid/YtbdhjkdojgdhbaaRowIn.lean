/-
  Rows that came in, of elements of any kind: only read. A box with an element of several cells. It speaks of any program.
-/
import Derived.Test.YtbdhjkdojgdhbaaRng
import Derived.Test.YtbdhjkdojgdhbaaLibB
import Derived.Deep.MidRow
namespace Go.Proofs.Ytbdhjkdojgdhbaa
open Go Go.ChangeShapes Go.WideShapes Go.ChangeAt Go.RowKit

structure RowIn {α : Type} (k : Nat) (enc : α → List Value) (ok : α → Prop) (W : World) (B : Nat) (ad : Option Addr) (l : List α) : Prop where
  at_ : 0 < l.length → ∃ b o, ad = some ⟨b, o, none⟩ ∧ b < B
  rows : ∀ b o, ad = some ⟨b, o, none⟩ → ∀ (i : Nat) x, l[i]? = some x → AtL W b (o + i * k) (enc x)
  ok : ∀ x ∈ l, ok x
theorem RowIn.below {α : Type} {k : Nat} {enc : α → List Value} {ok : α → Prop} {W W' : World} {B : Nat} {ad : Option Addr} {l : List α} (h : RowIn k enc ok W B ad l) (hB : Below B W W') : RowIn k enc ok W' B ad l :=
  ⟨h.at_, fun b o he i x hx j u hu => by
    obtain ⟨b', o', h1, h2⟩ := h.at_ (by have := (List.getElem?_eq_some_iff.1 hx).1; omega)
    rw [he] at h1; cases h1
    exact (World.cell?_of_block (w := W) (w' := W') (a := ⟨b, o + i * k + j, none⟩) (hB.block b h2)).trans (h.rows b o he i x hx j u hu), h.ok⟩
/-- An element of several cells is loaded. -/
theorem load_cells {P : Program} {o : Oper} {f : Operand → Value} {p : Operand} {T : TypeId} {b off : Nat} {cs : List Value} {d : TypeDesc} {W : World} (hu : P.underlying T = some d) (hd : d.isRow = true) (hi : (P.info? T).map (·.size) = some cs.length)
    (ho : o.op = .load T p) (hp : f p = .pointer (some ⟨b, off, none⟩)) (h : AtL W b off cs) : (execOp f o).run P W = .ok (.value (.agg cs.toArray)) W := by
  have h2 := run_loadVar_mid (P := P) W b off T cs d h hu hd hi
  unfold execOp
  simp only [ho, hp, Instr.loadAt, Instr.sureAddr, Sem.run_bind, Sem.run_pure, Result.andThen_ok, h2]
end Go.Proofs.Ytbdhjkdojgdhbaa
