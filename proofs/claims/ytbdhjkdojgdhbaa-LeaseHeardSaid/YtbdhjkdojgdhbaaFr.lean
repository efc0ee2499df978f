/-
  Frames by footprint: what lay there stays, but for the blocks of a set. They speak of any program.
-/
import Derived.WalkKit
import Derived.ProofKit
import Derived.Below
import Derived.OwnWalk
import Derived.OneCell
import Derived.Laws.OwnMore
import Derived.Deep.AppendLies
import Derived.BigQuiet
namespace Go.Proofs.Ytbdhjkdojgdhbaa
open Go.ChangeShapes Go.WideShapes Go.ChangeAt Go.RowKit

/-- Nothing that lay there has turned, but for the blocks of fp. -/
structure Fr (fp : Nat → Prop) (w w' : World) : Prop where
  os : w'.os = w.os
  tape : w'.tape = w.tape
  output : w'.output = w.output
  size : w.heap.size ≤ w'.heap.size
  block : ∀ k, k < w.heap.size → ¬ fp k → w'.heap[k]? = w.heap[k]?
section
variable {fp : Nat → Prop} {a w w' : World}
theorem Fr.refl (fp : Nat → Prop) (w : World) : Fr fp w w := ⟨rfl, rfl, rfl, Nat.le_refl _, fun _ _ _ => rfl⟩
theorem Fr.trans {fp2 : Nat → Prop} (h : Fr fp a w) (k : Fr fp2 w w') (hf : ∀ j, fp2 j → j < a.heap.size → fp j) : Fr fp a w' :=
  ⟨k.os.trans h.os, k.tape.trans h.tape, k.output.trans h.output, Nat.le_trans h.size k.size, fun j hj hn => by
    rw [k.block j (Nat.lt_of_lt_of_le hj h.size) (fun e => hn (hf j e hj))]; exact h.block j hj hn⟩
theorem Fr.mono {fp2 : Nat → Prop} (h : Fr fp a w) (hf : ∀ j, fp j → j < a.heap.size → fp2 j) : Fr fp2 a w :=
  ⟨h.os, h.tape, h.output, h.size, fun j hj hn => h.block j hj (fun e => hn (hf j e hj))⟩
theorem Fr.drew (h : Fr fp a w) : Fr fp a w.drew := ⟨h.os, h.tape, h.output, h.size, h.block⟩
theorem Fr.drewN (h : Fr fp a w) (n : Nat) : Fr fp a (w.drewN n) := ⟨h.os, h.tape, h.output, h.size, h.block⟩
theorem Fr.alloc (h : Fr fp a w) (o : Obj) : Fr fp a (w.alloc o) :=
  ⟨h.os, h.tape, h.output, by simp; have := h.size; omega, fun k hk hn => by rw [heap_alloc_old _ _ (Nat.lt_of_lt_of_le hk h.size)]; exact h.block k hk hn⟩
theorem Fr.setCell (h : Fr fp a w) (p : Addr) (u : Value) (hp : p.block < a.heap.size → fp p.block) : Fr fp a (w.setCell p u) :=
  ⟨h.os, h.tape, h.output, by simp; exact h.size, fun k hk hn => by rw [Below.heap_setCell _ _ _ _ (fun e => hn (by rw [e] at hk ⊢; exact hp hk))]; exact h.block k hk hn⟩
theorem Fr.grown {row : Option Nat} (h : Fr fp a w) (hg : w.grownBy w' row) (hr : ∀ k, row = some k → k < a.heap.size → fp k) : Fr fp a w' :=
  ⟨hg.os.trans h.os, hg.tape.trans h.tape, hg.output.trans h.output, Nat.le_trans h.size hg.size, fun k hk hn => by
    rw [hg.block k (Nat.lt_of_lt_of_le hk h.size) (fun e => hn (hr k e.symm hk))]; exact h.block k hk hn⟩
theorem Fr.of_below (h : Below a.heap.size a w) : Fr fp a w := ⟨h.os, h.tape, h.output, h.size, fun k hk _ => h.block k hk⟩
theorem Fr.below (h : Fr fp a w) {B : Nat} (hB : B ≤ a.heap.size) (hf : ∀ k, fp k → B ≤ k) : Below B a w :=
  ⟨h.os, h.tape, h.output, h.size, fun k hk => h.block k (Nat.lt_of_lt_of_le hk hB) (fun e => by have := hf k e; omega)⟩
theorem Fr.owns {B : Nat} {e : TypeId} {size : Nat} {v : Value} {n : Nat} {xs : List Value} (h : Fr fp w w') (ho : w.ownsRow B e size v n xs) (hv : ∀ k, v.ownBlock = some k → ¬ fp k) : w'.ownsRow B e size v n xs := by
  refine ⟨ho.1, ?_⟩
  rcases ho.2 with hn | ⟨g, cap, cur, rfl, hb, hgg, rest⟩
  · exact .inl hn
  · refine .inr ⟨g, cap, cur, rfl, hb, ?_, rest⟩
    rw [h.block g (Array.getElem?_eq_some_iff.1 hgg).1 (hv g rfl)]
    exact hgg
end

/-- A row that is cut at its end. -/
theorem owns_cut {w : World} {B e size n m : Nat} {g cap : Nat} {xs ys : List Value} (h : w.ownsRow B e size (.slice (some ⟨g, 0, none⟩) n cap) n (xs ++ ys)) (hx : xs.length = m * size) (hm : m ≤ n) : w.ownsRow B e size (.slice (some ⟨g, 0, none⟩) m cap) m xs := by
  refine ⟨hx, ?_⟩
  rcases h.2 with ⟨h1, _⟩ | ⟨g', cap', cur, hv, hb, hg, hn, hm2, hs, ht⟩
  · cases h1
  · cases hv
    refine .inr ⟨g, cap, cur, rfl, hb, hg, by omega, hm2, hs, ?_⟩
    have : (cur.toList.take (n * size)).take (m * size) = xs := by rw [ht, ← hx]; simp
    rw [List.take_take, Nat.min_eq_left (Nat.mul_le_mul_right _ hm)] at this
    exact this

end Go.Proofs.Ytbdhjkdojgdhbaa
