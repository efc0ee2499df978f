/-
  Small laws for ranges over functions and for rows of a call's own: what a loop's body keeps; a box that collects; the marks of many ranges at the return; cells at a place of a block. They speak of any program.
-/
import Derived.RangeFuncNested
import Derived.RangeFuncBound
import Derived.RangeFuncCalls
import Derived.RangeFuncLeaves
import Derived.RangeFuncFrom
import Derived.RangeFuncBox
import Derived.Shelf.Abstract
import Derived.OwnWalkIn
import Derived.TacticsInMore
import Derived.LoopNIn
import Derived.LoopIn
import Derived.Maps.AppendAt
import Derived.Shelf.SlicesQ.Load
import Derived.Test.YtbdhjkdojgdhbaaFr
namespace Go.Proofs.Ytbdhjkdojgdhbaa
open Go Go.ChangeShapes Go.WideShapes Go.ChangeAt Go.RowKit

/-- What a loop's body keeps: the cells in these blocks. -/
def KS (S : Nat → Prop) (W W' : World) : Prop := ∀ (k : Nat) (cs : Array Value) (t : TypeId) (fr : Nat × Nat), S k → W.heap[k]? = some (.cells cs t fr) → W'.heap[k]? = some (.cells cs t fr)
theorem KS.refl (S : Nat → Prop) (W : World) : KS S W W := fun _ _ _ _ _ h => h
theorem KS.t {S : Nat → Prop} {A B C : World} (h : KS S A B) (k : KS S B C) : KS S A C := fun j cs t fr hS hj => k j cs t fr hS (h j cs t fr hS hj)
theorem KS.b (S : Nat → Prop) (W : World) (l : Nat) (o o' : Obj) (h : W.heap[l]? = some o) (hc : o.isCells = false) : KS S W (W.putObj l o') := fun k cs t fr _ hk => by
  have hne : k ≠ l := fun e => by subst e; rw [hk] at h; cases h; cases hc
  rw [World.putObj_heap_other hne]; exact hk
theorem KS.cell {S : Nat → Prop} {W W' : World} {p : Addr} {v : Value} (h : KS S W W') (hp : S p.block) (hc : W.cell? p = some v) : W'.cell? p = some v := by
  have hh : ∃ cs t fr, W.heap[p.block]? = some (.cells cs t fr) := by
    unfold World.cell? at hc
    split at hc
    · rename_i c e f hb; exact ⟨_, _, _, hb⟩
    · cases hc
  obtain ⟨cs, t, fr, hb⟩ := hh
  rw [World.cell?_of_block (w := W) (w' := W') (a := p) (by rw [hb, h _ _ _ _ hp hb])]
  exact hc
theorem KS.alloc {S : Nat → Prop} {A W : World} (h : KS S A W) (o : Obj) : KS S A (W.alloc o) := fun k cs t fr hS hk => by
  have h1 := h k cs t fr hS hk
  rw [Below.heap_alloc _ _ _ (Array.getElem?_eq_some_iff.1 h1).1]; exact h1
theorem KS.set {S : Nat → Prop} {A W : World} (h : KS S A W) (p : Addr) (u : Value) (hp : ¬ S p.block) : KS S A (W.setCell p u) := fun k cs t fr hS hk => by
  rw [Below.heap_setCell _ _ _ _ (fun e => hp (by rw [← e]; exact hS))]; exact h k cs t fr hS hk
theorem KS.grown {S : Nat → Prop} {A W W' : World} {row : Option Nat} (h : KS S A W) (hg : W.grownBy W' row) (hr : ∀ k, row = some k → ¬ S k) : KS S A W' := fun k cs t fr hS hk => by
  have h1 := h k cs t fr hS hk
  rw [hg.block k (Array.getElem?_eq_some_iff.1 h1).1 (fun e => hr k e.symm hS)]; exact h1
theorem ks_below {B : Nat} {W W' : World} (h : Below B W W') : KS (fun k => k < B) W W' := fun k cs t fr hS hk => by rw [h.block k hS]; exact hk
theorem not_cells {W : World} {row : Option Nat} {k : Nat} {cs : Array Value} {t : TypeId} {fz : Nat × Nat} (h : W.heap[k]? = some (.cells cs t fz)) (hr : ∀ r, row = some r → ∃ o : Obj, W.heap[r]? = some o ∧ o.isCells = false) : some k ≠ row := fun e => by
  obtain ⟨o, ho, hc⟩ := hr k e.symm
  rw [h] at ho; cases ho; cases hc
theorem owns_not_cells {W W' : World} {row : Option Nat} {B : Nat} {e : TypeId} {s n : Nat} {v : Value} {xs : List Value} (h : W.ownsRow B e s v n xs) (hg : W.grownBy W' row) (hr : ∀ r, row = some r → ∃ o : Obj, W.heap[r]? = some o ∧ o.isCells = false) : W'.ownsRow B e s v n xs := by
  refine h.kept hg ?_
  rcases h.2 with ⟨rfl, _⟩ | ⟨g, cap, cur, rfl, _, hgb, _⟩
  · exact .inl rfl
  · exact .inr (not_cells hgb hr)
theorem heap_kept {W W' : World} {row : Option Nat} {k : Nat} {o : Obj} (h : W.heap[k]? = some o) (hg : W.grownBy W' row) (hne : some k ≠ row) : W'.heap[k]? = some o := (hg.block k (Array.getElem?_eq_some_iff.1 h).1 hne).trans h
theorem own_form {w : World} {B : Nat} {e : TypeId} {k n : Nat} {v : Value} {xs : List Value} (h : w.ownsRow B e k v n xs) : ∃ a' k', v = .slice a' n k' := by
  rcases h.2 with ⟨q1, q2⟩ | ⟨g, cap', _, q1, _⟩
  · exact ⟨none, 0, by rw [q1, q2]⟩
  · exact ⟨_, cap', q1⟩
theorem own_cap {w : World} {B : Nat} {e : TypeId} {k n c : Nat} {a : Option Addr} {xs : List Value} (h : w.ownsRow B e k (.slice a n c) n xs) : n ≤ c := by
  rcases h.2 with ⟨q1, q2⟩ | ⟨g, cap', _, q1, _, _, q2, _⟩
  · omega
  · cases q1; exact q2
theorem own_capmax {w : World} {B : Nat} {e : TypeId} {k n c : Nat} {a : Option Addr} {xs : List Value} (h : w.ownsRow B e k (.slice a n c) n xs) : c ≤ 9223372036854775807 := by
  rcases h.2 with ⟨q1, q2⟩ | ⟨g, cap', _, q1, _, _, q2, q3, _⟩
  · cases q1; omega
  · cases q1
    have : maxLen = 9223372036854775807 := rfl
    omega
theorem owns_low {w : World} {B B' : Nat} {e : TypeId} {k n : Nat} {v : Value} {xs : List Value} (h : w.ownsRow B e k v n xs) (hB : B' ≤ B) : w.ownsRow B' e k v n xs := by
  refine ⟨h.1, ?_⟩
  rcases h.2 with q | ⟨g, cap, cur, q1, q2, q3⟩
  · exact .inl q
  · exact .inr ⟨g, cap, cur, q1, Nat.le_trans hB q2, q3⟩
/-- 'out = append(out, x)' in its box: all that is known behind it. -/
theorem box_push {W w1 : World} {n₀ B : Nat} {t e : TypeId} {size : Nat} {v v' : Value} {k m : Nat} {xs ys : List Value} {tmp : Obj}
    (hv : Boxed W B t v) (hte : t ≠ e) (hrow : W.ownsRow n₀ e size v k xs) (hown' : w1.ownsRow n₀ e size v' m ys) (hgrow : (W.alloc tmp).grownBy w1 v.ownBlock) :
    Boxed w1 B t v ∧ Boxed (w1.setCell ⟨B, 0, none⟩ v') B t v' ∧ (w1.setCell ⟨B, 0, none⟩ v').ownsRow n₀ e size v' m ys ∧ KeepsOthers W (w1.setCell ⟨B, 0, none⟩ v') ∧
    (∀ S : Nat → Prop, ¬ S B → (∀ k, n₀ ≤ k → ¬ S k) → KS S W (w1.setCell ⟨B, 0, none⟩ v')) ∧ (∀ B0, B0 ≤ B → B0 ≤ n₀ → B0 ≤ W.heap.size → Below B0 W (w1.setCell ⟨B, 0, none⟩ v')) ∧
    (∀ (B' : Nat) (t' : TypeId) (u : Value), Boxed W B' t' u → B' < n₀ → B' ≠ B → Boxed (w1.setCell ⟨B, 0, none⟩ v') B' t' u) := by
  have hv1 : Boxed w1 B t v := (hv.alloc tmp).kept hgrow (hv.not_row hte hrow)
  have hown2 := hown'.kept (grownBy_setCell' w1 B v') (.inr (hv1.not_row hte hown').symm)
  have hlow : ∀ j, v.ownBlock = some j → n₀ ≤ j := fun j ej => (hrow.lt j ej).1
  refine ⟨hv1, hv1.set v', hown2, ?_, fun S h1 h2 => ?_, fun B0 h1 h2 h3 => ?_, fun B' t' u h h1 h2 => ?_⟩
  · refine ((KeepsOthers.alloc W tmp).trans (KeepsOthers.of_grownBy hgrow fun j o ej hj => ?_)).trans (KeepsOthers.setCell _ _ _)
    rcases (hrow.alloc tmp).2 with ⟨rfl, _⟩ | ⟨g, cap, cur, rfl, _, hgb, _⟩
    · simp [Value.ownBlock] at ej
    · obtain rfl : g = j := by simpa [Value.ownBlock] using ej
      rw [hgb] at hj; cases hj; rfl
  · exact (((KS.refl S W).alloc tmp).grown hgrow (fun j ej => h2 j (hlow j ej))).set _ _ h1
  · exact (((Below.refl B0 W).alloc h3 tmp).grown hgrow (by simp; omega) (fun j ej => Nat.le_trans h2 (hlow j ej))).setCell (p := ⟨B, 0, none⟩) h1 v'
  · refine ((h.alloc tmp).kept hgrow (fun e2 => ?_)).kept (grownBy_setCell' w1 B v') (by simpa using h2)
    have := hlow B' e2.symm; omega
/-- The mark of a range over a function among the deferred calls. -/
def mkD (D : Nat) : Deferred := { target := .collected D, args := #[] }
theorem leaves_marks {F : Fence} {n : Nat} {P : Program} {fn : Func} {tmps : Array Value} {R : Ending → World → Prop} : ∀ (Ds : List Nat) (W : World), Ds.Nodup → (∀ D ∈ Ds, W.heap[D]? = some (.deferred (some []))) →
    (∀ W', W'.os = W.os → W'.tape = W.tape → W'.output = W.output → W.heap.size ≤ W'.heap.size → (∀ k, k ∉ Ds → W'.heap[k]? = W.heap[k]?) → LeavesIn F n P fn tmps R [] .returning W') → LeavesInM F n P fn tmps R (Ds.map mkD) .returning W
  | [], W, _, _, h => h W rfl rfl rfl (Nat.le_refl _) (fun _ _ => rfl)
  | D :: Ds, W, hnd, hD, h => by
    have hD0 := hD D (by simp)
    have hn := List.nodup_cons.1 hnd
    refine ⟨by simp, .inl ⟨D, _, rfl, run_takeDeferred hD0, ?_⟩⟩
    have hg := grownBy_putObj' W D (.deferred none)
    refine leaves_marks Ds _ hn.2 (fun E hE => ?_) (fun W' h1 h2 h3 h4 h5 => ?_)
    · have hne : E ≠ D := fun e => hn.1 (by rw [← e]; exact hE)
      rw [World.putObj_heap_other hne]
      exact hD E (by simp [hE])
    · refine h W' (h1.trans hg.os) (h2.trans hg.tape) (h3.trans hg.output) (Nat.le_trans hg.size h4) (fun k hk => ?_)
      rw [h5 k (fun e => hk (by simp [e]))]
      exact World.putObj_heap_other (fun e => hk (by simp [e]))
/-- An operation whose run is known. -/
theorem wpList_run {P : Program} {w : World} {ops : Array Oper} {rest : List Oper} {o : Oper} {a : Act} {Q : Exit → Act → World → Prop} (hg : o.guard = none) (v : Value)
    (hr : (execOp a.eval o).run P w = .ok (.value v) w) (h : wpList P ops Q rest (a.put o.dst v) w) : wpList P ops Q (o :: rest) a w := by
  refine wpList_plain hg fun K hK => ?_
  unfold Oper.wp
  rw [hr]
  exact hK _ _ h
theorem wpList_appendR {P : Program} {w : World} {ops : Array Oper} {rest : List Oper} {o : Oper} {a : Act} {Q : Exit → Act → World → Prop} (hgd : o.guard = none) (s x : Operand) (t : TypeId)
    (ho : o.op = .call { callee := .builtin .append, args := #[s, x], argTypes := #[t, t] }) (v u v' : Value) (w' : World) (hs : a.eval s = v) (hx : a.eval x = u)
    (hr : (Builtin.append_ #[t, t] o.type #[v, u]).run P w = .ok v' w') (h : wpList P ops Q rest (a.put o.dst v') w') : wpList P ops Q (o :: rest) a w := by
  refine wpList_plain hgd fun K hK => ?_
  unfold Oper.wp execOp
  simp only [ho, resolve, invoke, builtin, Sem.run_bind, Sem.run_pure, Result.andThen_ok, List.map_toArray, List.map_cons, List.map_nil, hs, hx, hr]
  exact hK _ _ h
/-- Cells at a place of a block. -/
def AtL (W : World) (b o : Nat) (cs : List Value) : Prop := ∀ j v, cs[j]? = some v → W.cell? ⟨b, o + j, none⟩ = some v
theorem AtL.fr {W W' : World} {b o : Nat} {cs : List Value} (h : AtL W b o cs) (hf : Fr (fun _ => False) W W') : AtL W' b o cs := fun j v hv => by
  have h1 := h j v hv
  exact (World.cell?_of_block (w := W) (w' := W') (a := ⟨b, o + j, none⟩) (hf.block b (World.block_lt_of_cell? W _ h1) (fun h => h))).trans h1
theorem AtL.below {W W' : World} {b o : Nat} {cs : List Value} (h : AtL W b o cs) (hB : Below W.heap.size W W') : AtL W' b o cs := h.fr (Fr.of_below hB)
theorem AtL.row {W : World} {b t : Nat} {cs : List Value} {fz : Nat × Nat} (h : W.heap[b]? = some (.cells cs.toArray t fz)) : AtL W b 0 cs := fun j v hv => by
  rw [Nat.zero_add, cell_of_row _ _ j _ _ _ h]
  simpa using hv
theorem AtL.run {P : Program} {W : World} {b o : Nat} {cs : List Value} (h : AtL W b o cs) : Sem.run P (loadCellsFrom ⟨b, o, none⟩ 0 cs.length #[]) W = .ok cs.toArray W := by
  have h1 : ∀ j v, cs[j]? = some v → W.cell? ((⟨b, o, none⟩ : Addr).add j) = some v := fun j v hv => by
    have h2 := h j v hv
    cases j with
    | zero => simpa [Addr.add] using h2
    | succ j => simpa [Addr.add] using h2
  have := run_loadCellsFrom_list P W ⟨b, o, none⟩ cs cs.length rfl h1
  simpa using this
end Go.Proofs.Ytbdhjkdojgdhbaa
