/-
  A graph that a law lays itself: its counts are appended one by one; a row of truths beside it.
-/
import Derived.Test.YtjmhlmohennknabCyLs
import Derived.Test.YtjmhlmohennknabCySf
namespace Go.Proofs.Ytjmhlmohennknab
open Go Go.ChangeShapes Go.WideShapes Go.ChangeAt Go.RowKit

abbrev TU32 : TypeId := 41
abbrev cU (x : Int) : Value := .int .u32 x
set_option maxRecDepth 100000 in
theorem infoU32 : (Try.prog.info? TU32).map (fun i => (i.zero, i.size, i.bytes)) = some (some (.int .u32 0), 1, 4) := by kernel_rfl
/-- append of one count. -/
theorem wpList_pushC {w : World} {ops : Array Oper} {rest : List Oper} {o : Oper} {a : Act} {Q : Exit → Act → World → Prop} (hg : o.guard = none) (s x : Operand)
    (ho : o.op = Op.call { callee := Callee.builtin Builtin.append, args := #[s, x], argTypes := #[22, 22] }) (B : Nat) (v : Value) (xs : List Int) (y : Int) (hs : a.eval s = v) (hown : w.ownsRow B TU32 1 v xs.length (xs.map cU)) (g c : Nat) (hx : a.eval x = .slice (some ⟨g, 0, none⟩) 1 c)
    (hc : w.cell? ⟨g, 0, none⟩ = some (cU y)) (hl : xs.length ≤ 1000000) (hB : B ≤ w.heap.size)
    (hK : ∀ v' w', w'.ownsRow B TU32 1 v' (xs ++ [y]).length ((xs ++ [y]).map cU) → w.grownBy w' v.ownBlock → (v'.ownBlock = v.ownBlock ∨ v'.ownBlock = some w.heap.size) → wpList Try.prog ops Q rest (a.put o.dst v') w') : wpList Try.prog ops Q (o :: rest) a w := by
  obtain ⟨i, h1, h2, h3, h4⟩ := info_split infoU32
  have hml : (9223372036854775807 : Nat) = maxLen := rfl
  refine wpList_append_own_at _ hg s x 22 ho B TU32 i (.int .u32 0) 1 4 Try.underlying22 h1 h2 h3 h4 rfl (by decide) v _ _ hs hown ⟨g, 0, none⟩ 1 c [cU y] hx rfl (fun j u hu => ?_) (by simp [Value.oneCell']) (by omega) (by omega) hB ?_
  · cases j with
    | zero => simp at hu; subst hu; simpa [Addr.add] using hc
    | succ j => simp at hu
  · intro v' w' k1 k2 _ k4
    refine hK v' w' ?_ k2 k4
    rw [List.length_append, List.map_append]
    exact k1
/-- While a graph is laid. -/
structure SfI (w8 W : World) (xb ob n : Nat) (ev cv : Value) (xs : List Int) (f : Nat → Bool) : Prop where
  x : W.heap[xb]? = some (.cells #[cv, ev] TGr (0, 0))
  c : W.ownsRow w8.heap.size TU32 1 cv xs.length (xs.map cU)
  o : BF TB bv W ob n f
  fr : Fr (fun b => b = xb ∨ b = ob) w8 W
  xl : xb < w8.heap.size
  ol : ob < w8.heap.size
  ne : xb ≠ ob
section
variable {w8 W : World} {xb ob n : Nat} {ev cv : Value} {xs : List Int} {f f' : Nat → Bool}
theorem SfI.c0 (h : SfI w8 W xb ob n ev cv xs f) : W.cell? ⟨xb, 0, none⟩ = some cv := by rw [cell_of_row _ _ 0 _ _ _ h.x]; rfl
theorem SfI.c1 (h : SfI w8 W xb ob n ev cv xs f) : W.cell? ⟨xb, 1, none⟩ = some ev := by rw [cell_of_row _ _ 1 _ _ _ h.x]; rfl
theorem SfI.fz (h : SfI w8 W xb ob n ev cv xs f) (k : Nat) : W.frozen? ⟨xb, k, none⟩ = false := frozen_of_row _ _ _ _ _ h.x
theorem SfI.congr (h : SfI w8 W xb ob n ev cv xs f) (hc : ∀ i, i < n → f i = f' i) : SfI w8 W xb ob n ev cv xs f' := ⟨h.x, h.c, h.o.congr hc, h.fr, h.xl, h.ol, h.ne⟩
theorem SfI.mark (h : SfI w8 W xb ob n ev cv xs f) (j : Nat) (y : Bool) : SfI w8 (W.setCell ⟨ob, j, none⟩ (.bool y)) xb ob n ev cv xs (upd f j y) := by
  have hfr : Fr (fun b => b = ob) W (W.setCell ⟨ob, j, none⟩ (.bool y)) := (Fr.refl _ _).setCell _ _ (fun _ => rfl)
  have ho := h.ol
  refine ⟨?_, hfr.owns h.c (fun k hk e => by have := (h.c.lt k hk).1; omega), h.o.set j y, h.fr.trans hfr (fun k hk _ => .inr hk), h.xl, h.ol, h.ne⟩
  rw [hfr.block _ (Array.getElem?_eq_some_iff.1 h.x).1 h.ne]
  exact h.x
theorem SfI.grow (h : SfI w8 W xb ob n ev cv xs f) {w' : World} {o : Obj} (hg : (W.alloc o).grownBy w' cv.ownBlock) : w'.heap[xb]? = some (.cells #[cv, ev] TGr (0, 0)) := by
  have hfr : Fr (fun k => cv.ownBlock = some k) W w' := ((Fr.refl _ _).alloc o).grown hg (fun k hk _ => hk)
  have := h.xl
  rw [hfr.block _ (Array.getElem?_eq_some_iff.1 h.x).1 (fun e => by have := (h.c.lt _ e).1; omega)]
  exact h.x
theorem SfI.push (h : SfI w8 W xb ob n ev cv xs f) {w' : World} {v' : Value} {o : Obj} {y : Int} (hr : w'.ownsRow w8.heap.size TU32 1 v' (xs ++ [y]).length ((xs ++ [y]).map cU)) (hg : (W.alloc o).grownBy w' cv.ownBlock) :
    SfI w8 (w'.setCell ⟨xb, 0, none⟩ v') xb ob n ev v' (xs ++ [y]) f := by
  have hx := h.grow hg
  have hxl := h.xl
  have hol := h.ol
  have hfr : Fr (fun k => cv.ownBlock = some k) W w' := ((Fr.refl _ _).alloc o).grown hg (fun k hk _ => hk)
  have hfs : Fr (fun b => b = xb) w' (w'.setCell ⟨xb, 0, none⟩ v') := (Fr.refl _ _).setCell _ _ (fun _ => rfl)
  have hcl : ∀ k, cv.ownBlock = some k → w8.heap.size ≤ k := fun k hk => (h.c.lt k hk).1
  refine ⟨?_, hfs.owns hr (fun k hk e => by have := (hr.lt k hk).1; omega), (h.o.fr hfr (fun e => by have := hcl _ e; omega)).fr hfs (fun e => h.ne e.symm), ?_, h.xl, h.ol, h.ne⟩
  · rw [heap_setCell_same _ _ _ _ _ _ hx]; rfl
  · refine Fr.trans (h.fr.trans hfr (fun k hk hl => by have := hcl k hk; omega)) hfs (fun k hk _ => .inl hk)
theorem SfI.told (h : SfI w8 W xb ob n ev cv xs f) : Tl cU W.heap.size W cv xs := own_told h.c
end
end Go.Proofs.Ytjmhlmohennknab
