/-
  Rows of keys with their times, in memory; append to them; the plain twin's leases in memory.
-/
import Derived.Test.YtbdhjkdojgdhbaaLsM
import Derived.Test.YtbdhjkdojgdhbaaHpR
import Derived.Test.YtbdhjkdojgdhbaaRowIn
import Derived.Test.YtbdhjkdojgdhbaaMixD
import Derived.Test.YtbdhjkdojgdhbaaGen
import Derived.Deep.Cut
import Derived.Laws.AppendOwnNone
namespace Go.Proofs.Ytbdhjkdojgdhbaa
open Go Go.ChangeShapes Go.WideShapes Go.ChangeAt Go.RowKit

abbrev TOn : TypeId := 42
abbrev TSO : TypeId := 35
abbrev TRl : TypeId := 37
abbrev iv (x : Int) : Value := .int .i64 x
abbrev nI (k : Nat) : Value := .int .i64 (k : Int)
def onc (x : On) : List Value := [.int .u64 x.1, .int .i64 x.2]
def onA (x : On) : Array Value := #[.int .u64 x.1, .int .i64 x.2]
abbrev onv (l : List On) : List Value := l.flatMap onc
theorem onv_len (l : List On) : (onv l).length = l.length * 2 := by
  induction l with
  | nil => rfl
  | cons x r ih => rw [onv, List.flatMap_cons, List.length_append, ih, List.length_cons]; simp [onc]; omega
theorem onv_get {x : On} {j : Nat} (hj : j < 2) : ∀ {l : List On} {i : Nat}, l[i]? = some x → (onv l)[i * 2 + j]? = (onc x)[j]?
  | y :: r, 0, h => by
    cases h
    rw [onv, List.flatMap_cons, List.getElem?_append_left (by have : (onc x).length = 2 := rfl; omega)]
    simp
  | y :: r, i + 1, h => by
    have hy : (onc y).length = 2 := rfl
    rw [onv, List.flatMap_cons, List.getElem?_append_right (by omega), show (i + 1) * 2 + j - (onc y).length = i * 2 + j by omega]
    exact onv_get hj (by simpa using h)
theorem onv_one (l : List On) : ∀ u ∈ onv l, u.oneCell' = true := fun u hu => by
  obtain ⟨x, _, hx⟩ := List.mem_flatMap.1 hu
  simp only [onc, List.mem_cons, List.not_mem_nil, or_false] at hx
  rcases hx with rfl | rfl <;> rfl
set_option maxRecDepth 100000 in
theorem infoOn : (Try.prog.info? TOn).map (fun i => (i.zero, i.size, i.bytes)) = some (some (.agg #[.int .u64 0, .int .i64 0]), 2, 16) := by kernel_rfl
theorem info_split {e : TypeId} {z : Option Value} {k b : Nat} (h : (Try.prog.info? e).map (fun i => (i.zero, i.size, i.bytes)) = some (z, k, b)) : ∃ i, Try.prog.info? e = some i ∧ i.zero = z ∧ i.size = k ∧ i.bytes = b := by
  cases hi : Try.prog.info? e with
  | none => rw [hi] at h; cases h
  | some i =>
    rw [hi] at h
    simp at h
    exact ⟨i, rfl, h.1, h.2.1, h.2.2⟩
/-- A row of one's own, read. -/
theorem own_at {w : World} {B n g c : Nat} {l : List On} (h : w.ownsRow B TOn 2 (.slice (some ⟨g, 0, none⟩) n c) n (onv l)) {i : Nat} {x : On} (hx : l[i]? = some x) : AtL w g (i * 2) (onc x) := fun j u hu => by
  have hi := (List.getElem?_eq_some_iff.1 hx).1
  have hj : j < 2 := (List.getElem?_eq_some_iff.1 hu).1
  have hl := h.1
  rw [onv_len] at hl
  rw [h.cellAt (i * 2 + j) (by omega), onv_get hj hx]
  exact hu
theorem ownO_len {w : World} {B n : Nat} {v : Value} {l : List On} (h : w.ownsRow B TOn 2 v n (onv l)) : n = l.length := by
  have hl := h.1
  rw [onv_len] at hl
  omega
/-- append of told ones. -/
theorem wpList_appO {w : World} {ops : Array Oper} {rest : List Oper} {o : Oper} {a : Act} {Q : Exit → Act → World → Prop} (hg : o.guard = none) (s x : Operand)
    (ho : o.op = Op.call { callee := Callee.builtin Builtin.append, args := #[s, x], argTypes := #[TSO, TSO] }) (B : Nat) (v : Value) (xs ys : List On) (hs : a.eval s = v) (hown : w.ownsRow B TOn 2 v xs.length (onv xs)) (b off n c : Nat) (hx : a.eval x = .slice (some ⟨b, off, none⟩) n c) (hn : n = ys.length)
    (hc : ∀ (j : Nat) y, ys[j]? = some y → AtL w b (off + j * 2) (onc y)) (hl : xs.length + ys.length ≤ 1000000) (hB : B ≤ w.heap.size)
    (hK : ∀ v' w', w'.ownsRow B TOn 2 v' (xs ++ ys).length (onv (xs ++ ys)) → w.grownBy w' v.ownBlock → (v'.ownBlock = v.ownBlock ∨ v'.ownBlock = some w.heap.size) → wpList Try.prog ops Q rest (a.put o.dst v') w') : wpList Try.prog ops Q (o :: rest) a w := by
  obtain ⟨i, h1, h2, h3, h4⟩ := info_split infoOn
  have hml : (9223372036854775807 : Nat) = maxLen := rfl
  refine wpList_append_own_at _ hg s x TSO ho B TOn i (.agg #[.int .u64 0, .int .i64 0]) 2 16 Try.underlying35 h1 h2 h3 h4 rfl (by decide) v _ _ hs hown ⟨b, off, none⟩ n c (onv ys) hx (by rw [onv_len, hn]) (fun j u hu => ?_) (onv_one ys) (by omega) (by omega) hB ?_
  · have hj := (List.getElem?_eq_some_iff.1 hu).1
    rw [onv_len] at hj
    have hi : j / 2 < ys.length := by omega
    have e : j / 2 * 2 + j % 2 = j := by omega
    have h5 := hc (j / 2) _ (List.getElem?_eq_getElem hi) (j % 2) u (by rw [← onv_get (Nat.mod_lt _ (by omega)) (List.getElem?_eq_getElem hi), e]; exact hu)
    rw [Nat.add_assoc, e] at h5
    rw [Addr.add_lit]
    exact h5
  · intro v' w' k1 k2 _ k4
    refine hK v' w' ?_ k2 k4
    rw [List.length_append, onv, List.flatMap_append, ← hn]
    exact k1
/-- append of nothing. -/
theorem wpList_appO0 {w : World} {ops : Array Oper} {rest : List Oper} {o : Oper} {a : Act} {Q : Exit → Act → World → Prop} (hg : o.guard = none) (s x : Operand)
    (ho : o.op = Op.call { callee := Callee.builtin Builtin.append, args := #[s, x], argTypes := #[TSO, TSO] }) (B : Nat) (v : Value) (xs : List On) (hs : a.eval s = v) (hown : w.ownsRow B TOn 2 v xs.length (onv xs)) (hx : a.eval x = .slice none 0 0)
    (hK : wpList Try.prog ops Q rest (a.put o.dst v) w) : wpList Try.prog ops Q (o :: rest) a w := by
  obtain ⟨i, h1, h2, h3, h4⟩ := info_split infoOn
  exact wpList_append_own_none hg s x TSO ho B TOn i 2 Try.underlying35 h1 v xs.length _ hs hown hx hK
theorem new_on (w : World) (x : On) (j : Nat) (y : On) (h : [x][j]? = some y) : AtL (w.alloc (.cells (onA x) TOn)) w.heap.size (0 + j * 2) (onc y) := by
  cases j with
  | zero =>
    simp at h
    subst h
    intro j u hu
    rw [cell_of_row _ _ _ _ _ _ (heap_alloc_new w _)]
    match j, hu with
    | 0, hu => exact hu
    | 1, hu => exact hu
  | succ j => simp at h
/-- The plain twin's leases in memory. -/
structure RlW (w : World) (S : Nat → Prop) (p : Nat) (z : Lz) (lv : Value) : Prop where
  hp : w.heap[p]? = some (.cells #[iv z.time, iv z.now, lv] TRl (0, 0))
  row : w.ownsRow 0 TOn 2 lv z.l.length (onv z.l)
  sp : S p
  sr : ∀ k, lv.ownBlock = some k → S k
  sl : ∀ k, S k → k < w.heap.size
section
variable {w w' : World} {S fp : Nat → Prop} {p : Nat} {z : Lz} {lv : Value}
theorem RlW.c0 (h : RlW w S p z lv) : w.cell? ⟨p, 0, none⟩ = some (iv z.time) := by rw [cell_of_row w p 0 _ _ _ h.hp]; rfl
theorem RlW.c1 (h : RlW w S p z lv) : w.cell? ⟨p, 1, none⟩ = some (iv z.now) := by rw [cell_of_row w p 1 _ _ _ h.hp]; rfl
theorem RlW.c2 (h : RlW w S p z lv) : w.cell? ⟨p, 2, none⟩ = some lv := by rw [cell_of_row w p 2 _ _ _ h.hp]; rfl
theorem RlW.fz (h : RlW w S p z lv) (k : Nat) : w.frozen? ⟨p, k, none⟩ = false := frozen_of_row w p k _ _ h.hp
theorem RlW.lt (h : RlW w S p z lv) : p < w.heap.size := (Array.getElem?_eq_some_iff.1 h.hp).1
theorem RlW.fr (h : RlW w S p z lv) (hf : Fr fp w w') (hd : ∀ k, S k → ¬ fp k) : RlW w' S p z lv :=
  ⟨(hf.block p h.lt (hd p h.sp)).trans h.hp, hf.owns h.row (fun k hk => hd k (h.sr k hk)), h.sp, h.sr, fun k hk => Nat.lt_of_lt_of_le (h.sl k hk) hf.size⟩
theorem RlW.no (h : RlW w S p z lv) (hf : Fr (fun _ => False) w w') : RlW w' S p z lv := h.fr hf (fun _ _ e => e)
theorem RlW.nr (h : RlW w S p z lv) {g : Nat} (hg : lv.ownBlock = some g) : g ≠ p := fun e => by
  subst e
  rcases h.row.2 with ⟨rfl, _⟩ | ⟨g', cap, cur, rfl, _, hgb, _⟩
  · cases hg
  · cases hg
    have := h.hp
    rw [hgb] at this
    simp only [Option.some.injEq, Obj.cells.injEq] at this
    exact absurd this.2.1 (by decide)
theorem RlW.ex (h : RlW w S p z lv) (hf : Fr (fun _ => False) w w') : RlW w' (exS S w w') p z lv := by
  have h1 := h.no hf
  exact ⟨h1.hp, h1.row, .inl h1.sp, fun k hk => .inl (h1.sr k hk), fun k hk => by
    rcases hk with e | e
    · exact h1.sl k e
    · exact e.2⟩
/-- A row of one's own is laid into it. -/
theorem RlW.set (h : RlW w S p z lv) {w2 : World} {z2 : Lz} {v2 : Value} {n : Nat} (hf : Fr (fun _ => False) w w2) (ht : z2.time = z.time) (hw : z2.now = z.now) (hr : w2.ownsRow w.heap.size TOn 2 v2 n (onv z2.l)) :
    RlW (w2.setCell ⟨p, 2, none⟩ v2) (exS S w (w2.setCell ⟨p, 2, none⟩ v2)) p z2 v2 ∧ Fr S w (w2.setCell ⟨p, 2, none⟩ v2) := by
  have hp2 := (hf.block p h.lt (fun e => e)).trans h.hp
  have h1 : Fr (fun b => b = p) w2 (w2.setCell ⟨p, 2, none⟩ v2) := (Fr.refl _ _).setCell _ _ (fun _ => rfl)
  have hff : Fr S w (w2.setCell ⟨p, 2, none⟩ v2) := (hf.mono (fp2 := S) (fun _ e _ => e.elim)).trans h1 (fun k hk _ => by rw [hk]; exact h.sp)
  have hn := ownO_len hr
  subst hn
  have hr2 := h1.owns hr (fun k hk e => by have := (hr.lt k hk).1; have := h.lt; omega)
  refine ⟨⟨by rw [heap_setCell_same _ _ _ _ _ _ hp2, ht, hw]; rfl, ⟨hr2.1, ?_⟩, .inl h.sp, fun k hk => .inr (hr2.lt k hk), fun k hk => ?_⟩, hff⟩
  · rcases hr2.2 with e | ⟨g, cap, cur, e, _, r⟩
    · exact .inl e
    · exact .inr ⟨g, cap, cur, e, Nat.zero_le _, r⟩
  · rcases hk with e | e
    · exact Nat.lt_of_lt_of_le (h.sl k e) hff.size
    · exact e.2
end
end Go.Proofs.Ytbdhjkdojgdhbaa
