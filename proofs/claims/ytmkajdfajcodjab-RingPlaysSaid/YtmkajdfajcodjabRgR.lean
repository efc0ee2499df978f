/-
  Rows of numbers and truths that are told or one's own, of layers 13 and 14; an append of one number.
-/
import Derived.Test.YtmkajdfajcodjabLibB
import Derived.Test.YtmkajdfajcodjabRng
import Derived.Test.YtmkajdfajcodjabChecked

namespace Go.Proofs.Ytmkajdfajcodjab
open Go Go.ChangeShapes Go.WideShapes Go.ChangeAt Go.RowKit

abbrev TI : TypeId := 3
abbrev TB : TypeId := 4
abbrev iv (x : Int) : Value := .int .i64 x
abbrev nI (k : Nat) : Value := .int .i64 (k : Int)
abbrev bv (x : Bool) : Value := .bool x
set_option maxRecDepth 100000 in
theorem infoI : (Try.prog.info? TI).map (fun i => (i.zero, i.size, i.bytes)) = some (some (.int .i64 0), 1, 8) := by kernel_rfl
set_option maxRecDepth 100000 in
theorem infoB : (Try.prog.info? TB).map (fun i => (i.zero, i.size, i.bytes)) = some (some (.bool false), 1, 1) := by kernel_rfl
theorem info_split {e : TypeId} {z : Option Value} {k b : Nat} (h : (Try.prog.info? e).map (fun i => (i.zero, i.size, i.bytes)) = some (z, k, b)) : ∃ i, Try.prog.info? e = some i ∧ i.zero = z ∧ i.size = k ∧ i.bytes = b := by
  cases hi : Try.prog.info? e with
  | none => rw [hi] at h; cases h
  | some i =>
    rw [hi] at h
    simp at h
    exact ⟨i, rfl, h.1, h.2.1, h.2.2⟩
/-- A row that is told: only read; it lies below B. -/
structure Tl {α : Type} (f : α → Value) (B : Nat) (W : World) (v : Value) (xs : List α) : Prop where
  ex : ∃ a c, v = .slice a xs.length c ∧ xs.length ≤ c ∧ c ≤ 9223372036854775807 ∧ (0 < xs.length → ∃ b o, a = some ⟨b, o, none⟩ ∧ b < B ∧ ∀ j x, xs[j]? = some x → W.cell? ⟨b, o + j, none⟩ = some (f x))
section
variable {α : Type} {f : α → Value} {B B' : Nat} {w w' : World} {v : Value} {xs : List α}
theorem Tl.below (h : Tl f B w v xs) (hB : Below B w w') : Tl f B w' v xs := by
  obtain ⟨a, c, h1, h2, h3, h4⟩ := h.ex
  refine ⟨a, c, h1, h2, h3, fun hl => ?_⟩
  obtain ⟨b, o, h5, h6, h7⟩ := h4 hl
  exact ⟨b, o, h5, h6, fun j x hx => (World.cell?_of_block (w := w) (w' := w') (a := ⟨b, o + j, none⟩) (hB.block b h6)).trans (h7 j x hx)⟩
theorem Tl.up (h : Tl f B w v xs) (hB : B ≤ B') : Tl f B' w v xs := by
  obtain ⟨a, c, h1, h2, h3, h4⟩ := h.ex
  refine ⟨a, c, h1, h2, h3, fun hl => ?_⟩
  obtain ⟨b, o, h5, h6, h7⟩ := h4 hl
  exact ⟨b, o, h5, by omega, h7⟩
/-- What isn't of the told row's blocks may turn. -/
theorem Tl.fr {fp : Nat → Prop} (h : Tl f B w v xs) (hf : Fr fp w w') (hB : B ≤ w.heap.size) (hd : ∀ k, k < B → ¬ fp k) : Tl f B w' v xs := by
  obtain ⟨a, c, h1, h2, h3, h4⟩ := h.ex
  refine ⟨a, c, h1, h2, h3, fun hl => ?_⟩
  obtain ⟨b, o, h5, h6, h7⟩ := h4 hl
  exact ⟨b, o, h5, h6, fun j x hx => (World.cell?_of_block (w := w) (w' := w') (a := ⟨b, o + j, none⟩) (hf.block b (by omega) (hd b h6))).trans (h7 j x hx)⟩
theorem Tl.nil (f : α → Value) (B : Nat) (w : World) : Tl f B w (.slice none 0 0) ([] : List α) := ⟨none, 0, rfl, by simp, by omega, fun h => by simp at h⟩
/-- A row of one's own is told. -/
theorem own_told {B0 T : Nat} {n : Nat} (h : w.ownsRow B0 T 1 v n (xs.map f)) : Tl f w.heap.size w v xs := by
  have hn : n = xs.length := by have := h.1; simp at this; omega
  subst hn
  obtain ⟨a, k, rfl⟩ := own_form h
  refine ⟨a, k, rfl, own_cap h, own_capmax h, fun hl => ?_⟩
  rcases h.2 with ⟨h1, h2⟩ | ⟨g, cap, cur, h1, h2, h3, _⟩
  · omega
  · cases h1
    refine ⟨g, 0, rfl, (Array.getElem?_eq_some_iff.1 h3).1, fun j x hx => ?_⟩
    have hj := (List.getElem?_eq_some_iff.1 hx).1
    rw [Nat.zero_add, h.cellAt j (by omega)]
    simp [hx]
theorem own_len {B0 T : Nat} {n : Nat} (h : w.ownsRow B0 T 1 v n (xs.map f)) : n = xs.length := by have := h.1; simp at this; omega
end
/-- A row of numbers of one's own, all of it above B. -/
def OwI (B : Nat) (w : World) (v : Value) (xs : List Nat) : Prop := w.ownsRow B TI 1 v xs.length (xs.map nI)
/-- Such a row, and nothing below has turned. -/
def PI (w0 w : World) (v : Value) (xs : List Nat) : Prop := OwI w0.heap.size w v xs ∧ Below w0.heap.size w0 w
theorem PI.new (w : World) : PI w w (.slice none 0 0) [] := ⟨World.ownsRow_nil _ _ _ _, Below.refl _ _⟩
theorem PI.push {w0 w w' : World} {o : Obj} {v v' : Value} {xs : List Nat} {y : Nat} (h : PI w0 w v xs) (h1 : OwI w0.heap.size w' v' (xs ++ [y])) (h2 : (w.alloc o).grownBy w' v.ownBlock) : PI w0 w' v' (xs ++ [y]) :=
  ⟨h1, (h.2.alloc h.2.size o).grown h2 (by have := h.2.size; simp; omega) (fun k hk => (h.1.lt k hk).1)⟩
theorem PI.told {w0 w : World} {v : Value} {xs : List Nat} (h : PI w0 w v xs) : Tl nI w.heap.size w v xs := own_told h.1
theorem OwI.form {B : Nat} {w : World} {v : Value} {xs : List Nat} (h : OwI B w v xs) : ∃ a k, v = .slice a xs.length k ∧ xs.length ≤ k ∧ k ≤ 9223372036854775807 := by
  obtain ⟨a, k, rfl⟩ := own_form h
  exact ⟨a, k, rfl, own_cap h, own_capmax h⟩
theorem OwI.alloc {B : Nat} {w : World} {v : Value} {xs : List Nat} (h : OwI B w v xs) (o : Obj) : OwI B (w.alloc o) v xs := World.ownsRow.alloc h o
theorem OwI.fr {B : Nat} {w w' : World} {v : Value} {xs : List Nat} {fp : Nat → Prop} (h : OwI B w v xs) (hf : Fr fp w w') (hv : ∀ k, v.ownBlock = some k → ¬ fp k) : OwI B w' v xs := hf.owns h hv
/-- append of one number. -/
theorem wpList_pushI {w : World} {ops : Array Oper} {rest : List Oper} {o : Oper} {a : Act} {Q : Exit → Act → World → Prop} (hg : o.guard = none) (s x : Operand)
    (ho : o.op = Op.call { callee := Callee.builtin Builtin.append, args := #[s, x], argTypes := #[22, 22] }) (B : Nat) (v : Value) (xs : List Nat) (y : Nat) (hs : a.eval s = v) (hown : OwI B w v xs) (g c : Nat) (hx : a.eval x = .slice (some ⟨g, 0, none⟩) 1 c)
    (hc : w.cell? ⟨g, 0, none⟩ = some (nI y)) (hl : xs.length ≤ 1000000) (hB : B ≤ w.heap.size)
    (hK : ∀ v' w', OwI B w' v' (xs ++ [y]) → w.grownBy w' v.ownBlock → (v'.ownBlock = v.ownBlock ∨ v'.ownBlock = some w.heap.size) → wpList Try.prog ops Q rest (a.put o.dst v') w') : wpList Try.prog ops Q (o :: rest) a w := by
  obtain ⟨i, h1, h2, h3, h4⟩ := info_split infoI
  have hml : (9223372036854775807 : Nat) = maxLen := rfl
  refine wpList_append_own_at _ hg s x 22 ho B TI i (.int .i64 0) 1 8 Try.underlying22 h1 h2 h3 h4 rfl (by decide) v _ _ hs hown ⟨g, 0, none⟩ 1 c [nI y] hx rfl (fun j u hu => ?_) (by simp [Value.oneCell']) (by omega) (by omega) hB ?_
  · cases j with
    | zero => simp at hu; subst hu; simpa [Addr.add] using hc
    | succ j => simp at hu
  · intro v' w' k1 k2 _ k4
    refine hK v' w' ?_ k2 k4
    unfold OwI
    rw [List.length_append, List.map_append]
    exact k1
end Go.Proofs.Ytmkajdfajcodjab
