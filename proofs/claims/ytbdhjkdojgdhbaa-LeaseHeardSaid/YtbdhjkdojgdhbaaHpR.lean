/-
  Rows of the call's own, beside a set of blocks that others turn.
-/
import Derived.Test.YtbdhjkdojgdhbaaRng
import Derived.Test.YtbdhjkdojgdhbaaLibB
import Derived.Maps.AppendAt
import Derived.Laws.AppendOwnNone
namespace Go.Proofs.Ytbdhjkdojgdhbaa
open Go Go.ChangeShapes Go.WideShapes Go.ChangeAt Go.RowKit

/-- The blocks of a set, and those made since. -/
def exS (S : Nat → Prop) (w w' : World) : Nat → Prop := fun b => S b ∨ (w.heap.size ≤ b ∧ b < w'.heap.size)
/-- A row of one-celled values of the call's own, beside the set. -/
structure RowS (T : TypeId) (f : Int → Value) (S : Nat → Prop) (B : Nat) (w : World) (v : Value) (xs : List Int) : Prop where
  own : w.ownsRow B T 1 v xs.length (xs.map f)
  off : ∀ j, v.ownBlock = some j → ¬ S j
section
variable {T : TypeId} {f : Int → Value} {S S' : Nat → Prop} {B : Nat} {w w' : World} {v v2 : Value} {xs : List Int}
theorem RowS.nil (T : TypeId) (f : Int → Value) (S : Nat → Prop) (B : Nat) (w : World) : RowS T f S B w (.slice none 0 0) [] := ⟨World.ownsRow_nil _ _ _ _, fun j hj => by simp [Value.ownBlock] at hj⟩
theorem RowS.fr (h : RowS T f S B w v xs) (hf : Fr S w w') : RowS T f (exS S w w') B w' v xs :=
  ⟨hf.owns h.own h.off, fun j hj he => by
    rcases he with he | he
    · exact h.off j hj he
    · have := (h.own.lt j hj).2; omega⟩
theorem RowS.below (h : RowS T f S B w v xs) (hf : Below w.heap.size w w') : RowS T f S B w' v xs := ⟨(Fr.of_below (fp := fun _ => False) hf).owns h.own (fun _ _ e => e), h.off⟩
theorem RowS.set (h : RowS T f S B w v xs) (hs : ∀ j, v.ownBlock = some j → ¬ S' j) : RowS T f S' B w v xs := ⟨h.own, hs⟩
theorem RowS.form (h : RowS T f S B w v xs) : ∃ a k, v = .slice a xs.length k ∧ xs.length ≤ k ∧ k ≤ 9223372036854775807 ∧ (0 < xs.length → ∃ g, a = some ⟨g, 0, none⟩ ∧ B ≤ g ∧ g < w.heap.size ∧ ¬ S g) := by
  obtain ⟨a, k, rfl⟩ := own_form h.own
  refine ⟨a, k, rfl, own_cap h.own, own_capmax h.own, fun hl => ?_⟩
  rcases h.own.2 with ⟨h1, h2⟩ | ⟨g, cap, cur, h1, h2, h3, _⟩
  · omega
  · cases h1
    exact ⟨g, rfl, h2, (Array.getElem?_eq_some_iff.1 h3).1, h.off g rfl⟩
theorem RowS.cell {g n cap : Nat} (h : RowS T f S B w (.slice (some ⟨g, 0, none⟩) n cap) xs) (hn : n = xs.length) {j : Nat} {x : Int} (hx : xs[j]? = some x) : w.cell? ⟨g, j, none⟩ = some (f x) := by
  subst hn
  rw [h.own.cellAt j (by have := (List.getElem?_eq_some_iff.1 hx).1; omega)]
  simp [hx]
theorem RowS.fz {g n cap : Nat} (h : RowS T f S B w (.slice (some ⟨g, 0, none⟩) n cap) xs) (hn : n = xs.length) (j : Nat) : w.frozen? ⟨g, j, none⟩ = false := by
  subst hn
  exact h.own.frozenAt j
theorem RowS.put {g n cap : Nat} (h : RowS T f S B w (.slice (some ⟨g, 0, none⟩) n cap) xs) (hn : n = xs.length) (j : Nat) (x : Int) : RowS T f S B (w.setCell ⟨g, j, none⟩ (f x)) (.slice (some ⟨g, 0, none⟩) n cap) (xs.set j x) ∧ Fr (fun b => b = g) w (w.setCell ⟨g, j, none⟩ (f x)) := by
  subst hn
  have h1 := (h.own.stored j (f x)).1
  refine ⟨⟨by rw [List.length_set, List.map_set]; exact h1, h.off⟩, (Fr.refl _ _).setCell _ _ (fun _ => rfl)⟩
theorem RowS.cut {g n m cap : Nat} (h : RowS T f S B w (.slice (some ⟨g, 0, none⟩) n cap) xs) (hn : n = xs.length) (hm : m ≤ n) : RowS T f S B w (.slice (some ⟨g, 0, none⟩) m cap) (xs.take m) := by
  subst hn
  have h1 := h.own
  rw [show xs.map f = (xs.take m).map f ++ (xs.drop m).map f by rw [← List.map_append, List.take_append_drop]] at h1
  have hl : (xs.take m).length = m := by rw [List.length_take]; omega
  have h2 := owns_cut h1 (m := m) (by rw [List.length_map, hl]; omega) hm
  exact ⟨by rw [hl]; exact h2, h.off⟩
/-- One more behind it. -/
theorem RowS.app {wz : World} {vz : Value} {o : Obj} {x : Int} {n : Nat} (h : RowS T f S B w v xs) (hlt : ∀ b, S b → b < w.heap.size) (hown : wz.ownsRow B T 1 vz n (xs.map f ++ [f x])) (hg : (w.alloc o).grownBy wz v.ownBlock) (hat : vz.ownBlock = v.ownBlock ∨ vz.ownBlock = some (w.alloc o).heap.size) :
    RowS T f S B wz vz (xs ++ [x]) ∧ Fr (fun j => v.ownBlock = some j) w wz := by
  have hfr : Fr (fun j => v.ownBlock = some j) w wz := ((Fr.refl _ _).alloc o).grown hg (fun k hk _ => hk)
  have hn : n = (xs ++ [x]).length := by
    have := hown.1
    simp at this
    simp
    omega
  subst hn
  refine ⟨⟨by simpa using hown, fun j hj => ?_⟩, hfr⟩
  rcases hat with e | e
  · exact h.off j (by rw [← e]; exact hj)
  · intro hs
    rw [e] at hj
    cases hj
    have := hlt _ hs
    simp at this
    omega
/-- Another row stays. -/
theorem RowS.side {fp : Nat → Prop} (h : RowS T f S B w v2 xs) (hf : Fr fp w w') (hd : ∀ j, v2.ownBlock = some j → ¬ fp j) : RowS T f S B w' v2 xs := ⟨hf.owns h.own hd, h.off⟩
end
/-- Numbers that are told: read only. -/
structure Told (T : TypeId) (f : Int → Value) (W : World) (v : Value) (xs : List Int) : Prop where
  ex : ∃ a c, v = .slice a xs.length c ∧ xs.length ≤ c ∧ c ≤ 9223372036854775807 ∧ (0 < xs.length → ∃ b o, a = some ⟨b, o, none⟩ ∧ b < W.heap.size ∧ AtL W b o (xs.map f))
theorem Told.below {T : TypeId} {f : Int → Value} {W W' : World} {v : Value} {xs : List Int} (h : Told T f W v xs) (hB : Below W.heap.size W W') : Told T f W' v xs := by
  obtain ⟨a, c, h1, h2, h3, h4⟩ := h.ex
  exact ⟨a, c, h1, h2, h3, fun hl => by
    obtain ⟨b, o, h5, h6, h7⟩ := h4 hl
    exact ⟨b, o, h5, Nat.lt_of_lt_of_le h6 hB.size, h7.below hB⟩⟩
theorem RowS.told {T : TypeId} {f : Int → Value} {S : Nat → Prop} {B : Nat} {w : World} {v : Value} {xs : List Int} (h : RowS T f S B w v xs) : Told T f w v xs := by
  obtain ⟨a, k, hv, h1, h2, h3⟩ := h.form
  subst hv
  refine ⟨a, k, rfl, h1, h2, fun hl => ?_⟩
  obtain ⟨g, rfl, _, h4, _⟩ := h3 hl
  refine ⟨g, 0, rfl, h4, fun j u hu => ?_⟩
  rw [List.getElem?_map, Option.map_eq_some_iff] at hu
  obtain ⟨x, hx, rfl⟩ := hu
  rw [Nat.zero_add]
  exact h.cell rfl hx
end Go.Proofs.Ytbdhjkdojgdhbaa
