/-
  A slice that came in, read: its elements by a law of their own; of any element type.
-/
import Derived.Test.YtbdhjkdojgdhbaaRows
import Derived.Test.YtbdhjkdojgdhbaaRng
import Derived.Lib.SmallJoins
import Derived.ChangeOld
import Derived.Below
import Derived.Carry
import Derived.Deep.Slices
namespace Go.Proofs.Ytbdhjkdojgdhbaa
open Go Go.ChangeShapes Go.WideShapes Go.ChangeAt Go.RowKit

theorem list_of {α : Type} (n : Nat) (R : Nat → α → Prop) (h : ∀ i, i < n → ∃ a, R i a) : ∃ l : List α, l.length = n ∧ ∀ (i : Nat) (a : α), l[i]? = some a → R i a := by
  induction n with
  | zero => exact ⟨[], rfl, fun i a h => by simp at h⟩
  | succ n ih =>
    obtain ⟨l, h1, h2⟩ := ih (fun i hi => h i (by omega))
    obtain ⟨a, ha⟩ := h n (by omega)
    refine ⟨l ++ [a], by simp [h1], fun i b hb => ?_⟩
    by_cases e : i < l.length
    · rw [List.getElem?_append_left e] at hb; exact h2 i b hb
    · rw [List.getElem?_append_right (by omega)] at hb
      have hi : i - l.length = 0 := by
        rcases Nat.eq_zero_or_pos (i - l.length) with h' | h'
        · exact h'
        · rw [List.getElem?_eq_none (by simp; omega)] at hb; cases hb
      rw [hi] at hb
      simp at hb
      subst hb
      have : i = n := by omega
      rw [this]; exact ha
theorem mem_at {α : Type} {l : List α} {x : α} (h : x ∈ l) : ∃ i : Nat, l[i]? = some x := List.mem_iff_getElem?.1 h
theorem spot_none {W : World} {a : Addr} {u : Value} (h : W.cell? a = some u) : a.spot = none ∧ a.block < W.heap.size := by
  have h3 := World.block_lt_of_cell? W _ h
  refine ⟨?_, h3⟩
  unfold World.cell? at h
  split at h
  · split at h
    · cases h
    · rename_i hs; simpa using hs
  · cases h
/-- What a slice that was read is. -/
structure RowOf {α : Type} (W : World) (k : Nat) (R : List Value → α → Prop) (ad : Option Addr) (l : List α) (cap : Nat) : Prop where
  at_ : 0 < l.length → ∃ b o, ad = some ⟨b, o, none⟩ ∧ b < W.heap.size
  rows : ∀ b o, ad = some ⟨b, o, none⟩ → ∀ (i : Nat) y, l[i]? = some y → ∃ cs, R cs y ∧ AtL W b (o + i * k) cs
  all : ∀ y ∈ l, ∃ cs, R cs y
  lec : l.length ≤ cap
  mx : cap ≤ 9223372036854775807
theorem read_row {α H : Type} {enc : TypeId × Value → H} {W : World} {base n : Nat} {sp : Nat → Bool} {c : Value} {x : DataW H × List MemPlace} {st e : TypeId} {k : Nat} {R : List Value → α → Prop} (hu : Try.prog.underlying st = some (.slice e)) (hk : Try.prog.cellsOf e = k) (hk0 : 0 < k)
    (rd : ∀ {n : Nat} {cs : List Value} {x : DataW H × List MemPlace}, DataW.trod enc Try.prog W base sp true n e cs = some x → ∃ y, R cs y) (hR : ∀ cs y, R cs y → cs.length = k)
    (h : DataW.trod enc Try.prog W base sp true n st [c] = some x) : ∃ ad l cap, c = .slice ad (List.length l) cap ∧ RowOf W k R ad l cap := by
  rcases Deep.open_slice hu h with ⟨hc, _⟩ | ⟨a, len, cap, m, n', D, Pl, hc, _, hlc, hcm, hm, _, hi⟩
  · simp only [List.cons.injEq, and_true] at hc
    subst hc
    exact ⟨none, [], 0, rfl, (fun h => absurd h (by simp)), (fun b o h => by cases h), (fun y hy => by cases hy), Nat.le_refl _, by omega⟩
  · simp only [List.cons.injEq, and_true] at hc
    subst hc
    have hlm : len ≤ m := by rw [hm]; split <;> omega
    have each : ∀ i, i < len → ∃ y : α, ∃ cs, R cs y ∧ ∀ j u, cs[j]? = some u → W.cell? ((a.add (i * k)).add j) = some u := fun i hil => by
      obtain ⟨cs', h1, h2⟩ := hi i (by omega)
      rw [hk] at h1
      obtain ⟨y, hy⟩ := rd h2
      obtain ⟨_, hlen, hat⟩ := World.cells?_some h1
      refine ⟨y, cs', hy, fun j u hu => ?_⟩
      have hj : j < k := by have := (List.getElem?_eq_some_iff.1 hu).1; rw [hR _ _ hy] at this; exact this
      rw [hat j hj]; exact hu
    obtain ⟨rs, hl, hal⟩ := list_of len _ each
    have hm2 : cap ≤ 9223372036854775807 := by
      have : maxLen = 9223372036854775807 := rfl
      omega
    have hspot : 0 < rs.length → a.spot = none ∧ a.block < W.heap.size := fun hn => by
      obtain ⟨y, cs, h0, h1⟩ := each 0 (by omega)
      have hcs : cs[0]? = some (cs[0]'(by rw [hR _ _ h0]; exact hk0)) := List.getElem?_eq_getElem _
      have h2 := h1 0 _ hcs
      have e : (a.add (0 * k)).add 0 = a := by simp [Addr.add]
      rw [e] at h2
      exact spot_none h2
    refine ⟨some a, rs, cap, by rw [hl], fun hn => ?_, ?_, fun y hy => ?_, by omega, hm2⟩
    · obtain ⟨h1, h2⟩ := hspot hn
      obtain ⟨b, o, s⟩ := a
      simp only at h1 h2
      subst h1
      exact ⟨b, o, rfl, h2⟩
    · rintro b o ha i y hy
      cases ha
      obtain ⟨cs, h1, h2⟩ := hal i y hy
      refine ⟨cs, h1, fun j u hu => ?_⟩
      have h1 := h2 j u hu
      have e : ((⟨b, o, none⟩ : Addr).add (i * k)).add j = ⟨b, o + i * k + j, none⟩ := by
        unfold Addr.add
        by_cases hj0 : j = 0
        · subst hj0
          by_cases hi0 : i * k = 0
          · simp [hi0]
          · simp [hi0]
        · by_cases hi0 : i * k = 0
          · simp [hi0, hj0]
          · simp [hi0, hj0]
      rw [e] at h1
      exact h1
    · obtain ⟨i, hi⟩ := mem_at hy
      obtain ⟨cs, h1, _⟩ := hal i y hi
      exact ⟨cs, h1⟩
end Go.Proofs.Ytbdhjkdojgdhbaa
