/-
  What GuidSorts' row asks: a row of GUIDs that came in.
-/
import Derived.Test.YtmmmjkmhlkkdkaaRows
import Derived.Test.YtmmmjkmhlkkdkaaGsB
import Derived.Lib.SmallJoins
import Derived.ChangeOld
import Derived.Below
import Derived.Carry
import Derived.Deep.Slices
namespace Go.Proofs.Ytmmmjkmhlkkdkaa
open Go.ChangeShapes Go.WideShapes Go.ChangeAt Go.RowKit

theorem own : ownKnob Try.prog.godebug = none := by kernel_rfl
theorem laidOut : laidOutB Try.prog = true := by kernel_rfl
theorem cellsB79 : Try.prog.cellsOf 5 = 1 := by kernel_rfl
theorem cells51 : Try.prog.cellsOf 51 = 16 := by kernel_rfl
theorem list_of {α : Type} (n : Nat) (R : Nat → α → Prop) (h : ∀ i, i < n → ∃ a, R i a) : ∃ l : List α, l.length = n ∧ ∀ (i : Nat) (a : α), l[i]? = some a → R i a := by
  induction n with
  | zero => exact ⟨[], rfl, fun i a h => by simp at h⟩
  | succ n ih =>
    obtain ⟨l, h1, h2⟩ := ih (fun i hi => h i (by omega))
    obtain ⟨a, ha⟩ := h n (by omega)
    refine ⟨l ++ [a], by simp [h1], fun i b hb => ?_⟩
    by_cases e : i < l.length
    · rw [List.getElem?_append_left e] at hb; exact h2 i b hb
    · rw [List.getElem?_append_right (by omega)] at hb
      have hi : i - l.length = 0 := by
        rcases Nat.eq_zero_or_pos (i - l.length) with h' | h'
        · exact h'
        · rw [List.getElem?_eq_none (by simp; omega)] at hb; cases hb
      rw [hi] at hb
      simp at hb
      subst hb
      have : i = n := by omega
      rw [this]; exact ha
set_option maxRecDepth 100000 in
/-- One GUID, read. -/
theorem read_guid {H : Type} {enc : TypeId × Value → H} {W : World} {base n : Nat} {sp : Nat → Bool} {cs : List Value} {x : DataW H × List MemPlace} (h : DataW.trod enc Try.prog W base sp true n 51 cs = some x) :
    ∃ y : List Int, cs = (u8s y).toList ∧ y.length = 16 := by
  obtain ⟨ys, m, _, _, hl, hn, hi⟩ := DataW.trod_array Try.underlying51 h
  rw [cellsB79] at hi
  rw [cells51] at hl
  have each : ∀ i, i < 16 → ∃ n : Int, cs[i]? = some (.int .u8 n) := fun i h16 => by
    have h1 := hi i h16
    rw [List.getElem?_eq_getElem (by omega)] at h1
    obtain ⟨n, hc, _, hw⟩ := DataW.trod_int Try.underlying5 h1
    refine ⟨n, ?_⟩
    have h2 : ((cs.drop (i * 1)).take 1)[0]? = some (.int .u8 n) := by rw [hc]; rfl
    simpa using h2
  obtain ⟨y, h1, h2⟩ := list_of 16 _ each
  refine ⟨y, List.ext_getElem? fun i => ?_, h1⟩
  by_cases h16 : i < 16
  · have h3 : y[i]? = some y[i] := List.getElem?_eq_getElem (by omega)
    rw [h2 i _ h3]
    simp [u8s, h3]
  · rw [List.getElem?_eq_none (by omega), List.getElem?_eq_none (by simp [u8s]; omega)]
set_option maxRecDepth 100000 in
/-- A row of GUIDs that came in. -/
theorem open_guids {H : Type} {enc : TypeId × Value → H} {W : World} {r : Reach} {b0 : Nat} {v : Value} {d : DataW H} {p : List MemPlace}
    (hv : Value.okWide Try.prog W r b0 48 v) (h : DataW.Trod enc Try.prog W 0 (fun _ => true) true 48 v d p) : ∃ ad l cap, v = .slice ad (List.length l) cap ∧ (GRow W W.heap.size ad l ∧ (ad = none → cap = 0)) ∧ l.length ≤ 9223372036854775807 := by
  obtain ⟨a, len, cap, rfl⟩ := okWide_slice Try.underlying48 hv
  obtain ⟨fuel, hf⟩ := h
  rcases Deep.open_slice Try.underlying48 hf with ⟨hc, _⟩ | ⟨a', len', cap', m, n, D, Pl, hc, _, hlc, hcm, hm, _, hi⟩
  · simp [Value.cells] at hc
    obtain ⟨rfl, rfl, rfl⟩ := hc
    exact ⟨none, [], 0, rfl, ⟨⟨fun h => absurd h (by simp), (fun i a x h _ => by cases h), (fun x h => by cases h)⟩, fun _ => rfl⟩, by simp⟩
  · simp [Value.cells] at hc
    obtain ⟨rfl, rfl, rfl⟩ := hc
    simp only [if_true] at hm
    have each : ∀ i, i < len → ∃ y : List Int, (∀ j, j < 16 → W.cell? ((a'.add (i * 16)).add j) = (u8s y)[j]?) ∧ y.length = 16 := fun i hil => by
      obtain ⟨cs, h1, h2⟩ := hi i (by omega)
      rw [cells51] at h1
      obtain ⟨y, rfl, hy⟩ := read_guid h2
      obtain ⟨_, _, hat⟩ := World.cells?_some h1
      exact ⟨y, fun j hj => by rw [hat j hj, Array.getElem?_toList], hy⟩
    obtain ⟨l, hl, hal⟩ := list_of len _ each
    have hm2 : len ≤ 9223372036854775807 := by
      have : maxLen = 9223372036854775807 := rfl
      omega
    refine ⟨some a', l, cap, by rw [hl], ⟨⟨fun h => ⟨a', rfl, ?_⟩, ?_, ?_⟩, fun h => by cases h⟩, by omega⟩
    · obtain ⟨y, hy, h16⟩ := each 0 (by omega)
      have h1 := hy 0 (by omega)
      have h0 : 0 < (u8s y).size := by rw [u8s_size]; omega
      rw [Array.getElem?_eq_getElem h0] at h1
      have h3 := World.block_lt_of_cell? W _ h1
      rw [add_block2, add_block2] at h3
      exact h3
    · rintro i a x h hx j v hv
      cases h
      obtain ⟨h1, h2⟩ := hal i x hx
      have hj : j < 16 := by
        have := (Array.getElem?_eq_some_iff.1 hv).1
        rw [u8s_size] at this; omega
      rw [h1 j hj]; exact hv
    · intro x hx
      obtain ⟨i, hi⟩ := List.mem_iff_getElem?.1 hx
      exact (hal i x hi).2
end Go.Proofs.Ytmmmjkmhlkkdkaa
