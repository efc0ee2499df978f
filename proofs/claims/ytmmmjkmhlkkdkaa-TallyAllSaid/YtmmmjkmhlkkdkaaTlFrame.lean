/-
  What a law's row asks, paid once for every law of the seat: rows of acts and of numbers that came in; the end.
-/
import Derived.Test.YtmmmjkmhlkkdkaaRows
import Derived.Test.YtmmmjkmhlkkdkaaTlN
import Derived.Lib.SmallJoins
import Derived.ChangeOld
import Derived.Below
import Derived.Carry
import Derived.Deep.Slices
namespace Go.Proofs.Ytmmmjkmhlkkdkaa
open Go.ChangeShapes Go.WideShapes Go.ChangeAt Go.RowKit

theorem own : ownKnob Try.prog.godebug = none := by kernel_rfl
theorem laidOut : laidOutB Try.prog = true := by kernel_rfl
theorem cells33 : Try.prog.cellsOf 33 = 3 := by kernel_rfl
theorem cells31 : Try.prog.cellsOf 31 = 1 := by kernel_rfl
theorem cells22 : Try.prog.cellsOf 22 = 1 := by kernel_rfl
theorem cells4 : Try.prog.cellsOf 4 = 1 := by kernel_rfl

set_option maxRecDepth 100000 in
/-- One act, read. -/
theorem read_act {H : Type} {enc : TypeId × Value → H} {W : World} {base n : Nat} {sp : Nat → Bool} {cs : List Value} {x : DataW H × List MemPlace} (h : DataW.trod enc Try.prog W base sp true n 33 cs = some x) :
    ∃ y : Act3, cs = [.bool y.down, .int .u64 y.key, .int .u32 y.n] ∧ U64 y.key ∧ U32 y.n := by
  obtain ⟨ys, n', _, _, hl, hn, hf⟩ := DataW.trod_struct Try.underlying33 h
  rw [cells33] at hl
  match cs, hl with
  | [c0, c1, c2], _ =>
    have f0 := hf 0 _ rfl
    have f1 := hf 1 _ rfl
    have f2 := hf 2 _ rfl
    have hz : ys.length = 3 := hn
    match ys, hz with
    | [y0, y1, y2], _ =>
      change DataW.trod enc Try.prog W base sp true n' 4 (([c0, c1, c2].drop 0).take (Try.prog.cellsOf 4)) = some y0 at f0
      change DataW.trod enc Try.prog W base sp true n' 31 (([c0, c1, c2].drop 1).take (Try.prog.cellsOf 31)) = some y1 at f1
      change DataW.trod enc Try.prog W base sp true n' 22 (([c0, c1, c2].drop 2).take (Try.prog.cellsOf 22)) = some y2 at f2
      rw [cells4] at f0
      rw [cells31] at f1
      rw [cells22] at f2
      obtain ⟨n0, e0, _⟩ := DataW.trod_bool Try.underlying4 (x := y0) (by simpa using f0)
      obtain ⟨n1, e1, _, w1⟩ := DataW.trod_int Try.underlying31 (x := y1) (by simpa using f1)
      obtain ⟨n2, e2, _, w2⟩ := DataW.trod_int Try.underlying22 (x := y2) (by simpa using f2)
      simp at e0 e1 e2
      exact ⟨⟨n0, n1, n2⟩, by rw [e0, e1, e2], bounds_u64 w1, bounds_u32 w2⟩

theorem list_of {α : Type} (n : Nat) (R : Nat → α → Prop) (h : ∀ i, i < n → ∃ a, R i a) : ∃ l : List α, l.length = n ∧ ∀ (i : Nat) (a : α), l[i]? = some a → R i a := by
  induction n with
  | zero => exact ⟨[], rfl, fun i a h => by simp at h⟩
  | succ n ih =>
    obtain ⟨l, h1, h2⟩ := ih (fun i hi => h i (by omega))
    obtain ⟨a, ha⟩ := h n (by omega)
    refine ⟨l ++ [a], by simp [h1], fun i b hb => ?_⟩
    by_cases e : i < l.length
    · rw [List.getElem?_append_left e] at hb; exact h2 i b hb
    · rw [List.getElem?_append_right (by omega)] at hb
      have hi : i - l.length = 0 := by
        rcases Nat.eq_zero_or_pos (i - l.length) with h' | h'
        · exact h'
        · rw [List.getElem?_eq_none (by simp; omega)] at hb; cases hb
      rw [hi] at hb
      simp at hb
      subst hb
      have : i = n := by omega
      rw [this]; exact ha
theorem mem_at {α : Type} {l : List α} {x : α} (h : x ∈ l) : ∃ i : Nat, l[i]? = some x := List.mem_iff_getElem?.1 h

set_option maxRecDepth 100000 in
/-- A row of acts that came in. -/
theorem open_acts {H : Type} {enc : TypeId × Value → H} {W : World} {r : Reach} {b0 : Nat} {v : Value} {d : DataW H} {p : List MemPlace}
    (hv : Value.okWide Try.prog W r b0 23 v) (h : DataW.Trod enc Try.prog W 0 (fun _ => true) true 23 v d p) : ∃ ad l cap, v = .slice ad (List.length l) cap ∧ Acts W W.heap.size ad l ∧ l.length ≤ 9223372036854775807 := by
  obtain ⟨a, len, cap, rfl⟩ := okWide_slice Try.underlying23 hv
  obtain ⟨fuel, hf⟩ := h
  rcases Deep.open_slice Try.underlying23 hf with ⟨hc, _⟩ | ⟨a', len', cap', m, n, D, Pl, hc, _, hlc, hcm, hm, _, hi⟩
  · simp [Value.cells] at hc
    obtain ⟨rfl, rfl, rfl⟩ := hc
    exact ⟨none, [], 0, rfl, ⟨fun h => absurd h (by simp), (fun i a x h _ => by cases h), (fun i a x h _ => by cases h), (fun i a x h _ => by cases h), (fun x h => by cases h)⟩, by simp⟩
  · simp [Value.cells] at hc
    obtain ⟨rfl, rfl, rfl⟩ := hc
    simp only [if_true] at hm
    have each : ∀ i, i < len → ∃ y : Act3, (∀ j, j < 3 → W.cell? ((a'.add (i * 3)).add j) = [Value.bool y.down, .int .u64 y.key, .int .u32 y.n][j]?) ∧ U64 y.key ∧ U32 y.n := fun i hil => by
      obtain ⟨cs, h1, h2⟩ := hi i (by omega)
      rw [cells33] at h1
      obtain ⟨y, rfl, hy⟩ := read_act h2
      obtain ⟨_, _, hat⟩ := World.cells?_some h1
      exact ⟨y, hat, hy⟩
    obtain ⟨l, hl, hal⟩ := list_of len _ each
    have hm2 : len ≤ 9223372036854775807 := by
      have : maxLen = 9223372036854775807 := rfl
      omega
    have sub : ∀ i j, 0 < j → (a'.add (i * 3)).add j = ⟨(a'.add (i * 3)).block, (a'.add (i * 3)).off + j, none⟩ := fun i j hj => by
      show (if j = 0 then _ else _) = _
      rw [if_neg (by omega)]
    refine ⟨some a', l, cap, by rw [hl], ⟨fun h => ⟨a', rfl, ?_⟩, ?_, ?_, ?_, ?_⟩, by omega⟩
    · obtain ⟨y, hy, _⟩ := each 0 (by omega)
      have := hy 0 (by omega)
      have h3 := World.block_lt_of_cell? W _ this
      rw [add_block, add_block] at h3
      exact h3
    · rintro i a x h hx
      cases h
      have := (hal i x hx).1 0 (by omega)
      simpa [Addr.add] using this
    · rintro i a x h hx
      cases h
      have := (hal i x hx).1 1 (by omega)
      rw [sub i 1 (by omega)] at this
      exact this
    · rintro i a x h hx
      cases h
      have := (hal i x hx).1 2 (by omega)
      rw [sub i 2 (by omega)] at this
      exact this
    · intro x hx
      obtain ⟨i, hi⟩ := mem_at hx
      exact (hal i x hi).2
end Go.Proofs.Ytmmmjkmhlkkdkaa
