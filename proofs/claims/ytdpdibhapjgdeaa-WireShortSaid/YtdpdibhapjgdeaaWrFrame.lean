/-
  What the laws' rows ask: rows of items and of bytes that came in.
-/
import Derived.Test.YtdpdibhapjgdeaaRows
import Derived.Test.YtdpdibhapjgdeaaWrJ
import Derived.Lib.SmallJoins
import Derived.ChangeOld
import Derived.Below
import Derived.Carry
import Derived.Deep.Slices
namespace Go.Proofs.Ytdpdibhapjgdeaa
open Go.ChangeShapes Go.WideShapes Go.ChangeAt Go.RowKit

theorem own : ownKnob Try.prog.godebug = none := by kernel_rfl
theorem laidOut : laidOutB Try.prog = true := by kernel_rfl
theorem cells3 : Try.prog.cellsOf 3 = 1 := by kernel_rfl
theorem cells4 : Try.prog.cellsOf 4 = 1 := by kernel_rfl
theorem cells5 : Try.prog.cellsOf 5 = 1 := by kernel_rfl
theorem cells27 : Try.prog.cellsOf 27 = 1 := by kernel_rfl
theorem cells28 : Try.prog.cellsOf 28 = 1 := by kernel_rfl
theorem cells30 : Try.prog.cellsOf 30 = 4 := by kernel_rfl
theorem list_of {α : Type} (n : Nat) (R : Nat → α → Prop) (h : ∀ i, i < n → ∃ a, R i a) : ∃ l : List α, l.length = n ∧ ∀ (i : Nat) (a : α), l[i]? = some a → R i a := by
  induction n with
  | zero => exact ⟨[], rfl, fun i a h => by simp at h⟩
  | succ n ih =>
    obtain ⟨l, h1, h2⟩ := ih (fun i hi => h i (by omega))
    obtain ⟨a, ha⟩ := h n (by omega)
    refine ⟨l ++ [a], by simp [h1], fun i b hb => ?_⟩
    by_cases e : i < l.length
    · rw [List.getElem?_append_left e] at hb; exact h2 i b hb
    · rw [List.getElem?_append_right (by omega)] at hb
      have hi : i - l.length = 0 := by
        rcases Nat.eq_zero_or_pos (i - l.length) with h' | h'
        · exact h'
        · rw [List.getElem?_eq_none (by simp; omega)] at hb; cases hb
      rw [hi] at hb
      simp at hb
      subst hb
      have : i = n := by omega
      rw [this]; exact ha
theorem mem_at {α : Type} {l : List α} {x : α} (h : x ∈ l) : ∃ i : Nat, l[i]? = some x := List.mem_iff_getElem?.1 h
set_option maxRecDepth 100000 in
/-- Bytes, read. -/
theorem read_bytes {H : Type} {enc : TypeId × Value → H} {W : World} {base n : Nat} {sp : Nat → Bool} {c : Value} {x : DataW H × List MemPlace} (h : DataW.trod enc Try.prog W base sp true n 27 [c] = some x) :
    ∃ (ad : Option Addr) (xs : List Int) (cap : Nat), c = .slice ad xs.length cap ∧ Bs W W.heap.size ad xs ∧ (ad = none → cap = 0 ∧ xs.length = 0) ∧ xs.length ≤ cap ∧ cap ≤ 9223372036854775807 ∧ Byt xs := by
  rcases Deep.open_slice1 Try.underlying27 cells5 h with ⟨hc, _⟩ | ⟨a, len, cap, m, n', V, D, Pl, hc, _, hlc, hcm, hm, _, hi⟩
  · simp only [List.cons.injEq, and_true] at hc
    subst hc
    exact ⟨none, [], 0, rfl, Bs.nil _ _ _, fun _ => ⟨rfl, rfl⟩, Nat.le_refl _, by omega, fun x hx => by simp at hx⟩
  · simp only [List.cons.injEq, and_true] at hc
    subst hc
    have hlm : len ≤ m := by rw [hm]; split <;> omega
    have each : ∀ i, i < len → ∃ z : Int, W.cell? (a.add i) = some (.int .u8 z) ∧ 0 ≤ z ∧ z ≤ 255 := fun i hil => by
      obtain ⟨h1, h2⟩ := hi i (by omega)
      obtain ⟨z, hz, _, hw⟩ := DataW.trod_int Try.underlying5 h2
      simp only [List.cons.injEq, and_true] at hz
      rw [hz] at h1
      exact ⟨z, h1, bounds_u8 hw⟩
    obtain ⟨xs, hl, hal⟩ := list_of len _ each
    have hm2 : cap ≤ 9223372036854775807 := by
      have : maxLen = 9223372036854775807 := rfl
      omega
    have hspot : 0 < xs.length → a.spot = none ∧ a.block < W.heap.size := fun hn => by
      obtain ⟨z, h1, _⟩ := each 0 (by omega)
      have e : a.add 0 = a := by simp [Addr.add]
      rw [e] at h1
      have h3 := World.block_lt_of_cell? W _ h1
      refine ⟨?_, h3⟩
      unfold World.cell? at h1
      split at h1
      · split at h1
        · cases h1
        · rename_i hs; simpa using hs
      · cases h1
    refine ⟨some a, xs, cap, by rw [hl], ⟨fun hn => ?_, ?_⟩, (fun h => by cases h), by omega, hm2, fun x hx => ?_⟩
    · obtain ⟨h1, h2⟩ := hspot hn
      obtain ⟨b, o, s⟩ := a
      simp only at h1 h2
      subst h1
      exact ⟨b, o, rfl, h2⟩
    · rintro b o ha j v hv
      cases ha
      have hj : j < xs.length := by
        have := (List.getElem?_eq_some_iff.1 hv).1
        simpa [u8l] using this
      rw [u8l_at hj] at hv
      cases hv
      have h1 := (hal j _ (getD_at hj)).1
      cases j with
      | zero => simpa [Addr.add] using h1
      | succ j => simpa [Addr.add] using h1
    · obtain ⟨i, hi⟩ := mem_at hx
      exact (hal i x hi).2
set_option maxRecDepth 100000 in
/-- A row of bytes that came in. -/
theorem open_bytes {H : Type} {enc : TypeId × Value → H} {W : World} {r : Reach} {b0 : Nat} {v : Value} {d : DataW H} {p : List MemPlace}
    (hv : Value.okWide Try.prog W r b0 27 v) (h : DataW.Trod enc Try.prog W 0 (fun _ => true) true 27 v d p) : ∃ ad l cap, v = .slice ad (List.length l) cap ∧ Bs W W.heap.size ad l ∧ ((ad = none → cap = 0 ∧ l.length = 0) ∧ l.length ≤ cap ∧ cap ≤ 9223372036854775807 ∧ Byt l) := by
  obtain ⟨a, len, cap, rfl⟩ := okWide_slice Try.underlying27 hv
  obtain ⟨fuel, hf⟩ := h
  obtain ⟨ad, xs, cap', hc, h1, h2⟩ := read_bytes (by simpa [Value.cells] using hf)
  cases hc
  exact ⟨_, _, _, rfl, h1, h2⟩
set_option maxRecDepth 100000 in
/-- One item, read. -/
theorem read_item {H : Type} {enc : TypeId × Value → H} {W : World} {base n : Nat} {sp : Nat → Bool} {cs : List Value} {x : DataW H × List MemPlace} (h : DataW.trod enc Try.prog W base sp true n 30 cs = some x) :
    ∃ y : It, cs = icl y ∧ (Bs W W.heap.size y.a y.x ∧ (y.a = none → y.c = 0 ∧ y.x.length = 0)) ∧ ItOk y := by
  obtain ⟨ys, n', _, _, hl, hn, hf⟩ := DataW.trod_struct Try.underlying30 h
  rw [cells30] at hl
  match cs, hl with
  | [c0, c1, c2, c3], _ =>
    have f0 := hf 0 _ rfl
    have f1 := hf 1 _ rfl
    have f2 := hf 2 _ rfl
    have f3 := hf 3 _ rfl
    have hz : ys.length = 4 := hn
    match ys, hz with
    | [y0, y1, y2, y3], _ =>
      change DataW.trod enc Try.prog W base sp true n' 4 (([c0, c1, c2, c3].drop 0).take (Try.prog.cellsOf 4)) = some y0 at f0
      change DataW.trod enc Try.prog W base sp true n' 28 (([c0, c1, c2, c3].drop 1).take (Try.prog.cellsOf 28)) = some y1 at f1
      change DataW.trod enc Try.prog W base sp true n' 3 (([c0, c1, c2, c3].drop 2).take (Try.prog.cellsOf 3)) = some y2 at f2
      change DataW.trod enc Try.prog W base sp true n' 27 (([c0, c1, c2, c3].drop 3).take (Try.prog.cellsOf 27)) = some y3 at f3
      rw [cells4] at f0
      rw [cells28] at f1
      rw [cells3] at f2
      rw [cells27] at f3
      obtain ⟨n0, e0, _⟩ := DataW.trod_bool Try.underlying4 (x := y0) (by simpa using f0)
      obtain ⟨n1, e1, _, w1⟩ := DataW.trod_int Try.underlying28 (x := y1) (by simpa using f1)
      obtain ⟨n2, e2, _, w2⟩ := DataW.trod_int Try.underlying3 (x := y2) (by simpa using f2)
      obtain ⟨ad, xs, cap, e3, hb, h0, hlc, hc2, hby⟩ := read_bytes (x := y3) (c := c3) (by simpa using f3)
      simp at e0 e1 e2
      refine ⟨⟨n0, n1, n2, ad, cap, xs⟩, by rw [e0, e1, e2, e3]; rfl, ⟨hb, h0⟩, bounds_u64 w1, bounds_i64 w2, hlc, hc2, hby⟩
set_option maxRecDepth 100000 in
/-- A row of items that came in. -/
theorem open_items {H : Type} {enc : TypeId × Value → H} {W : World} {r : Reach} {b0 : Nat} {v : Value} {d : DataW H} {p : List MemPlace}
    (hv : Value.okWide Try.prog W r b0 22 v) (h : DataW.Trod enc Try.prog W 0 (fun _ => true) true 22 v d p) : ∃ ad l cap, v = .slice ad (List.length l) cap ∧ IRow W W.heap.size ad l ∧ (l.length ≤ cap ∧ cap ≤ 9223372036854775807) := by
  obtain ⟨a, len, cap, rfl⟩ := okWide_slice Try.underlying22 hv
  obtain ⟨fuel, hf⟩ := h
  rcases Deep.open_slice Try.underlying22 hf with ⟨hc, _⟩ | ⟨a', len', cap', m, n, D, Pl, hc, _, hlc, hcm, hm, _, hi⟩
  · simp [Value.cells] at hc
    obtain ⟨rfl, rfl, rfl⟩ := hc
    exact ⟨none, [], 0, rfl, ⟨fun h => absurd h (by simp), (fun b o h => by cases h), (fun x h => by cases h), (fun x h => by cases h)⟩, by simp⟩
  · simp [Value.cells] at hc
    obtain ⟨rfl, rfl, rfl⟩ := hc
    have hlm : len ≤ m := by rw [hm]; split <;> omega
    have each : ∀ i, i < len → ∃ y : It, (∀ j, j < 4 → W.cell? ((a'.add (i * 4)).add j) = (icl y)[j]?) ∧ (Bs W W.heap.size y.a y.x ∧ (y.a = none → y.c = 0 ∧ y.x.length = 0)) ∧ ItOk y := fun i hil => by
      obtain ⟨cs, h1, h2⟩ := hi i (by omega)
      rw [cells30] at h1
      obtain ⟨y, rfl, hy⟩ := read_item h2
      obtain ⟨_, _, hat⟩ := World.cells?_some h1
      exact ⟨y, hat, hy⟩
    obtain ⟨l, hl, hal⟩ := list_of len _ each
    have hm2 : cap ≤ 9223372036854775807 := by
      have : maxLen = 9223372036854775807 := rfl
      omega
    have hspot : 0 < l.length → a'.spot = none ∧ a'.block < W.heap.size := fun hn => by
      obtain ⟨y, hy, _⟩ := each 0 (by omega)
      have h1 := hy 0 (by omega)
      have h2 : (icl y)[0]? = some (.bool y.t) := rfl
      rw [h2] at h1
      have h3 := World.block_lt_of_cell? W _ h1
      have e : (a'.add (0 * 4)).add 0 = a' := by simp [Addr.add]
      rw [e] at h1 h3
      refine ⟨?_, h3⟩
      unfold World.cell? at h1
      split at h1
      · split at h1
        · cases h1
        · rename_i hs; simpa using hs
      · cases h1
    refine ⟨some a', l, cap, by rw [hl], ⟨fun hn => ?_, ?_, ?_, ?_⟩, by omega, hm2⟩
    · obtain ⟨h1, h2⟩ := hspot hn
      obtain ⟨b, o, s⟩ := a'
      simp only at h1 h2
      subst h1
      exact ⟨b, o, rfl, h2⟩
    · rintro b o ha i y hy j u huu
      cases ha
      have h1 := (hal i y hy).1
      have hj : j < 4 := (List.getElem?_eq_some_iff.1 huu).1
      have h3 := h1 j hj
      rw [huu] at h3
      have e : ((⟨b, o, none⟩ : Addr).add (i * 4)).add j = ⟨b, o + i * 4 + j, none⟩ := by
        unfold Addr.add
        by_cases hj0 : j = 0
        · subst hj0
          by_cases hi0 : i * 4 = 0
          · simp [hi0]
          · simp [hi0]
        · by_cases hi0 : i * 4 = 0
          · simp [hi0, hj0]
          · simp [hi0, hj0]
      rw [e] at h3
      exact h3
    · intro y hy
      obtain ⟨i, hi⟩ := mem_at hy
      exact (hal i y hi).2.1
    · intro y hy
      obtain ⟨i, hi⟩ := mem_at hy
      exact (hal i y hi).2.2
end Go.Proofs.Ytdpdibhapjgdeaa
