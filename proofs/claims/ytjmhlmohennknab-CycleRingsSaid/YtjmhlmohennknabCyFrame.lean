/-
  What the laws' rows of layer 13 ask: graphs, numbers and bytes that came in.
-/
import Derived.Test.YtjmhlmohennknabRdRow
import Derived.Test.YtjmhlmohennknabCyAq
namespace Go.Proofs.Ytjmhlmohennknab
open Go Go.ChangeShapes Go.WideShapes Go.ChangeAt Go.RowKit

theorem own : ownKnob Try.prog.godebug = none := by kernel_rfl
theorem laidOut : laidOutB Try.prog = true := by kernel_rfl
theorem cells3 : Try.prog.cellsOf 3 = 1 := by kernel_rfl
theorem cells5 : Try.prog.cellsOf 5 = 1 := by kernel_rfl
theorem cells41 : Try.prog.cellsOf 41 = 1 := by kernel_rfl
theorem cells26 : Try.prog.cellsOf 26 = 1 := by kernel_rfl
theorem cells22 : Try.prog.cellsOf 22 = 1 := by kernel_rfl
theorem cells23 : Try.prog.cellsOf 23 = 1 := by kernel_rfl
theorem cells25 : Try.prog.cellsOf 25 = 2 := by kernel_rfl
/-- A row that was read is told. -/
theorem RowOf.tl {α : Type} {f : α → Value} {ok : α → Prop} {W : World} {ad : Option Addr} {l : List α} {cap : Nat} (h : RowOf W 1 (fun cs y => cs = [f y] ∧ ok y) ad l cap) : Tl f W.heap.size W (.slice ad l.length cap) l ∧ ∀ x ∈ l, ok x := by
  refine ⟨⟨ad, cap, rfl, h.lec, h.mx, fun hl => ?_⟩, fun x hx => ?_⟩
  · obtain ⟨b, o, rfl, hb⟩ := h.at_ hl
    refine ⟨b, o, rfl, hb, fun j x hx => ?_⟩
    obtain ⟨cs, ⟨rfl, _⟩, h2⟩ := h.rows b o rfl j x hx
    have := h2 0 (f x) rfl
    simpa using this
  · obtain ⟨cs, _, h2⟩ := h.all x hx
    exact h2
section
variable {H : Type} {enc : TypeId × Value → H} {W : World} {base n : Nat} {sp : Nat → Bool} {cs : List Value} {x : DataW H × List MemPlace}
set_option maxRecDepth 100000 in
theorem read_i64 (h : DataW.trod enc Try.prog W base sp true n 3 cs = some x) : ∃ z : Int, cs = [iv z] ∧ I64b z := by
  obtain ⟨z, e, _, w⟩ := DataW.trod_int Try.underlying3 h
  exact ⟨z, e, bounds_i64 w⟩
set_option maxRecDepth 100000 in
theorem read_u8 (h : DataW.trod enc Try.prog W base sp true n 5 cs = some x) : ∃ z : Int, cs = [.int .u8 z] ∧ (0 ≤ z ∧ z ≤ 255) := by
  obtain ⟨z, e, _, w⟩ := DataW.trod_int Try.underlying5 h
  exact ⟨z, e, bounds_u8 w⟩
set_option maxRecDepth 100000 in
theorem read_u32 (h : DataW.trod enc Try.prog W base sp true n 41 cs = some x) : ∃ z : Int, cs = [.int .u32 z] ∧ (0 ≤ z ∧ z ≤ 4294967295) := by
  obtain ⟨z, e, _, w⟩ := DataW.trod_int Try.underlying41 h
  exact ⟨z, e, bounds_u32 w⟩
set_option maxRecDepth 100000 in
theorem read_tli {c : Value} (h : DataW.trod enc Try.prog W base sp true n 26 [c] = some x) : ∃ l, Tl iv W.heap.size W c l ∧ ∀ x ∈ l, I64b x := by
  obtain ⟨ad, l, cap, rfl, hr⟩ := read_row (R := fun cs y => cs = [iv y] ∧ I64b y) Try.underlying26 cells3 (by decide) (fun h => read_i64 h) (fun cs y h => by rw [h.1]; rfl) h
  exact ⟨l, hr.tl⟩
set_option maxRecDepth 100000 in
theorem read_tlu {c : Value} (h : DataW.trod enc Try.prog W base sp true n 22 [c] = some x) : ∃ l, Tl (Value.int .u32) W.heap.size W c l ∧ ∀ x ∈ l, 0 ≤ x ∧ x ≤ 4294967295 := by
  obtain ⟨ad, l, cap, rfl, hr⟩ := read_row (R := fun cs y => cs = [Value.int .u32 y] ∧ (0 ≤ y ∧ y ≤ 4294967295)) Try.underlying22 cells41 (by decide) (fun h => read_u32 h) (fun cs y h => by rw [h.1]; rfl) h
  exact ⟨l, hr.tl⟩
set_option maxRecDepth 100000 in
/-- The lists of a graph, read. -/
theorem read_tll {c : Value} (h : DataW.trod enc Try.prog W base sp true n 23 [c] = some x) : ∃ es : List (List Int), (∃ a k, c = .slice a es.length k ∧ es.length ≤ k ∧ k ≤ 9223372036854775807 ∧ (0 < es.length → ∃ b o, a = some ⟨b, o, none⟩ ∧ b < W.heap.size ∧ ∀ (j : Nat) l, es[j]? = some l → ∃ v, W.cell? ⟨b, o + j, none⟩ = some v ∧ Tl iv W.heap.size W v l)) ∧ ∀ l ∈ es, ∀ x ∈ l, I64b x := by
  have rd : ∀ {n : Nat} {cs : List Value} {x : DataW H × List MemPlace}, DataW.trod enc Try.prog W base sp true n 26 cs = some x → ∃ y : List Int, ∃ v, cs = [v] ∧ Tl iv W.heap.size W v y ∧ ∀ x ∈ y, I64b x := fun {n cs x} h => by
    have hl : cs.length = 1 := by
      rcases Deep.open_slice Try.underlying26 h with ⟨hc, _⟩ | ⟨a, len, cap, m, n', D, Pl, hc, _⟩
      · rw [hc]; rfl
      · rw [hc]; rfl
    match cs, hl with
    | [v], _ =>
      obtain ⟨l, h1, h2⟩ := read_tli h
      exact ⟨l, v, rfl, h1, h2⟩
  obtain ⟨ad, es, cap, rfl, hr⟩ := read_row (R := fun cs (y : List Int) => ∃ v, cs = [v] ∧ Tl iv W.heap.size W v y ∧ ∀ x ∈ y, I64b x) Try.underlying23 cells26 (by decide) (fun h => rd h) (fun cs y hy => by obtain ⟨v, rfl, _⟩ := hy; rfl) h
  refine ⟨es, ⟨ad, cap, rfl, hr.lec, hr.mx, fun hl => ?_⟩, fun l hl => ?_⟩
  · obtain ⟨b, o, rfl, hb⟩ := hr.at_ hl
    refine ⟨b, o, rfl, hb, fun j l hj => ?_⟩
    obtain ⟨cs, ⟨v, rfl, h1, _⟩, h2⟩ := hr.rows b o rfl j l hj
    have := h2 0 v rfl
    exact ⟨v, by simpa using this, h1⟩
  · obtain ⟨cs, v, _, _, h2⟩ := hr.all l hl
    exact h2
end
/-- A slice is nil, or lies somewhere. -/
def NilOk (v : Value) : Prop := v = .slice none 0 0 ∨ ∃ a n c, v = .slice (some a) n c
set_option maxRecDepth 100000 in
/-- Numbers that came in. -/
theorem open_tli {H : Type} {enc : TypeId × Value → H} {W : World} {r : Reach} {b0 : Nat} {v : Value} {d : DataW H} {p : List MemPlace}
    (hv : Value.okWide Try.prog W r b0 26 v) (h : DataW.Trod enc Try.prog W 0 (fun _ => true) true 26 v d p) : ∃ l, Tl iv W.heap.size W v l ∧ (∀ x ∈ l, I64b x) ∧ NilOk v := by
  obtain ⟨a, len, cap, rfl⟩ := okWide_slice Try.underlying26 hv
  obtain ⟨fuel, hf⟩ := h
  have hf' : DataW.trod enc Try.prog W 0 (fun _ => true) true fuel 26 [.slice a len cap] = some (d, p) := by simpa [Value.cells] using hf
  obtain ⟨l, h1, h2⟩ := read_tli hf'
  refine ⟨l, h1, h2, ?_⟩
  rcases Deep.open_slice Try.underlying26 hf' with ⟨hc, _⟩ | ⟨a', len', cap', m, n', D, Pl, hc, _⟩
  · simp at hc
    obtain ⟨rfl, rfl, rfl⟩ := hc
    exact .inl rfl
  · simp at hc
    obtain ⟨rfl, rfl, rfl⟩ := hc
    exact .inr ⟨_, _, _, rfl⟩
set_option maxRecDepth 100000 in
/-- Bytes that came in. -/
theorem open_tlb {H : Type} {enc : TypeId × Value → H} {W : World} {r : Reach} {b0 : Nat} {v : Value} {d : DataW H} {p : List MemPlace}
    (hv : Value.okWide Try.prog W r b0 37 v) (h : DataW.Trod enc Try.prog W 0 (fun _ => true) true 37 v d p) : ∃ l, Tl (Value.int .u8) W.heap.size W v l ∧ ∀ x ∈ l, 0 ≤ x ∧ x ≤ 255 := by
  obtain ⟨a, len, cap, rfl⟩ := okWide_slice Try.underlying37 hv
  obtain ⟨fuel, hf⟩ := h
  obtain ⟨ad, l, cap, hc, hr⟩ := read_row (R := fun cs y => cs = [Value.int .u8 y] ∧ (0 ≤ y ∧ y ≤ 255)) Try.underlying37 cells5 (by decide) (fun h => read_u8 h) (fun cs y h => by rw [h.1]; rfl) (by simpa [Value.cells] using hf)
  rw [hc]
  exact ⟨l, hr.tl⟩
set_option maxRecDepth 100000 in
/-- A graph that came in. -/
theorem open_graph {H : Type} {enc : TypeId × Value → H} {W : World} {r : Reach} {b0 : Nat} {v : Value} {d : DataW H} {p : List MemPlace}
    (hv : Value.okWide Try.prog W r b0 25 v) (h : DataW.Trod enc Try.prog W 0 (fun _ => true) true 25 v d p) : ∃ cv ev cs es, v = .agg #[cv, ev] ∧ GrW W.heap.size W cv ev cs es := by
  obtain ⟨cs, rfl, _⟩ := okWide_struct Try.underlying25 hv
  obtain ⟨fuel, hf⟩ := h
  obtain ⟨ys, n', _, _, hl, hn, hfl⟩ := DataW.trod_struct Try.underlying25 hf
  rw [cells25] at hl
  simp only [Value.cells] at hl
  have hz : ys.length = 2 := hn
  match ys, hz with
  | [y0, y1], _ =>
    have f0 := hfl 0 _ rfl
    have f1 := hfl 1 _ rfl
    simp only [Value.cells] at f0 f1
    change DataW.trod enc Try.prog W 0 (fun _ => true) true n' 22 ((cs.toList.drop 0).take (Try.prog.cellsOf 22)) = some y0 at f0
    change DataW.trod enc Try.prog W 0 (fun _ => true) true n' 23 ((cs.toList.drop 1).take (Try.prog.cellsOf 23)) = some y1 at f1
    rw [cells22] at f0
    rw [cells23] at f1
    have hcs : ∃ c d, cs = #[c, d] := by
      obtain ⟨l⟩ := cs
      match l, hl with
      | [c, d], _ => exact ⟨c, d, rfl⟩
    obtain ⟨c, d, rfl⟩ := hcs
    obtain ⟨l, h1, h2⟩ := read_tlu (c := c) (by simpa using f0)
    obtain ⟨es, h3, h4⟩ := read_tll (c := d) (by simpa using f1)
    exact ⟨c, d, l, es, rfl, h1, h3, h2, h4⟩
end Go.Proofs.Ytjmhlmohennknab
