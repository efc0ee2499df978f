/-
  What the laws' rows of layer 15 ask: numbers of 64 bits that came in; instructions (CdFrame).
-/
import Derived.Test.YtcoclaabainibaaDoorRdRow
import Derived.Test.YtcoclaabainibaaDoorCdFrame
import Derived.Test.YtcoclaabainibaaDoorFmA
namespace Go.Proofs.YtcoclaabainibaaDoor
open Go Go.ChangeShapes Go.WideShapes Go.ChangeAt Go.RowKit

theorem cells2 : Tryd.prog.cellsOf 2 = 1 := by kernel_rfl
def I64b (x : Int) : Prop := -9223372036854775808 ≤ x ∧ x ≤ 9223372036854775807
/-- A row that was read is told. -/
theorem RowOf.tl {α : Type} {f : α → Value} {ok : α → Prop} {W : World} {ad : Option Addr} {l : List α} {cap : Nat} (h : RowOf W 1 (fun cs y => cs = [f y] ∧ ok y) ad l cap) : Tl f W.heap.size W (.slice ad l.length cap) l ∧ ∀ x ∈ l, ok x := by
  refine ⟨⟨ad, cap, rfl, h.lec, h.mx, fun hl => ?_⟩, fun x hx => ?_⟩
  · obtain ⟨b, o, rfl, hb⟩ := h.at_ hl
    refine ⟨b, o, rfl, hb, fun j x hx => ?_⟩
    obtain ⟨cs, ⟨rfl, _⟩, h2⟩ := h.rows b o rfl j x hx
    have := h2 0 (f x) rfl
    simpa using this
  · obtain ⟨cs, _, h2⟩ := h.all x hx
    exact h2
section
variable {H : Type} {enc : TypeId × Value → H} {W : World} {base n : Nat} {sp : Nat → Bool} {cs : List Value} {x : DataW H × List MemPlace}
set_option maxRecDepth 100000 in
theorem read_i64 (h : DataW.trod enc Tryd.prog W base sp true n 2 cs = some x) : ∃ z : Int, cs = [iv z] ∧ I64b z := by
  obtain ⟨z, e, _, w⟩ := DataW.trod_int Tryd.underlying2 h
  exact ⟨z, e, bounds_i64 w⟩
set_option maxRecDepth 100000 in
theorem read_tli {c : Value} (h : DataW.trod enc Tryd.prog W base sp true n 23 [c] = some x) : ∃ l, Tl iv W.heap.size W c l ∧ ∀ x ∈ l, I64b x := by
  obtain ⟨ad, l, cap, rfl, hr⟩ := read_row (R := fun cs y => cs = [iv y] ∧ I64b y) Tryd.underlying23 cells2 (by decide) (fun h => read_i64 h) (fun cs y h => by rw [h.1]; rfl) h
  exact ⟨l, hr.tl⟩
end
/-- A slice is nil, or lies somewhere. -/
def NilOk (v : Value) : Prop := v = .slice none 0 0 ∨ ∃ a n c, v = .slice (some a) n c
set_option maxRecDepth 100000 in
/-- Numbers that came in. -/
theorem open_tli {H : Type} {enc : TypeId × Value → H} {W : World} {r : Reach} {b0 : Nat} {v : Value} {d : DataW H} {p : List MemPlace}
    (hv : Value.okWide Tryd.prog W r b0 23 v) (h : DataW.Trod enc Tryd.prog W 0 (fun _ => true) true 23 v d p) : ∃ l, Tl iv W.heap.size W v l ∧ (∀ x ∈ l, I64b x) ∧ NilOk v := by
  obtain ⟨a, len, cap, rfl⟩ := okWide_slice Tryd.underlying23 hv
  obtain ⟨fuel, hf⟩ := h
  have hf' : DataW.trod enc Tryd.prog W 0 (fun _ => true) true fuel 23 [.slice a len cap] = some (d, p) := by simpa [Value.cells] using hf
  obtain ⟨l, h1, h2⟩ := read_tli hf'
  refine ⟨l, h1, h2, ?_⟩
  rcases Deep.open_slice Tryd.underlying23 hf' with ⟨hc, _⟩ | ⟨a', len', cap', m, n', D, Pl, hc, _⟩
  · simp at hc
    obtain ⟨rfl, rfl, rfl⟩ := hc
    exact .inl rfl
  · simp at hc
    obtain ⟨rfl, rfl, rfl⟩ := hc
    exact .inr ⟨_, _, _, rfl⟩
set_option maxRecDepth 100000 in
/-- Instructions that came in: nil, or they lie somewhere. -/
theorem open_insn {H : Type} {enc : TypeId × Value → H} {W : World} {r : Reach} {b0 : Nat} {v : Value} {d : DataW H} {p : List MemPlace}
    (hv : Value.okWide Tryd.prog W r b0 22 v) (h : DataW.Trod enc Tryd.prog W 0 (fun _ => true) true 22 v d p) : ∃ (ad : Option Addr) (l : List Ins) (cap : Nat), v = .slice ad (List.length l) cap ∧ (∀ y ∈ l, InsOk y) ∧ RwI W W.heap.size ad l ∧ l.length ≤ cap ∧ cap ≤ 9223372036854775807 ∧ NilOk v := by
  obtain ⟨ad, l, cap, e, h1, h2, h3, h4⟩ := open_instrs hv h
  refine ⟨ad, l, cap, e, h1, h2, h3, h4, ?_⟩
  obtain ⟨a, len, cap, rfl⟩ := okWide_slice Tryd.underlying22 hv
  obtain ⟨fuel, hf⟩ := h
  have hf' : DataW.trod enc Tryd.prog W 0 (fun _ => true) true fuel 22 [.slice a len cap] = some (d, p) := by simpa [Value.cells] using hf
  rcases Deep.open_slice Tryd.underlying22 hf' with ⟨hc, _⟩ | ⟨a', len', cap', m, n', D, Pl, hc, _⟩
  · simp at hc
    obtain ⟨rfl, rfl, rfl⟩ := hc
    exact .inl rfl
  · simp at hc
    obtain ⟨rfl, rfl, rfl⟩ := hc
    exact .inr ⟨_, _, _, rfl⟩
end Go.Proofs.YtcoclaabainibaaDoor
