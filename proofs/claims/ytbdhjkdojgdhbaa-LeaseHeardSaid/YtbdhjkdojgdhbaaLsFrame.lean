/-
  What the laws' rows of layer 16 ask: acts and numbers that came in.
-/
import Derived.Test.YtbdhjkdojgdhbaaRdRow
import Derived.Test.YtbdhjkdojgdhbaaRowIn
import Derived.Test.YtbdhjkdojgdhbaaLsD
namespace Go.Proofs.Ytbdhjkdojgdhbaa
open Go Go.ChangeShapes Go.WideShapes Go.ChangeAt Go.RowKit

theorem own : ownKnob Try.prog.godebug = none := by kernel_rfl
theorem laidOut : laidOutB Try.prog = true := by kernel_rfl
theorem cells3 : Try.prog.cellsOf 3 = 1 := by kernel_rfl
theorem cells31 : Try.prog.cellsOf 31 = 1 := by kernel_rfl
theorem cells33 : Try.prog.cellsOf 33 = 2 := by kernel_rfl
/-- An act that came in: what, and to whom. -/
abbrev OAct := Int × Int
def aco (x : OAct) : List Value := [iv x.1, .int .u64 x.2]
def OActOk (x : OAct) : Prop := Nm x.1 ∧ Hn x.2
abbrev RwA (W : World) (B : Nat) (ad : Option Addr) (l : List OAct) : Prop := RowIn 2 aco OActOk W B ad l
abbrev RwN (W : World) (B : Nat) (ad : Option Addr) (l : List Int) : Prop := RowIn 1 (fun z => [iv z]) Nm W B ad l
set_option maxRecDepth 100000 in
/-- An act, read. -/
theorem read_act {H : Type} {enc : TypeId × Value → H} {W : World} {base n : Nat} {sp : Nat → Bool} {cs : List Value} {x : DataW H × List MemPlace} (h : DataW.trod enc Try.prog W base sp true n 33 cs = some x) : ∃ o, cs = aco o ∧ OActOk o := by
  obtain ⟨ys, n', _, _, hl, hn, hf⟩ := DataW.trod_struct Try.underlying33 h
  rw [cells33] at hl
  have hz : ys.length = 2 := hn
  match ys, hz with
  | [y0, y4], _ =>
    have f0 := hf 0 _ rfl
    have f4 := hf 1 _ rfl
    change DataW.trod enc Try.prog W base sp true n' 3 ((cs.drop 0).take (Try.prog.cellsOf 3)) = some y0 at f0
    change DataW.trod enc Try.prog W base sp true n' 31 ((cs.drop 1).take (Try.prog.cellsOf 31)) = some y4 at f4
    rw [cells3] at f0
    rw [cells31] at f4
    match cs, hl with
    | [a, e], _ =>
      obtain ⟨z0, e0, _, w0⟩ := DataW.trod_int Try.underlying3 (x := y0) (by simpa using f0)
      obtain ⟨z4, e4, _, w4⟩ := DataW.trod_int Try.underlying31 (x := y4) (by simpa using f4)
      have b0 := bounds_i64 w0
      have b4 := bounds_u64 w4
      simp at e0 e4
      subst e0 e4
      exact ⟨⟨z0, z4⟩, rfl, b0, b4⟩
set_option maxRecDepth 100000 in
theorem read_int {H : Type} {enc : TypeId × Value → H} {W : World} {base n : Nat} {sp : Nat → Bool} {cs : List Value} {x : DataW H × List MemPlace} (h : DataW.trod enc Try.prog W base sp true n 3 cs = some x) : ∃ z : Int, cs = [.int .i64 z] ∧ Nm z := by
  obtain ⟨z, e, _, w⟩ := DataW.trod_int Try.underlying3 h
  exact ⟨z, e, bounds_i64 w⟩
set_option maxRecDepth 100000 in
/-- Acts that came in. -/
theorem open_acts {H : Type} {enc : TypeId × Value → H} {W : World} {r : Reach} {b0 : Nat} {v : Value} {d : DataW H} {p : List MemPlace}
    (hv : Value.okWide Try.prog W r b0 22 v) (h : DataW.Trod enc Try.prog W 0 (fun _ => true) true 22 v d p) : ∃ (ad : Option Addr) (l : List OAct) (cap : Nat), v = .slice ad (List.length l) cap ∧ RwA W W.heap.size ad l ∧ l.length ≤ 9223372036854775807 := by
  obtain ⟨a, len, cap, rfl⟩ := okWide_slice Try.underlying22 hv
  obtain ⟨fuel, hf⟩ := h
  obtain ⟨ad, l, cap', hc, hr⟩ := read_row (R := fun cs y => cs = aco y ∧ OActOk y) Try.underlying22 cells33 (by decide) (fun h => read_act h) (fun cs y h => by rw [h.1]; rfl) (by simpa [Value.cells] using hf)
  cases hc
  refine ⟨_, _, _, rfl, ⟨hr.at_, fun b o he i x hx => ?_, fun x hx => ?_⟩, Nat.le_trans hr.lec hr.mx⟩
  · obtain ⟨cs, ⟨rfl, _⟩, h2⟩ := hr.rows b o he i x hx
    exact h2
  · obtain ⟨cs, _, h2⟩ := hr.all x hx
    exact h2
set_option maxRecDepth 100000 in
/-- Numbers that came in. -/
theorem open_ints {H : Type} {enc : TypeId × Value → H} {W : World} {r : Reach} {b0 : Nat} {v : Value} {d : DataW H} {p : List MemPlace}
    (hv : Value.okWide Try.prog W r b0 48 v) (h : DataW.Trod enc Try.prog W 0 (fun _ => true) true 48 v d p) : ∃ (ad : Option Addr) (l : List Int) (cap : Nat), v = .slice ad (List.length l) cap ∧ RwN W W.heap.size ad l ∧ l.length ≤ 9223372036854775807 := by
  obtain ⟨a, len, cap, rfl⟩ := okWide_slice Try.underlying48 hv
  obtain ⟨fuel, hf⟩ := h
  obtain ⟨ad, l, cap', hc, hr⟩ := read_row (R := fun cs y => cs = [.int .i64 y] ∧ Nm y) Try.underlying48 cells3 (by decide) (fun h => read_int h) (fun cs y h => by rw [h.1]; rfl) (by simpa [Value.cells] using hf)
  cases hc
  refine ⟨_, _, _, rfl, ⟨hr.at_, fun b o he i x hx => ?_, fun x hx => ?_⟩, Nat.le_trans hr.lec hr.mx⟩
  · obtain ⟨cs, ⟨rfl, _⟩, h2⟩ := hr.rows b o he i x hx
    exact h2
  · obtain ⟨cs, _, h2⟩ := hr.all x hx
    exact h2
end Go.Proofs.Ytbdhjkdojgdhbaa
