/-
  What the laws' rows of layer 12 ask: acts, numbers and truths that came in.
-/
import Derived.Test.YtmampaglemleoabRdRow
import Derived.Test.YtmampaglemleoabWkAct
namespace Go.Proofs.Ytmampaglemleoab
open Go Go.ChangeShapes Go.WideShapes Go.ChangeAt Go.RowKit

theorem own : ownKnob Try.prog.godebug = none := by kernel_rfl
theorem laidOut : laidOutB Try.prog = true := by kernel_rfl
theorem cells3 : Try.prog.cellsOf 3 = 1 := by kernel_rfl
theorem cells35 : Try.prog.cellsOf 35 = 1 := by kernel_rfl
theorem cells4 : Try.prog.cellsOf 4 = 1 := by kernel_rfl
theorem cells37 : Try.prog.cellsOf 37 = 4 := by kernel_rfl
set_option maxRecDepth 100000 in
/-- An act, read. -/
theorem read_act {H : Type} {enc : TypeId × Value → H} {W : World} {base n : Nat} {sp : Nat → Bool} {cs : List Value} {x : DataW H × List MemPlace} (h : DataW.trod enc Try.prog W base sp true n 37 cs = some x) : ∃ o, cs = wac o ∧ WActOk o := by
  obtain ⟨ys, n', _, _, hl, hn, hf⟩ := DataW.trod_struct Try.underlying37 h
  rw [cells37] at hl
  have hz : ys.length = 4 := hn
  match ys, hz with
  | [y0, y1, y2, y3], _ =>
    have f0 := hf 0 _ rfl
    have f1 := hf 1 _ rfl
    have f2 := hf 2 _ rfl
    have f3 := hf 3 _ rfl
    change DataW.trod enc Try.prog W base sp true n' 3 ((cs.drop 0).take (Try.prog.cellsOf 3)) = some y0 at f0
    change DataW.trod enc Try.prog W base sp true n' 3 ((cs.drop 1).take (Try.prog.cellsOf 3)) = some y1 at f1
    change DataW.trod enc Try.prog W base sp true n' 35 ((cs.drop 2).take (Try.prog.cellsOf 35)) = some y2 at f2
    change DataW.trod enc Try.prog W base sp true n' 35 ((cs.drop 3).take (Try.prog.cellsOf 35)) = some y3 at f3
    rw [cells3] at f0 f1
    rw [cells35] at f2 f3
    match cs, hl with
    | [a, b, c, d], _ =>
      obtain ⟨z0, e0, _, w0⟩ := DataW.trod_int Try.underlying3 (x := y0) (by simpa using f0)
      obtain ⟨z1, e1, _, w1⟩ := DataW.trod_int Try.underlying3 (x := y1) (by simpa using f1)
      obtain ⟨z2, e2, _, w2⟩ := DataW.trod_int Try.underlying35 (x := y2) (by simpa using f2)
      obtain ⟨z3, e3, _, w3⟩ := DataW.trod_int Try.underlying35 (x := y3) (by simpa using f3)
      have b0 := bounds_i64 w0
      have b1 := bounds_i64 w1
      have b2 := bounds_u64 w2
      have b3 := bounds_u64 w3
      simp at e0 e1 e2 e3
      subst e0 e1 e2 e3
      exact ⟨⟨z0, z1, z2, z3⟩, rfl, b0, b1, b2, b3⟩
set_option maxRecDepth 100000 in
theorem read_u64 {H : Type} {enc : TypeId × Value → H} {W : World} {base n : Nat} {sp : Nat → Bool} {cs : List Value} {x : DataW H × List MemPlace} (h : DataW.trod enc Try.prog W base sp true n 35 cs = some x) : ∃ z : Int, cs = [u64v z] ∧ U64 z := by
  obtain ⟨z, e, _, w⟩ := DataW.trod_int Try.underlying35 h
  exact ⟨z, e, bounds_u64 w⟩
set_option maxRecDepth 100000 in
theorem read_bool {H : Type} {enc : TypeId × Value → H} {W : World} {base n : Nat} {sp : Nat → Bool} {cs : List Value} {x : DataW H × List MemPlace} (h : DataW.trod enc Try.prog W base sp true n 4 cs = some x) : ∃ z : Bool, cs = [.bool z] ∧ True := by
  obtain ⟨z, e, _⟩ := DataW.trod_bool Try.underlying4 h
  exact ⟨z, e, trivial⟩
set_option maxRecDepth 100000 in
/-- Acts that came in. -/
theorem open_acts {H : Type} {enc : TypeId × Value → H} {W : World} {r : Reach} {b0 : Nat} {v : Value} {d : DataW H} {p : List MemPlace}
    (hv : Value.okWide Try.prog W r b0 22 v) (h : DataW.Trod enc Try.prog W 0 (fun _ => true) true 22 v d p) : ∃ (ad : Option Addr) (l : List WAct) (cap : Nat), v = .slice ad (List.length l) cap ∧ RwW W W.heap.size ad l ∧ l.length ≤ 9223372036854775807 := by
  obtain ⟨a, len, cap, rfl⟩ := okWide_slice Try.underlying22 hv
  obtain ⟨fuel, hf⟩ := h
  obtain ⟨ad, l, cap', hc, hr⟩ := read_row (R := fun cs y => cs = wac y ∧ WActOk y) Try.underlying22 cells37 (by decide) (fun h => read_act h) (fun cs y h => by rw [h.1]; rfl) (by simpa [Value.cells] using hf)
  cases hc
  refine ⟨_, _, _, rfl, ⟨hr.at_, fun b o he i x hx => ?_, fun x hx => ?_⟩, Nat.le_trans hr.lec hr.mx⟩
  · obtain ⟨cs, ⟨rfl, _⟩, h2⟩ := hr.rows b o he i x hx
    exact h2
  · obtain ⟨cs, _, h2⟩ := hr.all x hx
    exact h2
set_option maxRecDepth 100000 in
/-- Numbers that came in. -/
theorem open_nums {H : Type} {enc : TypeId × Value → H} {W : World} {r : Reach} {b0 : Nat} {v : Value} {d : DataW H} {p : List MemPlace}
    (hv : Value.okWide Try.prog W r b0 31 v) (h : DataW.Trod enc Try.prog W 0 (fun _ => true) true 31 v d p) : ∃ (ad : Option Addr) (l : List Int) (cap : Nat), v = .slice ad (List.length l) cap ∧ RwU W W.heap.size ad l ∧ l.length ≤ 9223372036854775807 := by
  obtain ⟨a, len, cap, rfl⟩ := okWide_slice Try.underlying31 hv
  obtain ⟨fuel, hf⟩ := h
  obtain ⟨ad, l, cap', hc, hr⟩ := read_row (R := fun cs y => cs = [u64v y] ∧ U64 y) Try.underlying31 cells35 (by decide) (fun h => read_u64 h) (fun cs y h => by rw [h.1]; rfl) (by simpa [Value.cells] using hf)
  cases hc
  refine ⟨_, _, _, rfl, ⟨hr.at_, fun b o he i x hx => ?_, fun x hx => ?_⟩, Nat.le_trans hr.lec hr.mx⟩
  · obtain ⟨cs, ⟨rfl, _⟩, h2⟩ := hr.rows b o he i x hx
    exact h2
  · obtain ⟨cs, _, h2⟩ := hr.all x hx
    exact h2
set_option maxRecDepth 100000 in
/-- Truths that came in. -/
theorem open_bools {H : Type} {enc : TypeId × Value → H} {W : World} {r : Reach} {b0 : Nat} {v : Value} {d : DataW H} {p : List MemPlace}
    (hv : Value.okWide Try.prog W r b0 59 v) (h : DataW.Trod enc Try.prog W 0 (fun _ => true) true 59 v d p) : ∃ (ad : Option Addr) (l : List Bool) (cap : Nat), v = .slice ad (List.length l) cap ∧ RwT W W.heap.size ad l ∧ l.length ≤ 9223372036854775807 := by
  obtain ⟨a, len, cap, rfl⟩ := okWide_slice Try.underlying59 hv
  obtain ⟨fuel, hf⟩ := h
  obtain ⟨ad, l, cap', hc, hr⟩ := read_row (R := fun cs y => cs = [Value.bool y] ∧ True) Try.underlying59 cells4 (by decide) (fun h => read_bool h) (fun cs y h => by rw [h.1]; rfl) (by simpa [Value.cells] using hf)
  cases hc
  refine ⟨_, _, _, rfl, ⟨hr.at_, fun b o he i x hx => ?_, fun x hx => ?_⟩, Nat.le_trans hr.lec hr.mx⟩
  · obtain ⟨cs, ⟨rfl, _⟩, h2⟩ := hr.rows b o he i x hx
    exact h2
  · obtain ⟨cs, _, h2⟩ := hr.all x hx
    exact h2
end Go.Proofs.Ytmampaglemleoab
