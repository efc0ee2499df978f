/-
  What a law's row asks, paid once for every law of the seat: arguments that are rows of bytes by value; the end.
-/
import Derived.Test.YtjmbpjbeljeglaaRows
import Derived.Test.YtjmbpjbeljeglaaLib
import Derived.Lib.SmallJoins
import Derived.ChangeOld
import Derived.Below
namespace Go.Proofs.Ytjmbpjbeljeglaa
open Go.ChangeShapes Go.WideShapes Go.ChangeAt Go.RowKit

theorem own : ownKnob Try.prog.godebug = none := by kernel_rfl
theorem laidOut : laidOutB Try.prog = true := by kernel_rfl
theorem cellsB : Try.prog.cellsOf 5 = 1 := by kernel_rfl
theorem cellsG : Try.prog.cellsOf 23 = 16 := by kernel_rfl

theorem okWide_arr {P : Program} {w : World} {r : Reach} {base : Nat} {t : TypeId} {v : Value} {n : Nat} {e : TypeId} (ht : P.underlying t = some (.array n e)) (h : Value.okWide P w r base t v) : ∃ cs, v = .agg cs ∧ cs.size = P.cellsOf t := by
  simp only [Value.okWide, ht] at h
  obtain ⟨cs, h1, h2, _⟩ := h
  exact ⟨cs, h1, h2⟩
/-- An array of sixteen bytes that came in. -/
theorem open_guid {H : Type} {enc : TypeId × Value → H} {W : World} {base : Nat} {sp : Nat → Bool} {held : Bool} {r : Reach} {b0 : Nat} {v : Value} {d : DataW H} {p : List MemPlace}
    (hv : Value.okWide Try.prog W r b0 23 v) (h : DataW.Trod enc Try.prog W base sp held 23 v d p) : ∃ xs, v = .agg (u8s xs) ∧ IsG xs := by
  obtain ⟨cs, rfl, hsz⟩ := okWide_arr Try.underlying23 hv
  obtain ⟨fuel, hf⟩ := h
  obtain ⟨ys, m, _, _, hl, hn, hi⟩ := DataW.trod_array Try.underlying23 hf
  rw [cellsB] at hi
  rw [cellsG] at hl hsz
  simp only [Value.cells] at hi hl
  have each : ∀ i, i < 16 → ∃ n, cs[i]? = some (.int .u8 n) ∧ 0 ≤ n ∧ n ≤ 255 := fun i h16 => by
    have h1 := hi i h16
    rw [List.getElem?_eq_getElem (by omega)] at h1
    obtain ⟨n, hc, _, hw⟩ := DataW.trod_int Try.underlying5 h1
    refine ⟨n, ?_, bounds_u8 hw⟩
    have h2 : (((cs.toList.drop (i * 1)).take 1))[0]? = some (.int .u8 n) := by rw [hc]; rfl
    simpa using h2
  have hx : ∀ i : Nat, ∃ n : Int, (i < 16 → cs[i]? = some (.int .u8 n)) ∧ 0 ≤ n ∧ n ≤ 255 := fun i => by
    by_cases h16 : i < 16
    · obtain ⟨n, a, b⟩ := each i h16; exact ⟨n, fun _ => a, b⟩
    · exact ⟨0, fun h => absurd h h16, by omega, by omega⟩
  refine ⟨(List.range 16).map fun i => Classical.choose (hx i), ?_, ?_⟩
  · congr 1
    apply Array.ext
    · simp [u8s, hsz]
    · intro i a b
      have h16 : i < 16 := by omega
      have h1 := (Classical.choose_spec (hx i)).1 h16
      have h2 : cs[i]? = some cs[i] := Array.getElem?_eq_getElem a
      have h3 := Option.some.inj (h2.symm.trans h1)
      simp only [u8s, List.getElem_toArray, List.getElem_map, List.getElem_range]
      exact h3
  · have b : ∀ j, 0 ≤ ((List.range 16).map fun i => Classical.choose (hx i)).getD j 0 ∧ ((List.range 16).map fun i => Classical.choose (hx i)).getD j 0 ≤ 255 := fun j => by
      by_cases h16 : j < 16
      · have := (Classical.choose_spec (hx j)).2
        have e : ((List.range 16).map fun i => Classical.choose (hx i)).getD j 0 = Classical.choose (hx j) := by
          rw [List.getD_eq_getElem?_getD, List.getElem?_map, List.getElem?_range h16]; rfl
        rw [e]; exact this
      · have : ((List.range 16).map fun i => Classical.choose (hx i)).getD j 0 = 0 := by simp [List.getD, h16]
        omega
    exact ⟨by simp, fun j => (b j).1, fun j => (b j).2⟩
end Go.Proofs.Ytjmbpjbeljeglaa
