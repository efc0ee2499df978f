/-
  What a law's row asks: bytes that came in.
-/
import Derived.Test.YtgfimkeopohjaaaDoorClFrame
import Derived.Test.YtgfimkeopohjaaaDoorWrA
namespace Go.Proofs.YtgfimkeopohjaaaDoor
open Go Go.ChangeShapes Go.WideShapes Go.ChangeAt Go.RowKit

set_option maxRecDepth 100000 in
theorem open_bytes {H : Type} {enc : TypeId × Value → H} {W : World} {r : Reach} {b0 : Nat} {v : Value} {d : DataW H} {p : List MemPlace}
    (hv : Value.okWide Tryd.prog W r b0 40 v) (h : DataW.Trod enc Tryd.prog W 0 (fun _ => true) true 40 v d p) : ∃ ad l cap, v = .slice ad (List.length l) cap ∧ Bs W W.heap.size ad l ∧ (l.length ≤ cap ∧ cap ≤ 9223372036854775807 ∧ Byt l) := by
  obtain ⟨a, len, cap, rfl⟩ := okWide_slice Tryd.underlying40 hv
  obtain ⟨fuel, hf⟩ := h
  obtain ⟨ad, l, cap', hc, hr⟩ := read_row (R := fun cs (y : Int) => cs = [.int .u8 y] ∧ 0 ≤ y ∧ y ≤ 255) (k := 1) Tryd.underlying40 cells5 (by decide) (fun h => by
    obtain ⟨n, hn, _, hw⟩ := DataW.trod_int Tryd.underlying5 h
    exact ⟨n, hn, bounds_u8 hw⟩) (fun cs y hy => by rw [hy.1]; rfl) (by simpa [Value.cells] using hf)
  cases hc
  refine ⟨_, l, _, rfl, ⟨hr.at_, fun b o ha j u hu => ?_⟩, hr.lec, hr.mx, fun y hy => ?_⟩
  · simp only [u8l, List.getElem?_map, Option.map_eq_some_iff] at hu
    obtain ⟨y, hy, rfl⟩ := hu
    obtain ⟨cs, h1, h2⟩ := hr.rows b o ha j y hy
    rw [h1.1, Nat.mul_one] at h2
    exact h2 0 _ rfl
  · obtain ⟨cs, h1⟩ := hr.all y hy
    exact h1.2
end Go.Proofs.YtgfimkeopohjaaaDoor
