/-
  The contract of the plain helper SameLongs, at two equal rows.
-/
import Derived.Test.YtfmkfnkmhmobpaaHand
namespace Go.Proofs.Ytfmkfnkmhmobpaa
open Go.ChangeShapes Go.WideShapes Go.ChangeAt Go.RowKit

/-- A slice in whose places these numbers lie. -/
def Lies (w : World) (a : Option Addr) (xs : List Int) : Prop := ∀ (j : Nat) (x : Int), xs[j]? = some x → ∃ g, a = some ⟨g, 0, none⟩ ∧ g < w.heap.size ∧ w.cell? ⟨g, j, none⟩ = some (.int .u64 x)
theorem Lies.below {w w' : World} {a : Option Addr} {xs : List Int} (h : Lies w a xs) (hB : Below w.heap.size w w') : Lies w' a xs := fun j x hx => by
  obtain ⟨g, h1, h2, h3⟩ := h j x hx
  exact ⟨g, h1, by have := hB.size; omega, (hB.cell (p := ⟨g, j, none⟩) h2).trans h3⟩
theorem Lies.take {w : World} {a : Option Addr} {xs : List Int} (h : Lies w a xs) (k : Nat) : Lies w a (xs.take k) := fun j x hx => by
  refine h j x ?_
  rw [List.getElem?_take] at hx
  split at hx
  · exact hx
  · cases hx
theorem lies_of_owns {w : World} {B n : Nat} {v : Value} {xs : List Int} (h : w.ownsRow B 34 1 v n (xs.map (Value.int .u64))) : ∃ a k, v = .slice a xs.length k ∧ Lies w a xs := by
  have hl : n = xs.length := by have := h.1; simp at this; omega
  subst hl
  rcases h.2 with ⟨h1, h2⟩ | ⟨g, cap, cur, h1, _, h3, _⟩
  · refine ⟨none, 0, by rw [h1, h2], fun j x hx => ?_⟩
    have := (List.getElem?_eq_some_iff.1 hx).1; omega
  · refine ⟨_, cap, h1, fun j x hx => ⟨g, rfl, (Array.getElem?_eq_some_iff.1 h3).1, ?_⟩⟩
    have := h.cells (g := g) (by rw [h1]; rfl) j (.int .u64 x) (by simp [hx])
    have e : (⟨g, 0, none⟩ : Addr).add j = ⟨g, j, none⟩ := by
      cases j <;> simp [Addr.add]
    rwa [e] at this
set_option maxHeartbeats 1000000 in
set_option maxRecDepth 100000 in
theorem Same_any (w : World) (a b : Option Addr) (ka kb n : Nat) (xs : List Int) (hn : n = xs.length) (hn2 : n ≤ 65536) (ha : Lies w a xs) (hb : Lies w b xs) :
    Calls Try.prog 19 #[.slice a n ka, .slice b n kb] w fun e w' => e = .returned (.bool true) ∧ Below w.heap.size w w' := by
  have HA := hid ha
  have HB := hid hb
  have HN := hid hn
  clear ha hb hn
  go_enter Try.func19, Try.ntmps19
  go_wp2
  go_loopw [5] (fun i wr => ∃ q : Nat, q ≤ n ∧ i = .int .i64 q ∧ Below w.heap.size w wr) (fun i _ => n - (intOf i).toNat)
  case atStart => exact ⟨0, by omega, rfl, Below.refl _ _⟩
  case round =>
    obtain ⟨q, hq1, rfl, hB⟩ := hrel
    by_cases hql : q < n
    · have hqx : q < xs.length := by rw [← HN.out]; exact hql
      have hx : xs[q]? = some xs[q] := List.getElem?_eq_getElem hqx
      generalize xs[q] = x at hx
      obtain ⟨g, rfl, g1, c1⟩ := HA.out q x hx
      obtain ⟨g', rfl, g2, c2⟩ := HB.out q x hx
      have d1 := (hB.cell (p := ⟨g, q, none⟩) g1).trans c1
      have d2 := (hB.cell (p := ⟨g', q, none⟩) g2).trans c2
      clear c1 c2 g1 g2 hx hqx
      have HBB := hid hB
      clear hB
      go_wp2
      go_region
      all_goals
        go_wp2
        go_roundw
        case rel => exact ⟨q + 1, by omega, by go_num, HBB.out.drew⟩
        case measure => simp [intOf]; omega
    · obtain rfl : q = n := by omega
      go_wp2
      go_ret
      exact ⟨rfl, hB⟩
end Go.Proofs.Ytfmkfnkmhmobpaa
