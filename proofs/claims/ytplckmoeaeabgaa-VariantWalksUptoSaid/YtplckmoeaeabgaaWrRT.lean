/-
  How long a text is that is read.
-/
import Derived.Test.YtplckmoeaeabgaaWrA
namespace Go.Proofs.Ytplckmoeaeabgaa
open Go Go.ChangeShapes Go.WideShapes Go.ChangeAt Go.RowKit


set_option maxRecDepth 100000 in
theorem rdT_len {b : List Int} {a : Nat} {m : Int} : (rdT b a m).1.length ≤ b.length := by
  unfold rdT
  split
  · simp
  · split
    · simp
    · split
      · simp
      · simp only [List.length_take, List.length_drop]; omega
end Go.Proofs.Ytplckmoeaeabgaa
