/-
  The contracts of a heap with the law's helpers, by the calls' own.
-/
import Derived.Test.YtceokibalphgpaaHpN
import Derived.Test.YtceokibalphgpaaHpB
namespace Go.Proofs.Ytceokibalphgpaa
open Go Go.ChangeShapes Go.WideShapes Go.ChangeAt Go.RowKit

theorem HeapC.by_calls {w0 : World} {Rp : (Nat → Prop) → World → Value → Hs → Prop} (HB : HeapB w0 Rp) (HS : SqC w0 Rp) : HeapC w0 Rp :=
  { HB with
    all := fun S w p s m hB hR hm => all_by w0 Rp HB HS S w p s m hB hR hm
    awk := fun w hB => awake_by w0 w Rp HB hB }
end Go.Proofs.Ytceokibalphgpaa
