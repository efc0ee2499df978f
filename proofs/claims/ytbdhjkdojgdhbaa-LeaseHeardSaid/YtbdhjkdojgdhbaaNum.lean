/-
  Numbers of the kinds that the layers' calls take.
-/
import Derived.Test.YtbdhjkdojgdhbaaChecked
namespace Go.Proofs.Ytbdhjkdojgdhbaa
open Go

abbrev u64v : Int → Value := .int .u64
def U32 (n : Int) : Prop := 0 ≤ n ∧ n ≤ 4294967295
def Nm (n : Int) : Prop := -9223372036854775808 ≤ n ∧ n ≤ 9223372036854775807
def Hn (n : Int) : Prop := 0 ≤ n ∧ n ≤ 18446744073709551615
abbrev TU : TypeId := 31
end Go.Proofs.Ytbdhjkdojgdhbaa
