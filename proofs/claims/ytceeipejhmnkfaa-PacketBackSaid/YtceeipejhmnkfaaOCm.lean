/-
  What the machine knows of bytes and GUIDs (apart, since not every seat holds guid.Compare).
-/
import Derived.Test.YtceeipejhmnkfaaChecked
import Derived.Test.YtceeipejhmnkfaaLib
namespace Go.Proofs.Ytceeipejhmnkfaa
open Go.ChangeShapes Go.WideShapes Go.ChangeAt Go.RowKit

set_option maxRecDepth 100000 in
theorem szB (w : World) : (sizeOf 5).run Try.prog w = .ok 1 w := by kernel_rfl
set_option maxRecDepth 100000 in
theorem agB (w : World) : (isAgg 5).run Try.prog w = .ok false w := by kernel_rfl
set_option maxRecDepth 100000 in
theorem infoG : (Try.prog.info? 24).map (·.size) = some 16 := by kernel_rfl

end Go.Proofs.Ytceeipejhmnkfaa
