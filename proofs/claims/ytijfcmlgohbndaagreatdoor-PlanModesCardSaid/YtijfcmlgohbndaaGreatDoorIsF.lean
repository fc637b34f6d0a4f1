/-
  A stable sort of items: symMerge, whole.
-/
import Derived.Test.YtijfcmlgohbndaaGreatDoorPkCD
namespace Go.Proofs.YtijfcmlgohbndaaGreatDoor.Is
set_option maxRecDepth 100000
set_option linter.unusedSimpArgs false
set_option linter.unusedVariables false
open Go.RowKit Go.Joins Go.Deep
end Go.Proofs.YtijfcmlgohbndaaGreatDoor.Is
