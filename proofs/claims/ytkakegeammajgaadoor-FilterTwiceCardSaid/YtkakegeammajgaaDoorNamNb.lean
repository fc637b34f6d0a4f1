/-
  Contracts: the document's One, more classes of lead bytes.
-/
import Derived.Test.YtkakegeammajgaaDoorNamN0
namespace Go.Proofs.YtkakegeammajgaaDoor
set_option maxRecDepth 100000
open Go.RowKit Go.Deep Go.Joins Go.Lib

end Go.Proofs.YtkakegeammajgaaDoor
