/-
  Contract: tokens as the document's.
-/
import Derived.Test.YtfhbkidceombbaaMatT
namespace Go.Proofs.Ytfhbkidceombbaa
set_option maxRecDepth 100000
open Go.Joins Go.RowKit Go.Deep

theorem info_rtok3 : (Try.prog.info? 47).map (fun i => (i.zero, i.size, i.bytes)) = some (some (.agg #[.int .u8 0, .int .i64 0, .int .i64 0]), 3, 24) := by kernel_rfl
end Go.Proofs.Ytfhbkidceombbaa
