/-
  Contracts of package header: PrintDescriptor.
-/
import Derived.Test.YtlojhklhhdgkcaaHdL
namespace Go.Proofs.Ytlojhklhhdgkcaa
set_option maxRecDepth 100000
set_option linter.unusedSimpArgs false
set_option linter.unusedVariables false
open Go.RowKit Go.Joins Go.Deep Go.Op
def szD (x1 x2 : Nat) (wide : Bool) : ByteArray := if wide = true then text (lesL 8 [x1, x2]) else text (lesL 4 [x1 % 4294967296, x2 % 4294967296])
def txD (x0 x1 x2 : Nat) (wide : Bool) : ByteArray := (⟨#[80, 75, 7, 8]⟩ : ByteArray) ++ text (le x0 4) ++ szD x1 x2 wide
end Go.Proofs.Ytlojhklhhdgkcaa
