/-
  The document's Find of an end: the walk.
-/
import Derived.Test.YtlojhklhhdgkcaaTlN
namespace Go.Proofs.Ytlojhklhhdgkcaa
set_option maxRecDepth 100000
set_option linter.unusedSimpArgs false
set_option linter.unusedVariables false
open Go.RowKit Go.Joins Go.Deep Go.Op
theorem bneL {a : Nat} {k : Int} {p : Bool} (h : (((a : Nat) : Int) == k) = p) : (((a : Nat) : Int) != k) = !p := by rw [bne, h]
end Go.Proofs.Ytlojhklhhdgkcaa
