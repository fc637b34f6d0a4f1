/-
  The document's place of an end record.
-/
import Derived.Test.YtlojhklhhdgkcaaTlK
namespace Go.Proofs.Ytlojhklhhdgkcaa
set_option maxRecDepth 100000
set_option linter.unusedSimpArgs false
set_option linter.unusedVariables false
open Go.RowKit Go.Joins Go.Deep Go.Op
theorem RdI.own' {w : World} {B : Nat} {K : IntKind} {e : TypeId} {A : Option Addr} {c n : Nat} {l : List Nat} (hn : l.length = n) (h : w.ownsRow B e 1 (.slice A n c) n (cellsK K l)) : RdI w K A l := by
  subst hn
  exact RdI.of_own h
end Go.Proofs.Ytlojhklhhdgkcaa
