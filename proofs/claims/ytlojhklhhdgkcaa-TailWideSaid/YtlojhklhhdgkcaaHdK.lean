/-
  Contracts of package header: PrintCentral.
-/
import Derived.Test.YtlojhklhhdgkcaaHdJ
namespace Go.Proofs.Ytlojhklhhdgkcaa
set_option maxRecDepth 100000
set_option linter.unusedSimpArgs false
open Go.RowKit Go.Joins Go.Deep Go.Op
def txC (x0 x1 x2 x3 x4 x5 x6 x7 x8 x9 x10 x11 : Nat) (s12 s13 s14 : ByteArray) : ByteArray := (⟨#[80, 75, 1, 2]⟩ : ByteArray) ++ text (lesL 2 [x0, x1, x2, x3]) ++ text (lesL 4 [x4, x5, x6, x7]) ++ text (lesL 2 [s12.size, s13.size, s14.size]) ++ text (lesL 2 [x8, x9]) ++ text (lesL 4 [x10, x11]) ++ s12 ++ s13 ++ s14
def prC (x0 x1 x2 x3 x4 x5 x6 x7 x8 x9 x10 x11 : Nat) (s12 s13 s14 : ByteArray) : Value := if fitsT [s12, s13, s14] = true then .tuple #[.string (txC x0 x1 x2 x3 x4 x5 x6 x7 x8 x9 x10 x11 s12 s13 s14), .int .i64 0] else .tuple #[.string ⟨#[]⟩, .int .i64 5]
end Go.Proofs.Ytlojhklhhdgkcaa
