/-
  Contracts of package header: PrintLocal.
-/
import Derived.Test.YtlojhklhhdgkcaaHdI
namespace Go.Proofs.Ytlojhklhhdgkcaa
set_option maxRecDepth 100000
set_option linter.unusedSimpArgs false
open Go.RowKit Go.Joins Go.Deep Go.Op
def txL (x0 x1 x2 x3 x4 x5 x6 : Nat) (s7 s8 : ByteArray) : ByteArray := (⟨#[80, 75, 3, 4]⟩ : ByteArray) ++ text (lesL 2 [x0, x1, x2]) ++ text (lesL 4 [x3, x4, x5, x6]) ++ text (lesL 2 [s7.size, s8.size]) ++ s7 ++ s8
def prL (x0 x1 x2 x3 x4 x5 x6 : Nat) (s7 s8 : ByteArray) : Value := if fitsT [s7, s8] = true then .tuple #[.string (txL x0 x1 x2 x3 x4 x5 x6 s7 s8), .int .i64 0] else .tuple #[.string ⟨#[]⟩, .int .i64 5]
end Go.Proofs.Ytlojhklhhdgkcaa
