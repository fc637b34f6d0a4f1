/-
  Contracts: the document's cursor.
-/
import Derived.Test.YtlojhklhhdgkcaaCurD
namespace Go.Proofs.Ytlojhklhhdgkcaa
set_option maxRecDepth 100000
open Go.RowKit Go.Joins

theorem Cur.alloc {w : World} {g : Nat} {s : ByteArray} {a e : Nat} (h : Cur w g s a e) (o : Obj) : Cur (w.alloc o) g s a e := (Below.heap_alloc w o g h.lt).trans h

end Go.Proofs.Ytlojhklhhdgkcaa
