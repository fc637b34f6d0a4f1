/-
  No cell of these rows narrows 'for every input' (looked for: loops, veiled, ifaces, maps, wideKeys, modest, calm, conditions, laid).
  DERIVED. THE GIVEN ROWS OF THIS SEAT. 3 by the template 'for every input the law returns true; each argument reads behind the call as it read before'; 0 by the template 'total and deterministic' (their statements: YtkiecgcjnlgbnaaTotals.lean).
  GIVEN WITH THE SEED: the statements are not yours to turn. If you find one false, say at which input.
  Laid BY PROGRAM, IN A SANDBOX (cutbox-rows.mjs): the forced cells as the released guide's own fill.sh prints them over the translation 6e3a72723048d023… (all of the seat's roots in one cut). By AI agents, Wed Nov 11 2026. No macro, syntax, notation, axiom, sorry.
-/
import Derived.Test.YtkiecgcjnlgbnaaChecked
import GoSem.Claim
import GoSem.ClaimJoined
import GoSem.ClaimMapViews
import Derived.JoinedTies
import Derived.KernelRfl
namespace Go.Proofs.Ytkiecgcjnlgbnaa
/- THE CELL 'sum', in the pinned program and in every row, IS THE sha256 OF THE DUMP (.gsa) THAT YtkiecgcjnlgbnaaProg.lean LOADS. Nothing in Lean hashes anything: it is a label: what it is worth is what the hold of that sum in a sandbox is worth. -/
noncomputable def Try.pinned : Pinned := { name := "ytkiecgcjnlgbnaa", sum := "6e3a72723048d023a23ebe3069d7b2beeec0db9cdf7ca8d1fe04f5465d9dbae1", checked := Try.checked }
namespace Rows
def none {H : Type} : Left H := { results := [], args := [] }

/-- 'portmanteaulaw13.ExtraReads': WHATEVER THE INPUT: true; the input reads as it did. -/
def extraReadsSpec : ChangeSpec := { name := "extraReads", fn := fun _ => fun
  | [d1, d2] => { results := [.lit (.bool true)], args := [d1, d2] }
  | _ => none }
def extraReadsRow : OpenClaim := { program := "ytkiecgcjnlgbnaa", sum := "6e3a72723048d023a23ebe3069d7b2beeec0db9cdf7ca8d1fe04f5465d9dbae1", func := "portmanteau/portmanteaulaw13.ExtraReads", spec := "extraReads", inPlace := ["internal/abi.NoEscape"], apart := false }
def ExtraReadsSaid : Prop := extraReadsRow.holds Try.pinned (OpenSpec.ofChange extraReadsSpec)

/-- ITS FALSE NEIGHBOUR: 'it returns false'. Refute it at one input. -/
def extraReadsWrong : ChangeSpec := { name := "extraReads", fn := fun _ => fun
  | [d1, d2] => { results := [.lit (.bool false)], args := [d1, d2] }
  | _ => none }
def ExtraReadsWrongFalsely : Prop := extraReadsRow.holds Try.pinned (OpenSpec.ofChange extraReadsWrong)

/-- 'portmanteaulaw13.ExtraDoes': WHATEVER THE INPUT: true; the input reads as it did. -/
def extraDoesSpec : ChangeSpec := { name := "extraDoes", fn := fun _ => fun
  | [d1, d2, d3, d4] => { results := [.lit (.bool true)], args := [d1, d2, d3, d4] }
  | _ => none }
def extraDoesRow : OpenClaim := { program := "ytkiecgcjnlgbnaa", sum := "6e3a72723048d023a23ebe3069d7b2beeec0db9cdf7ca8d1fe04f5465d9dbae1", func := "portmanteau/portmanteaulaw13.ExtraDoes", spec := "extraDoes", unfollowed := true, recurses := true, apart := false }
def ExtraDoesSaid : Prop := extraDoesRow.holds Try.pinned (OpenSpec.ofChange extraDoesSpec)

/-- ITS FALSE NEIGHBOUR: 'it returns false'. Refute it at one input. -/
def extraDoesWrong : ChangeSpec := { name := "extraDoes", fn := fun _ => fun
  | [d1, d2, d3, d4] => { results := [.lit (.bool false)], args := [d1, d2, d3, d4] }
  | _ => none }
def ExtraDoesWrongFalsely : Prop := extraDoesRow.holds Try.pinned (OpenSpec.ofChange extraDoesWrong)

/-- 'portmanteaulaw13.ExtraBack': WHATEVER THE INPUT: true; the input reads as it did. -/
def extraBackSpec : ChangeSpec := { name := "extraBack", fn := fun _ => fun
  | [d1, d2, d3] => { results := [.lit (.bool true)], args := [d1, d2, d3] }
  | _ => none }
def extraBackRow : OpenClaim := { program := "ytkiecgcjnlgbnaa", sum := "6e3a72723048d023a23ebe3069d7b2beeec0db9cdf7ca8d1fe04f5465d9dbae1", func := "portmanteau/portmanteaulaw13.ExtraBack", spec := "extraBack", inPlace := ["internal/abi.NoEscape"], unfollowed := true, recurses := true, apart := false }
def ExtraBackSaid : Prop := extraBackRow.holds Try.pinned (OpenSpec.ofChange extraBackSpec)

/-- ITS FALSE NEIGHBOUR: 'it returns false'. Refute it at one input. -/
def extraBackWrong : ChangeSpec := { name := "extraBack", fn := fun _ => fun
  | [d1, d2, d3] => { results := [.lit (.bool false)], args := [d1, d2, d3] }
  | _ => none }
def ExtraBackWrongFalsely : Prop := extraBackRow.holds Try.pinned (OpenSpec.ofChange extraBackWrong)

/- THE SECOND FORM. 'bulk': how many values and letters a reading holds, each counted each time it is reached (what is shared counts as often as it is met; a slice's spare places count too). A statement '..UptoSaid' is the law's where the arguments, and the package variables that the reading takes, are together of bulk at most 1048576: NARROWER than '..Said'. Prove '..Said' where nothing that the law and all that it calls make is longer than what came in: it says more and counts as full. Else prove '..UptoSaid'. A law counts once. -/
mutual
def uptoBulk {H : Type} : DataW H → Nat
  | .lit (.string bytes) => bytes.length + 1
  | .lit _ => 1
  | .nil => 1
  | .ptr d => uptoBulk d + 1
  | .slice elems spare => uptoBulkAll elems + uptoBulkAll spare + 1
  | .agg parts => uptoBulkAll parts + 1
  | .iface _ d => uptoBulk d + 1
  | .map entries => uptoBulkEntries entries + 1
  | .held _ => 1
def uptoBulkAll {H : Type} : List (DataW H) → Nat
  | [] => 0
  | d :: r => uptoBulk d + uptoBulkAll r
def uptoBulkEntries {H : Type} : List (Lit × DataW H) → Nat
  | [] => 0
  | x :: r => uptoBulkEntry x + uptoBulkEntries r
def uptoBulkEntry {H : Type} : Lit × DataW H → Nat
  | (.string bytes, d) => bytes.length + uptoBulk d + 1
  | (_, d) => uptoBulk d + 1
 end
def uptoSmall : (H : Type) → List (DataW H) → Bool := fun _ ds => decide (uptoBulkAll ds ≤ 1048576)
def OpenSpec.upto (s : _root_.Go.ChangeSpec) : _root_.Go.OpenSpec := { _root_.Go.OpenSpec.ofChange s with cond := some uptoSmall }

/-- 'portmanteaulaw13.ExtraReads', WHERE WHAT IT READS IS OF BULK AT MOST 1048576: true; the input reads as it did. -/
def extraReadsUptoRow : OpenClaim := { program := "ytkiecgcjnlgbnaa", sum := "6e3a72723048d023a23ebe3069d7b2beeec0db9cdf7ca8d1fe04f5465d9dbae1", func := "portmanteau/portmanteaulaw13.ExtraReads", spec := "extraReads", inPlace := ["internal/abi.NoEscape"], apart := false, narrowed := true }
def ExtraReadsUptoSaid : Prop := extraReadsUptoRow.holds Try.pinned (OpenSpec.upto extraReadsSpec)

/-- 'portmanteaulaw13.ExtraDoes', WHERE WHAT IT READS IS OF BULK AT MOST 1048576: true; the input reads as it did. -/
def extraDoesUptoRow : OpenClaim := { program := "ytkiecgcjnlgbnaa", sum := "6e3a72723048d023a23ebe3069d7b2beeec0db9cdf7ca8d1fe04f5465d9dbae1", func := "portmanteau/portmanteaulaw13.ExtraDoes", spec := "extraDoes", unfollowed := true, recurses := true, apart := false, narrowed := true }
def ExtraDoesUptoSaid : Prop := extraDoesUptoRow.holds Try.pinned (OpenSpec.upto extraDoesSpec)

/-- 'portmanteaulaw13.ExtraBack', WHERE WHAT IT READS IS OF BULK AT MOST 1048576: true; the input reads as it did. -/
def extraBackUptoRow : OpenClaim := { program := "ytkiecgcjnlgbnaa", sum := "6e3a72723048d023a23ebe3069d7b2beeec0db9cdf7ca8d1fe04f5465d9dbae1", func := "portmanteau/portmanteaulaw13.ExtraBack", spec := "extraBack", inPlace := ["internal/abi.NoEscape"], unfollowed := true, recurses := true, apart := false, narrowed := true }
def ExtraBackUptoSaid : Prop := extraBackUptoRow.holds Try.pinned (OpenSpec.upto extraBackSpec)

end Rows
end Go.Proofs.Ytkiecgcjnlgbnaa
