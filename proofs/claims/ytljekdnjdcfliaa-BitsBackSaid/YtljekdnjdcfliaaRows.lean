/-
  No cell of these rows narrows 'for every input' (looked for: loops, veiled, ifaces, maps, wideKeys, modest, calm, conditions, laid).
  DERIVED. THE GIVEN ROWS OF THIS SEAT. 7 by the template 'for every input the law returns true; each argument reads behind the call as it read before'; 0 by the template 'total and deterministic' (their statements: YtljekdnjdcfliaaTotals.lean).
  GIVEN WITH THE SEED: the statements are not yours to turn. If you find one false, say at which input.
  Laid BY PROGRAM, IN A SANDBOX (cutbox-rows.mjs): the forced cells as the released guide's own fill.sh prints them over the translation eaece422f420b97d… (all of the seat's roots in one cut). By AI agents, Wed Nov 11 2026. No macro, syntax, notation, axiom, sorry.
-/
import Derived.Test.YtljekdnjdcfliaaChecked
import GoSem.Claim
import GoSem.ClaimJoined
import GoSem.ClaimMapViews
import Derived.JoinedTies
import Derived.KernelRfl
namespace Go.Proofs.Ytljekdnjdcfliaa
/- THE CELL 'sum', in the pinned program and in every row, IS THE sha256 OF THE DUMP (.gsa) THAT YtljekdnjdcfliaaProg.lean LOADS. Nothing in Lean hashes anything: it is a label: what it is worth is what the hold of that sum in a sandbox is worth. -/
noncomputable def Try.pinned : Pinned := { name := "ytljekdnjdcfliaa", sum := "eaece422f420b97d1c11a4cbd33a4c57dab89ae460a77b65c92c110c3020ce7e", checked := Try.checked }
namespace Rows
def none {H : Type} : Left H := { results := [], args := [] }

/-- 'portmanteaulaw03.BitsBack': WHATEVER THE INPUT: true; the input reads as it did. -/
def bitsBackSpec : ChangeSpec := { name := "bitsBack", fn := fun _ => fun
  | [d] => { results := [.lit (.bool true)], args := [d] }
  | _ => none }
def bitsBackRow : OpenClaim := { program := "ytljekdnjdcfliaa", sum := "eaece422f420b97d1c11a4cbd33a4c57dab89ae460a77b65c92c110c3020ce7e", func := "portmanteau/portmanteaulaw03.BitsBack", spec := "bitsBack", plainKeys := false, apart := false }
def BitsBackSaid : Prop := bitsBackRow.holds Try.pinned (OpenSpec.ofChange bitsBackSpec)

/-- ITS FALSE NEIGHBOUR: 'it returns false'. Refute it at one input. -/
def bitsBackWrong : ChangeSpec := { name := "bitsBack", fn := fun _ => fun
  | [d] => { results := [.lit (.bool false)], args := [d] }
  | _ => none }
def BitsBackWrongFalsely : Prop := bitsBackRow.holds Try.pinned (OpenSpec.ofChange bitsBackWrong)

/-- 'portmanteaulaw04.PrefixReads': WHATEVER THE INPUT: true; the input reads as it did. -/
def prefixReadsSpec : ChangeSpec := { name := "prefixReads", fn := fun _ => fun
  | [d1, d2, d3, d4] => { results := [.lit (.bool true)], args := [d1, d2, d3, d4] }
  | _ => none }
def prefixReadsRow : OpenClaim := { program := "ytljekdnjdcfliaa", sum := "eaece422f420b97d1c11a4cbd33a4c57dab89ae460a77b65c92c110c3020ce7e", func := "portmanteau/portmanteaulaw04.PrefixReads", spec := "prefixReads", plainKeys := false, apart := false }
def PrefixReadsSaid : Prop := prefixReadsRow.holds Try.pinned (OpenSpec.ofChange prefixReadsSpec)

/-- ITS FALSE NEIGHBOUR: 'it returns false'. Refute it at one input. -/
def prefixReadsWrong : ChangeSpec := { name := "prefixReads", fn := fun _ => fun
  | [d1, d2, d3, d4] => { results := [.lit (.bool false)], args := [d1, d2, d3, d4] }
  | _ => none }
def PrefixReadsWrongFalsely : Prop := prefixReadsRow.holds Try.pinned (OpenSpec.ofChange prefixReadsWrong)

/-- 'portmanteaulaw05.WeighLengths': WHATEVER THE INPUT: true; the input reads as it did. -/
def weighLengthsSpec : ChangeSpec := { name := "weighLengths", fn := fun _ => fun
  | [d1, d2] => { results := [.lit (.bool true)], args := [d1, d2] }
  | _ => none }
def weighLengthsRow : OpenClaim := { program := "ytljekdnjdcfliaa", sum := "eaece422f420b97d1c11a4cbd33a4c57dab89ae460a77b65c92c110c3020ce7e", func := "portmanteau/portmanteaulaw05.WeighLengths", spec := "weighLengths", inPlace := ["math/bits.Add64"], unfollowed := true, recurses := true, plainKeys := false, apart := false }
def WeighLengthsSaid : Prop := weighLengthsRow.holds Try.pinned (OpenSpec.ofChange weighLengthsSpec)

/-- ITS FALSE NEIGHBOUR: 'it returns false'. Refute it at one input. -/
def weighLengthsWrong : ChangeSpec := { name := "weighLengths", fn := fun _ => fun
  | [d1, d2] => { results := [.lit (.bool false)], args := [d1, d2] }
  | _ => none }
def WeighLengthsWrongFalsely : Prop := weighLengthsRow.holds Try.pinned (OpenSpec.ofChange weighLengthsWrong)

/-- 'portmanteaulaw05.WeighCosts': WHATEVER THE INPUT: true; the input reads as it did. -/
def weighCostsSpec : ChangeSpec := { name := "weighCosts", fn := fun _ => fun
  | [d1, d2] => { results := [.lit (.bool true)], args := [d1, d2] }
  | _ => none }
def weighCostsRow : OpenClaim := { program := "ytljekdnjdcfliaa", sum := "eaece422f420b97d1c11a4cbd33a4c57dab89ae460a77b65c92c110c3020ce7e", func := "portmanteau/portmanteaulaw05.WeighCosts", spec := "weighCosts", inPlace := ["math/bits.Add64"], unfollowed := true, recurses := true, plainKeys := false, apart := false }
def WeighCostsSaid : Prop := weighCostsRow.holds Try.pinned (OpenSpec.ofChange weighCostsSpec)

/-- ITS FALSE NEIGHBOUR: 'it returns false'. Refute it at one input. -/
def weighCostsWrong : ChangeSpec := { name := "weighCosts", fn := fun _ => fun
  | [d1, d2] => { results := [.lit (.bool false)], args := [d1, d2] }
  | _ => none }
def WeighCostsWrongFalsely : Prop := weighCostsRow.holds Try.pinned (OpenSpec.ofChange weighCostsWrong)

/-- 'portmanteaulaw05.WeighTries': WHATEVER THE INPUT: true; the input reads as it did. -/
def weighTriesSpec : ChangeSpec := { name := "weighTries", fn := fun _ => fun
  | [d1, d2] => { results := [.lit (.bool true)], args := [d1, d2] }
  | _ => none }
def weighTriesRow : OpenClaim := { program := "ytljekdnjdcfliaa", sum := "eaece422f420b97d1c11a4cbd33a4c57dab89ae460a77b65c92c110c3020ce7e", func := "portmanteau/portmanteaulaw05.WeighTries", spec := "weighTries", inPlace := ["math/bits.Add64"], unfollowed := true, recurses := true, plainKeys := false, apart := false }
def WeighTriesSaid : Prop := weighTriesRow.holds Try.pinned (OpenSpec.ofChange weighTriesSpec)

/-- ITS FALSE NEIGHBOUR: 'it returns false'. Refute it at one input. -/
def weighTriesWrong : ChangeSpec := { name := "weighTries", fn := fun _ => fun
  | [d1, d2] => { results := [.lit (.bool false)], args := [d1, d2] }
  | _ => none }
def WeighTriesWrongFalsely : Prop := weighTriesRow.holds Try.pinned (OpenSpec.ofChange weighTriesWrong)

/-- 'portmanteaulaw05.WeighMore': WHATEVER THE INPUT: true; the input reads as it did. -/
def weighMoreSpec : ChangeSpec := { name := "weighMore", fn := fun _ => fun
  | [d1, d2] => { results := [.lit (.bool true)], args := [d1, d2] }
  | _ => none }
def weighMoreRow : OpenClaim := { program := "ytljekdnjdcfliaa", sum := "eaece422f420b97d1c11a4cbd33a4c57dab89ae460a77b65c92c110c3020ce7e", func := "portmanteau/portmanteaulaw05.WeighMore", spec := "weighMore", inPlace := ["math/bits.Add64"], unfollowed := true, recurses := true, plainKeys := false, apart := false }
def WeighMoreSaid : Prop := weighMoreRow.holds Try.pinned (OpenSpec.ofChange weighMoreSpec)

/-- ITS FALSE NEIGHBOUR: 'it returns false'. Refute it at one input. -/
def weighMoreWrong : ChangeSpec := { name := "weighMore", fn := fun _ => fun
  | [d1, d2] => { results := [.lit (.bool false)], args := [d1, d2] }
  | _ => none }
def WeighMoreWrongFalsely : Prop := weighMoreRow.holds Try.pinned (OpenSpec.ofChange weighMoreWrong)

/-- 'portmanteaulaw05.WeighOrders': WHATEVER THE INPUT: true; the input reads as it did. -/
def weighOrdersSpec : ChangeSpec := { name := "weighOrders", fn := fun _ => fun
  | [d] => { results := [.lit (.bool true)], args := [d] }
  | _ => none }
def weighOrdersRow : OpenClaim := { program := "ytljekdnjdcfliaa", sum := "eaece422f420b97d1c11a4cbd33a4c57dab89ae460a77b65c92c110c3020ce7e", func := "portmanteau/portmanteaulaw05.WeighOrders", spec := "weighOrders", inPlace := ["math/bits.Add64"], unfollowed := true, recurses := true, plainKeys := false, apart := false }
def WeighOrdersSaid : Prop := weighOrdersRow.holds Try.pinned (OpenSpec.ofChange weighOrdersSpec)

/-- ITS FALSE NEIGHBOUR: 'it returns false'. Refute it at one input. -/
def weighOrdersWrong : ChangeSpec := { name := "weighOrders", fn := fun _ => fun
  | [d] => { results := [.lit (.bool false)], args := [d] }
  | _ => none }
def WeighOrdersWrongFalsely : Prop := weighOrdersRow.holds Try.pinned (OpenSpec.ofChange weighOrdersWrong)

/- THE SECOND FORM. 'bulk': how many values and letters a reading holds, each counted each time it is reached (what is shared counts as often as it is met; a slice's spare places count too). A statement '..UptoSaid' is the law's where the arguments, and the package variables that the reading takes, are together of bulk at most 1048576: NARROWER than '..Said'. Prove '..Said' where nothing that the law and all that it calls make is longer than what came in: it says more and counts as full. Else prove '..UptoSaid'. A law counts once. -/
mutual
def uptoBulk {H : Type} : DataW H → Nat
  | .lit (.string bytes) => bytes.length + 1
  | .lit _ => 1
  | .nil => 1
  | .ptr d => uptoBulk d + 1
  | .slice elems spare => uptoBulkAll elems + uptoBulkAll spare + 1
  | .agg parts => uptoBulkAll parts + 1
  | .iface _ d => uptoBulk d + 1
  | .map entries => uptoBulkEntries entries + 1
  | .held _ => 1
def uptoBulkAll {H : Type} : List (DataW H) → Nat
  | [] => 0
  | d :: r => uptoBulk d + uptoBulkAll r
def uptoBulkEntries {H : Type} : List (Lit × DataW H) → Nat
  | [] => 0
  | x :: r => uptoBulkEntry x + uptoBulkEntries r
def uptoBulkEntry {H : Type} : Lit × DataW H → Nat
  | (.string bytes, d) => bytes.length + uptoBulk d + 1
  | (_, d) => uptoBulk d + 1
 end
def uptoSmall : (H : Type) → List (DataW H) → Bool := fun _ ds => decide (uptoBulkAll ds ≤ 1048576)
def OpenSpec.upto (s : _root_.Go.ChangeSpec) : _root_.Go.OpenSpec := { _root_.Go.OpenSpec.ofChange s with cond := some uptoSmall }

/-- 'portmanteaulaw03.BitsBack', WHERE WHAT IT READS IS OF BULK AT MOST 1048576: true; the input reads as it did. -/
def bitsBackUptoRow : OpenClaim := { program := "ytljekdnjdcfliaa", sum := "eaece422f420b97d1c11a4cbd33a4c57dab89ae460a77b65c92c110c3020ce7e", func := "portmanteau/portmanteaulaw03.BitsBack", spec := "bitsBack", plainKeys := false, apart := false, narrowed := true }
def BitsBackUptoSaid : Prop := bitsBackUptoRow.holds Try.pinned (OpenSpec.upto bitsBackSpec)

/-- 'portmanteaulaw04.PrefixReads', WHERE WHAT IT READS IS OF BULK AT MOST 1048576: true; the input reads as it did. -/
def prefixReadsUptoRow : OpenClaim := { program := "ytljekdnjdcfliaa", sum := "eaece422f420b97d1c11a4cbd33a4c57dab89ae460a77b65c92c110c3020ce7e", func := "portmanteau/portmanteaulaw04.PrefixReads", spec := "prefixReads", plainKeys := false, apart := false, narrowed := true }
def PrefixReadsUptoSaid : Prop := prefixReadsUptoRow.holds Try.pinned (OpenSpec.upto prefixReadsSpec)

/-- 'portmanteaulaw05.WeighLengths', WHERE WHAT IT READS IS OF BULK AT MOST 1048576: true; the input reads as it did. -/
def weighLengthsUptoRow : OpenClaim := { program := "ytljekdnjdcfliaa", sum := "eaece422f420b97d1c11a4cbd33a4c57dab89ae460a77b65c92c110c3020ce7e", func := "portmanteau/portmanteaulaw05.WeighLengths", spec := "weighLengths", inPlace := ["math/bits.Add64"], unfollowed := true, recurses := true, plainKeys := false, apart := false, narrowed := true }
def WeighLengthsUptoSaid : Prop := weighLengthsUptoRow.holds Try.pinned (OpenSpec.upto weighLengthsSpec)

/-- 'portmanteaulaw05.WeighCosts', WHERE WHAT IT READS IS OF BULK AT MOST 1048576: true; the input reads as it did. -/
def weighCostsUptoRow : OpenClaim := { program := "ytljekdnjdcfliaa", sum := "eaece422f420b97d1c11a4cbd33a4c57dab89ae460a77b65c92c110c3020ce7e", func := "portmanteau/portmanteaulaw05.WeighCosts", spec := "weighCosts", inPlace := ["math/bits.Add64"], unfollowed := true, recurses := true, plainKeys := false, apart := false, narrowed := true }
def WeighCostsUptoSaid : Prop := weighCostsUptoRow.holds Try.pinned (OpenSpec.upto weighCostsSpec)

/-- 'portmanteaulaw05.WeighTries', WHERE WHAT IT READS IS OF BULK AT MOST 1048576: true; the input reads as it did. -/
def weighTriesUptoRow : OpenClaim := { program := "ytljekdnjdcfliaa", sum := "eaece422f420b97d1c11a4cbd33a4c57dab89ae460a77b65c92c110c3020ce7e", func := "portmanteau/portmanteaulaw05.WeighTries", spec := "weighTries", inPlace := ["math/bits.Add64"], unfollowed := true, recurses := true, plainKeys := false, apart := false, narrowed := true }
def WeighTriesUptoSaid : Prop := weighTriesUptoRow.holds Try.pinned (OpenSpec.upto weighTriesSpec)

/-- 'portmanteaulaw05.WeighMore', WHERE WHAT IT READS IS OF BULK AT MOST 1048576: true; the input reads as it did. -/
def weighMoreUptoRow : OpenClaim := { program := "ytljekdnjdcfliaa", sum := "eaece422f420b97d1c11a4cbd33a4c57dab89ae460a77b65c92c110c3020ce7e", func := "portmanteau/portmanteaulaw05.WeighMore", spec := "weighMore", inPlace := ["math/bits.Add64"], unfollowed := true, recurses := true, plainKeys := false, apart := false, narrowed := true }
def WeighMoreUptoSaid : Prop := weighMoreUptoRow.holds Try.pinned (OpenSpec.upto weighMoreSpec)

/-- 'portmanteaulaw05.WeighOrders', WHERE WHAT IT READS IS OF BULK AT MOST 1048576: true; the input reads as it did. -/
def weighOrdersUptoRow : OpenClaim := { program := "ytljekdnjdcfliaa", sum := "eaece422f420b97d1c11a4cbd33a4c57dab89ae460a77b65c92c110c3020ce7e", func := "portmanteau/portmanteaulaw05.WeighOrders", spec := "weighOrders", inPlace := ["math/bits.Add64"], unfollowed := true, recurses := true, plainKeys := false, apart := false, narrowed := true }
def WeighOrdersUptoSaid : Prop := weighOrdersUptoRow.holds Try.pinned (OpenSpec.upto weighOrdersSpec)

end Rows
end Go.Proofs.Ytljekdnjdcfliaa
