/-
  NARROWER THAN 'FOR EVERY INPUT', by the rows' own cells (each row's printed sentence says how): NameReads: laid · NameChecks: laid · NameParts: laid · NameBack: laid · NameKeeps: laid · NameOrders: laid · GlobCompiles: laid · GlobMatches: laid · GlobAtoms: laid · GlobQuotes: laid.
  DERIVED. THE GIVEN ROWS OF THIS SEAT. 10 by the template 'for every input the law returns true; each argument reads behind the call as it read before'; 0 by the template 'total and deterministic' (their statements: YtalfmepimhneoaaDoorTotals.lean).
  GIVEN WITH THE SEED: the statements are not yours to turn. If you find one false, say at which input.
  Laid BY PROGRAM, IN A SANDBOX (cutbox-rows.mjs): the forced cells as the released guide's own fill.sh prints them over the translation 48c91969f251e341… (all of the seat's roots in one cut). By AI agents, Wed Nov 11 2026. No macro, syntax, notation, axiom, sorry.
-/
import Derived.Test.YtalfmepimhneoaaDoorChecked
import GoSem.PinnedTables
import GoSem.Claim
import GoSem.ClaimJoined
import GoSem.ClaimMapViews
import Derived.JoinedTies
import Derived.KernelRfl
namespace Go.Proofs.YtalfmepimhneoaaDoor
/- THE CELL 'sum', in the pinned program and in every row, IS THE sha256 OF THE DUMP (.gsa) THAT YtalfmepimhneoaaDoorProg.lean LOADS. Nothing in Lean hashes anything: it is a label: what it is worth is what the hold of that sum in a sandbox is worth. -/
noncomputable def Tryd.pinned : Pinned := { name := "ytalfmepimhneoaadoor", sum := "48c91969f251e3411f7fe5d456a4575c22fbc69a4101caec0ce8d2246ebaa294", checked := Tryd.checked }
namespace Rows
def none {H : Type} : Left H := { results := [], args := [] }

/- WHAT THE LISTED PACKAGE-LEVEL VARIABLES READ AS WHEN THE CALL BEGINS. Each datum BY PROGRAM (the guide's laid-datum.mjs) off the statement by which the dump's own 'gosem.cut.vars' lays the variable. In a bare row this is a premise. The card (YtalfmepimhneoaaDoorCards.lean) ties it to the program's text. -/
def laid_unicode_utf8_acceptRanges {H : Type} : DataW H := .agg [.agg [.lit (.int .u8 128), .lit (.int .u8 191)], .agg [.lit (.int .u8 160), .lit (.int .u8 191)], .agg [.lit (.int .u8 128), .lit (.int .u8 159)], .agg [.lit (.int .u8 144), .lit (.int .u8 191)], .agg [.lit (.int .u8 128), .lit (.int .u8 143)], .agg [.lit (.int .u8 0), .lit (.int .u8 0)], .agg [.lit (.int .u8 0), .lit (.int .u8 0)], .agg [.lit (.int .u8 0), .lit (.int .u8 0)], .agg [.lit (.int .u8 0), .lit (.int .u8 0)], .agg [.lit (.int .u8 0), .lit (.int .u8 0)], .agg [.lit (.int .u8 0), .lit (.int .u8 0)], .agg [.lit (.int .u8 0), .lit (.int .u8 0)], .agg [.lit (.int .u8 0), .lit (.int .u8 0)], .agg [.lit (.int .u8 0), .lit (.int .u8 0)], .agg [.lit (.int .u8 0), .lit (.int .u8 0)], .agg [.lit (.int .u8 0), .lit (.int .u8 0)]]
def laid_portmanteau_name_upper {H : Type} : DataW H := .agg [.lit (.int .i32 199), .lit (.int .i32 252), .lit (.int .i32 233), .lit (.int .i32 226), .lit (.int .i32 228), .lit (.int .i32 224), .lit (.int .i32 229), .lit (.int .i32 231), .lit (.int .i32 234), .lit (.int .i32 235), .lit (.int .i32 232), .lit (.int .i32 239), .lit (.int .i32 238), .lit (.int .i32 236), .lit (.int .i32 196), .lit (.int .i32 197), .lit (.int .i32 201), .lit (.int .i32 230), .lit (.int .i32 198), .lit (.int .i32 244), .lit (.int .i32 246), .lit (.int .i32 242), .lit (.int .i32 251), .lit (.int .i32 249), .lit (.int .i32 255), .lit (.int .i32 214), .lit (.int .i32 220), .lit (.int .i32 162), .lit (.int .i32 163), .lit (.int .i32 165), .lit (.int .i32 8359), .lit (.int .i32 402), .lit (.int .i32 225), .lit (.int .i32 237), .lit (.int .i32 243), .lit (.int .i32 250), .lit (.int .i32 241), .lit (.int .i32 209), .lit (.int .i32 170), .lit (.int .i32 186), .lit (.int .i32 191), .lit (.int .i32 8976), .lit (.int .i32 172), .lit (.int .i32 189), .lit (.int .i32 188), .lit (.int .i32 161), .lit (.int .i32 171), .lit (.int .i32 187), .lit (.int .i32 9617), .lit (.int .i32 9618), .lit (.int .i32 9619), .lit (.int .i32 9474), .lit (.int .i32 9508), .lit (.int .i32 9569), .lit (.int .i32 9570), .lit (.int .i32 9558), .lit (.int .i32 9557), .lit (.int .i32 9571), .lit (.int .i32 9553), .lit (.int .i32 9559), .lit (.int .i32 9565), .lit (.int .i32 9564), .lit (.int .i32 9563), .lit (.int .i32 9488), .lit (.int .i32 9492), .lit (.int .i32 9524), .lit (.int .i32 9516), .lit (.int .i32 9500), .lit (.int .i32 9472), .lit (.int .i32 9532), .lit (.int .i32 9566), .lit (.int .i32 9567), .lit (.int .i32 9562), .lit (.int .i32 9556), .lit (.int .i32 9577), .lit (.int .i32 9574), .lit (.int .i32 9568), .lit (.int .i32 9552), .lit (.int .i32 9580), .lit (.int .i32 9575), .lit (.int .i32 9576), .lit (.int .i32 9572), .lit (.int .i32 9573), .lit (.int .i32 9561), .lit (.int .i32 9560), .lit (.int .i32 9554), .lit (.int .i32 9555), .lit (.int .i32 9579), .lit (.int .i32 9578), .lit (.int .i32 9496), .lit (.int .i32 9484), .lit (.int .i32 9608), .lit (.int .i32 9604), .lit (.int .i32 9612), .lit (.int .i32 9616), .lit (.int .i32 9600), .lit (.int .i32 945), .lit (.int .i32 223), .lit (.int .i32 915), .lit (.int .i32 960), .lit (.int .i32 931), .lit (.int .i32 963), .lit (.int .i32 181), .lit (.int .i32 964), .lit (.int .i32 934), .lit (.int .i32 920), .lit (.int .i32 937), .lit (.int .i32 948), .lit (.int .i32 8734), .lit (.int .i32 966), .lit (.int .i32 949), .lit (.int .i32 8745), .lit (.int .i32 8801), .lit (.int .i32 177), .lit (.int .i32 8805), .lit (.int .i32 8804), .lit (.int .i32 8992), .lit (.int .i32 8993), .lit (.int .i32 247), .lit (.int .i32 8776), .lit (.int .i32 176), .lit (.int .i32 8729), .lit (.int .i32 183), .lit (.int .i32 8730), .lit (.int .i32 8319), .lit (.int .i32 178), .lit (.int .i32 9632), .lit (.int .i32 160)]
/-- One of Go's own tables, pinned by name: the form's constant. -/
def laid_unicode_utf8_first : DataW Unit := Go.Pinned.utf8First

/-- 'portmanteaulaw10.NameReads': WHATEVER THE INPUT: true; the input reads as it did. -/
def nameReadsSpec : ChangeSpec := { name := "nameReads", fn := fun _ => fun
  | [d1, d2] => { results := [.lit (.bool true)], args := [d1, d2] }
  | _ => none }
def nameReadsRow : OpenClaim := { program := "ytalfmepimhneoaadoor", sum := "48c91969f251e3411f7fe5d456a4575c22fbc69a4101caec0ce8d2246ebaa294", func := "portmanteau/portmanteaulaw10.NameReads", spec := "nameReads", inPlace := ["internal/bytealg.CountString", "internal/bytealg.IndexByteString", "internal/bytealg.IndexString", "internal/abi.NoEscape"], unfollowed := true, recurses := true, named := ["unicode/utf8.first", "unicode/utf8.acceptRanges", "internal/bytealg.MaxLen", "portmanteau/name.upper"], apart := false, laid := [("unicode/utf8.acceptRanges", laid_unicode_utf8_acceptRanges), ("portmanteau/name.upper", laid_portmanteau_name_upper), ("unicode/utf8.first", laid_unicode_utf8_first)] }
def NameReadsSaid : Prop := nameReadsRow.holds Tryd.pinned (OpenSpec.ofChange nameReadsSpec)

/-- ITS FALSE NEIGHBOUR: 'it returns false'. Refute it at one input. -/
def nameReadsWrong : ChangeSpec := { name := "nameReads", fn := fun _ => fun
  | [d1, d2] => { results := [.lit (.bool false)], args := [d1, d2] }
  | _ => none }
def NameReadsWrongFalsely : Prop := nameReadsRow.holds Tryd.pinned (OpenSpec.ofChange nameReadsWrong)

/-- 'portmanteaulaw10.NameChecks': WHATEVER THE INPUT: true; the input reads as it did. -/
def nameChecksSpec : ChangeSpec := { name := "nameChecks", fn := fun _ => fun
  | [d1, d2] => { results := [.lit (.bool true)], args := [d1, d2] }
  | _ => none }
def nameChecksRow : OpenClaim := { program := "ytalfmepimhneoaadoor", sum := "48c91969f251e3411f7fe5d456a4575c22fbc69a4101caec0ce8d2246ebaa294", func := "portmanteau/portmanteaulaw10.NameChecks", spec := "nameChecks", inPlace := ["internal/bytealg.CountString", "internal/bytealg.IndexByteString", "internal/bytealg.IndexString"], unfollowed := true, recurses := true, named := ["unicode/utf8.first", "unicode/utf8.acceptRanges", "internal/bytealg.MaxLen"], apart := false, laid := [("unicode/utf8.acceptRanges", laid_unicode_utf8_acceptRanges), ("unicode/utf8.first", laid_unicode_utf8_first)] }
def NameChecksSaid : Prop := nameChecksRow.holds Tryd.pinned (OpenSpec.ofChange nameChecksSpec)

/-- ITS FALSE NEIGHBOUR: 'it returns false'. Refute it at one input. -/
def nameChecksWrong : ChangeSpec := { name := "nameChecks", fn := fun _ => fun
  | [d1, d2] => { results := [.lit (.bool false)], args := [d1, d2] }
  | _ => none }
def NameChecksWrongFalsely : Prop := nameChecksRow.holds Tryd.pinned (OpenSpec.ofChange nameChecksWrong)

/-- 'portmanteaulaw10.NameParts': WHATEVER THE INPUT: true; the input reads as it did. -/
def namePartsSpec : ChangeSpec := { name := "nameParts", fn := fun _ => fun
  | [d1, d2] => { results := [.lit (.bool true)], args := [d1, d2] }
  | _ => none }
def namePartsRow : OpenClaim := { program := "ytalfmepimhneoaadoor", sum := "48c91969f251e3411f7fe5d456a4575c22fbc69a4101caec0ce8d2246ebaa294", func := "portmanteau/portmanteaulaw10.NameParts", spec := "nameParts", inPlace := ["internal/bytealg.CountString", "internal/bytealg.IndexByteString", "internal/bytealg.IndexString"], unfollowed := true, recurses := true, named := ["unicode/utf8.first", "unicode/utf8.acceptRanges", "internal/bytealg.MaxLen"], apart := false, laid := [("unicode/utf8.acceptRanges", laid_unicode_utf8_acceptRanges), ("unicode/utf8.first", laid_unicode_utf8_first)] }
def NamePartsSaid : Prop := namePartsRow.holds Tryd.pinned (OpenSpec.ofChange namePartsSpec)

/-- ITS FALSE NEIGHBOUR: 'it returns false'. Refute it at one input. -/
def namePartsWrong : ChangeSpec := { name := "nameParts", fn := fun _ => fun
  | [d1, d2] => { results := [.lit (.bool false)], args := [d1, d2] }
  | _ => none }
def NamePartsWrongFalsely : Prop := namePartsRow.holds Tryd.pinned (OpenSpec.ofChange namePartsWrong)

/-- 'portmanteaulaw10.NameBack': WHATEVER THE INPUT: true; the input reads as it did. -/
def nameBackSpec : ChangeSpec := { name := "nameBack", fn := fun _ => fun
  | [d] => { results := [.lit (.bool true)], args := [d] }
  | _ => none }
def nameBackRow : OpenClaim := { program := "ytalfmepimhneoaadoor", sum := "48c91969f251e3411f7fe5d456a4575c22fbc69a4101caec0ce8d2246ebaa294", func := "portmanteau/portmanteaulaw10.NameBack", spec := "nameBack", inPlace := ["internal/bytealg.CountString", "internal/bytealg.IndexByteString", "internal/bytealg.IndexString", "internal/abi.NoEscape"], unfollowed := true, recurses := true, named := ["unicode/utf8.first", "unicode/utf8.acceptRanges", "internal/bytealg.MaxLen", "portmanteau/name.upper"], apart := false, laid := [("unicode/utf8.acceptRanges", laid_unicode_utf8_acceptRanges), ("portmanteau/name.upper", laid_portmanteau_name_upper), ("unicode/utf8.first", laid_unicode_utf8_first)] }
def NameBackSaid : Prop := nameBackRow.holds Tryd.pinned (OpenSpec.ofChange nameBackSpec)

/-- ITS FALSE NEIGHBOUR: 'it returns false'. Refute it at one input. -/
def nameBackWrong : ChangeSpec := { name := "nameBack", fn := fun _ => fun
  | [d] => { results := [.lit (.bool false)], args := [d] }
  | _ => none }
def NameBackWrongFalsely : Prop := nameBackRow.holds Tryd.pinned (OpenSpec.ofChange nameBackWrong)

/-- 'portmanteaulaw10.NameKeeps': WHATEVER THE INPUT: true; the input reads as it did. -/
def nameKeepsSpec : ChangeSpec := { name := "nameKeeps", fn := fun _ => fun
  | [d] => { results := [.lit (.bool true)], args := [d] }
  | _ => none }
def nameKeepsRow : OpenClaim := { program := "ytalfmepimhneoaadoor", sum := "48c91969f251e3411f7fe5d456a4575c22fbc69a4101caec0ce8d2246ebaa294", func := "portmanteau/portmanteaulaw10.NameKeeps", spec := "nameKeeps", inPlace := ["internal/bytealg.CountString", "internal/bytealg.IndexByteString", "internal/bytealg.IndexString"], unfollowed := true, recurses := true, named := ["unicode/utf8.first", "unicode/utf8.acceptRanges", "internal/bytealg.MaxLen"], apart := false, laid := [("unicode/utf8.acceptRanges", laid_unicode_utf8_acceptRanges), ("unicode/utf8.first", laid_unicode_utf8_first)] }
def NameKeepsSaid : Prop := nameKeepsRow.holds Tryd.pinned (OpenSpec.ofChange nameKeepsSpec)

/-- ITS FALSE NEIGHBOUR: 'it returns false'. Refute it at one input. -/
def nameKeepsWrong : ChangeSpec := { name := "nameKeeps", fn := fun _ => fun
  | [d] => { results := [.lit (.bool false)], args := [d] }
  | _ => none }
def NameKeepsWrongFalsely : Prop := nameKeepsRow.holds Tryd.pinned (OpenSpec.ofChange nameKeepsWrong)

/-- 'portmanteaulaw10.NameOrders': WHATEVER THE INPUT: true; the input reads as it did. -/
def nameOrdersSpec : ChangeSpec := { name := "nameOrders", fn := fun _ => fun
  | [d1, d2, d3] => { results := [.lit (.bool true)], args := [d1, d2, d3] }
  | _ => none }
def nameOrdersRow : OpenClaim := { program := "ytalfmepimhneoaadoor", sum := "48c91969f251e3411f7fe5d456a4575c22fbc69a4101caec0ce8d2246ebaa294", func := "portmanteau/portmanteaulaw10.NameOrders", spec := "nameOrders", inPlace := ["internal/bytealg.CountString", "internal/bytealg.IndexByteString", "internal/bytealg.IndexString"], unfollowed := true, recurses := true, named := ["unicode/utf8.first", "unicode/utf8.acceptRanges", "internal/bytealg.MaxLen"], apart := false, laid := [("unicode/utf8.acceptRanges", laid_unicode_utf8_acceptRanges), ("unicode/utf8.first", laid_unicode_utf8_first)] }
def NameOrdersSaid : Prop := nameOrdersRow.holds Tryd.pinned (OpenSpec.ofChange nameOrdersSpec)

/-- ITS FALSE NEIGHBOUR: 'it returns false'. Refute it at one input. -/
def nameOrdersWrong : ChangeSpec := { name := "nameOrders", fn := fun _ => fun
  | [d1, d2, d3] => { results := [.lit (.bool false)], args := [d1, d2, d3] }
  | _ => none }
def NameOrdersWrongFalsely : Prop := nameOrdersRow.holds Tryd.pinned (OpenSpec.ofChange nameOrdersWrong)

/-- 'portmanteaulaw11.GlobCompiles': WHATEVER THE INPUT: true; the input reads as it did. -/
def globCompilesSpec : ChangeSpec := { name := "globCompiles", fn := fun _ => fun
  | [d1, d2] => { results := [.lit (.bool true)], args := [d1, d2] }
  | _ => none }
def globCompilesRow : OpenClaim := { program := "ytalfmepimhneoaadoor", sum := "48c91969f251e3411f7fe5d456a4575c22fbc69a4101caec0ce8d2246ebaa294", func := "portmanteau/portmanteaulaw11.GlobCompiles", spec := "globCompiles", inPlace := ["internal/bytealg.IndexByteString", "internal/abi.NoEscape"], unfollowed := true, recurses := true, named := ["unicode/utf8.first", "unicode/utf8.acceptRanges"], apart := false, laid := [("unicode/utf8.acceptRanges", laid_unicode_utf8_acceptRanges), ("unicode/utf8.first", laid_unicode_utf8_first)] }
def GlobCompilesSaid : Prop := globCompilesRow.holds Tryd.pinned (OpenSpec.ofChange globCompilesSpec)

/-- ITS FALSE NEIGHBOUR: 'it returns false'. Refute it at one input. -/
def globCompilesWrong : ChangeSpec := { name := "globCompiles", fn := fun _ => fun
  | [d1, d2] => { results := [.lit (.bool false)], args := [d1, d2] }
  | _ => none }
def GlobCompilesWrongFalsely : Prop := globCompilesRow.holds Tryd.pinned (OpenSpec.ofChange globCompilesWrong)

/-- 'portmanteaulaw11.GlobMatches': WHATEVER THE INPUT: true; the input reads as it did. -/
def globMatchesSpec : ChangeSpec := { name := "globMatches", fn := fun _ => fun
  | [d1, d2] => { results := [.lit (.bool true)], args := [d1, d2] }
  | _ => none }
def globMatchesRow : OpenClaim := { program := "ytalfmepimhneoaadoor", sum := "48c91969f251e3411f7fe5d456a4575c22fbc69a4101caec0ce8d2246ebaa294", func := "portmanteau/portmanteaulaw11.GlobMatches", spec := "globMatches", unfollowed := true, recurses := true, named := ["unicode/utf8.first", "unicode/utf8.acceptRanges"], apart := false, laid := [("unicode/utf8.acceptRanges", laid_unicode_utf8_acceptRanges), ("unicode/utf8.first", laid_unicode_utf8_first)] }
def GlobMatchesSaid : Prop := globMatchesRow.holds Tryd.pinned (OpenSpec.ofChange globMatchesSpec)

/-- ITS FALSE NEIGHBOUR: 'it returns false'. Refute it at one input. -/
def globMatchesWrong : ChangeSpec := { name := "globMatches", fn := fun _ => fun
  | [d1, d2] => { results := [.lit (.bool false)], args := [d1, d2] }
  | _ => none }
def GlobMatchesWrongFalsely : Prop := globMatchesRow.holds Tryd.pinned (OpenSpec.ofChange globMatchesWrong)

/-- 'portmanteaulaw11.GlobAtoms': WHATEVER THE INPUT: true; the input reads as it did. -/
def globAtomsSpec : ChangeSpec := { name := "globAtoms", fn := fun _ => fun
  | [d1, d2, d3] => { results := [.lit (.bool true)], args := [d1, d2, d3] }
  | _ => none }
def globAtomsRow : OpenClaim := { program := "ytalfmepimhneoaadoor", sum := "48c91969f251e3411f7fe5d456a4575c22fbc69a4101caec0ce8d2246ebaa294", func := "portmanteau/portmanteaulaw11.GlobAtoms", spec := "globAtoms", unfollowed := true, recurses := true, named := ["unicode/utf8.first", "unicode/utf8.acceptRanges"], apart := false, laid := [("unicode/utf8.acceptRanges", laid_unicode_utf8_acceptRanges), ("unicode/utf8.first", laid_unicode_utf8_first)] }
def GlobAtomsSaid : Prop := globAtomsRow.holds Tryd.pinned (OpenSpec.ofChange globAtomsSpec)

/-- ITS FALSE NEIGHBOUR: 'it returns false'. Refute it at one input. -/
def globAtomsWrong : ChangeSpec := { name := "globAtoms", fn := fun _ => fun
  | [d1, d2, d3] => { results := [.lit (.bool false)], args := [d1, d2, d3] }
  | _ => none }
def GlobAtomsWrongFalsely : Prop := globAtomsRow.holds Tryd.pinned (OpenSpec.ofChange globAtomsWrong)

/-- 'portmanteaulaw11.GlobQuotes': WHATEVER THE INPUT: true; the input reads as it did. -/
def globQuotesSpec : ChangeSpec := { name := "globQuotes", fn := fun _ => fun
  | [d1, d2] => { results := [.lit (.bool true)], args := [d1, d2] }
  | _ => none }
def globQuotesRow : OpenClaim := { program := "ytalfmepimhneoaadoor", sum := "48c91969f251e3411f7fe5d456a4575c22fbc69a4101caec0ce8d2246ebaa294", func := "portmanteau/portmanteaulaw11.GlobQuotes", spec := "globQuotes", inPlace := ["internal/bytealg.IndexByteString", "internal/abi.NoEscape"], unfollowed := true, recurses := true, named := ["unicode/utf8.first", "unicode/utf8.acceptRanges"], apart := false, laid := [("unicode/utf8.acceptRanges", laid_unicode_utf8_acceptRanges), ("unicode/utf8.first", laid_unicode_utf8_first)] }
def GlobQuotesSaid : Prop := globQuotesRow.holds Tryd.pinned (OpenSpec.ofChange globQuotesSpec)

/-- ITS FALSE NEIGHBOUR: 'it returns false'. Refute it at one input. -/
def globQuotesWrong : ChangeSpec := { name := "globQuotes", fn := fun _ => fun
  | [d1, d2] => { results := [.lit (.bool false)], args := [d1, d2] }
  | _ => none }
def GlobQuotesWrongFalsely : Prop := globQuotesRow.holds Tryd.pinned (OpenSpec.ofChange globQuotesWrong)

/- THE SECOND FORM. 'bulk': how many values and letters a reading holds, each counted each time it is reached (what is shared counts as often as it is met; a slice's spare places count too). A statement '..UptoSaid' is the law's where the arguments, and the package variables that the reading takes, are together of bulk at most 1048576: NARROWER than '..Said'. Prove '..Said' where nothing that the law and all that it calls make is longer than what came in: it says more and counts as full. Else prove '..UptoSaid'. A law counts once. -/
mutual
def uptoBulk {H : Type} : DataW H → Nat
  | .lit (.string bytes) => bytes.length + 1
  | .lit _ => 1
  | .nil => 1
  | .ptr d => uptoBulk d + 1
  | .slice elems spare => uptoBulkAll elems + uptoBulkAll spare + 1
  | .agg parts => uptoBulkAll parts + 1
  | .iface _ d => uptoBulk d + 1
  | .map entries => uptoBulkEntries entries + 1
  | .held _ => 1
def uptoBulkAll {H : Type} : List (DataW H) → Nat
  | [] => 0
  | d :: r => uptoBulk d + uptoBulkAll r
def uptoBulkEntries {H : Type} : List (Lit × DataW H) → Nat
  | [] => 0
  | x :: r => uptoBulkEntry x + uptoBulkEntries r
def uptoBulkEntry {H : Type} : Lit × DataW H → Nat
  | (.string bytes, d) => bytes.length + uptoBulk d + 1
  | (_, d) => uptoBulk d + 1
 end
def uptoSmall : (H : Type) → List (DataW H) → Bool := fun _ ds => decide (uptoBulkAll ds ≤ 1048576)
def OpenSpec.upto (s : _root_.Go.ChangeSpec) : _root_.Go.OpenSpec := { _root_.Go.OpenSpec.ofChange s with cond := some uptoSmall }

/-- 'portmanteaulaw10.NameReads', WHERE WHAT IT READS IS OF BULK AT MOST 1048576: true; the input reads as it did. -/
def nameReadsUptoRow : OpenClaim := { program := "ytalfmepimhneoaadoor", sum := "48c91969f251e3411f7fe5d456a4575c22fbc69a4101caec0ce8d2246ebaa294", func := "portmanteau/portmanteaulaw10.NameReads", spec := "nameReads", inPlace := ["internal/bytealg.CountString", "internal/bytealg.IndexByteString", "internal/bytealg.IndexString", "internal/abi.NoEscape"], unfollowed := true, recurses := true, named := ["unicode/utf8.first", "unicode/utf8.acceptRanges", "internal/bytealg.MaxLen", "portmanteau/name.upper"], apart := false, laid := [("unicode/utf8.acceptRanges", laid_unicode_utf8_acceptRanges), ("portmanteau/name.upper", laid_portmanteau_name_upper), ("unicode/utf8.first", laid_unicode_utf8_first)], narrowed := true }
def NameReadsUptoSaid : Prop := nameReadsUptoRow.holds Tryd.pinned (OpenSpec.upto nameReadsSpec)

/-- 'portmanteaulaw10.NameChecks', WHERE WHAT IT READS IS OF BULK AT MOST 1048576: true; the input reads as it did. -/
def nameChecksUptoRow : OpenClaim := { program := "ytalfmepimhneoaadoor", sum := "48c91969f251e3411f7fe5d456a4575c22fbc69a4101caec0ce8d2246ebaa294", func := "portmanteau/portmanteaulaw10.NameChecks", spec := "nameChecks", inPlace := ["internal/bytealg.CountString", "internal/bytealg.IndexByteString", "internal/bytealg.IndexString"], unfollowed := true, recurses := true, named := ["unicode/utf8.first", "unicode/utf8.acceptRanges", "internal/bytealg.MaxLen"], apart := false, laid := [("unicode/utf8.acceptRanges", laid_unicode_utf8_acceptRanges), ("unicode/utf8.first", laid_unicode_utf8_first)], narrowed := true }
def NameChecksUptoSaid : Prop := nameChecksUptoRow.holds Tryd.pinned (OpenSpec.upto nameChecksSpec)

/-- 'portmanteaulaw10.NameParts', WHERE WHAT IT READS IS OF BULK AT MOST 1048576: true; the input reads as it did. -/
def namePartsUptoRow : OpenClaim := { program := "ytalfmepimhneoaadoor", sum := "48c91969f251e3411f7fe5d456a4575c22fbc69a4101caec0ce8d2246ebaa294", func := "portmanteau/portmanteaulaw10.NameParts", spec := "nameParts", inPlace := ["internal/bytealg.CountString", "internal/bytealg.IndexByteString", "internal/bytealg.IndexString"], unfollowed := true, recurses := true, named := ["unicode/utf8.first", "unicode/utf8.acceptRanges", "internal/bytealg.MaxLen"], apart := false, laid := [("unicode/utf8.acceptRanges", laid_unicode_utf8_acceptRanges), ("unicode/utf8.first", laid_unicode_utf8_first)], narrowed := true }
def NamePartsUptoSaid : Prop := namePartsUptoRow.holds Tryd.pinned (OpenSpec.upto namePartsSpec)

/-- 'portmanteaulaw10.NameBack', WHERE WHAT IT READS IS OF BULK AT MOST 1048576: true; the input reads as it did. -/
def nameBackUptoRow : OpenClaim := { program := "ytalfmepimhneoaadoor", sum := "48c91969f251e3411f7fe5d456a4575c22fbc69a4101caec0ce8d2246ebaa294", func := "portmanteau/portmanteaulaw10.NameBack", spec := "nameBack", inPlace := ["internal/bytealg.CountString", "internal/bytealg.IndexByteString", "internal/bytealg.IndexString", "internal/abi.NoEscape"], unfollowed := true, recurses := true, named := ["unicode/utf8.first", "unicode/utf8.acceptRanges", "internal/bytealg.MaxLen", "portmanteau/name.upper"], apart := false, laid := [("unicode/utf8.acceptRanges", laid_unicode_utf8_acceptRanges), ("portmanteau/name.upper", laid_portmanteau_name_upper), ("unicode/utf8.first", laid_unicode_utf8_first)], narrowed := true }
def NameBackUptoSaid : Prop := nameBackUptoRow.holds Tryd.pinned (OpenSpec.upto nameBackSpec)

/-- 'portmanteaulaw10.NameKeeps', WHERE WHAT IT READS IS OF BULK AT MOST 1048576: true; the input reads as it did. -/
def nameKeepsUptoRow : OpenClaim := { program := "ytalfmepimhneoaadoor", sum := "48c91969f251e3411f7fe5d456a4575c22fbc69a4101caec0ce8d2246ebaa294", func := "portmanteau/portmanteaulaw10.NameKeeps", spec := "nameKeeps", inPlace := ["internal/bytealg.CountString", "internal/bytealg.IndexByteString", "internal/bytealg.IndexString"], unfollowed := true, recurses := true, named := ["unicode/utf8.first", "unicode/utf8.acceptRanges", "internal/bytealg.MaxLen"], apart := false, laid := [("unicode/utf8.acceptRanges", laid_unicode_utf8_acceptRanges), ("unicode/utf8.first", laid_unicode_utf8_first)], narrowed := true }
def NameKeepsUptoSaid : Prop := nameKeepsUptoRow.holds Tryd.pinned (OpenSpec.upto nameKeepsSpec)

/-- 'portmanteaulaw10.NameOrders', WHERE WHAT IT READS IS OF BULK AT MOST 1048576: true; the input reads as it did. -/
def nameOrdersUptoRow : OpenClaim := { program := "ytalfmepimhneoaadoor", sum := "48c91969f251e3411f7fe5d456a4575c22fbc69a4101caec0ce8d2246ebaa294", func := "portmanteau/portmanteaulaw10.NameOrders", spec := "nameOrders", inPlace := ["internal/bytealg.CountString", "internal/bytealg.IndexByteString", "internal/bytealg.IndexString"], unfollowed := true, recurses := true, named := ["unicode/utf8.first", "unicode/utf8.acceptRanges", "internal/bytealg.MaxLen"], apart := false, laid := [("unicode/utf8.acceptRanges", laid_unicode_utf8_acceptRanges), ("unicode/utf8.first", laid_unicode_utf8_first)], narrowed := true }
def NameOrdersUptoSaid : Prop := nameOrdersUptoRow.holds Tryd.pinned (OpenSpec.upto nameOrdersSpec)

/-- 'portmanteaulaw11.GlobCompiles', WHERE WHAT IT READS IS OF BULK AT MOST 1048576: true; the input reads as it did. -/
def globCompilesUptoRow : OpenClaim := { program := "ytalfmepimhneoaadoor", sum := "48c91969f251e3411f7fe5d456a4575c22fbc69a4101caec0ce8d2246ebaa294", func := "portmanteau/portmanteaulaw11.GlobCompiles", spec := "globCompiles", inPlace := ["internal/bytealg.IndexByteString", "internal/abi.NoEscape"], unfollowed := true, recurses := true, named := ["unicode/utf8.first", "unicode/utf8.acceptRanges"], apart := false, laid := [("unicode/utf8.acceptRanges", laid_unicode_utf8_acceptRanges), ("unicode/utf8.first", laid_unicode_utf8_first)], narrowed := true }
def GlobCompilesUptoSaid : Prop := globCompilesUptoRow.holds Tryd.pinned (OpenSpec.upto globCompilesSpec)

/-- 'portmanteaulaw11.GlobMatches', WHERE WHAT IT READS IS OF BULK AT MOST 1048576: true; the input reads as it did. -/
def globMatchesUptoRow : OpenClaim := { program := "ytalfmepimhneoaadoor", sum := "48c91969f251e3411f7fe5d456a4575c22fbc69a4101caec0ce8d2246ebaa294", func := "portmanteau/portmanteaulaw11.GlobMatches", spec := "globMatches", unfollowed := true, recurses := true, named := ["unicode/utf8.first", "unicode/utf8.acceptRanges"], apart := false, laid := [("unicode/utf8.acceptRanges", laid_unicode_utf8_acceptRanges), ("unicode/utf8.first", laid_unicode_utf8_first)], narrowed := true }
def GlobMatchesUptoSaid : Prop := globMatchesUptoRow.holds Tryd.pinned (OpenSpec.upto globMatchesSpec)

/-- 'portmanteaulaw11.GlobAtoms', WHERE WHAT IT READS IS OF BULK AT MOST 1048576: true; the input reads as it did. -/
def globAtomsUptoRow : OpenClaim := { program := "ytalfmepimhneoaadoor", sum := "48c91969f251e3411f7fe5d456a4575c22fbc69a4101caec0ce8d2246ebaa294", func := "portmanteau/portmanteaulaw11.GlobAtoms", spec := "globAtoms", unfollowed := true, recurses := true, named := ["unicode/utf8.first", "unicode/utf8.acceptRanges"], apart := false, laid := [("unicode/utf8.acceptRanges", laid_unicode_utf8_acceptRanges), ("unicode/utf8.first", laid_unicode_utf8_first)], narrowed := true }
def GlobAtomsUptoSaid : Prop := globAtomsUptoRow.holds Tryd.pinned (OpenSpec.upto globAtomsSpec)

/-- 'portmanteaulaw11.GlobQuotes', WHERE WHAT IT READS IS OF BULK AT MOST 1048576: true; the input reads as it did. -/
def globQuotesUptoRow : OpenClaim := { program := "ytalfmepimhneoaadoor", sum := "48c91969f251e3411f7fe5d456a4575c22fbc69a4101caec0ce8d2246ebaa294", func := "portmanteau/portmanteaulaw11.GlobQuotes", spec := "globQuotes", inPlace := ["internal/bytealg.IndexByteString", "internal/abi.NoEscape"], unfollowed := true, recurses := true, named := ["unicode/utf8.first", "unicode/utf8.acceptRanges"], apart := false, laid := [("unicode/utf8.acceptRanges", laid_unicode_utf8_acceptRanges), ("unicode/utf8.first", laid_unicode_utf8_first)], narrowed := true }
def GlobQuotesUptoSaid : Prop := globQuotesUptoRow.holds Tryd.pinned (OpenSpec.upto globQuotesSpec)

end Rows
end Go.Proofs.YtalfmepimhneoaaDoor
