/-
  DERIVED. GIVEN WITH THE SEED: THE CARDS: each row of YtmhalkkfpbkafaaDoorRows.lean that lists a variable, with what it lists TIED to the program's text (the seventh form; the later family's looks); each row that meets fmt, with fmt's text TOLD by the authors' own Lean function (tested against real Go, not proved from fmt's source: count such statements apart). THE CARD IS WHAT COUNTS. Prove the row's statement (the work); the ties are given (YtmhalkkfpbkafaaDoorTie.lean); close each card by the builder's one call (the guide's Derived/Test/ToyasCard.lean, 'card_holds'). Laid BY PROGRAM, IN A SANDBOX (cutbox-door.mjs). By AI agents, Wed Nov 11 2026. No macro, syntax, notation, axiom, sorry.
-/
import Derived.Test.YtmhalkkfpbkafaaDoorRows
import GoSem.ClaimSeven
namespace Go.Proofs.YtmhalkkfpbkafaaDoor
namespace Rows

/-- THE TIED CARD OF 'portmanteaulaw11.GlobCompiles'. -/
def globCompilesCard : Claim7 := { stood := { row := globCompilesRow, standIns := [], harness := (true, "144a46fd5c6fa99155db4d89c39d5305462f58e3cd753756dd86c7678aad2235"), looks := false }, kinds := [], alts := [], laidByText := true, laidKinds := [.data, .pinned], laidTests := true, laidLooks := .later }
def GlobCompilesCardSaid : Prop := Claim7.holds Tryd.pinned (.plain (OpenSpec.ofChange globCompilesSpec)) globCompilesCard

/-- THE TIED CARD OF 'portmanteaulaw11.GlobMatches'. -/
def globMatchesCard : Claim7 := { stood := { row := globMatchesRow, standIns := [], harness := (true, "144a46fd5c6fa99155db4d89c39d5305462f58e3cd753756dd86c7678aad2235"), looks := false }, kinds := [], alts := [], laidByText := true, laidKinds := [.data, .pinned], laidTests := true, laidLooks := .later }
def GlobMatchesCardSaid : Prop := Claim7.holds Tryd.pinned (.plain (OpenSpec.ofChange globMatchesSpec)) globMatchesCard

/-- THE TIED CARD OF 'portmanteaulaw11.GlobAtoms'. -/
def globAtomsCard : Claim7 := { stood := { row := globAtomsRow, standIns := [], harness := (true, "144a46fd5c6fa99155db4d89c39d5305462f58e3cd753756dd86c7678aad2235"), looks := false }, kinds := [], alts := [], laidByText := true, laidKinds := [.data, .pinned], laidTests := true, laidLooks := .later }
def GlobAtomsCardSaid : Prop := Claim7.holds Tryd.pinned (.plain (OpenSpec.ofChange globAtomsSpec)) globAtomsCard

/-- THE TIED CARD OF 'portmanteaulaw11.GlobQuotes'. -/
def globQuotesCard : Claim7 := { stood := { row := globQuotesRow, standIns := [], harness := (true, "144a46fd5c6fa99155db4d89c39d5305462f58e3cd753756dd86c7678aad2235"), looks := false }, kinds := [], alts := [], laidByText := true, laidKinds := [.data, .pinned], laidTests := true, laidLooks := .later }
def GlobQuotesCardSaid : Prop := Claim7.holds Tryd.pinned (.plain (OpenSpec.ofChange globQuotesSpec)) globQuotesCard

/-- THE TIED CARD OF 'portmanteaulaw14.FieldBack'. -/
def fieldBackCard : Claim7 := { stood := { row := fieldBackRow, standIns := [], harness := (true, "144a46fd5c6fa99155db4d89c39d5305462f58e3cd753756dd86c7678aad2235"), looks := false }, kinds := [], alts := [], laidByText := true, laidKinds := [.data], laidTests := true, laidLooks := .later }
def FieldBackCardSaid : Prop := Claim7.holds Tryd.pinned (.plain (OpenSpec.ofChange fieldBackSpec)) fieldBackCard

/-- THE SECOND FORM's CARD OF 'portmanteaulaw11.GlobCompiles'. -/
def globCompilesUptoCard : Claim7 := { stood := { row := globCompilesUptoRow, standIns := [], harness := (true, "144a46fd5c6fa99155db4d89c39d5305462f58e3cd753756dd86c7678aad2235"), looks := false }, kinds := [], alts := [], laidByText := true, laidKinds := [.data, .pinned], laidTests := true, laidLooks := .later }
def GlobCompilesUptoCardSaid : Prop := Claim7.holds Tryd.pinned (.plain (OpenSpec.upto globCompilesSpec)) globCompilesUptoCard

/-- THE SECOND FORM's CARD OF 'portmanteaulaw11.GlobMatches'. -/
def globMatchesUptoCard : Claim7 := { stood := { row := globMatchesUptoRow, standIns := [], harness := (true, "144a46fd5c6fa99155db4d89c39d5305462f58e3cd753756dd86c7678aad2235"), looks := false }, kinds := [], alts := [], laidByText := true, laidKinds := [.data, .pinned], laidTests := true, laidLooks := .later }
def GlobMatchesUptoCardSaid : Prop := Claim7.holds Tryd.pinned (.plain (OpenSpec.upto globMatchesSpec)) globMatchesUptoCard

/-- THE SECOND FORM's CARD OF 'portmanteaulaw11.GlobAtoms'. -/
def globAtomsUptoCard : Claim7 := { stood := { row := globAtomsUptoRow, standIns := [], harness := (true, "144a46fd5c6fa99155db4d89c39d5305462f58e3cd753756dd86c7678aad2235"), looks := false }, kinds := [], alts := [], laidByText := true, laidKinds := [.data, .pinned], laidTests := true, laidLooks := .later }
def GlobAtomsUptoCardSaid : Prop := Claim7.holds Tryd.pinned (.plain (OpenSpec.upto globAtomsSpec)) globAtomsUptoCard

/-- THE SECOND FORM's CARD OF 'portmanteaulaw11.GlobQuotes'. -/
def globQuotesUptoCard : Claim7 := { stood := { row := globQuotesUptoRow, standIns := [], harness := (true, "144a46fd5c6fa99155db4d89c39d5305462f58e3cd753756dd86c7678aad2235"), looks := false }, kinds := [], alts := [], laidByText := true, laidKinds := [.data, .pinned], laidTests := true, laidLooks := .later }
def GlobQuotesUptoCardSaid : Prop := Claim7.holds Tryd.pinned (.plain (OpenSpec.upto globQuotesSpec)) globQuotesUptoCard

/-- THE SECOND FORM's CARD OF 'portmanteaulaw14.FieldBack'. -/
def fieldBackUptoCard : Claim7 := { stood := { row := fieldBackUptoRow, standIns := [], harness := (true, "144a46fd5c6fa99155db4d89c39d5305462f58e3cd753756dd86c7678aad2235"), looks := false }, kinds := [], alts := [], laidByText := true, laidKinds := [.data], laidTests := true, laidLooks := .later }
def FieldBackUptoCardSaid : Prop := Claim7.holds Tryd.pinned (.plain (OpenSpec.upto fieldBackSpec)) fieldBackUptoCard
end Rows
end Go.Proofs.YtmhalkkfpbkafaaDoor
