/-
  DERIVED. GIVEN WITH THE SEED: THE CARDS: each row of YtpmielookhacoaaDoorRows.lean that lists a variable, with what it lists TIED to the program's text (the seventh form; the later family's looks); each row that meets fmt, with fmt's text TOLD by the authors' own Lean function (tested against real Go, not proved from fmt's source: count such statements apart). THE CARD IS WHAT COUNTS. Prove the row's statement (the work); the ties are given (YtpmielookhacoaaDoorTie.lean); close each card by the builder's one call (the guide's Derived/Test/ToyasCard.lean, 'card_holds'). Laid BY PROGRAM, IN A SANDBOX (cutbox-door.mjs). By AI agents, Wed Nov 11 2026. No macro, syntax, notation, axiom, sorry.
-/
import Derived.Test.YtpmielookhacoaaDoorRows
import GoSem.ClaimSeven
namespace Go.Proofs.YtpmielookhacoaaDoor
namespace Rows

/-- THE TIED CARD OF 'portmanteaulaw11.GlobAtoms'. -/
def globAtomsCard : Claim7 := { stood := { row := globAtomsRow, standIns := [], harness := (true, "9a97ffe938c70e4c8e3e992025e28bdef26d096bdb8379cf8c956496a9565b05"), looks := false }, kinds := [], alts := [], laidByText := true, laidKinds := [.data, .pinned], laidTests := true, laidLooks := .later }
def GlobAtomsCardSaid : Prop := Claim7.holds Tryd.pinned (.plain (OpenSpec.ofChange globAtomsSpec)) globAtomsCard

/-- THE SECOND FORM's CARD OF 'portmanteaulaw11.GlobAtoms'. -/
def globAtomsUptoCard : Claim7 := { stood := { row := globAtomsUptoRow, standIns := [], harness := (true, "9a97ffe938c70e4c8e3e992025e28bdef26d096bdb8379cf8c956496a9565b05"), looks := false }, kinds := [], alts := [], laidByText := true, laidKinds := [.data, .pinned], laidTests := true, laidLooks := .later }
def GlobAtomsUptoCardSaid : Prop := Claim7.holds Tryd.pinned (.plain (OpenSpec.upto globAtomsSpec)) globAtomsUptoCard
end Rows
end Go.Proofs.YtpmielookhacoaaDoor
