/-
  DERIVED. GIVEN WITH THE SEED: THE CARDS: each row of YtkcckhnmljckaaaGreatDoorRows.lean that lists a variable, with what it lists TIED to the program's text (the seventh form; the later family's looks); each row that meets fmt, with fmt's text TOLD by the authors' own Lean function (tested against real Go, not proved from fmt's source: count such statements apart). THE CARD IS WHAT COUNTS. Prove the row's statement (the work); the ties are given (YtkcckhnmljckaaaGreatDoorTie.lean); close each card by the builder's one call (the guide's Derived/Test/ToyasCard.lean, 'card_holds'). Laid BY PROGRAM, IN A SANDBOX (cutbox-door.mjs). By AI agents, Wed Nov 11 2026. No macro, syntax, notation, axiom, sorry.
-/
import Derived.Test.YtkcckhnmljckaaaGreatDoorRows
import GoSem.ClaimSeven
namespace Go.Proofs.YtkcckhnmljckaaaGreatDoor
namespace Rows

/-- THE TIED CARD OF 'portmanteaulaw24.PlanResults'. -/
def planResultsCard : Claim7 := { stood := { row := planResultsRow, standIns := [], harness := (true, "fae1c9c4d66dfd4aae3c28bdf3489373e656281b3994a3247817dcbf3c71970e"), looks := false }, kinds := [], alts := [], laidByText := true, laidKinds := [.data, .data, .pinned], laidTests := true, laidLooks := .later }
def PlanResultsCardSaid : Prop := Claim7.holds Tryz.pinned (.plain (OpenSpec.ofChange planResultsSpec)) planResultsCard

/-- THE SECOND FORM's CARD OF 'portmanteaulaw24.PlanResults'. -/
def planResultsUptoCard : Claim7 := { stood := { row := planResultsUptoRow, standIns := [], harness := (true, "fae1c9c4d66dfd4aae3c28bdf3489373e656281b3994a3247817dcbf3c71970e"), looks := false }, kinds := [], alts := [], laidByText := true, laidKinds := [.data, .data, .pinned], laidTests := true, laidLooks := .later }
def PlanResultsUptoCardSaid : Prop := Claim7.holds Tryz.pinned (.plain (OpenSpec.upto planResultsSpec)) planResultsUptoCard
end Rows
end Go.Proofs.YtkcckhnmljckaaaGreatDoor
