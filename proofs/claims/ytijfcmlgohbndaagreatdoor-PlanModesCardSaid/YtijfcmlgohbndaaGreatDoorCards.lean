/-
  DERIVED. GIVEN WITH THE SEED: THE CARDS: each row of YtijfcmlgohbndaaGreatDoorRows.lean that lists a variable, with what it lists TIED to the program's text (the seventh form; the later family's looks); each row that meets fmt, with fmt's text TOLD by the authors' own Lean function (tested against real Go, not proved from fmt's source: count such statements apart). THE CARD IS WHAT COUNTS. Prove the row's statement (the work); the ties are given (YtijfcmlgohbndaaGreatDoorTie.lean); close each card by the builder's one call (the guide's Derived/Test/ToyasCard.lean, 'card_holds'). Laid BY PROGRAM, IN A SANDBOX (cutbox-door.mjs). By AI agents, Wed Nov 11 2026. No macro, syntax, notation, axiom, sorry.
-/
import Derived.Test.YtijfcmlgohbndaaGreatDoorRows
import GoSem.ClaimSeven
namespace Go.Proofs.YtijfcmlgohbndaaGreatDoor
namespace Rows

/-- THE TIED CARD OF 'portmanteaulaw24.PlanModes'. -/
def planModesCard : Claim7 := { stood := { row := planModesRow, standIns := [], harness := (true, "f33a0c7d43c290a7a0456d25cf818893fe200bf021ca93b9b3a4cff165227986"), looks := false }, kinds := [], alts := [], laidByText := true, laidKinds := [.data, .data, .pinned], laidTests := true, laidLooks := .later }
def PlanModesCardSaid : Prop := Claim7.holds Tryz.pinned (.plain (OpenSpec.ofChange planModesSpec)) planModesCard

/-- THE SECOND FORM's CARD OF 'portmanteaulaw24.PlanModes'. -/
def planModesUptoCard : Claim7 := { stood := { row := planModesUptoRow, standIns := [], harness := (true, "f33a0c7d43c290a7a0456d25cf818893fe200bf021ca93b9b3a4cff165227986"), looks := false }, kinds := [], alts := [], laidByText := true, laidKinds := [.data, .data, .pinned], laidTests := true, laidLooks := .later }
def PlanModesUptoCardSaid : Prop := Claim7.holds Tryz.pinned (.plain (OpenSpec.upto planModesSpec)) planModesUptoCard
end Rows
end Go.Proofs.YtijfcmlgohbndaaGreatDoor
