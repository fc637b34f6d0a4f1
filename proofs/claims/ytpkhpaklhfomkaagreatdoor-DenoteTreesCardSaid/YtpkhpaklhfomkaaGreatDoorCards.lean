/-
  DERIVED. GIVEN WITH THE SEED: THE CARDS: each row of YtpkhpaklhfomkaaGreatDoorRows.lean that lists a variable, with what it lists TIED to the program's text (the seventh form; the later family's looks); each row that meets fmt, with fmt's text TOLD by the authors' own Lean function (tested against real Go, not proved from fmt's source: count such statements apart). THE CARD IS WHAT COUNTS. Prove the row's statement (the work); the ties are given (YtpkhpaklhfomkaaGreatDoorTie.lean); close each card by the builder's one call (the guide's Derived/Test/ToyasCard.lean, 'card_holds'). Laid BY PROGRAM, IN A SANDBOX (cutbox-door.mjs). By AI agents, Wed Nov 11 2026. No macro, syntax, notation, axiom, sorry.
-/
import Derived.Test.YtpkhpaklhfomkaaGreatDoorRows
import GoSem.ClaimSeven
namespace Go.Proofs.YtpkhpaklhfomkaaGreatDoor
namespace Rows

/-- THE TIED CARD OF 'portmanteaulaw21.DenoteTrees'. -/
def denoteTreesCard : Claim7 := { stood := { row := denoteTreesRow, standIns := [], harness := (true, "506cd906724818c38d0d6147d9b1cff377e988cf66a113c7d1330ca4edc591b7"), looks := false }, kinds := [], alts := [], laidByText := true, laidKinds := [.data, .pinned], laidTests := true, laidLooks := .later }
def DenoteTreesCardSaid : Prop := Claim7.holds Tryz.pinned (.plain (OpenSpec.ofChange denoteTreesSpec)) denoteTreesCard

/-- THE TIED CARD OF 'portmanteaulaw21.DenoteOver'. -/
def denoteOverCard : Claim7 := { stood := { row := denoteOverRow, standIns := [], harness := (true, "506cd906724818c38d0d6147d9b1cff377e988cf66a113c7d1330ca4edc591b7"), looks := false }, kinds := [], alts := [], laidByText := true, laidKinds := [.data, .pinned], laidTests := true, laidLooks := .later }
def DenoteOverCardSaid : Prop := Claim7.holds Tryz.pinned (.plain (OpenSpec.ofChange denoteOverSpec)) denoteOverCard

/-- THE TIED CARD OF 'portmanteaulaw25.OrderSafe'. -/
def orderSafeCard : Claim7 := { stood := { row := orderSafeRow, standIns := [], harness := (true, "506cd906724818c38d0d6147d9b1cff377e988cf66a113c7d1330ca4edc591b7"), looks := false }, kinds := [], alts := [], laidByText := true, laidKinds := [.data, .pinned], laidTests := true, laidLooks := .later }
def OrderSafeCardSaid : Prop := Claim7.holds Tryz.pinned (.plain (OpenSpec.ofChange orderSafeSpec)) orderSafeCard

/-- THE SECOND FORM's CARD OF 'portmanteaulaw21.DenoteTrees'. -/
def denoteTreesUptoCard : Claim7 := { stood := { row := denoteTreesUptoRow, standIns := [], harness := (true, "506cd906724818c38d0d6147d9b1cff377e988cf66a113c7d1330ca4edc591b7"), looks := false }, kinds := [], alts := [], laidByText := true, laidKinds := [.data, .pinned], laidTests := true, laidLooks := .later }
def DenoteTreesUptoCardSaid : Prop := Claim7.holds Tryz.pinned (.plain (OpenSpec.upto denoteTreesSpec)) denoteTreesUptoCard

/-- THE SECOND FORM's CARD OF 'portmanteaulaw21.DenoteOver'. -/
def denoteOverUptoCard : Claim7 := { stood := { row := denoteOverUptoRow, standIns := [], harness := (true, "506cd906724818c38d0d6147d9b1cff377e988cf66a113c7d1330ca4edc591b7"), looks := false }, kinds := [], alts := [], laidByText := true, laidKinds := [.data, .pinned], laidTests := true, laidLooks := .later }
def DenoteOverUptoCardSaid : Prop := Claim7.holds Tryz.pinned (.plain (OpenSpec.upto denoteOverSpec)) denoteOverUptoCard

/-- THE SECOND FORM's CARD OF 'portmanteaulaw25.OrderSafe'. -/
def orderSafeUptoCard : Claim7 := { stood := { row := orderSafeUptoRow, standIns := [], harness := (true, "506cd906724818c38d0d6147d9b1cff377e988cf66a113c7d1330ca4edc591b7"), looks := false }, kinds := [], alts := [], laidByText := true, laidKinds := [.data, .pinned], laidTests := true, laidLooks := .later }
def OrderSafeUptoCardSaid : Prop := Claim7.holds Tryz.pinned (.plain (OpenSpec.upto orderSafeSpec)) orderSafeUptoCard
end Rows
end Go.Proofs.YtpkhpaklhfomkaaGreatDoor
