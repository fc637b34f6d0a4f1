/-
  DERIVED. GIVEN WITH THE SEED: THE CARDS: each row of YtkakegeammajgaaDoorRows.lean that lists a variable, with what it lists TIED to the program's text (the seventh form; the later family's looks); each row that meets fmt, with fmt's text TOLD by the authors' own Lean function (tested against real Go, not proved from fmt's source: count such statements apart). THE CARD IS WHAT COUNTS. Prove the row's statement (the work); the ties are given (YtkakegeammajgaaDoorTie.lean); close each card by the builder's one call (the guide's Derived/Test/ToyasCard.lean, 'card_holds'). Laid BY PROGRAM, IN A SANDBOX (cutbox-door.mjs). By AI agents, Wed Nov 11 2026. No macro, syntax, notation, axiom, sorry.
-/
import Derived.Test.YtkakegeammajgaaDoorRows
import GoSem.ClaimSeven
namespace Go.Proofs.YtkakegeammajgaaDoor
namespace Rows

/-- THE TIED CARD OF 'portmanteaulaw22.FilterTwice'. -/
def filterTwiceCard : Claim7 := { stood := { row := filterTwiceRow, standIns := [], harness := (true, "9025cbcdb462c7853ae22b44fe32eea955f614c1938bb82a6ea3ab9b7edcb703"), looks := false }, kinds := [], alts := [], laidByText := true, laidKinds := [.data, .pinned], laidTests := true, laidLooks := .later }
def FilterTwiceCardSaid : Prop := Claim7.holds Tryd.pinned (.plain (OpenSpec.ofChange filterTwiceSpec)) filterTwiceCard

/-- THE SECOND FORM's CARD OF 'portmanteaulaw22.FilterTwice'. -/
def filterTwiceUptoCard : Claim7 := { stood := { row := filterTwiceUptoRow, standIns := [], harness := (true, "9025cbcdb462c7853ae22b44fe32eea955f614c1938bb82a6ea3ab9b7edcb703"), looks := false }, kinds := [], alts := [], laidByText := true, laidKinds := [.data, .pinned], laidTests := true, laidLooks := .later }
def FilterTwiceUptoCardSaid : Prop := Claim7.holds Tryd.pinned (.plain (OpenSpec.upto filterTwiceSpec)) filterTwiceUptoCard
end Rows
end Go.Proofs.YtkakegeammajgaaDoor
