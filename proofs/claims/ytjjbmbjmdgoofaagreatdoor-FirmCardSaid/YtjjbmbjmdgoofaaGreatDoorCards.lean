/-
  DERIVED. GIVEN WITH THE SEED: THE CARDS: each row of YtjjbmbjmdgoofaaGreatDoorRows.lean that lists a variable, with what it lists TIED to the program's text (the seventh form; the later family's looks); each row that meets fmt, with fmt's text TOLD by the authors' own Lean function (tested against real Go, not proved from fmt's source: count such statements apart). THE CARD IS WHAT COUNTS. Prove the row's statement (the work); the ties are given (YtjjbmbjmdgoofaaGreatDoorTie.lean); close each card by the builder's one call (the guide's Derived/Test/ToyasCard.lean, 'card_holds'). Laid BY PROGRAM, IN A SANDBOX (cutbox-door.mjs). By AI agents, Wed Nov 11 2026. No macro, syntax, notation, axiom, sorry.
-/
import Derived.Test.YtjjbmbjmdgoofaaGreatDoorRows
import GoSem.ClaimSeven
namespace Go.Proofs.YtjjbmbjmdgoofaaGreatDoor
namespace Rows

/-- THE TIED CARD OF 'slotskeep.Broken'. -/
def brokenCard : Claim7 := { stood := { row := brokenRow, standIns := [], harness := (true, "1f0df548ed414c1f06db30ef4ed233123853ffc1052a197877df3c6fd8bc5eb6"), looks := false }, kinds := [], alts := [], laidByText := true, laidKinds := [.data, .data, .data], laidTests := true, laidLooks := .later }
def BrokenCardSaid : Prop := Claim7.holds Tryz.pinned (.plain (OpenSpec.ofChange brokenSpec)) brokenCard

/-- THE TIED CARD OF 'slotskeep.Ranked'. -/
def rankedCard : Claim7 := { stood := { row := rankedRow, standIns := [], harness := (true, "1f0df548ed414c1f06db30ef4ed233123853ffc1052a197877df3c6fd8bc5eb6"), looks := false }, kinds := [], alts := [], laidByText := true, laidKinds := [.data, .data, .data, .data, .data], laidTests := true, laidLooks := .later }
def RankedCardSaid : Prop := Claim7.holds Tryz.pinned (.plain (OpenSpec.ofChange rankedSpec)) rankedCard

/-- THE TIED CARD OF 'slotskeep.Firm'. -/
def firmCard : Claim7 := { stood := { row := firmRow, standIns := [], harness := (true, "1f0df548ed414c1f06db30ef4ed233123853ffc1052a197877df3c6fd8bc5eb6"), looks := false }, kinds := [], alts := [], laidByText := true, laidKinds := [.data, .data, .data, .data, .data], laidTests := true, laidLooks := .later }
def FirmCardSaid : Prop := Claim7.holds Tryz.pinned (.plain (OpenSpec.ofChange firmSpec)) firmCard

/-- THE SECOND FORM's CARD OF 'slotskeep.Broken'. -/
def brokenUptoCard : Claim7 := { stood := { row := brokenUptoRow, standIns := [], harness := (true, "1f0df548ed414c1f06db30ef4ed233123853ffc1052a197877df3c6fd8bc5eb6"), looks := false }, kinds := [], alts := [], laidByText := true, laidKinds := [.data, .data, .data], laidTests := true, laidLooks := .later }
def BrokenUptoCardSaid : Prop := Claim7.holds Tryz.pinned (.plain (OpenSpec.upto brokenSpec)) brokenUptoCard

/-- THE SECOND FORM's CARD OF 'slotskeep.Ranked'. -/
def rankedUptoCard : Claim7 := { stood := { row := rankedUptoRow, standIns := [], harness := (true, "1f0df548ed414c1f06db30ef4ed233123853ffc1052a197877df3c6fd8bc5eb6"), looks := false }, kinds := [], alts := [], laidByText := true, laidKinds := [.data, .data, .data, .data, .data], laidTests := true, laidLooks := .later }
def RankedUptoCardSaid : Prop := Claim7.holds Tryz.pinned (.plain (OpenSpec.upto rankedSpec)) rankedUptoCard

/-- THE SECOND FORM's CARD OF 'slotskeep.Firm'. -/
def firmUptoCard : Claim7 := { stood := { row := firmUptoRow, standIns := [], harness := (true, "1f0df548ed414c1f06db30ef4ed233123853ffc1052a197877df3c6fd8bc5eb6"), looks := false }, kinds := [], alts := [], laidByText := true, laidKinds := [.data, .data, .data, .data, .data], laidTests := true, laidLooks := .later }
def FirmUptoCardSaid : Prop := Claim7.holds Tryz.pinned (.plain (OpenSpec.upto firmSpec)) firmUptoCard
end Rows
end Go.Proofs.YtjjbmbjmdgoofaaGreatDoor
