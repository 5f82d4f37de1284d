/-
  DERIVED. GIVEN WITH THE SEED: THE CARDS: each row of YtpcjadaeolkngaaGreatDoorRows.lean that lists a variable, with what it lists TIED to the program's text (the seventh form; the later family's looks); each row that meets fmt, with fmt's text TOLD by the authors' own Lean function (tested against real Go, not proved from fmt's source: count such statements apart). THE CARD IS WHAT COUNTS. Prove the row's statement (the work); the ties are given (YtpcjadaeolkngaaGreatDoorTie.lean); close each card by the builder's one call (the guide's Derived/Test/ToyasCard.lean, 'card_holds'). Laid BY PROGRAM, IN A SANDBOX (cutbox-door.mjs). By AI agents, Wed Nov 11 2026. No macro, syntax, notation, axiom, sorry.
-/
import Derived.Test.YtpcjadaeolkngaaGreatDoorRows
import GoSem.ClaimSeven
namespace Go.Proofs.YtpcjadaeolkngaaGreatDoor
namespace Rows

/-- THE TIED CARD OF 'slotskeep.Again'. -/
def againCard : Claim7 := { stood := { row := againRow, standIns := [], harness := (true, "abb13b599f4d5e004f7c5fb1d7f50e8065d13357a5708c5b73bdffc29de6a1a6"), looks := false }, kinds := [], alts := [], laidByText := true, laidKinds := [.data, .data, .data, .data, .data], laidTests := true, laidLooks := .later }
def AgainCardSaid : Prop := Claim7.holds Tryz.pinned (.plain (OpenSpec.ofChange againSpec)) againCard

/-- THE TIED CARD OF 'slotskeep.Ranked'. -/
def rankedCard : Claim7 := { stood := { row := rankedRow, standIns := [], harness := (true, "abb13b599f4d5e004f7c5fb1d7f50e8065d13357a5708c5b73bdffc29de6a1a6"), looks := false }, kinds := [], alts := [], laidByText := true, laidKinds := [.data, .data, .data, .data, .data], laidTests := true, laidLooks := .later }
def RankedCardSaid : Prop := Claim7.holds Tryz.pinned (.plain (OpenSpec.ofChange rankedSpec)) rankedCard

/-- THE SECOND FORM's CARD OF 'slotskeep.Again'. -/
def againUptoCard : Claim7 := { stood := { row := againUptoRow, standIns := [], harness := (true, "abb13b599f4d5e004f7c5fb1d7f50e8065d13357a5708c5b73bdffc29de6a1a6"), looks := false }, kinds := [], alts := [], laidByText := true, laidKinds := [.data, .data, .data, .data, .data], laidTests := true, laidLooks := .later }
def AgainUptoCardSaid : Prop := Claim7.holds Tryz.pinned (.plain (OpenSpec.upto againSpec)) againUptoCard

/-- THE SECOND FORM's CARD OF 'slotskeep.Ranked'. -/
def rankedUptoCard : Claim7 := { stood := { row := rankedUptoRow, standIns := [], harness := (true, "abb13b599f4d5e004f7c5fb1d7f50e8065d13357a5708c5b73bdffc29de6a1a6"), looks := false }, kinds := [], alts := [], laidByText := true, laidKinds := [.data, .data, .data, .data, .data], laidTests := true, laidLooks := .later }
def RankedUptoCardSaid : Prop := Claim7.holds Tryz.pinned (.plain (OpenSpec.upto rankedSpec)) rankedUptoCard
end Rows
end Go.Proofs.YtpcjadaeolkngaaGreatDoor
