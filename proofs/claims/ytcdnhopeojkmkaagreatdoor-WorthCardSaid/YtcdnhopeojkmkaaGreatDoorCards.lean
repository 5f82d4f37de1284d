/-
  DERIVED. GIVEN WITH THE SEED: THE CARDS: each row of YtcdnhopeojkmkaaGreatDoorRows.lean that lists a variable, with what it lists TIED to the program's text (the seventh form; the later family's looks); each row that meets fmt, with fmt's text TOLD by the authors' own Lean function (tested against real Go, not proved from fmt's source: count such statements apart). THE CARD IS WHAT COUNTS. Prove the row's statement (the work); the ties are given (YtcdnhopeojkmkaaGreatDoorTie.lean); close each card by the builder's one call (the guide's Derived/Test/ToyasCard.lean, 'card_holds'). Laid BY PROGRAM, IN A SANDBOX (cutbox-door.mjs). By AI agents, Wed Nov 11 2026. No macro, syntax, notation, axiom, sorry.
-/
import Derived.Test.YtcdnhopeojkmkaaGreatDoorRows
import GoSem.ClaimSeven
namespace Go.Proofs.YtcdnhopeojkmkaaGreatDoor
namespace Rows

/-- THE TIED CARD OF 'slotskeep.Worth'. -/
def worthCard : Claim7 := { stood := { row := worthRow, standIns := [], harness := (true, "5d96639a836c50d5a7d36ebb070765223a8ce4012aec8c99b44480fa8b34f1a1"), looks := false }, kinds := [], alts := [], laidByText := true, laidKinds := [.data, .data, .data, .data, .data], laidTests := true, laidLooks := .later }
def WorthCardSaid : Prop := Claim7.holds Tryz.pinned (.plain (OpenSpec.ofChange worthSpec)) worthCard

/-- THE TIED CARD OF 'slotskeep.Fixed'. -/
def fixedCard : Claim7 := { stood := { row := fixedRow, standIns := [], harness := (true, "5d96639a836c50d5a7d36ebb070765223a8ce4012aec8c99b44480fa8b34f1a1"), looks := false }, kinds := [], alts := [], laidByText := true, laidKinds := [.data, .data, .data, .data, .data], laidTests := true, laidLooks := .later }
def FixedCardSaid : Prop := Claim7.holds Tryz.pinned (.plain (OpenSpec.ofChange fixedSpec)) fixedCard

/-- THE TIED CARD OF 'slotskeep.Firm'. -/
def firmCard : Claim7 := { stood := { row := firmRow, standIns := [], harness := (true, "5d96639a836c50d5a7d36ebb070765223a8ce4012aec8c99b44480fa8b34f1a1"), looks := false }, kinds := [], alts := [], laidByText := true, laidKinds := [.data, .data, .data, .data, .data], laidTests := true, laidLooks := .later }
def FirmCardSaid : Prop := Claim7.holds Tryz.pinned (.plain (OpenSpec.ofChange firmSpec)) firmCard

/-- THE TIED CARD OF 'slotskeep.Apart'. -/
def apartCard : Claim7 := { stood := { row := apartRow, standIns := [], harness := (true, "5d96639a836c50d5a7d36ebb070765223a8ce4012aec8c99b44480fa8b34f1a1"), looks := false }, kinds := [], alts := [], laidByText := true, laidKinds := [.data, .data, .data], laidTests := true, laidLooks := .later }
def ApartCardSaid : Prop := Claim7.holds Tryz.pinned (.plain (OpenSpec.ofChange apartSpec)) apartCard

/-- THE SECOND FORM's CARD OF 'slotskeep.Worth'. -/
def worthUptoCard : Claim7 := { stood := { row := worthUptoRow, standIns := [], harness := (true, "5d96639a836c50d5a7d36ebb070765223a8ce4012aec8c99b44480fa8b34f1a1"), looks := false }, kinds := [], alts := [], laidByText := true, laidKinds := [.data, .data, .data, .data, .data], laidTests := true, laidLooks := .later }
def WorthUptoCardSaid : Prop := Claim7.holds Tryz.pinned (.plain (OpenSpec.upto worthSpec)) worthUptoCard

/-- THE SECOND FORM's CARD OF 'slotskeep.Fixed'. -/
def fixedUptoCard : Claim7 := { stood := { row := fixedUptoRow, standIns := [], harness := (true, "5d96639a836c50d5a7d36ebb070765223a8ce4012aec8c99b44480fa8b34f1a1"), looks := false }, kinds := [], alts := [], laidByText := true, laidKinds := [.data, .data, .data, .data, .data], laidTests := true, laidLooks := .later }
def FixedUptoCardSaid : Prop := Claim7.holds Tryz.pinned (.plain (OpenSpec.upto fixedSpec)) fixedUptoCard

/-- THE SECOND FORM's CARD OF 'slotskeep.Firm'. -/
def firmUptoCard : Claim7 := { stood := { row := firmUptoRow, standIns := [], harness := (true, "5d96639a836c50d5a7d36ebb070765223a8ce4012aec8c99b44480fa8b34f1a1"), looks := false }, kinds := [], alts := [], laidByText := true, laidKinds := [.data, .data, .data, .data, .data], laidTests := true, laidLooks := .later }
def FirmUptoCardSaid : Prop := Claim7.holds Tryz.pinned (.plain (OpenSpec.upto firmSpec)) firmUptoCard

/-- THE SECOND FORM's CARD OF 'slotskeep.Apart'. -/
def apartUptoCard : Claim7 := { stood := { row := apartUptoRow, standIns := [], harness := (true, "5d96639a836c50d5a7d36ebb070765223a8ce4012aec8c99b44480fa8b34f1a1"), looks := false }, kinds := [], alts := [], laidByText := true, laidKinds := [.data, .data, .data], laidTests := true, laidLooks := .later }
def ApartUptoCardSaid : Prop := Claim7.holds Tryz.pinned (.plain (OpenSpec.upto apartSpec)) apartUptoCard
end Rows
end Go.Proofs.YtcdnhopeojkmkaaGreatDoor
