/-
  DERIVED. GIVEN WITH THE SEED: THE CARDS: each row of YtffpmkgjnjdbaabDoorRows.lean that lists a variable, with what it lists TIED to the program's text (the seventh form; the later family's looks); each row that meets fmt, with fmt's text TOLD by the authors' own Lean function (tested against real Go, not proved from fmt's source: count such statements apart). THE CARD IS WHAT COUNTS. Prove the row's statement (the work); the ties are given (YtffpmkgjnjdbaabDoorTie.lean); close each card by the builder's one call (the guide's Derived/Test/ToyasCard.lean, 'card_holds'). Laid BY PROGRAM, IN A SANDBOX (cutbox-door.mjs). By AI agents, Wed Nov 11 2026. No macro, syntax, notation, axiom, sorry.
-/
import Derived.Test.YtffpmkgjnjdbaabDoorRows
import GoSem.ClaimSeven
namespace Go.Proofs.YtffpmkgjnjdbaabDoor
namespace Rows

/-- THE TIED CARD OF 'slotskeep.Images'. -/
def imagesCard : Claim7 := { stood := { row := imagesRow, standIns := [], harness := (true, "2efbf863e179190c9ad3d06e61aedd49149c61a8b2fa92e4401b0d3818a749d3"), looks := false }, kinds := [], alts := [], laidByText := true, laidKinds := [.data, .data, .data], laidTests := true, laidLooks := .later }
def ImagesCardSaid : Prop := Claim7.holds Tryd.pinned (.plain (OpenSpec.ofChange imagesSpec)) imagesCard

/-- THE TIED CARD OF 'slotskeep.Halts'. -/
def haltsCard : Claim7 := { stood := { row := haltsRow, standIns := [], harness := (true, "2efbf863e179190c9ad3d06e61aedd49149c61a8b2fa92e4401b0d3818a749d3"), looks := false }, kinds := [], alts := [], laidByText := true, laidKinds := [.data, .data, .data], laidTests := true, laidLooks := .later }
def HaltsCardSaid : Prop := Claim7.holds Tryd.pinned (.plain (OpenSpec.ofChange haltsSpec)) haltsCard

/-- THE SECOND FORM's CARD OF 'slotskeep.Images'. -/
def imagesUptoCard : Claim7 := { stood := { row := imagesUptoRow, standIns := [], harness := (true, "2efbf863e179190c9ad3d06e61aedd49149c61a8b2fa92e4401b0d3818a749d3"), looks := false }, kinds := [], alts := [], laidByText := true, laidKinds := [.data, .data, .data], laidTests := true, laidLooks := .later }
def ImagesUptoCardSaid : Prop := Claim7.holds Tryd.pinned (.plain (OpenSpec.upto imagesSpec)) imagesUptoCard

/-- THE SECOND FORM's CARD OF 'slotskeep.Halts'. -/
def haltsUptoCard : Claim7 := { stood := { row := haltsUptoRow, standIns := [], harness := (true, "2efbf863e179190c9ad3d06e61aedd49149c61a8b2fa92e4401b0d3818a749d3"), looks := false }, kinds := [], alts := [], laidByText := true, laidKinds := [.data, .data, .data], laidTests := true, laidLooks := .later }
def HaltsUptoCardSaid : Prop := Claim7.holds Tryd.pinned (.plain (OpenSpec.upto haltsSpec)) haltsUptoCard
end Rows
end Go.Proofs.YtffpmkgjnjdbaabDoor
