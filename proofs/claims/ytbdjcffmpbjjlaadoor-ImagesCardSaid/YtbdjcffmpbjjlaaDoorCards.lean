/-
  DERIVED. GIVEN WITH THE SEED: THE CARDS: each row of YtbdjcffmpbjjlaaDoorRows.lean that lists a variable, with what it lists TIED to the program's text (the seventh form; the later family's looks); each row that meets fmt, with fmt's text TOLD by the authors' own Lean function (tested against real Go, not proved from fmt's source: count such statements apart). THE CARD IS WHAT COUNTS. Prove the row's statement (the work); the ties are given (YtbdjcffmpbjjlaaDoorTie.lean); close each card by the builder's one call (the guide's Derived/Test/ToyasCard.lean, 'card_holds'). Laid BY PROGRAM, IN A SANDBOX (cutbox-door.mjs). By AI agents, Wed Nov 11 2026. No macro, syntax, notation, axiom, sorry.
-/
import Derived.Test.YtbdjcffmpbjjlaaDoorRows
import GoSem.ClaimSeven
namespace Go.Proofs.YtbdjcffmpbjjlaaDoor
namespace Rows

/-- THE TIED CARD OF 'slotskeep.Images'. -/
def imagesCard : Claim7 := { stood := { row := imagesRow, standIns := [], harness := (true, "2f839a2be01cafe7975b8a9936e259ea6c4cc21dcf2f1a6dfa1473dac489c99a"), looks := false }, kinds := [], alts := [], laidByText := true, laidKinds := [.data, .data, .data], laidTests := true, laidLooks := .later }
def ImagesCardSaid : Prop := Claim7.holds Tryd.pinned (.plain (OpenSpec.ofChange imagesSpec)) imagesCard

/-- THE SECOND FORM's CARD OF 'slotskeep.Images'. -/
def imagesUptoCard : Claim7 := { stood := { row := imagesUptoRow, standIns := [], harness := (true, "2f839a2be01cafe7975b8a9936e259ea6c4cc21dcf2f1a6dfa1473dac489c99a"), looks := false }, kinds := [], alts := [], laidByText := true, laidKinds := [.data, .data, .data], laidTests := true, laidLooks := .later }
def ImagesUptoCardSaid : Prop := Claim7.holds Tryd.pinned (.plain (OpenSpec.upto imagesSpec)) imagesUptoCard
end Rows
end Go.Proofs.YtbdjcffmpbjjlaaDoor
