/-
  DERIVED. GIVEN WITH THE SEED: THE PROGRAM's TIES (one call each: nine closed facts by the kernel) AND EACH ROW's TIE, after the 31st guide's Derived/Test/Toyas{Tie, Card}.lean. No idea stands in it: it is a product of the set-up. Laid BY PROGRAM, IN A SANDBOX (cutbox-door.mjs). By AI agents, Wed Nov 11 2026. No macro, syntax, notation, axiom, sorry.
-/
import Derived.Test.YtbdjcffmpbjjlaaDoorRows
import Derived.LaidByTextLater
import Derived.SevenTiedAt
import Derived.LaidSub
import Derived.LaidOnce
namespace Go.Proofs.YtbdjcffmpbjjlaaDoor
open Go
set_option maxRecDepth 100000
theorem seatTie1 : Tryd.prog.laidByTextLater [("slots/program.bytesBehind", Rows.laid_slots_program_bytesBehind), ("slots/program.takes", Rows.laid_slots_program_takes), ("slots/program.lays", Rows.laid_slots_program_lays)] [.data, .data, .data] true :=
  Program.laidByTextLater_by_one 24 8 19 (by kernel_rfl) (by kernel_rfl) (by kernel_rfl) (by kernel_rfl) (by kernel_rfl) (by kernel_rfl) (fun _ _ => by kernel_rfl)
theorem noOwnUnsafe : Tryd.pinned.checked.prog.headLifts.contains "ownunsafe" = false := by kernel_rfl
theorem tie : Tryd.prog.laidByTextLater [("slots/program.bytesBehind", Rows.laid_slots_program_bytesBehind), ("slots/program.takes", Rows.laid_slots_program_takes), ("slots/program.lays", Rows.laid_slots_program_lays)] [.data, .data, .data] true :=
  Program.laidByTextLater.sub seatTie1 ["slots/program.bytesBehind", "slots/program.takes", "slots/program.lays"] (by kernel_rfl) (by kernel_rfl)
theorem images_row_tie : Rows.imagesRow.laidByTextAt .later Tryd.pinned [.data, .data, .data] true :=
  OpenClaim.laidByTextAt_later rfl rfl tie noOwnUnsafe
theorem imagesUpto_row_tie : Rows.imagesUptoRow.laidByTextAt .later Tryd.pinned [.data, .data, .data] true :=
  OpenClaim.laidByTextAt_later rfl rfl tie noOwnUnsafe
end Go.Proofs.YtbdjcffmpbjjlaaDoor
