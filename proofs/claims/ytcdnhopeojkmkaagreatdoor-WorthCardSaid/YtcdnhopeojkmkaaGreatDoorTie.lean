/-
  DERIVED. GIVEN WITH THE SEED: THE PROGRAM's TIES (one call each: nine closed facts by the kernel) AND EACH ROW's TIE, after the 31st guide's Derived/Test/Toyas{Tie, Card}.lean. No idea stands in it: it is a product of the set-up. Laid BY PROGRAM, IN A SANDBOX (cutbox-door.mjs). By AI agents, Wed Nov 11 2026. No macro, syntax, notation, axiom, sorry.
-/
import Derived.Test.YtcdnhopeojkmkaaGreatDoorRows
import Derived.LaidByTextLater
import Derived.SevenTiedAt
import Derived.LaidSub
import Derived.LaidOnce
namespace Go.Proofs.YtcdnhopeojkmkaaGreatDoor
open Go
set_option maxRecDepth 100000
theorem seatTie1 : Tryz.prog.laidByTextLater [("slots/program.bytesBehind", Rows.laid_slots_program_bytesBehind), ("slots/program.takes", Rows.laid_slots_program_takes), ("slots/program.lays", Rows.laid_slots_program_lays), ("slots/token.words", Rows.laid_slots_token_words), ("slots/token.signs", Rows.laid_slots_token_signs)] [.data, .data, .data, .data, .data] true :=
  Program.laidByTextLater_by_one 34 8 20 (by kernel_rfl) (by kernel_rfl) (by kernel_rfl) (by kernel_rfl) (by kernel_rfl) (by kernel_rfl) (fun _ _ => by kernel_rfl)
theorem noOwnUnsafe : Tryz.pinned.checked.prog.headLifts.contains "ownunsafe" = false := by kernel_rfl
theorem tie : Tryz.prog.laidByTextLater [("slots/program.bytesBehind", Rows.laid_slots_program_bytesBehind), ("slots/program.takes", Rows.laid_slots_program_takes), ("slots/program.lays", Rows.laid_slots_program_lays), ("slots/token.words", Rows.laid_slots_token_words), ("slots/token.signs", Rows.laid_slots_token_signs)] [.data, .data, .data, .data, .data] true :=
  Program.laidByTextLater.sub seatTie1 ["slots/program.bytesBehind", "slots/program.takes", "slots/program.lays", "slots/token.words", "slots/token.signs"] (by kernel_rfl) (by kernel_rfl)
theorem worth_row_tie : Rows.worthRow.laidByTextAt .later Tryz.pinned [.data, .data, .data, .data, .data] true :=
  OpenClaim.laidByTextAt_later rfl rfl tie noOwnUnsafe
theorem fixed_row_tie : Rows.fixedRow.laidByTextAt .later Tryz.pinned [.data, .data, .data, .data, .data] true :=
  OpenClaim.laidByTextAt_later rfl rfl tie noOwnUnsafe
theorem firm_row_tie : Rows.firmRow.laidByTextAt .later Tryz.pinned [.data, .data, .data, .data, .data] true :=
  OpenClaim.laidByTextAt_later rfl rfl tie noOwnUnsafe
theorem tie2 : Tryz.prog.laidByTextLater [("slots/program.bytesBehind", Rows.laid_slots_program_bytesBehind), ("slots/token.words", Rows.laid_slots_token_words), ("slots/token.signs", Rows.laid_slots_token_signs)] [.data, .data, .data] true :=
  Program.laidByTextLater.sub seatTie1 ["slots/program.bytesBehind", "slots/token.words", "slots/token.signs"] (by kernel_rfl) (by kernel_rfl)
theorem apart_row_tie : Rows.apartRow.laidByTextAt .later Tryz.pinned [.data, .data, .data] true :=
  OpenClaim.laidByTextAt_later rfl rfl tie2 noOwnUnsafe
theorem worthUpto_row_tie : Rows.worthUptoRow.laidByTextAt .later Tryz.pinned [.data, .data, .data, .data, .data] true :=
  OpenClaim.laidByTextAt_later rfl rfl tie noOwnUnsafe
theorem fixedUpto_row_tie : Rows.fixedUptoRow.laidByTextAt .later Tryz.pinned [.data, .data, .data, .data, .data] true :=
  OpenClaim.laidByTextAt_later rfl rfl tie noOwnUnsafe
theorem firmUpto_row_tie : Rows.firmUptoRow.laidByTextAt .later Tryz.pinned [.data, .data, .data, .data, .data] true :=
  OpenClaim.laidByTextAt_later rfl rfl tie noOwnUnsafe
theorem apartUpto_row_tie : Rows.apartUptoRow.laidByTextAt .later Tryz.pinned [.data, .data, .data] true :=
  OpenClaim.laidByTextAt_later rfl rfl tie2 noOwnUnsafe
end Go.Proofs.YtcdnhopeojkmkaaGreatDoor
