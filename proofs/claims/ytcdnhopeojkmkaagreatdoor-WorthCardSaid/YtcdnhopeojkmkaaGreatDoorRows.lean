/-
  NARROWER THAN 'FOR EVERY INPUT', by the rows' own cells (each row's printed sentence says how): Worth: laid · Fixed: laid · Firm: laid · Apart: laid.
  DERIVED. THE GIVEN ROWS OF THIS SEAT. 4 by the template 'for every input the law returns true; each argument reads behind the call as it read before'; 0 by the template 'total and deterministic' (their statements: YtcdnhopeojkmkaaGreatDoorTotals.lean).
  GIVEN WITH THE SEED: the statements are not yours to turn. If you find one false, say at which input.
  Laid BY PROGRAM, IN A SANDBOX (cutbox-rows.mjs): the forced cells as the released guide's own fill.sh prints them over the translation 684c8d5a7220f914… (all of the seat's roots in one cut). By AI agents, Wed Nov 11 2026. No macro, syntax, notation, axiom, sorry.
-/
import Derived.Test.YtcdnhopeojkmkaaGreatDoorChecked
import GoSem.Claim
import GoSem.ClaimJoined
import GoSem.ClaimMapViews
import Derived.JoinedTies
import Derived.KernelRfl
namespace Go.Proofs.YtcdnhopeojkmkaaGreatDoor
/- THE CELL 'sum', in the pinned program and in every row, IS THE sha256 OF THE DUMP (.gsa) THAT YtcdnhopeojkmkaaGreatDoorProg.lean LOADS. Nothing in Lean hashes anything: it is a label: what it is worth is what the hold of that sum in a sandbox is worth. -/
noncomputable def Tryz.pinned : Pinned := { name := "ytcdnhopeojkmkaagreatdoor", sum := "684c8d5a7220f91406ef79570564b9fc733233ddcd189bbde5f68a76c19a9ece", checked := Tryz.checked }
namespace Rows
def none {H : Type} : Left H := { results := [], args := [] }

/- WHAT THE LISTED PACKAGE-LEVEL VARIABLES READ AS WHEN THE CALL BEGINS. Each datum BY PROGRAM (the guide's laid-datum.mjs) off the statement by which the dump's own 'gosem.cut.vars' lays the variable. In a bare row this is a premise. The card (YtcdnhopeojkmkaaGreatDoorCards.lean) ties it to the program's text. -/
def laid_slots_program_bytesBehind {H : Type} : DataW H := .agg [.lit (.int .i64 8), .lit (.int .i64 1), .lit (.int .i64 0), .lit (.int .i64 0), .lit (.int .i64 0), .lit (.int .i64 0), .lit (.int .i64 0), .lit (.int .i64 0), .lit (.int .i64 0), .lit (.int .i64 0), .lit (.int .i64 0), .lit (.int .i64 0), .lit (.int .i64 0), .lit (.int .i64 2), .lit (.int .i64 2), .lit (.int .i64 2), .lit (.int .i64 0), .lit (.int .i64 0)]
def laid_slots_program_takes {H : Type} : DataW H := .agg [.lit (.int .i64 0), .lit (.int .i64 0), .lit (.int .i64 1), .lit (.int .i64 1), .lit (.int .i64 2), .lit (.int .i64 2), .lit (.int .i64 2), .lit (.int .i64 2), .lit (.int .i64 2), .lit (.int .i64 2), .lit (.int .i64 2), .lit (.int .i64 2), .lit (.int .i64 2), .lit (.int .i64 0), .lit (.int .i64 1), .lit (.int .i64 1), .lit (.int .i64 1), .lit (.int .i64 0)]
def laid_slots_program_lays {H : Type} : DataW H := .agg [.lit (.int .i64 1), .lit (.int .i64 1), .lit (.int .i64 1), .lit (.int .i64 1), .lit (.int .i64 1), .lit (.int .i64 1), .lit (.int .i64 1), .lit (.int .i64 1), .lit (.int .i64 1), .lit (.int .i64 1), .lit (.int .i64 1), .lit (.int .i64 1), .lit (.int .i64 1), .lit (.int .i64 0), .lit (.int .i64 0), .lit (.int .i64 0), .lit (.int .i64 0), .lit (.int .i64 0)]
def laid_slots_token_words {H : Type} : DataW H := .agg [.lit (.string [108, 101, 116]), .lit (.string [119, 104, 101, 110]), .lit (.string [115, 99, 111, 114, 101]), .lit (.string [114, 101, 106, 101, 99, 116]), .lit (.string [97, 110, 100]), .lit (.string [111, 114]), .lit (.string [110, 111, 116]), .lit (.string [116, 114, 117, 101]), .lit (.string [102, 97, 108, 115, 101]), .lit (.string [100, 114, 121]), .lit (.string [99, 111, 108, 100]), .lit (.string [115, 97, 102, 101]), .lit (.string [115, 105, 122, 101]), .lit (.string [115, 112, 101, 101, 100]), .lit (.string [110, 101, 101, 100]), .lit (.string [122, 111, 110, 101]), .lit (.string [99, 97, 112]), .lit (.string [117, 115, 101, 100]), .lit (.string [104, 97, 115])]
def laid_slots_token_signs {H : Type} : DataW H := .agg [.lit (.string [59]), .lit (.string [61]), .lit (.string [33, 61]), .lit (.string [60]), .lit (.string [60, 61]), .lit (.string [43]), .lit (.string [45]), .lit (.string [42]), .lit (.string [47]), .lit (.string [37]), .lit (.string [40]), .lit (.string [41])]

/-- 'slotskeep.Worth': WHATEVER THE INPUT: true; the input reads as it did. -/
def worthSpec : ChangeSpec := { name := "worth", fn := fun _ => fun
  | [d1, d2, d3, d4, d5] => { results := [.lit (.bool true)], args := [d1, d2, d3, d4, d5] }
  | _ => none }
def worthRow : OpenClaim := { program := "ytcdnhopeojkmkaagreatdoor", sum := "684c8d5a7220f91406ef79570564b9fc733233ddcd189bbde5f68a76c19a9ece", func := "slots/slotskeep.Worth", spec := "worth", recurses := true, named := ["slots/token.words", "slots/token.signs", "slots/program.bytesBehind", "slots/program.takes", "slots/program.lays"], apart := false, laid := [("slots/program.bytesBehind", laid_slots_program_bytesBehind), ("slots/program.takes", laid_slots_program_takes), ("slots/program.lays", laid_slots_program_lays), ("slots/token.words", laid_slots_token_words), ("slots/token.signs", laid_slots_token_signs)] }
def WorthSaid : Prop := worthRow.holds Tryz.pinned (OpenSpec.ofChange worthSpec)

/-- ITS FALSE NEIGHBOUR: 'it returns false'. Refute it at one input. -/
def worthWrong : ChangeSpec := { name := "worth", fn := fun _ => fun
  | [d1, d2, d3, d4, d5] => { results := [.lit (.bool false)], args := [d1, d2, d3, d4, d5] }
  | _ => none }
def WorthWrongFalsely : Prop := worthRow.holds Tryz.pinned (OpenSpec.ofChange worthWrong)

/-- 'slotskeep.Fixed': WHATEVER THE INPUT: true; the input reads as it did. -/
def fixedSpec : ChangeSpec := { name := "fixed", fn := fun _ => fun
  | [d1, d2, d3, d4, d5] => { results := [.lit (.bool true)], args := [d1, d2, d3, d4, d5] }
  | _ => none }
def fixedRow : OpenClaim := { program := "ytcdnhopeojkmkaagreatdoor", sum := "684c8d5a7220f91406ef79570564b9fc733233ddcd189bbde5f68a76c19a9ece", func := "slots/slotskeep.Fixed", spec := "fixed", recurses := true, named := ["slots/token.words", "slots/token.signs", "slots/program.bytesBehind", "slots/program.takes", "slots/program.lays"], apart := false, laid := [("slots/program.bytesBehind", laid_slots_program_bytesBehind), ("slots/program.takes", laid_slots_program_takes), ("slots/program.lays", laid_slots_program_lays), ("slots/token.words", laid_slots_token_words), ("slots/token.signs", laid_slots_token_signs)] }
def FixedSaid : Prop := fixedRow.holds Tryz.pinned (OpenSpec.ofChange fixedSpec)

/-- ITS FALSE NEIGHBOUR: 'it returns false'. Refute it at one input. -/
def fixedWrong : ChangeSpec := { name := "fixed", fn := fun _ => fun
  | [d1, d2, d3, d4, d5] => { results := [.lit (.bool false)], args := [d1, d2, d3, d4, d5] }
  | _ => none }
def FixedWrongFalsely : Prop := fixedRow.holds Tryz.pinned (OpenSpec.ofChange fixedWrong)

/-- 'slotskeep.Firm': WHATEVER THE INPUT: true; the input reads as it did. -/
def firmSpec : ChangeSpec := { name := "firm", fn := fun _ => fun
  | [d1, d2] => { results := [.lit (.bool true)], args := [d1, d2] }
  | _ => none }
def firmRow : OpenClaim := { program := "ytcdnhopeojkmkaagreatdoor", sum := "684c8d5a7220f91406ef79570564b9fc733233ddcd189bbde5f68a76c19a9ece", func := "slots/slotskeep.Firm", spec := "firm", recurses := true, named := ["slots/token.words", "slots/token.signs", "slots/program.bytesBehind", "slots/program.takes", "slots/program.lays"], apart := false, laid := [("slots/program.bytesBehind", laid_slots_program_bytesBehind), ("slots/program.takes", laid_slots_program_takes), ("slots/program.lays", laid_slots_program_lays), ("slots/token.words", laid_slots_token_words), ("slots/token.signs", laid_slots_token_signs)] }
def FirmSaid : Prop := firmRow.holds Tryz.pinned (OpenSpec.ofChange firmSpec)

/-- ITS FALSE NEIGHBOUR: 'it returns false'. Refute it at one input. -/
def firmWrong : ChangeSpec := { name := "firm", fn := fun _ => fun
  | [d1, d2] => { results := [.lit (.bool false)], args := [d1, d2] }
  | _ => none }
def FirmWrongFalsely : Prop := firmRow.holds Tryz.pinned (OpenSpec.ofChange firmWrong)

/-- 'slotskeep.Apart': WHATEVER THE INPUT: true; the input reads as it did. -/
def apartSpec : ChangeSpec := { name := "apart", fn := fun _ => fun
  | [d1, d2, d3] => { results := [.lit (.bool true)], args := [d1, d2, d3] }
  | _ => none }
def apartRow : OpenClaim := { program := "ytcdnhopeojkmkaagreatdoor", sum := "684c8d5a7220f91406ef79570564b9fc733233ddcd189bbde5f68a76c19a9ece", func := "slots/slotskeep.Apart", spec := "apart", recurses := true, named := ["slots/token.words", "slots/token.signs", "slots/program.bytesBehind"], apart := false, laid := [("slots/program.bytesBehind", laid_slots_program_bytesBehind), ("slots/token.words", laid_slots_token_words), ("slots/token.signs", laid_slots_token_signs)] }
def ApartSaid : Prop := apartRow.holds Tryz.pinned (OpenSpec.ofChange apartSpec)

/-- ITS FALSE NEIGHBOUR: 'it returns false'. Refute it at one input. -/
def apartWrong : ChangeSpec := { name := "apart", fn := fun _ => fun
  | [d1, d2, d3] => { results := [.lit (.bool false)], args := [d1, d2, d3] }
  | _ => none }
def ApartWrongFalsely : Prop := apartRow.holds Tryz.pinned (OpenSpec.ofChange apartWrong)

/- THE SECOND FORM. 'bulk': how many values and letters a reading holds, each counted each time it is reached (what is shared counts as often as it is met; a slice's spare places count too). A statement '..UptoSaid' is the law's where the arguments, and the package variables that the reading takes, are together of bulk at most 1048576: NARROWER than '..Said'. Prove '..Said' where nothing that the law and all that it calls make is longer than what came in: it says more and counts as full. Else prove '..UptoSaid'. A law counts once. -/
mutual
def uptoBulk {H : Type} : DataW H → Nat
  | .lit (.string bytes) => bytes.length + 1
  | .lit _ => 1
  | .nil => 1
  | .ptr d => uptoBulk d + 1
  | .slice elems spare => uptoBulkAll elems + uptoBulkAll spare + 1
  | .agg parts => uptoBulkAll parts + 1
  | .iface _ d => uptoBulk d + 1
  | .map entries => uptoBulkEntries entries + 1
  | .held _ => 1
def uptoBulkAll {H : Type} : List (DataW H) → Nat
  | [] => 0
  | d :: r => uptoBulk d + uptoBulkAll r
def uptoBulkEntries {H : Type} : List (Lit × DataW H) → Nat
  | [] => 0
  | x :: r => uptoBulkEntry x + uptoBulkEntries r
def uptoBulkEntry {H : Type} : Lit × DataW H → Nat
  | (.string bytes, d) => bytes.length + uptoBulk d + 1
  | (_, d) => uptoBulk d + 1
 end
def uptoSmall : (H : Type) → List (DataW H) → Bool := fun _ ds => decide (uptoBulkAll ds ≤ 1048576)
def OpenSpec.upto (s : _root_.Go.ChangeSpec) : _root_.Go.OpenSpec := { _root_.Go.OpenSpec.ofChange s with cond := some uptoSmall }

/-- 'slotskeep.Worth', WHERE WHAT IT READS IS OF BULK AT MOST 1048576: true; the input reads as it did. -/
def worthUptoRow : OpenClaim := { program := "ytcdnhopeojkmkaagreatdoor", sum := "684c8d5a7220f91406ef79570564b9fc733233ddcd189bbde5f68a76c19a9ece", func := "slots/slotskeep.Worth", spec := "worth", recurses := true, named := ["slots/token.words", "slots/token.signs", "slots/program.bytesBehind", "slots/program.takes", "slots/program.lays"], apart := false, laid := [("slots/program.bytesBehind", laid_slots_program_bytesBehind), ("slots/program.takes", laid_slots_program_takes), ("slots/program.lays", laid_slots_program_lays), ("slots/token.words", laid_slots_token_words), ("slots/token.signs", laid_slots_token_signs)], narrowed := true }
def WorthUptoSaid : Prop := worthUptoRow.holds Tryz.pinned (OpenSpec.upto worthSpec)

/-- 'slotskeep.Fixed', WHERE WHAT IT READS IS OF BULK AT MOST 1048576: true; the input reads as it did. -/
def fixedUptoRow : OpenClaim := { program := "ytcdnhopeojkmkaagreatdoor", sum := "684c8d5a7220f91406ef79570564b9fc733233ddcd189bbde5f68a76c19a9ece", func := "slots/slotskeep.Fixed", spec := "fixed", recurses := true, named := ["slots/token.words", "slots/token.signs", "slots/program.bytesBehind", "slots/program.takes", "slots/program.lays"], apart := false, laid := [("slots/program.bytesBehind", laid_slots_program_bytesBehind), ("slots/program.takes", laid_slots_program_takes), ("slots/program.lays", laid_slots_program_lays), ("slots/token.words", laid_slots_token_words), ("slots/token.signs", laid_slots_token_signs)], narrowed := true }
def FixedUptoSaid : Prop := fixedUptoRow.holds Tryz.pinned (OpenSpec.upto fixedSpec)

/-- 'slotskeep.Firm', WHERE WHAT IT READS IS OF BULK AT MOST 1048576: true; the input reads as it did. -/
def firmUptoRow : OpenClaim := { program := "ytcdnhopeojkmkaagreatdoor", sum := "684c8d5a7220f91406ef79570564b9fc733233ddcd189bbde5f68a76c19a9ece", func := "slots/slotskeep.Firm", spec := "firm", recurses := true, named := ["slots/token.words", "slots/token.signs", "slots/program.bytesBehind", "slots/program.takes", "slots/program.lays"], apart := false, laid := [("slots/program.bytesBehind", laid_slots_program_bytesBehind), ("slots/program.takes", laid_slots_program_takes), ("slots/program.lays", laid_slots_program_lays), ("slots/token.words", laid_slots_token_words), ("slots/token.signs", laid_slots_token_signs)], narrowed := true }
def FirmUptoSaid : Prop := firmUptoRow.holds Tryz.pinned (OpenSpec.upto firmSpec)

/-- 'slotskeep.Apart', WHERE WHAT IT READS IS OF BULK AT MOST 1048576: true; the input reads as it did. -/
def apartUptoRow : OpenClaim := { program := "ytcdnhopeojkmkaagreatdoor", sum := "684c8d5a7220f91406ef79570564b9fc733233ddcd189bbde5f68a76c19a9ece", func := "slots/slotskeep.Apart", spec := "apart", recurses := true, named := ["slots/token.words", "slots/token.signs", "slots/program.bytesBehind"], apart := false, laid := [("slots/program.bytesBehind", laid_slots_program_bytesBehind), ("slots/token.words", laid_slots_token_words), ("slots/token.signs", laid_slots_token_signs)], narrowed := true }
def ApartUptoSaid : Prop := apartUptoRow.holds Tryz.pinned (OpenSpec.upto apartSpec)

end Rows
end Go.Proofs.YtcdnhopeojkmkaaGreatDoor
