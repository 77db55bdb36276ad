/-
  DERIVED. GIVEN WITH THE SEED: THE CARDS: each row of YtgbbmcfhakliiaaGreatDoorRows.lean that lists a variable, with what it lists TIED to the program's text (the seventh form; the later family's looks); each row that meets fmt, with fmt's text TOLD by the authors' own Lean function (tested against real Go, not proved from fmt's source: count such statements apart). THE CARD IS WHAT COUNTS. Prove the row's statement (the work); the ties are given (YtgbbmcfhakliiaaGreatDoorTie.lean); close each card by the builder's one call (the guide's Derived/Test/ToyasCard.lean, 'card_holds'). Laid BY PROGRAM, IN A SANDBOX (cutbox-door.mjs). By AI agents, Wed Nov 11 2026. No macro, syntax, notation, axiom, sorry.
-/
import Derived.Test.YtgbbmcfhakliiaaGreatDoorRows
import GoSem.ClaimSeven
namespace Go.Proofs.YtgbbmcfhakliiaaGreatDoor
namespace Rows

/-- THE TIED CARD OF 'tenetlaw01.LevelTexts'. -/
def levelTextsCard : Claim7 := { stood := { row := levelTextsRow, standIns := [], harness := (true, "1f2bc9e689c95afb9ca22ae6a22ae030f7945cec87dc1f0abce015afed34a35c"), looks := true }, kinds := [], alts := [], laidByText := true, laidKinds := [.data, .data, .data, .data, .sentinel, .sentinel, .pinned], laidTests := true, laidLooks := .later }
def LevelTextsCardSaid : Prop := Claim7.holds Tryz.pinned (.plain (OpenSpec.ofChange levelTextsSpec)) levelTextsCard

/-- THE TIED CARD OF 'tenetlaw01.LevelReads'. -/
def levelReadsCard : Claim7 := { stood := { row := levelReadsRow, standIns := [], harness := (true, "1f2bc9e689c95afb9ca22ae6a22ae030f7945cec87dc1f0abce015afed34a35c"), looks := true }, kinds := [], alts := [], laidByText := true, laidKinds := [.data, .data, .data, .data, .sentinel, .sentinel, .pinned], laidTests := true, laidLooks := .later }
def LevelReadsCardSaid : Prop := Claim7.holds Tryz.pinned (.plain (OpenSpec.ofChange levelReadsSpec)) levelReadsCard

/-- THE SECOND FORM's CARD OF 'tenetlaw01.LevelTexts'. -/
def levelTextsUptoCard : Claim7 := { stood := { row := levelTextsUptoRow, standIns := [], harness := (true, "1f2bc9e689c95afb9ca22ae6a22ae030f7945cec87dc1f0abce015afed34a35c"), looks := true }, kinds := [], alts := [], laidByText := true, laidKinds := [.data, .data, .data, .data, .sentinel, .sentinel, .pinned], laidTests := true, laidLooks := .later }
def LevelTextsUptoCardSaid : Prop := Claim7.holds Tryz.pinned (.plain (OpenSpec.upto levelTextsSpec)) levelTextsUptoCard

/-- THE SECOND FORM's CARD OF 'tenetlaw01.LevelReads'. -/
def levelReadsUptoCard : Claim7 := { stood := { row := levelReadsUptoRow, standIns := [], harness := (true, "1f2bc9e689c95afb9ca22ae6a22ae030f7945cec87dc1f0abce015afed34a35c"), looks := true }, kinds := [], alts := [], laidByText := true, laidKinds := [.data, .data, .data, .data, .sentinel, .sentinel, .pinned], laidTests := true, laidLooks := .later }
def LevelReadsUptoCardSaid : Prop := Claim7.holds Tryz.pinned (.plain (OpenSpec.upto levelReadsSpec)) levelReadsUptoCard
end Rows
end Go.Proofs.YtgbbmcfhakliiaaGreatDoor
