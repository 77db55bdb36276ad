/-
  DERIVED. GIVEN WITH THE SEED: THE CARDS: each row of YtdhbfkbkgjmniaaGreatDoorRows.lean that lists a variable, with what it lists TIED to the program's text (the seventh form; the later family's looks); each row that meets fmt, with fmt's text TOLD by the authors' own Lean function (tested against real Go, not proved from fmt's source: count such statements apart). THE CARD IS WHAT COUNTS. Prove the row's statement (the work); the ties are given (YtdhbfkbkgjmniaaGreatDoorTie.lean); close each card by the builder's one call (the guide's Derived/Test/ToyasCard.lean, 'card_holds'). Laid BY PROGRAM, IN A SANDBOX (cutbox-door.mjs). By AI agents, Wed Nov 11 2026. No macro, syntax, notation, axiom, sorry.
-/
import Derived.Test.YtdhbfkbkgjmniaaGreatDoorRows
import GoSem.ClaimSeven
namespace Go.Proofs.YtdhbfkbkgjmniaaGreatDoor
namespace Rows

/-- THE TIED CARD OF 'tenetlaw03.TermForms'. -/
def termFormsCard : Claim7 := { stood := { row := termFormsRow, standIns := [], harness := (true, "166cf2e4381f7331094738706dadef6634497f363da4b873b5f7f9c29e65039c"), looks := true }, kinds := [], alts := [], laidByText := true, laidKinds := [.data, .data, .data, .data], laidTests := true, laidLooks := .later }
def TermFormsCardSaid : Prop := Claim7.holds Tryz.pinned (.plain (OpenSpec.ofChange termFormsSpec)) termFormsCard

/-- THE TIED CARD OF 'tenetlaw03.TermCompares'. -/
def termComparesCard : Claim7 := { stood := { row := termComparesRow, standIns := [], harness := (true, "166cf2e4381f7331094738706dadef6634497f363da4b873b5f7f9c29e65039c"), looks := true }, kinds := [], alts := [], laidByText := true, laidKinds := [.data, .data, .data, .data], laidTests := true, laidLooks := .later }
def TermComparesCardSaid : Prop := Claim7.holds Tryz.pinned (.plain (OpenSpec.ofChange termComparesSpec)) termComparesCard

/-- THE TIED CARD OF 'tenetlaw03.TermLevels'. -/
def termLevelsCard : Claim7 := { stood := { row := termLevelsRow, standIns := [], harness := (true, "166cf2e4381f7331094738706dadef6634497f363da4b873b5f7f9c29e65039c"), looks := true }, kinds := [], alts := [], laidByText := true, laidKinds := [.data, .data, .data, .data], laidTests := true, laidLooks := .later }
def TermLevelsCardSaid : Prop := Claim7.holds Tryz.pinned (.plain (OpenSpec.ofChange termLevelsSpec)) termLevelsCard

/-- THE TIED CARD OF 'tenetlaw03.TermTexts'. -/
def termTextsCard : Claim7 := { stood := { row := termTextsRow, standIns := [], harness := (true, "166cf2e4381f7331094738706dadef6634497f363da4b873b5f7f9c29e65039c"), looks := true }, kinds := [], alts := [], laidByText := true, laidKinds := [.data, .data, .data, .data, .sentinel, .sentinel, .data, .pinned], laidTests := true, laidLooks := .later }
def TermTextsCardSaid : Prop := Claim7.holds Tryz.pinned (.plain (OpenSpec.ofChange termTextsSpec)) termTextsCard

/-- THE TIED CARD OF 'tenetlaw03.TermReads'. -/
def termReadsCard : Claim7 := { stood := { row := termReadsRow, standIns := [], harness := (true, "166cf2e4381f7331094738706dadef6634497f363da4b873b5f7f9c29e65039c"), looks := true }, kinds := [], alts := [], laidByText := true, laidKinds := [.data, .data, .data, .data, .sentinel, .sentinel, .data, .pinned], laidTests := true, laidLooks := .later }
def TermReadsCardSaid : Prop := Claim7.holds Tryz.pinned (.plain (OpenSpec.ofChange termReadsSpec)) termReadsCard

/-- THE TIED CARD OF 'tenetlaw03.TermMoves'. -/
def termMovesCard : Claim7 := { stood := { row := termMovesRow, standIns := [], harness := (true, "166cf2e4381f7331094738706dadef6634497f363da4b873b5f7f9c29e65039c"), looks := true }, kinds := [], alts := [], laidByText := true, laidKinds := [.data, .data, .data, .data], laidTests := true, laidLooks := .later }
def TermMovesCardSaid : Prop := Claim7.holds Tryz.pinned (.plain (OpenSpec.ofChange termMovesSpec)) termMovesCard

/-- THE TIED CARD OF 'tenetlaw03.TermUndoes'. -/
def termUndoesCard : Claim7 := { stood := { row := termUndoesRow, standIns := [], harness := (true, "166cf2e4381f7331094738706dadef6634497f363da4b873b5f7f9c29e65039c"), looks := true }, kinds := [], alts := [], laidByText := true, laidKinds := [.data, .data, .data, .data], laidTests := true, laidLooks := .later }
def TermUndoesCardSaid : Prop := Claim7.holds Tryz.pinned (.plain (OpenSpec.ofChange termUndoesSpec)) termUndoesCard

/-- THE TIED CARD OF 'tenetlaw03.TermTwice'. -/
def termTwiceCard : Claim7 := { stood := { row := termTwiceRow, standIns := [], harness := (true, "166cf2e4381f7331094738706dadef6634497f363da4b873b5f7f9c29e65039c"), looks := true }, kinds := [], alts := [], laidByText := true, laidKinds := [.data, .data, .data, .data], laidTests := true, laidLooks := .later }
def TermTwiceCardSaid : Prop := Claim7.holds Tryz.pinned (.plain (OpenSpec.ofChange termTwiceSpec)) termTwiceCard

/-- THE TIED CARD OF 'tenetlaw03.TermAlikes'. -/
def termAlikesCard : Claim7 := { stood := { row := termAlikesRow, standIns := [], harness := (true, "166cf2e4381f7331094738706dadef6634497f363da4b873b5f7f9c29e65039c"), looks := true }, kinds := [], alts := [], laidByText := true, laidKinds := [.data, .data, .data, .data], laidTests := true, laidLooks := .later }
def TermAlikesCardSaid : Prop := Claim7.holds Tryz.pinned (.plain (OpenSpec.ofChange termAlikesSpec)) termAlikesCard

/-- THE TIED CARD OF 'tenetlaw03.TermStands'. -/
def termStandsCard : Claim7 := { stood := { row := termStandsRow, standIns := [], harness := (true, "166cf2e4381f7331094738706dadef6634497f363da4b873b5f7f9c29e65039c"), looks := true }, kinds := [], alts := [], laidByText := true, laidKinds := [.data, .data, .data, .data], laidTests := true, laidLooks := .later }
def TermStandsCardSaid : Prop := Claim7.holds Tryz.pinned (.plain (OpenSpec.ofChange termStandsSpec)) termStandsCard

/-- THE TIED CARD OF 'tenetlaw03.TermSets'. -/
def termSetsCard : Claim7 := { stood := { row := termSetsRow, standIns := [], harness := (true, "166cf2e4381f7331094738706dadef6634497f363da4b873b5f7f9c29e65039c"), looks := true }, kinds := [], alts := [], laidByText := true, laidKinds := [.data, .data, .data, .data], laidTests := true, laidLooks := .later }
def TermSetsCardSaid : Prop := Claim7.holds Tryz.pinned (.plain (OpenSpec.ofChange termSetsSpec)) termSetsCard

/-- THE SECOND FORM's CARD OF 'tenetlaw03.TermForms'. -/
def termFormsUptoCard : Claim7 := { stood := { row := termFormsUptoRow, standIns := [], harness := (true, "166cf2e4381f7331094738706dadef6634497f363da4b873b5f7f9c29e65039c"), looks := true }, kinds := [], alts := [], laidByText := true, laidKinds := [.data, .data, .data, .data], laidTests := true, laidLooks := .later }
def TermFormsUptoCardSaid : Prop := Claim7.holds Tryz.pinned (.plain (OpenSpec.upto termFormsSpec)) termFormsUptoCard

/-- THE SECOND FORM's CARD OF 'tenetlaw03.TermCompares'. -/
def termComparesUptoCard : Claim7 := { stood := { row := termComparesUptoRow, standIns := [], harness := (true, "166cf2e4381f7331094738706dadef6634497f363da4b873b5f7f9c29e65039c"), looks := true }, kinds := [], alts := [], laidByText := true, laidKinds := [.data, .data, .data, .data], laidTests := true, laidLooks := .later }
def TermComparesUptoCardSaid : Prop := Claim7.holds Tryz.pinned (.plain (OpenSpec.upto termComparesSpec)) termComparesUptoCard

/-- THE SECOND FORM's CARD OF 'tenetlaw03.TermLevels'. -/
def termLevelsUptoCard : Claim7 := { stood := { row := termLevelsUptoRow, standIns := [], harness := (true, "166cf2e4381f7331094738706dadef6634497f363da4b873b5f7f9c29e65039c"), looks := true }, kinds := [], alts := [], laidByText := true, laidKinds := [.data, .data, .data, .data], laidTests := true, laidLooks := .later }
def TermLevelsUptoCardSaid : Prop := Claim7.holds Tryz.pinned (.plain (OpenSpec.upto termLevelsSpec)) termLevelsUptoCard

/-- THE SECOND FORM's CARD OF 'tenetlaw03.TermTexts'. -/
def termTextsUptoCard : Claim7 := { stood := { row := termTextsUptoRow, standIns := [], harness := (true, "166cf2e4381f7331094738706dadef6634497f363da4b873b5f7f9c29e65039c"), looks := true }, kinds := [], alts := [], laidByText := true, laidKinds := [.data, .data, .data, .data, .sentinel, .sentinel, .data, .pinned], laidTests := true, laidLooks := .later }
def TermTextsUptoCardSaid : Prop := Claim7.holds Tryz.pinned (.plain (OpenSpec.upto termTextsSpec)) termTextsUptoCard

/-- THE SECOND FORM's CARD OF 'tenetlaw03.TermReads'. -/
def termReadsUptoCard : Claim7 := { stood := { row := termReadsUptoRow, standIns := [], harness := (true, "166cf2e4381f7331094738706dadef6634497f363da4b873b5f7f9c29e65039c"), looks := true }, kinds := [], alts := [], laidByText := true, laidKinds := [.data, .data, .data, .data, .sentinel, .sentinel, .data, .pinned], laidTests := true, laidLooks := .later }
def TermReadsUptoCardSaid : Prop := Claim7.holds Tryz.pinned (.plain (OpenSpec.upto termReadsSpec)) termReadsUptoCard

/-- THE SECOND FORM's CARD OF 'tenetlaw03.TermMoves'. -/
def termMovesUptoCard : Claim7 := { stood := { row := termMovesUptoRow, standIns := [], harness := (true, "166cf2e4381f7331094738706dadef6634497f363da4b873b5f7f9c29e65039c"), looks := true }, kinds := [], alts := [], laidByText := true, laidKinds := [.data, .data, .data, .data], laidTests := true, laidLooks := .later }
def TermMovesUptoCardSaid : Prop := Claim7.holds Tryz.pinned (.plain (OpenSpec.upto termMovesSpec)) termMovesUptoCard

/-- THE SECOND FORM's CARD OF 'tenetlaw03.TermUndoes'. -/
def termUndoesUptoCard : Claim7 := { stood := { row := termUndoesUptoRow, standIns := [], harness := (true, "166cf2e4381f7331094738706dadef6634497f363da4b873b5f7f9c29e65039c"), looks := true }, kinds := [], alts := [], laidByText := true, laidKinds := [.data, .data, .data, .data], laidTests := true, laidLooks := .later }
def TermUndoesUptoCardSaid : Prop := Claim7.holds Tryz.pinned (.plain (OpenSpec.upto termUndoesSpec)) termUndoesUptoCard

/-- THE SECOND FORM's CARD OF 'tenetlaw03.TermTwice'. -/
def termTwiceUptoCard : Claim7 := { stood := { row := termTwiceUptoRow, standIns := [], harness := (true, "166cf2e4381f7331094738706dadef6634497f363da4b873b5f7f9c29e65039c"), looks := true }, kinds := [], alts := [], laidByText := true, laidKinds := [.data, .data, .data, .data], laidTests := true, laidLooks := .later }
def TermTwiceUptoCardSaid : Prop := Claim7.holds Tryz.pinned (.plain (OpenSpec.upto termTwiceSpec)) termTwiceUptoCard

/-- THE SECOND FORM's CARD OF 'tenetlaw03.TermAlikes'. -/
def termAlikesUptoCard : Claim7 := { stood := { row := termAlikesUptoRow, standIns := [], harness := (true, "166cf2e4381f7331094738706dadef6634497f363da4b873b5f7f9c29e65039c"), looks := true }, kinds := [], alts := [], laidByText := true, laidKinds := [.data, .data, .data, .data], laidTests := true, laidLooks := .later }
def TermAlikesUptoCardSaid : Prop := Claim7.holds Tryz.pinned (.plain (OpenSpec.upto termAlikesSpec)) termAlikesUptoCard

/-- THE SECOND FORM's CARD OF 'tenetlaw03.TermStands'. -/
def termStandsUptoCard : Claim7 := { stood := { row := termStandsUptoRow, standIns := [], harness := (true, "166cf2e4381f7331094738706dadef6634497f363da4b873b5f7f9c29e65039c"), looks := true }, kinds := [], alts := [], laidByText := true, laidKinds := [.data, .data, .data, .data], laidTests := true, laidLooks := .later }
def TermStandsUptoCardSaid : Prop := Claim7.holds Tryz.pinned (.plain (OpenSpec.upto termStandsSpec)) termStandsUptoCard

/-- THE SECOND FORM's CARD OF 'tenetlaw03.TermSets'. -/
def termSetsUptoCard : Claim7 := { stood := { row := termSetsUptoRow, standIns := [], harness := (true, "166cf2e4381f7331094738706dadef6634497f363da4b873b5f7f9c29e65039c"), looks := true }, kinds := [], alts := [], laidByText := true, laidKinds := [.data, .data, .data, .data], laidTests := true, laidLooks := .later }
def TermSetsUptoCardSaid : Prop := Claim7.holds Tryz.pinned (.plain (OpenSpec.upto termSetsSpec)) termSetsUptoCard
end Rows
end Go.Proofs.YtdhbfkbkgjmniaaGreatDoor
