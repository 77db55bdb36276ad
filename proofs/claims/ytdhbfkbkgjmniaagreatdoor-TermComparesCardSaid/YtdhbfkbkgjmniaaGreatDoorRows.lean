/-
  NARROWER THAN 'FOR EVERY INPUT', by the rows' own cells (each row's printed sentence says how): TermForms: loops, laid · TermCompares: loops, laid · TermLevels: loops, laid · TermTexts: loops, laid · TermReads: laid · TermMoves: loops, laid · TermUndoes: loops, laid · TermTwice: loops, laid · TermAlikes: loops, laid · TermStands: loops, laid · TermSets: loops, laid.
  DERIVED. THE GIVEN ROWS OF THIS SEAT. 11 by the template 'for every input the law returns true; each argument reads behind the call as it read before'; 0 by the template 'total and deterministic' (their statements: YtdhbfkbkgjmniaaGreatDoorTotals.lean).
  GIVEN WITH THE SEED: the statements are not yours to turn. If you find one false, say at which input.
  Laid BY PROGRAM, IN A SANDBOX (cutbox-rows.mjs): the forced cells as the released guide's own fill.sh prints them over the translation 8ada1a75ff3c1d22… (all of the seat's roots in one cut). By AI agents, Wed Nov 11 2026. No macro, syntax, notation, axiom, sorry.
-/
import Derived.Test.YtdhbfkbkgjmniaaGreatDoorChecked
import GoSem.PinnedTables
import GoSem.Claim
import GoSem.ClaimJoined
import GoSem.ClaimMapViews
import Derived.JoinedTies
import Derived.KernelRfl
namespace Go.Proofs.YtdhbfkbkgjmniaaGreatDoor
/- THE CELL 'sum', in the pinned program and in every row, IS THE sha256 OF THE DUMP (.gsa) THAT YtdhbfkbkgjmniaaGreatDoorProg.lean LOADS. Nothing in Lean hashes anything: it is a label: what it is worth is what the hold of that sum in a sandbox is worth. -/
noncomputable def Tryz.pinned : Pinned := { name := "ytdhbfkbkgjmniaagreatdoor", sum := "8ada1a75ff3c1d22505e043c425c045158c711d7aa0344aa848e0b28f001f97e", checked := Tryz.checked }
namespace Rows
def none {H : Type} : Left H := { results := [], args := [] }

/- WHAT THE LISTED PACKAGE-LEVEL VARIABLES READ AS WHEN THE CALL BEGINS. Each datum BY PROGRAM (the guide's laid-datum.mjs) off the statement by which the dump's own 'gosem.cut.vars' lays the variable. In a bare row this is a premise. The card (YtdhbfkbkgjmniaaGreatDoorCards.lean) ties it to the program's text. -/
def laid_math_bits_deBruijn32tab {H : Type} : DataW H := .agg [.lit (.int .u8 0), .lit (.int .u8 1), .lit (.int .u8 28), .lit (.int .u8 2), .lit (.int .u8 29), .lit (.int .u8 14), .lit (.int .u8 24), .lit (.int .u8 3), .lit (.int .u8 30), .lit (.int .u8 22), .lit (.int .u8 20), .lit (.int .u8 15), .lit (.int .u8 25), .lit (.int .u8 17), .lit (.int .u8 4), .lit (.int .u8 8), .lit (.int .u8 31), .lit (.int .u8 27), .lit (.int .u8 13), .lit (.int .u8 23), .lit (.int .u8 21), .lit (.int .u8 19), .lit (.int .u8 16), .lit (.int .u8 7), .lit (.int .u8 26), .lit (.int .u8 12), .lit (.int .u8 18), .lit (.int .u8 6), .lit (.int .u8 11), .lit (.int .u8 5), .lit (.int .u8 10), .lit (.int .u8 9)]
def laid_math_bits_deBruijn64tab {H : Type} : DataW H := .agg [.lit (.int .u8 0), .lit (.int .u8 1), .lit (.int .u8 56), .lit (.int .u8 2), .lit (.int .u8 57), .lit (.int .u8 49), .lit (.int .u8 28), .lit (.int .u8 3), .lit (.int .u8 61), .lit (.int .u8 58), .lit (.int .u8 42), .lit (.int .u8 50), .lit (.int .u8 38), .lit (.int .u8 29), .lit (.int .u8 17), .lit (.int .u8 4), .lit (.int .u8 62), .lit (.int .u8 47), .lit (.int .u8 59), .lit (.int .u8 36), .lit (.int .u8 45), .lit (.int .u8 43), .lit (.int .u8 51), .lit (.int .u8 22), .lit (.int .u8 53), .lit (.int .u8 39), .lit (.int .u8 33), .lit (.int .u8 30), .lit (.int .u8 24), .lit (.int .u8 18), .lit (.int .u8 12), .lit (.int .u8 5), .lit (.int .u8 63), .lit (.int .u8 55), .lit (.int .u8 48), .lit (.int .u8 27), .lit (.int .u8 60), .lit (.int .u8 41), .lit (.int .u8 37), .lit (.int .u8 16), .lit (.int .u8 46), .lit (.int .u8 35), .lit (.int .u8 44), .lit (.int .u8 21), .lit (.int .u8 52), .lit (.int .u8 32), .lit (.int .u8 23), .lit (.int .u8 11), .lit (.int .u8 54), .lit (.int .u8 26), .lit (.int .u8 40), .lit (.int .u8 15), .lit (.int .u8 34), .lit (.int .u8 20), .lit (.int .u8 31), .lit (.int .u8 10), .lit (.int .u8 25), .lit (.int .u8 14), .lit (.int .u8 19), .lit (.int .u8 9), .lit (.int .u8 13), .lit (.int .u8 8), .lit (.int .u8 7), .lit (.int .u8 6)]
def laid_internal_strconv_uint64pow10 {H : Type} : DataW H := .agg [.lit (.int .u64 1), .lit (.int .u64 10), .lit (.int .u64 100), .lit (.int .u64 1000), .lit (.int .u64 10000), .lit (.int .u64 100000), .lit (.int .u64 1000000), .lit (.int .u64 10000000), .lit (.int .u64 100000000), .lit (.int .u64 1000000000), .lit (.int .u64 10000000000), .lit (.int .u64 100000000000), .lit (.int .u64 1000000000000), .lit (.int .u64 10000000000000), .lit (.int .u64 100000000000000), .lit (.int .u64 1000000000000000), .lit (.int .u64 10000000000000000), .lit (.int .u64 100000000000000000), .lit (.int .u64 1000000000000000000), .lit (.int .u64 10000000000000000000)]
def laid_tenet_term_shapes {H : Type} : DataW H := .agg [.agg [.lit (.string []), .lit (.int .i64 0), .lit (.int .i64 0), .lit (.string [])], .agg [.lit (.string [35]), .lit (.int .i64 0), .lit (.int .i64 2000), .lit (.string [])], .agg [.lit (.string [64]), .lit (.int .i64 2), .lit (.int .i64 0), .lit (.string [])], .agg [.lit (.string [116, 121, 112, 101]), .lit (.int .i64 1), .lit (.int .i64 0), .lit (.string [])], .agg [.lit (.string [112, 114, 111, 112]), .lit (.int .i64 0), .lit (.int .i64 0), .lit (.string [])], .agg [.lit (.string [112, 105]), .lit (.int .i64 0), .lit (.int .i64 3), .lit (.string [48, 49])], .agg [.lit (.string [108, 97, 109]), .lit (.int .i64 0), .lit (.int .i64 1), .lit (.string [48, 49])], .agg [.lit (.string [97, 112, 112]), .lit (.int .i64 0), .lit (.int .i64 1), .lit (.string [48, 48])], .agg [.lit (.string [115, 105, 103]), .lit (.int .i64 0), .lit (.int .i64 3), .lit (.string [48, 49])], .agg [.lit (.string [112, 97, 105, 114]), .lit (.int .i64 0), .lit (.int .i64 3), .lit (.string [48, 49, 48, 48])], .agg [.lit (.string [102, 115, 116]), .lit (.int .i64 0), .lit (.int .i64 0), .lit (.string [48])], .agg [.lit (.string [115, 110, 100]), .lit (.int .i64 0), .lit (.int .i64 0), .lit (.string [48])], .agg [.lit (.string [117, 110, 105, 116]), .lit (.int .i64 0), .lit (.int .i64 0), .lit (.string [])], .agg [.lit (.string [115, 116, 97, 114]), .lit (.int .i64 0), .lit (.int .i64 0), .lit (.string [])], .agg [.lit (.string [116, 114, 117, 101]), .lit (.int .i64 0), .lit (.int .i64 0), .lit (.string [])], .agg [.lit (.string [116, 114, 105, 118, 105, 97, 108]), .lit (.int .i64 0), .lit (.int .i64 0), .lit (.string [])], .agg [.lit (.string [102, 97, 108, 115, 101]), .lit (.int .i64 0), .lit (.int .i64 0), .lit (.string [])], .agg [.lit (.string [97, 98, 115, 117, 114, 100]), .lit (.int .i64 0), .lit (.int .i64 1), .lit (.string [48, 48])], .agg [.lit (.string [101, 113]), .lit (.int .i64 1), .lit (.int .i64 0), .lit (.string [48, 48, 48])], .agg [.lit (.string [114, 101, 102, 108]), .lit (.int .i64 1), .lit (.int .i64 0), .lit (.string [48, 48])], .agg [.lit (.string [115, 117, 98, 115, 116]), .lit (.int .i64 1), .lit (.int .i64 0), .lit (.string [48, 49, 48, 48, 48, 48])], .agg [.lit (.string [99, 97, 115, 116]), .lit (.int .i64 1), .lit (.int .i64 0), .lit (.string [48, 48, 48, 48])], .agg [.lit (.string [99, 111, 104]), .lit (.int .i64 1), .lit (.int .i64 0), .lit (.string [48, 48, 48])], .agg [.lit (.string [113, 117, 111]), .lit (.int .i64 1), .lit (.int .i64 0), .lit (.string [48, 50, 48, 48, 48])], .agg [.lit (.string [99, 108, 97, 115, 115]), .lit (.int .i64 0), .lit (.int .i64 0), .lit (.string [48, 48])], .agg [.lit (.string [111, 117, 116]), .lit (.int .i64 1), .lit (.int .i64 1), .lit (.string [48, 49, 49, 48, 48])], .agg [.lit (.string [100, 97, 116, 97]), .lit (.int .i64 2), .lit (.int .i64 0), .lit (.string [48])], .agg [.lit (.string [99, 111, 110]), .lit (.int .i64 2), .lit (.int .i64 7), .lit (.string [48, 48])], .agg [.lit (.string [101, 108, 105, 109]), .lit (.int .i64 2), .lit (.int .i64 1), .lit (.string [50, 48, 48])], .agg [.lit (.string [63]), .lit (.int .i64 0), .lit (.int .i64 2000), .lit (.string [])], .agg [.lit (.string [112, 114, 111, 111, 102]), .lit (.int .i64 0), .lit (.int .i64 0), .lit (.string [])]]
def laid_unicode_utf8_acceptRanges {H : Type} : DataW H := .agg [.agg [.lit (.int .u8 128), .lit (.int .u8 191)], .agg [.lit (.int .u8 160), .lit (.int .u8 191)], .agg [.lit (.int .u8 128), .lit (.int .u8 159)], .agg [.lit (.int .u8 144), .lit (.int .u8 191)], .agg [.lit (.int .u8 128), .lit (.int .u8 143)], .agg [.lit (.int .u8 0), .lit (.int .u8 0)], .agg [.lit (.int .u8 0), .lit (.int .u8 0)], .agg [.lit (.int .u8 0), .lit (.int .u8 0)], .agg [.lit (.int .u8 0), .lit (.int .u8 0)], .agg [.lit (.int .u8 0), .lit (.int .u8 0)], .agg [.lit (.int .u8 0), .lit (.int .u8 0)], .agg [.lit (.int .u8 0), .lit (.int .u8 0)], .agg [.lit (.int .u8 0), .lit (.int .u8 0)], .agg [.lit (.int .u8 0), .lit (.int .u8 0)], .agg [.lit (.int .u8 0), .lit (.int .u8 0)], .agg [.lit (.int .u8 0), .lit (.int .u8 0)]]
def laid_strconv_ErrRange {H : Type} : DataW H := .iface "*errors.errorString" (.ptr (.agg [.lit (.string [118, 97, 108, 117, 101, 32, 111, 117, 116, 32, 111, 102, 32, 114, 97, 110, 103, 101])]))
def laid_strconv_ErrSyntax {H : Type} : DataW H := .iface "*errors.errorString" (.ptr (.agg [.lit (.string [105, 110, 118, 97, 108, 105, 100, 32, 115, 121, 110, 116, 97, 120])]))
/-- One of Go's own tables, pinned by name: the form's constant. -/
def laid_unicode_utf8_first : DataW Unit := Go.Pinned.utf8First

/-- 'tenetlaw03.TermForms': WHATEVER THE INPUT: true; the input reads as it did. -/
def termFormsSpec : ChangeSpec := { name := "termForms", fn := fun _ => fun
  | [d] => { results := [.lit (.bool true)], args := [d] }
  | _ => none }
def termFormsRow : OpenClaim := { program := "ytdhbfkbkgjmniaagreatdoor", sum := "8ada1a75ff3c1d22505e043c425c045158c711d7aa0344aa848e0b28f001f97e", func := "tenet/tenetlaw03.TermForms", spec := "termForms", inPlace := ["internal/abi.NoEscape", "internal/bytealg.MakeNoZero"], unfollowed := true, recurses := true, named := ["tenet/term.shapes", "internal/strconv.uint64pow10", "math/bits.deBruijn32tab", "math/bits.deBruijn64tab"], loops := true, apart := false, laid := [("math/bits.deBruijn32tab", laid_math_bits_deBruijn32tab), ("math/bits.deBruijn64tab", laid_math_bits_deBruijn64tab), ("internal/strconv.uint64pow10", laid_internal_strconv_uint64pow10), ("tenet/term.shapes", laid_tenet_term_shapes)] }
def TermFormsSaid : Prop := termFormsRow.holds Tryz.pinned (OpenSpec.ofChange termFormsSpec)

/-- ITS FALSE NEIGHBOUR: 'it returns false'. Refute it at one input. -/
def termFormsWrong : ChangeSpec := { name := "termForms", fn := fun _ => fun
  | [d] => { results := [.lit (.bool false)], args := [d] }
  | _ => none }
def TermFormsWrongFalsely : Prop := termFormsRow.holds Tryz.pinned (OpenSpec.ofChange termFormsWrong)

/-- 'tenetlaw03.TermCompares': WHATEVER THE INPUT: true; the input reads as it did. -/
def termComparesSpec : ChangeSpec := { name := "termCompares", fn := fun _ => fun
  | [d1, d2] => { results := [.lit (.bool true)], args := [d1, d2] }
  | _ => none }
def termComparesRow : OpenClaim := { program := "ytdhbfkbkgjmniaagreatdoor", sum := "8ada1a75ff3c1d22505e043c425c045158c711d7aa0344aa848e0b28f001f97e", func := "tenet/tenetlaw03.TermCompares", spec := "termCompares", inPlace := ["internal/abi.NoEscape", "internal/bytealg.MakeNoZero"], unfollowed := true, recurses := true, named := ["tenet/term.shapes", "internal/strconv.uint64pow10", "math/bits.deBruijn32tab", "math/bits.deBruijn64tab"], loops := true, apart := false, laid := [("math/bits.deBruijn32tab", laid_math_bits_deBruijn32tab), ("math/bits.deBruijn64tab", laid_math_bits_deBruijn64tab), ("internal/strconv.uint64pow10", laid_internal_strconv_uint64pow10), ("tenet/term.shapes", laid_tenet_term_shapes)] }
def TermComparesSaid : Prop := termComparesRow.holds Tryz.pinned (OpenSpec.ofChange termComparesSpec)

/-- ITS FALSE NEIGHBOUR: 'it returns false'. Refute it at one input. -/
def termComparesWrong : ChangeSpec := { name := "termCompares", fn := fun _ => fun
  | [d1, d2] => { results := [.lit (.bool false)], args := [d1, d2] }
  | _ => none }
def TermComparesWrongFalsely : Prop := termComparesRow.holds Tryz.pinned (OpenSpec.ofChange termComparesWrong)

/-- 'tenetlaw03.TermLevels': WHATEVER THE INPUT: true; the input reads as it did. -/
def termLevelsSpec : ChangeSpec := { name := "termLevels", fn := fun _ => fun
  | [d1, d2] => { results := [.lit (.bool true)], args := [d1, d2] }
  | _ => none }
def termLevelsRow : OpenClaim := { program := "ytdhbfkbkgjmniaagreatdoor", sum := "8ada1a75ff3c1d22505e043c425c045158c711d7aa0344aa848e0b28f001f97e", func := "tenet/tenetlaw03.TermLevels", spec := "termLevels", inPlace := ["internal/abi.NoEscape", "internal/bytealg.MakeNoZero"], unfollowed := true, recurses := true, named := ["tenet/term.shapes", "internal/strconv.uint64pow10", "math/bits.deBruijn32tab", "math/bits.deBruijn64tab"], loops := true, apart := false, laid := [("math/bits.deBruijn32tab", laid_math_bits_deBruijn32tab), ("math/bits.deBruijn64tab", laid_math_bits_deBruijn64tab), ("internal/strconv.uint64pow10", laid_internal_strconv_uint64pow10), ("tenet/term.shapes", laid_tenet_term_shapes)] }
def TermLevelsSaid : Prop := termLevelsRow.holds Tryz.pinned (OpenSpec.ofChange termLevelsSpec)

/-- ITS FALSE NEIGHBOUR: 'it returns false'. Refute it at one input. -/
def termLevelsWrong : ChangeSpec := { name := "termLevels", fn := fun _ => fun
  | [d1, d2] => { results := [.lit (.bool false)], args := [d1, d2] }
  | _ => none }
def TermLevelsWrongFalsely : Prop := termLevelsRow.holds Tryz.pinned (OpenSpec.ofChange termLevelsWrong)

/-- 'tenetlaw03.TermTexts': WHATEVER THE INPUT: true; the input reads as it did. -/
def termTextsSpec : ChangeSpec := { name := "termTexts", fn := fun _ => fun
  | [d] => { results := [.lit (.bool true)], args := [d] }
  | _ => none }
def termTextsRow : OpenClaim := { program := "ytdhbfkbkgjmniaagreatdoor", sum := "8ada1a75ff3c1d22505e043c425c045158c711d7aa0344aa848e0b28f001f97e", func := "tenet/tenetlaw03.TermTexts", spec := "termTexts", inPlace := ["internal/abi.NoEscape", "internal/bytealg.MakeNoZero", "internal/bytealg.IndexByteString", "internal/bytealg.IndexString", "internal/bytealg.CountString"], unfollowed := true, recurses := true, named := ["tenet/term.shapes", "internal/strconv.uint64pow10", "math/bits.deBruijn32tab", "math/bits.deBruijn64tab", "unicode/utf8.first", "unicode/utf8.acceptRanges", "internal/bytealg.MaxLen", "strconv.ErrSyntax", "strconv.ErrRange"], loops := true, apart := false, laid := [("math/bits.deBruijn32tab", laid_math_bits_deBruijn32tab), ("math/bits.deBruijn64tab", laid_math_bits_deBruijn64tab), ("internal/strconv.uint64pow10", laid_internal_strconv_uint64pow10), ("unicode/utf8.acceptRanges", laid_unicode_utf8_acceptRanges), ("strconv.ErrRange", laid_strconv_ErrRange), ("strconv.ErrSyntax", laid_strconv_ErrSyntax), ("tenet/term.shapes", laid_tenet_term_shapes), ("unicode/utf8.first", laid_unicode_utf8_first)] }
def TermTextsSaid : Prop := termTextsRow.holds Tryz.pinned (OpenSpec.ofChange termTextsSpec)

/-- ITS FALSE NEIGHBOUR: 'it returns false'. Refute it at one input. -/
def termTextsWrong : ChangeSpec := { name := "termTexts", fn := fun _ => fun
  | [d] => { results := [.lit (.bool false)], args := [d] }
  | _ => none }
def TermTextsWrongFalsely : Prop := termTextsRow.holds Tryz.pinned (OpenSpec.ofChange termTextsWrong)

/-- 'tenetlaw03.TermReads': WHATEVER THE INPUT: true; the input reads as it did. -/
def termReadsSpec : ChangeSpec := { name := "termReads", fn := fun _ => fun
  | [d] => { results := [.lit (.bool true)], args := [d] }
  | _ => none }
def termReadsRow : OpenClaim := { program := "ytdhbfkbkgjmniaagreatdoor", sum := "8ada1a75ff3c1d22505e043c425c045158c711d7aa0344aa848e0b28f001f97e", func := "tenet/tenetlaw03.TermReads", spec := "termReads", inPlace := ["internal/bytealg.IndexByteString", "internal/bytealg.IndexString", "internal/bytealg.CountString", "internal/abi.NoEscape", "internal/bytealg.MakeNoZero"], unfollowed := true, recurses := true, named := ["tenet/term.shapes", "unicode/utf8.first", "unicode/utf8.acceptRanges", "internal/bytealg.MaxLen", "strconv.ErrSyntax", "strconv.ErrRange", "internal/strconv.uint64pow10", "math/bits.deBruijn32tab", "math/bits.deBruijn64tab"], apart := false, laid := [("math/bits.deBruijn32tab", laid_math_bits_deBruijn32tab), ("math/bits.deBruijn64tab", laid_math_bits_deBruijn64tab), ("internal/strconv.uint64pow10", laid_internal_strconv_uint64pow10), ("unicode/utf8.acceptRanges", laid_unicode_utf8_acceptRanges), ("strconv.ErrRange", laid_strconv_ErrRange), ("strconv.ErrSyntax", laid_strconv_ErrSyntax), ("tenet/term.shapes", laid_tenet_term_shapes), ("unicode/utf8.first", laid_unicode_utf8_first)] }
def TermReadsSaid : Prop := termReadsRow.holds Tryz.pinned (OpenSpec.ofChange termReadsSpec)

/-- ITS FALSE NEIGHBOUR: 'it returns false'. Refute it at one input. -/
def termReadsWrong : ChangeSpec := { name := "termReads", fn := fun _ => fun
  | [d] => { results := [.lit (.bool false)], args := [d] }
  | _ => none }
def TermReadsWrongFalsely : Prop := termReadsRow.holds Tryz.pinned (OpenSpec.ofChange termReadsWrong)

/-- 'tenetlaw03.TermMoves': WHATEVER THE INPUT: true; the input reads as it did. -/
def termMovesSpec : ChangeSpec := { name := "termMoves", fn := fun _ => fun
  | [d1, d2, d3, d4] => { results := [.lit (.bool true)], args := [d1, d2, d3, d4] }
  | _ => none }
def termMovesRow : OpenClaim := { program := "ytdhbfkbkgjmniaagreatdoor", sum := "8ada1a75ff3c1d22505e043c425c045158c711d7aa0344aa848e0b28f001f97e", func := "tenet/tenetlaw03.TermMoves", spec := "termMoves", inPlace := ["internal/abi.NoEscape", "internal/bytealg.MakeNoZero"], unfollowed := true, recurses := true, named := ["tenet/term.shapes", "internal/strconv.uint64pow10", "math/bits.deBruijn32tab", "math/bits.deBruijn64tab"], loops := true, apart := false, laid := [("math/bits.deBruijn32tab", laid_math_bits_deBruijn32tab), ("math/bits.deBruijn64tab", laid_math_bits_deBruijn64tab), ("internal/strconv.uint64pow10", laid_internal_strconv_uint64pow10), ("tenet/term.shapes", laid_tenet_term_shapes)] }
def TermMovesSaid : Prop := termMovesRow.holds Tryz.pinned (OpenSpec.ofChange termMovesSpec)

/-- ITS FALSE NEIGHBOUR: 'it returns false'. Refute it at one input. -/
def termMovesWrong : ChangeSpec := { name := "termMoves", fn := fun _ => fun
  | [d1, d2, d3, d4] => { results := [.lit (.bool false)], args := [d1, d2, d3, d4] }
  | _ => none }
def TermMovesWrongFalsely : Prop := termMovesRow.holds Tryz.pinned (OpenSpec.ofChange termMovesWrong)

/-- 'tenetlaw03.TermUndoes': WHATEVER THE INPUT: true; the input reads as it did. -/
def termUndoesSpec : ChangeSpec := { name := "termUndoes", fn := fun _ => fun
  | [d1, d2] => { results := [.lit (.bool true)], args := [d1, d2] }
  | _ => none }
def termUndoesRow : OpenClaim := { program := "ytdhbfkbkgjmniaagreatdoor", sum := "8ada1a75ff3c1d22505e043c425c045158c711d7aa0344aa848e0b28f001f97e", func := "tenet/tenetlaw03.TermUndoes", spec := "termUndoes", inPlace := ["internal/abi.NoEscape", "internal/bytealg.MakeNoZero"], unfollowed := true, recurses := true, named := ["tenet/term.shapes", "internal/strconv.uint64pow10", "math/bits.deBruijn32tab", "math/bits.deBruijn64tab"], loops := true, apart := false, laid := [("math/bits.deBruijn32tab", laid_math_bits_deBruijn32tab), ("math/bits.deBruijn64tab", laid_math_bits_deBruijn64tab), ("internal/strconv.uint64pow10", laid_internal_strconv_uint64pow10), ("tenet/term.shapes", laid_tenet_term_shapes)] }
def TermUndoesSaid : Prop := termUndoesRow.holds Tryz.pinned (OpenSpec.ofChange termUndoesSpec)

/-- ITS FALSE NEIGHBOUR: 'it returns false'. Refute it at one input. -/
def termUndoesWrong : ChangeSpec := { name := "termUndoes", fn := fun _ => fun
  | [d1, d2] => { results := [.lit (.bool false)], args := [d1, d2] }
  | _ => none }
def TermUndoesWrongFalsely : Prop := termUndoesRow.holds Tryz.pinned (OpenSpec.ofChange termUndoesWrong)

/-- 'tenetlaw03.TermTwice': WHATEVER THE INPUT: true; the input reads as it did. -/
def termTwiceSpec : ChangeSpec := { name := "termTwice", fn := fun _ => fun
  | [d1, d2] => { results := [.lit (.bool true)], args := [d1, d2] }
  | _ => none }
def termTwiceRow : OpenClaim := { program := "ytdhbfkbkgjmniaagreatdoor", sum := "8ada1a75ff3c1d22505e043c425c045158c711d7aa0344aa848e0b28f001f97e", func := "tenet/tenetlaw03.TermTwice", spec := "termTwice", inPlace := ["internal/abi.NoEscape", "internal/bytealg.MakeNoZero"], unfollowed := true, recurses := true, named := ["tenet/term.shapes", "internal/strconv.uint64pow10", "math/bits.deBruijn32tab", "math/bits.deBruijn64tab"], loops := true, apart := false, laid := [("math/bits.deBruijn32tab", laid_math_bits_deBruijn32tab), ("math/bits.deBruijn64tab", laid_math_bits_deBruijn64tab), ("internal/strconv.uint64pow10", laid_internal_strconv_uint64pow10), ("tenet/term.shapes", laid_tenet_term_shapes)] }
def TermTwiceSaid : Prop := termTwiceRow.holds Tryz.pinned (OpenSpec.ofChange termTwiceSpec)

/-- ITS FALSE NEIGHBOUR: 'it returns false'. Refute it at one input. -/
def termTwiceWrong : ChangeSpec := { name := "termTwice", fn := fun _ => fun
  | [d1, d2] => { results := [.lit (.bool false)], args := [d1, d2] }
  | _ => none }
def TermTwiceWrongFalsely : Prop := termTwiceRow.holds Tryz.pinned (OpenSpec.ofChange termTwiceWrong)

/-- 'tenetlaw03.TermAlikes': WHATEVER THE INPUT: true; the input reads as it did. -/
def termAlikesSpec : ChangeSpec := { name := "termAlikes", fn := fun _ => fun
  | [d1, d2, d3, d4] => { results := [.lit (.bool true)], args := [d1, d2, d3, d4] }
  | _ => none }
def termAlikesRow : OpenClaim := { program := "ytdhbfkbkgjmniaagreatdoor", sum := "8ada1a75ff3c1d22505e043c425c045158c711d7aa0344aa848e0b28f001f97e", func := "tenet/tenetlaw03.TermAlikes", spec := "termAlikes", inPlace := ["internal/abi.NoEscape", "internal/bytealg.MakeNoZero"], unfollowed := true, recurses := true, named := ["tenet/term.shapes", "internal/strconv.uint64pow10", "math/bits.deBruijn32tab", "math/bits.deBruijn64tab"], loops := true, apart := false, laid := [("math/bits.deBruijn32tab", laid_math_bits_deBruijn32tab), ("math/bits.deBruijn64tab", laid_math_bits_deBruijn64tab), ("internal/strconv.uint64pow10", laid_internal_strconv_uint64pow10), ("tenet/term.shapes", laid_tenet_term_shapes)] }
def TermAlikesSaid : Prop := termAlikesRow.holds Tryz.pinned (OpenSpec.ofChange termAlikesSpec)

/-- ITS FALSE NEIGHBOUR: 'it returns false'. Refute it at one input. -/
def termAlikesWrong : ChangeSpec := { name := "termAlikes", fn := fun _ => fun
  | [d1, d2, d3, d4] => { results := [.lit (.bool false)], args := [d1, d2, d3, d4] }
  | _ => none }
def TermAlikesWrongFalsely : Prop := termAlikesRow.holds Tryz.pinned (OpenSpec.ofChange termAlikesWrong)

/-- 'tenetlaw03.TermStands': WHATEVER THE INPUT: true; the input reads as it did. -/
def termStandsSpec : ChangeSpec := { name := "termStands", fn := fun _ => fun
  | [d1, d2, d3] => { results := [.lit (.bool true)], args := [d1, d2, d3] }
  | _ => none }
def termStandsRow : OpenClaim := { program := "ytdhbfkbkgjmniaagreatdoor", sum := "8ada1a75ff3c1d22505e043c425c045158c711d7aa0344aa848e0b28f001f97e", func := "tenet/tenetlaw03.TermStands", spec := "termStands", inPlace := ["internal/abi.NoEscape", "internal/bytealg.MakeNoZero"], unfollowed := true, recurses := true, named := ["tenet/term.shapes", "internal/strconv.uint64pow10", "math/bits.deBruijn32tab", "math/bits.deBruijn64tab"], loops := true, apart := false, laid := [("math/bits.deBruijn32tab", laid_math_bits_deBruijn32tab), ("math/bits.deBruijn64tab", laid_math_bits_deBruijn64tab), ("internal/strconv.uint64pow10", laid_internal_strconv_uint64pow10), ("tenet/term.shapes", laid_tenet_term_shapes)] }
def TermStandsSaid : Prop := termStandsRow.holds Tryz.pinned (OpenSpec.ofChange termStandsSpec)

/-- ITS FALSE NEIGHBOUR: 'it returns false'. Refute it at one input. -/
def termStandsWrong : ChangeSpec := { name := "termStands", fn := fun _ => fun
  | [d1, d2, d3] => { results := [.lit (.bool false)], args := [d1, d2, d3] }
  | _ => none }
def TermStandsWrongFalsely : Prop := termStandsRow.holds Tryz.pinned (OpenSpec.ofChange termStandsWrong)

/-- 'tenetlaw03.TermSets': WHATEVER THE INPUT: true; the input reads as it did. -/
def termSetsSpec : ChangeSpec := { name := "termSets", fn := fun _ => fun
  | [d1, d2] => { results := [.lit (.bool true)], args := [d1, d2] }
  | _ => none }
def termSetsRow : OpenClaim := { program := "ytdhbfkbkgjmniaagreatdoor", sum := "8ada1a75ff3c1d22505e043c425c045158c711d7aa0344aa848e0b28f001f97e", func := "tenet/tenetlaw03.TermSets", spec := "termSets", inPlace := ["internal/abi.NoEscape", "internal/bytealg.MakeNoZero"], unfollowed := true, recurses := true, named := ["tenet/term.shapes", "internal/strconv.uint64pow10", "math/bits.deBruijn32tab", "math/bits.deBruijn64tab"], loops := true, apart := false, laid := [("math/bits.deBruijn32tab", laid_math_bits_deBruijn32tab), ("math/bits.deBruijn64tab", laid_math_bits_deBruijn64tab), ("internal/strconv.uint64pow10", laid_internal_strconv_uint64pow10), ("tenet/term.shapes", laid_tenet_term_shapes)] }
def TermSetsSaid : Prop := termSetsRow.holds Tryz.pinned (OpenSpec.ofChange termSetsSpec)

/-- ITS FALSE NEIGHBOUR: 'it returns false'. Refute it at one input. -/
def termSetsWrong : ChangeSpec := { name := "termSets", fn := fun _ => fun
  | [d1, d2] => { results := [.lit (.bool false)], args := [d1, d2] }
  | _ => none }
def TermSetsWrongFalsely : Prop := termSetsRow.holds Tryz.pinned (OpenSpec.ofChange termSetsWrong)

/- THE SECOND FORM. 'bulk': how many values and letters a reading holds, each counted each time it is reached (what is shared counts as often as it is met; a slice's spare places count too). A statement '..UptoSaid' is the law's where the arguments, and the package variables that the reading takes, are together of bulk at most 1048576: NARROWER than '..Said'. Prove '..Said' where nothing that the law and all that it calls make is longer than what came in: it says more and counts as full. Else prove '..UptoSaid'. A law counts once. -/
mutual
def uptoBulk {H : Type} : DataW H → Nat
  | .lit (.string bytes) => bytes.length + 1
  | .lit _ => 1
  | .nil => 1
  | .ptr d => uptoBulk d + 1
  | .slice elems spare => uptoBulkAll elems + uptoBulkAll spare + 1
  | .agg parts => uptoBulkAll parts + 1
  | .iface _ d => uptoBulk d + 1
  | .map entries => uptoBulkEntries entries + 1
  | .held _ => 1
def uptoBulkAll {H : Type} : List (DataW H) → Nat
  | [] => 0
  | d :: r => uptoBulk d + uptoBulkAll r
def uptoBulkEntries {H : Type} : List (Lit × DataW H) → Nat
  | [] => 0
  | x :: r => uptoBulkEntry x + uptoBulkEntries r
def uptoBulkEntry {H : Type} : Lit × DataW H → Nat
  | (.string bytes, d) => bytes.length + uptoBulk d + 1
  | (_, d) => uptoBulk d + 1
 end
def uptoSmall : (H : Type) → List (DataW H) → Bool := fun _ ds => decide (uptoBulkAll ds ≤ 1048576)
def OpenSpec.upto (s : _root_.Go.ChangeSpec) : _root_.Go.OpenSpec := { _root_.Go.OpenSpec.ofChange s with cond := some uptoSmall }

/-- 'tenetlaw03.TermForms', WHERE WHAT IT READS IS OF BULK AT MOST 1048576: true; the input reads as it did. -/
def termFormsUptoRow : OpenClaim := { program := "ytdhbfkbkgjmniaagreatdoor", sum := "8ada1a75ff3c1d22505e043c425c045158c711d7aa0344aa848e0b28f001f97e", func := "tenet/tenetlaw03.TermForms", spec := "termForms", inPlace := ["internal/abi.NoEscape", "internal/bytealg.MakeNoZero"], unfollowed := true, recurses := true, named := ["tenet/term.shapes", "internal/strconv.uint64pow10", "math/bits.deBruijn32tab", "math/bits.deBruijn64tab"], loops := true, apart := false, laid := [("math/bits.deBruijn32tab", laid_math_bits_deBruijn32tab), ("math/bits.deBruijn64tab", laid_math_bits_deBruijn64tab), ("internal/strconv.uint64pow10", laid_internal_strconv_uint64pow10), ("tenet/term.shapes", laid_tenet_term_shapes)], narrowed := true }
def TermFormsUptoSaid : Prop := termFormsUptoRow.holds Tryz.pinned (OpenSpec.upto termFormsSpec)

/-- 'tenetlaw03.TermCompares', WHERE WHAT IT READS IS OF BULK AT MOST 1048576: true; the input reads as it did. -/
def termComparesUptoRow : OpenClaim := { program := "ytdhbfkbkgjmniaagreatdoor", sum := "8ada1a75ff3c1d22505e043c425c045158c711d7aa0344aa848e0b28f001f97e", func := "tenet/tenetlaw03.TermCompares", spec := "termCompares", inPlace := ["internal/abi.NoEscape", "internal/bytealg.MakeNoZero"], unfollowed := true, recurses := true, named := ["tenet/term.shapes", "internal/strconv.uint64pow10", "math/bits.deBruijn32tab", "math/bits.deBruijn64tab"], loops := true, apart := false, laid := [("math/bits.deBruijn32tab", laid_math_bits_deBruijn32tab), ("math/bits.deBruijn64tab", laid_math_bits_deBruijn64tab), ("internal/strconv.uint64pow10", laid_internal_strconv_uint64pow10), ("tenet/term.shapes", laid_tenet_term_shapes)], narrowed := true }
def TermComparesUptoSaid : Prop := termComparesUptoRow.holds Tryz.pinned (OpenSpec.upto termComparesSpec)

/-- 'tenetlaw03.TermLevels', WHERE WHAT IT READS IS OF BULK AT MOST 1048576: true; the input reads as it did. -/
def termLevelsUptoRow : OpenClaim := { program := "ytdhbfkbkgjmniaagreatdoor", sum := "8ada1a75ff3c1d22505e043c425c045158c711d7aa0344aa848e0b28f001f97e", func := "tenet/tenetlaw03.TermLevels", spec := "termLevels", inPlace := ["internal/abi.NoEscape", "internal/bytealg.MakeNoZero"], unfollowed := true, recurses := true, named := ["tenet/term.shapes", "internal/strconv.uint64pow10", "math/bits.deBruijn32tab", "math/bits.deBruijn64tab"], loops := true, apart := false, laid := [("math/bits.deBruijn32tab", laid_math_bits_deBruijn32tab), ("math/bits.deBruijn64tab", laid_math_bits_deBruijn64tab), ("internal/strconv.uint64pow10", laid_internal_strconv_uint64pow10), ("tenet/term.shapes", laid_tenet_term_shapes)], narrowed := true }
def TermLevelsUptoSaid : Prop := termLevelsUptoRow.holds Tryz.pinned (OpenSpec.upto termLevelsSpec)

/-- 'tenetlaw03.TermTexts', WHERE WHAT IT READS IS OF BULK AT MOST 1048576: true; the input reads as it did. -/
def termTextsUptoRow : OpenClaim := { program := "ytdhbfkbkgjmniaagreatdoor", sum := "8ada1a75ff3c1d22505e043c425c045158c711d7aa0344aa848e0b28f001f97e", func := "tenet/tenetlaw03.TermTexts", spec := "termTexts", inPlace := ["internal/abi.NoEscape", "internal/bytealg.MakeNoZero", "internal/bytealg.IndexByteString", "internal/bytealg.IndexString", "internal/bytealg.CountString"], unfollowed := true, recurses := true, named := ["tenet/term.shapes", "internal/strconv.uint64pow10", "math/bits.deBruijn32tab", "math/bits.deBruijn64tab", "unicode/utf8.first", "unicode/utf8.acceptRanges", "internal/bytealg.MaxLen", "strconv.ErrSyntax", "strconv.ErrRange"], loops := true, apart := false, laid := [("math/bits.deBruijn32tab", laid_math_bits_deBruijn32tab), ("math/bits.deBruijn64tab", laid_math_bits_deBruijn64tab), ("internal/strconv.uint64pow10", laid_internal_strconv_uint64pow10), ("unicode/utf8.acceptRanges", laid_unicode_utf8_acceptRanges), ("strconv.ErrRange", laid_strconv_ErrRange), ("strconv.ErrSyntax", laid_strconv_ErrSyntax), ("tenet/term.shapes", laid_tenet_term_shapes), ("unicode/utf8.first", laid_unicode_utf8_first)], narrowed := true }
def TermTextsUptoSaid : Prop := termTextsUptoRow.holds Tryz.pinned (OpenSpec.upto termTextsSpec)

/-- 'tenetlaw03.TermReads', WHERE WHAT IT READS IS OF BULK AT MOST 1048576: true; the input reads as it did. -/
def termReadsUptoRow : OpenClaim := { program := "ytdhbfkbkgjmniaagreatdoor", sum := "8ada1a75ff3c1d22505e043c425c045158c711d7aa0344aa848e0b28f001f97e", func := "tenet/tenetlaw03.TermReads", spec := "termReads", inPlace := ["internal/bytealg.IndexByteString", "internal/bytealg.IndexString", "internal/bytealg.CountString", "internal/abi.NoEscape", "internal/bytealg.MakeNoZero"], unfollowed := true, recurses := true, named := ["tenet/term.shapes", "unicode/utf8.first", "unicode/utf8.acceptRanges", "internal/bytealg.MaxLen", "strconv.ErrSyntax", "strconv.ErrRange", "internal/strconv.uint64pow10", "math/bits.deBruijn32tab", "math/bits.deBruijn64tab"], apart := false, laid := [("math/bits.deBruijn32tab", laid_math_bits_deBruijn32tab), ("math/bits.deBruijn64tab", laid_math_bits_deBruijn64tab), ("internal/strconv.uint64pow10", laid_internal_strconv_uint64pow10), ("unicode/utf8.acceptRanges", laid_unicode_utf8_acceptRanges), ("strconv.ErrRange", laid_strconv_ErrRange), ("strconv.ErrSyntax", laid_strconv_ErrSyntax), ("tenet/term.shapes", laid_tenet_term_shapes), ("unicode/utf8.first", laid_unicode_utf8_first)], narrowed := true }
def TermReadsUptoSaid : Prop := termReadsUptoRow.holds Tryz.pinned (OpenSpec.upto termReadsSpec)

/-- 'tenetlaw03.TermMoves', WHERE WHAT IT READS IS OF BULK AT MOST 1048576: true; the input reads as it did. -/
def termMovesUptoRow : OpenClaim := { program := "ytdhbfkbkgjmniaagreatdoor", sum := "8ada1a75ff3c1d22505e043c425c045158c711d7aa0344aa848e0b28f001f97e", func := "tenet/tenetlaw03.TermMoves", spec := "termMoves", inPlace := ["internal/abi.NoEscape", "internal/bytealg.MakeNoZero"], unfollowed := true, recurses := true, named := ["tenet/term.shapes", "internal/strconv.uint64pow10", "math/bits.deBruijn32tab", "math/bits.deBruijn64tab"], loops := true, apart := false, laid := [("math/bits.deBruijn32tab", laid_math_bits_deBruijn32tab), ("math/bits.deBruijn64tab", laid_math_bits_deBruijn64tab), ("internal/strconv.uint64pow10", laid_internal_strconv_uint64pow10), ("tenet/term.shapes", laid_tenet_term_shapes)], narrowed := true }
def TermMovesUptoSaid : Prop := termMovesUptoRow.holds Tryz.pinned (OpenSpec.upto termMovesSpec)

/-- 'tenetlaw03.TermUndoes', WHERE WHAT IT READS IS OF BULK AT MOST 1048576: true; the input reads as it did. -/
def termUndoesUptoRow : OpenClaim := { program := "ytdhbfkbkgjmniaagreatdoor", sum := "8ada1a75ff3c1d22505e043c425c045158c711d7aa0344aa848e0b28f001f97e", func := "tenet/tenetlaw03.TermUndoes", spec := "termUndoes", inPlace := ["internal/abi.NoEscape", "internal/bytealg.MakeNoZero"], unfollowed := true, recurses := true, named := ["tenet/term.shapes", "internal/strconv.uint64pow10", "math/bits.deBruijn32tab", "math/bits.deBruijn64tab"], loops := true, apart := false, laid := [("math/bits.deBruijn32tab", laid_math_bits_deBruijn32tab), ("math/bits.deBruijn64tab", laid_math_bits_deBruijn64tab), ("internal/strconv.uint64pow10", laid_internal_strconv_uint64pow10), ("tenet/term.shapes", laid_tenet_term_shapes)], narrowed := true }
def TermUndoesUptoSaid : Prop := termUndoesUptoRow.holds Tryz.pinned (OpenSpec.upto termUndoesSpec)

/-- 'tenetlaw03.TermTwice', WHERE WHAT IT READS IS OF BULK AT MOST 1048576: true; the input reads as it did. -/
def termTwiceUptoRow : OpenClaim := { program := "ytdhbfkbkgjmniaagreatdoor", sum := "8ada1a75ff3c1d22505e043c425c045158c711d7aa0344aa848e0b28f001f97e", func := "tenet/tenetlaw03.TermTwice", spec := "termTwice", inPlace := ["internal/abi.NoEscape", "internal/bytealg.MakeNoZero"], unfollowed := true, recurses := true, named := ["tenet/term.shapes", "internal/strconv.uint64pow10", "math/bits.deBruijn32tab", "math/bits.deBruijn64tab"], loops := true, apart := false, laid := [("math/bits.deBruijn32tab", laid_math_bits_deBruijn32tab), ("math/bits.deBruijn64tab", laid_math_bits_deBruijn64tab), ("internal/strconv.uint64pow10", laid_internal_strconv_uint64pow10), ("tenet/term.shapes", laid_tenet_term_shapes)], narrowed := true }
def TermTwiceUptoSaid : Prop := termTwiceUptoRow.holds Tryz.pinned (OpenSpec.upto termTwiceSpec)

/-- 'tenetlaw03.TermAlikes', WHERE WHAT IT READS IS OF BULK AT MOST 1048576: true; the input reads as it did. -/
def termAlikesUptoRow : OpenClaim := { program := "ytdhbfkbkgjmniaagreatdoor", sum := "8ada1a75ff3c1d22505e043c425c045158c711d7aa0344aa848e0b28f001f97e", func := "tenet/tenetlaw03.TermAlikes", spec := "termAlikes", inPlace := ["internal/abi.NoEscape", "internal/bytealg.MakeNoZero"], unfollowed := true, recurses := true, named := ["tenet/term.shapes", "internal/strconv.uint64pow10", "math/bits.deBruijn32tab", "math/bits.deBruijn64tab"], loops := true, apart := false, laid := [("math/bits.deBruijn32tab", laid_math_bits_deBruijn32tab), ("math/bits.deBruijn64tab", laid_math_bits_deBruijn64tab), ("internal/strconv.uint64pow10", laid_internal_strconv_uint64pow10), ("tenet/term.shapes", laid_tenet_term_shapes)], narrowed := true }
def TermAlikesUptoSaid : Prop := termAlikesUptoRow.holds Tryz.pinned (OpenSpec.upto termAlikesSpec)

/-- 'tenetlaw03.TermStands', WHERE WHAT IT READS IS OF BULK AT MOST 1048576: true; the input reads as it did. -/
def termStandsUptoRow : OpenClaim := { program := "ytdhbfkbkgjmniaagreatdoor", sum := "8ada1a75ff3c1d22505e043c425c045158c711d7aa0344aa848e0b28f001f97e", func := "tenet/tenetlaw03.TermStands", spec := "termStands", inPlace := ["internal/abi.NoEscape", "internal/bytealg.MakeNoZero"], unfollowed := true, recurses := true, named := ["tenet/term.shapes", "internal/strconv.uint64pow10", "math/bits.deBruijn32tab", "math/bits.deBruijn64tab"], loops := true, apart := false, laid := [("math/bits.deBruijn32tab", laid_math_bits_deBruijn32tab), ("math/bits.deBruijn64tab", laid_math_bits_deBruijn64tab), ("internal/strconv.uint64pow10", laid_internal_strconv_uint64pow10), ("tenet/term.shapes", laid_tenet_term_shapes)], narrowed := true }
def TermStandsUptoSaid : Prop := termStandsUptoRow.holds Tryz.pinned (OpenSpec.upto termStandsSpec)

/-- 'tenetlaw03.TermSets', WHERE WHAT IT READS IS OF BULK AT MOST 1048576: true; the input reads as it did. -/
def termSetsUptoRow : OpenClaim := { program := "ytdhbfkbkgjmniaagreatdoor", sum := "8ada1a75ff3c1d22505e043c425c045158c711d7aa0344aa848e0b28f001f97e", func := "tenet/tenetlaw03.TermSets", spec := "termSets", inPlace := ["internal/abi.NoEscape", "internal/bytealg.MakeNoZero"], unfollowed := true, recurses := true, named := ["tenet/term.shapes", "internal/strconv.uint64pow10", "math/bits.deBruijn32tab", "math/bits.deBruijn64tab"], loops := true, apart := false, laid := [("math/bits.deBruijn32tab", laid_math_bits_deBruijn32tab), ("math/bits.deBruijn64tab", laid_math_bits_deBruijn64tab), ("internal/strconv.uint64pow10", laid_internal_strconv_uint64pow10), ("tenet/term.shapes", laid_tenet_term_shapes)], narrowed := true }
def TermSetsUptoSaid : Prop := termSetsUptoRow.holds Tryz.pinned (OpenSpec.upto termSetsSpec)

end Rows
end Go.Proofs.YtdhbfkbkgjmniaaGreatDoor
