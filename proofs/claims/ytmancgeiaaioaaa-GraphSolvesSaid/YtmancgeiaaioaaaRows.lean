/-
  No cell of these rows narrows 'for every input' (looked for: loops, veiled, ifaces, maps, wideKeys, modest, calm, conditions, laid).
  DERIVED. THE GIVEN ROWS OF THIS SEAT. 5 by the template 'for every input the law returns true; each argument reads behind the call as it read before'; 0 by the template 'total and deterministic' (their statements: YtmancgeiaaioaaaTotals.lean).
  GIVEN WITH THE SEED: the statements are not yours to turn. If you find one false, say at which input.
  Laid BY PROGRAM, IN A SANDBOX (cutbox-rows.mjs): the forced cells as the released guide's own fill.sh prints them over the translation f548ba8705d95451… (all of the seat's roots in one cut). By AI agents, Wed Nov 11 2026. No macro, syntax, notation, axiom, sorry.
-/
import Derived.Test.YtmancgeiaaioaaaChecked
import GoSem.Claim
import GoSem.ClaimJoined
import GoSem.ClaimMapViews
import Derived.JoinedTies
import Derived.KernelRfl
namespace Go.Proofs.Ytmancgeiaaioaaa
/- THE CELL 'sum', in the pinned program and in every row, IS THE sha256 OF THE DUMP (.gsa) THAT YtmancgeiaaioaaaProg.lean LOADS. Nothing in Lean hashes anything: it is a label: what it is worth is what the hold of that sum in a sandbox is worth. -/
noncomputable def Try.pinned : Pinned := { name := "ytmancgeiaaioaaa", sum := "f548ba8705d954516f3a79de709452810b2c9248517b8b4dce1841736e3f184e", checked := Try.checked }
namespace Rows
def none {H : Type} : Left H := { results := [], args := [] }

/-- 'tenetlaw02.GraphSolves': WHATEVER THE INPUT: true; the input reads as it did. -/
def graphSolvesSpec : ChangeSpec := { name := "graphSolves", fn := fun _ => fun
  | [d1, d2] => { results := [.lit (.bool true)], args := [d1, d2] }
  | _ => none }
def graphSolvesRow : OpenClaim := { program := "ytmancgeiaaioaaa", sum := "f548ba8705d954516f3a79de709452810b2c9248517b8b4dce1841736e3f184e", func := "tenet/tenetlaw02.GraphSolves", spec := "graphSolves", unfollowed := true, recurses := true, apart := false }
def GraphSolvesSaid : Prop := graphSolvesRow.holds Try.pinned (OpenSpec.ofChange graphSolvesSpec)

/-- ITS FALSE NEIGHBOUR: 'it returns false'. Refute it at one input. -/
def graphSolvesWrong : ChangeSpec := { name := "graphSolves", fn := fun _ => fun
  | [d1, d2] => { results := [.lit (.bool false)], args := [d1, d2] }
  | _ => none }
def GraphSolvesWrongFalsely : Prop := graphSolvesRow.holds Try.pinned (OpenSpec.ofChange graphSolvesWrong)

/-- 'tenetlaw02.GraphHolds': WHATEVER THE INPUT: true; the input reads as it did. -/
def graphHoldsSpec : ChangeSpec := { name := "graphHolds", fn := fun _ => fun
  | [d1, d2, d3] => { results := [.lit (.bool true)], args := [d1, d2, d3] }
  | _ => none }
def graphHoldsRow : OpenClaim := { program := "ytmancgeiaaioaaa", sum := "f548ba8705d954516f3a79de709452810b2c9248517b8b4dce1841736e3f184e", func := "tenet/tenetlaw02.GraphHolds", spec := "graphHolds", unfollowed := true, recurses := true, apart := false }
def GraphHoldsSaid : Prop := graphHoldsRow.holds Try.pinned (OpenSpec.ofChange graphHoldsSpec)

/-- ITS FALSE NEIGHBOUR: 'it returns false'. Refute it at one input. -/
def graphHoldsWrong : ChangeSpec := { name := "graphHolds", fn := fun _ => fun
  | [d1, d2, d3] => { results := [.lit (.bool false)], args := [d1, d2, d3] }
  | _ => none }
def GraphHoldsWrongFalsely : Prop := graphHoldsRow.holds Try.pinned (OpenSpec.ofChange graphHoldsWrong)

/-- 'tenetlaw02.GraphLeast': WHATEVER THE INPUT: true; the input reads as it did. -/
def graphLeastSpec : ChangeSpec := { name := "graphLeast", fn := fun _ => fun
  | [d1, d2, d3] => { results := [.lit (.bool true)], args := [d1, d2, d3] }
  | _ => none }
def graphLeastRow : OpenClaim := { program := "ytmancgeiaaioaaa", sum := "f548ba8705d954516f3a79de709452810b2c9248517b8b4dce1841736e3f184e", func := "tenet/tenetlaw02.GraphLeast", spec := "graphLeast", unfollowed := true, recurses := true, apart := false }
def GraphLeastSaid : Prop := graphLeastRow.holds Try.pinned (OpenSpec.ofChange graphLeastSpec)

/-- ITS FALSE NEIGHBOUR: 'it returns false'. Refute it at one input. -/
def graphLeastWrong : ChangeSpec := { name := "graphLeast", fn := fun _ => fun
  | [d1, d2, d3] => { results := [.lit (.bool false)], args := [d1, d2, d3] }
  | _ => none }
def GraphLeastWrongFalsely : Prop := graphLeastRow.holds Try.pinned (OpenSpec.ofChange graphLeastWrong)

/-- 'tenetlaw02.GraphExtends': WHATEVER THE INPUT: true; the input reads as it did. -/
def graphExtendsSpec : ChangeSpec := { name := "graphExtends", fn := fun _ => fun
  | [d1, d2, d3] => { results := [.lit (.bool true)], args := [d1, d2, d3] }
  | _ => none }
def graphExtendsRow : OpenClaim := { program := "ytmancgeiaaioaaa", sum := "f548ba8705d954516f3a79de709452810b2c9248517b8b4dce1841736e3f184e", func := "tenet/tenetlaw02.GraphExtends", spec := "graphExtends", unfollowed := true, recurses := true, apart := false }
def GraphExtendsSaid : Prop := graphExtendsRow.holds Try.pinned (OpenSpec.ofChange graphExtendsSpec)

/-- ITS FALSE NEIGHBOUR: 'it returns false'. Refute it at one input. -/
def graphExtendsWrong : ChangeSpec := { name := "graphExtends", fn := fun _ => fun
  | [d1, d2, d3] => { results := [.lit (.bool false)], args := [d1, d2, d3] }
  | _ => none }
def GraphExtendsWrongFalsely : Prop := graphExtendsRow.holds Try.pinned (OpenSpec.ofChange graphExtendsWrong)

/-- 'tenetlaw02.GraphJoins': WHATEVER THE INPUT: true; the input reads as it did. -/
def graphJoinsSpec : ChangeSpec := { name := "graphJoins", fn := fun _ => fun
  | [d1, d2, d3] => { results := [.lit (.bool true)], args := [d1, d2, d3] }
  | _ => none }
def graphJoinsRow : OpenClaim := { program := "ytmancgeiaaioaaa", sum := "f548ba8705d954516f3a79de709452810b2c9248517b8b4dce1841736e3f184e", func := "tenet/tenetlaw02.GraphJoins", spec := "graphJoins", unfollowed := true, recurses := true, apart := false }
def GraphJoinsSaid : Prop := graphJoinsRow.holds Try.pinned (OpenSpec.ofChange graphJoinsSpec)

/-- ITS FALSE NEIGHBOUR: 'it returns false'. Refute it at one input. -/
def graphJoinsWrong : ChangeSpec := { name := "graphJoins", fn := fun _ => fun
  | [d1, d2, d3] => { results := [.lit (.bool false)], args := [d1, d2, d3] }
  | _ => none }
def GraphJoinsWrongFalsely : Prop := graphJoinsRow.holds Try.pinned (OpenSpec.ofChange graphJoinsWrong)

/- THE SECOND FORM. 'bulk': how many values and letters a reading holds, each counted each time it is reached (what is shared counts as often as it is met; a slice's spare places count too). A statement '..UptoSaid' is the law's where the arguments, and the package variables that the reading takes, are together of bulk at most 1048576: NARROWER than '..Said'. Prove '..Said' where nothing that the law and all that it calls make is longer than what came in: it says more and counts as full. Else prove '..UptoSaid'. A law counts once. -/
mutual
def uptoBulk {H : Type} : DataW H → Nat
  | .lit (.string bytes) => bytes.length + 1
  | .lit _ => 1
  | .nil => 1
  | .ptr d => uptoBulk d + 1
  | .slice elems spare => uptoBulkAll elems + uptoBulkAll spare + 1
  | .agg parts => uptoBulkAll parts + 1
  | .iface _ d => uptoBulk d + 1
  | .map entries => uptoBulkEntries entries + 1
  | .held _ => 1
def uptoBulkAll {H : Type} : List (DataW H) → Nat
  | [] => 0
  | d :: r => uptoBulk d + uptoBulkAll r
def uptoBulkEntries {H : Type} : List (Lit × DataW H) → Nat
  | [] => 0
  | x :: r => uptoBulkEntry x + uptoBulkEntries r
def uptoBulkEntry {H : Type} : Lit × DataW H → Nat
  | (.string bytes, d) => bytes.length + uptoBulk d + 1
  | (_, d) => uptoBulk d + 1
 end
def uptoSmall : (H : Type) → List (DataW H) → Bool := fun _ ds => decide (uptoBulkAll ds ≤ 1048576)
def OpenSpec.upto (s : _root_.Go.ChangeSpec) : _root_.Go.OpenSpec := { _root_.Go.OpenSpec.ofChange s with cond := some uptoSmall }

/-- 'tenetlaw02.GraphSolves', WHERE WHAT IT READS IS OF BULK AT MOST 1048576: true; the input reads as it did. -/
def graphSolvesUptoRow : OpenClaim := { program := "ytmancgeiaaioaaa", sum := "f548ba8705d954516f3a79de709452810b2c9248517b8b4dce1841736e3f184e", func := "tenet/tenetlaw02.GraphSolves", spec := "graphSolves", unfollowed := true, recurses := true, apart := false, narrowed := true }
def GraphSolvesUptoSaid : Prop := graphSolvesUptoRow.holds Try.pinned (OpenSpec.upto graphSolvesSpec)

/-- 'tenetlaw02.GraphHolds', WHERE WHAT IT READS IS OF BULK AT MOST 1048576: true; the input reads as it did. -/
def graphHoldsUptoRow : OpenClaim := { program := "ytmancgeiaaioaaa", sum := "f548ba8705d954516f3a79de709452810b2c9248517b8b4dce1841736e3f184e", func := "tenet/tenetlaw02.GraphHolds", spec := "graphHolds", unfollowed := true, recurses := true, apart := false, narrowed := true }
def GraphHoldsUptoSaid : Prop := graphHoldsUptoRow.holds Try.pinned (OpenSpec.upto graphHoldsSpec)

/-- 'tenetlaw02.GraphLeast', WHERE WHAT IT READS IS OF BULK AT MOST 1048576: true; the input reads as it did. -/
def graphLeastUptoRow : OpenClaim := { program := "ytmancgeiaaioaaa", sum := "f548ba8705d954516f3a79de709452810b2c9248517b8b4dce1841736e3f184e", func := "tenet/tenetlaw02.GraphLeast", spec := "graphLeast", unfollowed := true, recurses := true, apart := false, narrowed := true }
def GraphLeastUptoSaid : Prop := graphLeastUptoRow.holds Try.pinned (OpenSpec.upto graphLeastSpec)

/-- 'tenetlaw02.GraphExtends', WHERE WHAT IT READS IS OF BULK AT MOST 1048576: true; the input reads as it did. -/
def graphExtendsUptoRow : OpenClaim := { program := "ytmancgeiaaioaaa", sum := "f548ba8705d954516f3a79de709452810b2c9248517b8b4dce1841736e3f184e", func := "tenet/tenetlaw02.GraphExtends", spec := "graphExtends", unfollowed := true, recurses := true, apart := false, narrowed := true }
def GraphExtendsUptoSaid : Prop := graphExtendsUptoRow.holds Try.pinned (OpenSpec.upto graphExtendsSpec)

/-- 'tenetlaw02.GraphJoins', WHERE WHAT IT READS IS OF BULK AT MOST 1048576: true; the input reads as it did. -/
def graphJoinsUptoRow : OpenClaim := { program := "ytmancgeiaaioaaa", sum := "f548ba8705d954516f3a79de709452810b2c9248517b8b4dce1841736e3f184e", func := "tenet/tenetlaw02.GraphJoins", spec := "graphJoins", unfollowed := true, recurses := true, apart := false, narrowed := true }
def GraphJoinsUptoSaid : Prop := graphJoinsUptoRow.holds Try.pinned (OpenSpec.upto graphJoinsSpec)

end Rows
end Go.Proofs.Ytmancgeiaaioaaa
