/-
  'heavy' of tenetlaw02, and the law GraphHolds.
-/
import Derived.Test.YtapajkfnpkekdaaGAwk
import Derived.Test.YtapajkfnpkekdaaRHold
namespace Go.Proofs.Ytapajkfnpkekdaa
open Go Go.RowKit

def longB (c : LCn) : Bool := decide (20 < c.1.2.length) || decide (20 < c.2.2.length)
def heavyB (v most : Int) (cs : List LCn) : Bool := decide (most < v) || decide (most < (cs.length : Int)) || cs.any longB

theorem HoldsPost.same {v : Int} {cs : List LCn} {vs : List Int} {w w' u u' : World} {e d : Ending} (h : HoldsPost v cs vs w e w') (g : HoldsPost v cs vs u d u') :
    ∃ a b : Int, e = .returned (.tuple #[.int .i64 a, .int .i64 b]) ∧ d = .returned (.tuple #[.int .i64 a, .int .i64 b]) := by
  obtain ⟨_, h⟩ := h
  obtain ⟨_, g⟩ := g
  rcases h with ⟨h1, h2⟩ | ⟨h1, ⟨h2, h3⟩ | ⟨h2, h3, i, h4, h5⟩⟩ <;> rcases g with ⟨g1, g2⟩ | ⟨g1, ⟨g2, g3⟩ | ⟨g2, g3, j, g4, g5⟩⟩
  · exact ⟨_, _, h2, g2⟩
  · rw [h1] at g1; cases g1
  · rw [h1] at g1; cases g1
  · rw [h1] at g1; cases g1
  · exact ⟨_, _, h3, g3⟩
  · rcases h2 with h2 | h2
    · exact absurd g2 h2
    · rw [h2] at g3; cases g3
  · rw [h1] at g1; cases g1
  · rcases g2 with g2 | g2
    · exact absurd h2 g2
    · rw [g2] at h3; cases h3
  · rw [h5.same g5] at h4
    exact ⟨_, _, h4, g4⟩

end Go.Proofs.Ytapajkfnpkekdaa
