/-
  'covers' of package level, 'least' of its reference: what they return for every input.
-/
import Derived.Test.YtapajkfnpkekdaaVld
namespace Go.Proofs.Ytapajkfnpkekdaa
open Go Go.RowKit

/-- some pair of l is at least x -/
def cov (l : List (Int × Int)) (x : Int × Int) : Bool := l.any fun y => y.1 == x.1 && decide (x.2 ≤ y.2)
theorem cov_snoc (l : List (Int × Int)) (x y : Int × Int) : cov (l ++ [y]) x = (cov l x || (y.1 == x.1 && decide (x.2 ≤ y.2))) := by simp [cov]
theorem cov_of {l : List (Int × Int)} {x y : Int × Int} {k : Nat} (hy : l[k]? = some y) (h : (y.1 == x.1 && decide (x.2 ≤ y.2)) = true) : cov l x = true := by
  obtain ⟨q, rfl⟩ := List.getElem?_eq_some_iff.1 hy
  exact List.any_eq_true.2 ⟨_, List.getElem_mem q, h⟩

/-- the value of a level at 0 -/
def lst (c : Int) (l : List (Int × Int)) : Int := l.foldl (fun t x => if t < x.2 then x.2 else t) c
theorem lst_snoc (c : Int) (l : List (Int × Int)) (x : Int × Int) : lst c (l ++ [x]) = if lst c l < x.2 then x.2 else lst c l := by unfold lst; rw [List.foldl_append]; rfl

end Go.Proofs.Ytapajkfnpkekdaa
