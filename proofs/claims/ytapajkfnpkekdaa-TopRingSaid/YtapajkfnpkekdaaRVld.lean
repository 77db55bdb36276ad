/-
  'Valid' of the reference of package level: the same Bool as package level's own, for every level.
-/
import Derived.Test.YtapajkfnpkekdaaVld
namespace Go.Proofs.Ytapajkfnpkekdaa
open Go Go.RowKit

end Go.Proofs.Ytapajkfnpkekdaa
