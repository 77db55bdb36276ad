/-
  'Valid' of the reference of package level: the same Bool as package level's own, for every level.
-/
import Derived.Test.YtklnjaafdjhkfaaVld
namespace Go.Proofs.Ytklnjaafdjhkfaa
open Go Go.RowKit

end Go.Proofs.Ytklnjaafdjhkfaa
