/-
  'Constraint' and 'Valid' of the reference of package graph.
-/
import Derived.Test.YtklnjaafdjhkfaaGVld
namespace Go.Proofs.Ytklnjaafdjhkfaa
open Go Go.RowKit

end Go.Proofs.Ytklnjaafdjhkfaa
