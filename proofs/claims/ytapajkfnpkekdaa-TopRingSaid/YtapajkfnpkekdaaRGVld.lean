/-
  'Constraint' and 'Valid' of the reference of package graph.
-/
import Derived.Test.YtapajkfnpkekdaaGVld
namespace Go.Proofs.Ytapajkfnpkekdaa
open Go Go.RowKit

end Go.Proofs.Ytapajkfnpkekdaa
