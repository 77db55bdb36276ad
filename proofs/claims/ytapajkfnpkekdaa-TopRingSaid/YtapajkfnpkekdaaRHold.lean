/-
  'Holds' of tenetref02.
-/
import Derived.Test.YtapajkfnpkekdaaGHold
import Derived.Test.YtapajkfnpkekdaaRGVld
namespace Go.Proofs.Ytapajkfnpkekdaa
open Go Go.RowKit

end Go.Proofs.Ytapajkfnpkekdaa
