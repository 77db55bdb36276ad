/-
  'Holds' of tenetref02.
-/
import Derived.Test.YtklnjaafdjhkfaaGHold
import Derived.Test.YtklnjaafdjhkfaaRGVld
namespace Go.Proofs.Ytklnjaafdjhkfaa
open Go Go.RowKit

end Go.Proofs.Ytklnjaafdjhkfaa
