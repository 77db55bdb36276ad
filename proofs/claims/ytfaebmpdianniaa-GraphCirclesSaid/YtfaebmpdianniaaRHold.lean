/-
  'Holds' of tenetref02.
-/
import Derived.Test.YtfaebmpdianniaaGHold
import Derived.Test.YtfaebmpdianniaaRGVld
namespace Go.Proofs.Ytfaebmpdianniaa
open Go Go.RowKit

end Go.Proofs.Ytfaebmpdianniaa
