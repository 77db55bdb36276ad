/-
  'Holds' of tenetref02.
-/
import Derived.Test.YtolilmodihgaiaaGHold
import Derived.Test.YtolilmodihgaiaaRGVld
namespace Go.Proofs.Ytolilmodihgaiaa
open Go Go.RowKit

end Go.Proofs.Ytolilmodihgaiaa
