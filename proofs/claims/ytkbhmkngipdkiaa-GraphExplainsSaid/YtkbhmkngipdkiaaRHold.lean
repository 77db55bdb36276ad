/-
  'Holds' of tenetref02.
-/
import Derived.Test.YtkbhmkngipdkiaaGHold
import Derived.Test.YtkbhmkngipdkiaaRGVld
namespace Go.Proofs.Ytkbhmkngipdkiaa
open Go Go.RowKit

end Go.Proofs.Ytkbhmkngipdkiaa
