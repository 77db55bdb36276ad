/-
  Nothing is laid here.
-/
import Derived.Test.YtapajkfnpkekdaaProg
namespace Go.Proofs.Ytapajkfnpkekdaa
end Go.Proofs.Ytapajkfnpkekdaa
