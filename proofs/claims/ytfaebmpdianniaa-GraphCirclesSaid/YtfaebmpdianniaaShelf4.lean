/- Nothing of math/bits is laid at this seat. -/
import Derived.Test.YtfaebmpdianniaaProg
namespace Go.Proofs
end Go.Proofs
