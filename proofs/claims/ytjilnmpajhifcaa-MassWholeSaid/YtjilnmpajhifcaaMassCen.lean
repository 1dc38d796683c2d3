/- The document's Centre, of some bodies. -/
import Derived.Test.YtjilnmpajhifcaaMassBod
import Derived.Laws.ResultCell
namespace Go.Proofs.Ytjilnmpajhifcaa
open Go.RowKit
end Go.Proofs.Ytjilnmpajhifcaa
