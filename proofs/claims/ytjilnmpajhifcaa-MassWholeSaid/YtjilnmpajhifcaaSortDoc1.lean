/- The document's Rising. -/
import Derived.Test.YtjilnmpajhifcaaSortMem
namespace Go.Proofs.Ytjilnmpajhifcaa
open Go.RowKit
end Go.Proofs.Ytjilnmpajhifcaa
