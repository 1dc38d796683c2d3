/- The document's Add, Mul, Div, Centre, where the answers may be. -/
import Derived.Test.YtjilnmpajhifcaaZzRefE
import Derived.Test.YtjilnmpajhifcaaZzRefF
import Derived.Test.YtjilnmpajhifcaaMassCel
namespace Go.Proofs.Ytjilnmpajhifcaa
open Go.RowKit
theorem radd_prog : RAddT := fun x y hx hy h W => by
  have k := radd_any x y hx hy W
  rw [ov_in h, oe_in h] at k; exact k
end Go.Proofs.Ytjilnmpajhifcaa
