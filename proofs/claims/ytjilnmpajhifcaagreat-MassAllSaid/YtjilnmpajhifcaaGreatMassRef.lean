/- The document's Add, Mul, Div, Centre, where the answers may be. -/
import Derived.Test.YtjilnmpajhifcaaGreatZzRefE
import Derived.Test.YtjilnmpajhifcaaGreatZzRefF
import Derived.Test.YtjilnmpajhifcaaGreatZzMasA
namespace Go.Proofs.YtjilnmpajhifcaaGreat
open Go.RowKit
theorem radd_prog : RAddT := fun x y hx hy h W => by
  have k := radd_any x y hx hy W
  rw [ov_in h, oe_in h] at k; exact k
theorem rmul_prog : RMulT := fun x y hx hy h W => by
  have k := rmul_any x y hx hy W
  rw [ov_in h, oe_in h] at k; exact k
theorem rdiv_prog : RDivT := fun x y hx hy h0 h W => by
  have k := rdivf_any x y hx hy h0 W
  rw [ov_in h, oe_in h] at k; exact k
theorem rcen_prog : RCenT := fun A n c L h0 hn hm W hL => rcentre_any radd_prog rmul_prog rdiv_prog A n c L h0 hn hm W hL
end Go.Proofs.YtjilnmpajhifcaaGreat
