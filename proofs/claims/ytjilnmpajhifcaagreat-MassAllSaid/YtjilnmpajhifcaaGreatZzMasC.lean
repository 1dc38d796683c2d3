/- The program's Centre. -/
import Derived.Test.YtjilnmpajhifcaaGreatZzMasB
import Derived.Test.YtjilnmpajhifcaaGreatZzMasA
import Derived.Test.YtjilnmpajhifcaaGreatZzFixB
import Derived.Test.YtjilnmpajhifcaaGreatZzFixC
namespace Go.Proofs.YtjilnmpajhifcaaGreat
open Go.RowKit
theorem padd_prog : PAddT := fun x y hx hy h W => by
  have k := fadd_any x y hx hy W
  rw [ov_in h, oe_in h] at k; exact k
theorem pmul_prog : PMulT := fun x y hx hy h W => by
  have k := fmul_any x y hx hy W
  rw [ov_in h, oe_in h] at k; exact k
theorem pdiv_prog : PDivT := fun x y hx hy h0 h W => by
  have k := fdiv_any x y hx hy h0 W
  rw [ov_in h, oe_in h] at k; exact k
theorem cen_prog : CenT := fun A n c L h0 hn hm W hL => centre_core A n c _ _ _ _ _ _ 0 W fun w' h => added_any padd_prog pmul_prog pdiv_prog A n c L h0 hn hm w' (hL.below h)
theorem cenn_prog : CenNT := fun A c W => centre_core A 0 c 0 0 0 0 0 0 1 W fun w' _ => added_none A c w'
end Go.Proofs.YtjilnmpajhifcaaGreat
