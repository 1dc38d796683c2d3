/- Lists as arguments: bodies by their keys, bytes; opened, and as they were behind the call. -/
import Derived.Test.YtjilnmpajhifcaaSortLaw
import Derived.Test.YtjilnmpajhifcaaZzLimC
import Derived.Deep.SlicePairs
import Derived.Carry
import Derived.ProofKit
namespace Go.Proofs.Ytjilnmpajhifcaa
open Go.ChangeShapes Go.WideShapes Go.ChangeAt Go.RowKit Go.Joins
theorem slaidOut : laidOutB Try.prog = true := by kernel_rfl
section
variable {H : Type} {enc : TypeId × Value → H} {w : World} {base : Nat} {spare : Nat → Bool} {held : Bool}
end
end Go.Proofs.Ytjilnmpajhifcaa
