/- The document's Width. -/
import Derived.Test.YtjilnmpajhifcaaZzRefA
namespace Go.Proofs.Ytjilnmpajhifcaa
open Go.RowKit
/-- A level, within its bounds. -/
def wlev (z : Int) : Nat := if z < 0 then 0 else if 32 < z then 32 else z.toNat
def wid (z : Int) : Value := .agg #[.int .i64 ((2 ^ (32 - wlev z) : Nat) : Int), .int .u64 0]
end Go.Proofs.Ytjilnmpajhifcaa
