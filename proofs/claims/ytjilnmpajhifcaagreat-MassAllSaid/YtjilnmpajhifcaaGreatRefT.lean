/- What the document's Sub and Cmp come to, where the answer may be. -/
import Derived.Test.YtjilnmpajhifcaaGreatZzBod
namespace Go.Proofs.YtjilnmpajhifcaaGreat
open Go.RowKit
def RSubT : Prop := ∀ x y : Int, My x → My y → My (x - y) → ∀ W : World, Calls Tryz.prog 41 #[fxv x, fxv y] W fun e w' => e = .returned (.agg #[.int .i64 (fh (x - y)), .int .u64 (fl (x - y)), .int .i64 0]) ∧ Below W.heap.size W w'
def RCmpT : Prop := ∀ x y : Int, ∀ W : World, Calls Tryz.prog 40 #[fxv x, fxv y] W fun e w' => e = .returned (.int .i64 (icmp x y)) ∧ Below W.heap.size W w'
theorem ic_lt {x y : Int} (h : x < y) : icmp x y = -1 := by unfold icmp; rw [if_pos h]
theorem ic_gt {x y : Int} (h : y < x) : icmp x y = 1 := by unfold icmp; rw [if_neg (by omega), if_pos h]
theorem ic_ge {x y : Int} (h : ¬ x < y) : 0 ≤ icmp x y := by unfold icmp; rw [if_neg h]; split <;> omega
theorem ic_le {x y : Int} (h : ¬ y < x) : icmp x y ≤ 0 := by unfold icmp; split <;> first | omega | (split <;> omega)
end Go.Proofs.YtjilnmpajhifcaaGreat
