/- The document's halves, roundings, roots. -/
import Derived.Test.YtgiiddioinhfiaaZzLimC
import Derived.Test.YtgiiddioinhfiaaZzLimA
namespace Go.Proofs.Ytgiiddioinhfiaa
open Go.RowKit

end Go.Proofs.Ytgiiddioinhfiaa
namespace Go.Proofs.Ytgiiddioinhfiaa
open Go.RowKit

set_option maxRecDepth 20000 in
set_option maxHeartbeats 8000000 in
theorem rint_lo (n : Int) (hc : n < -9223372036854775807) (w : World) :
    Calls Try.prog 17 #[.int .i64 n] w fun e w' => e = .returned (.agg #[.int .i64 (-9223372036854775807), .int .u64 0]) ∧ Below w.heap.size w w' := by
  go_enter Try.func17, Try.ntmps17
  go_wp2_with fail
  refine bodyPost_ret (by simp [results, Try.results17, go_sem, *]; try rfl) rfl ?_
  exact ⟨rfl, bb⟩
set_option maxRecDepth 20000 in
set_option maxHeartbeats 8000000 in
theorem rint_hi (n : Int) (hc : ¬ n < -9223372036854775807) (w : World) :
    Calls Try.prog 17 #[.int .i64 n] w fun e w' => e = .returned (.agg #[.int .i64 n, .int .u64 0]) ∧ Below w.heap.size w w' := by
  go_enter Try.func17, Try.ntmps17
  go_wp2_with fail
  refine bodyPost_ret (by simp [results, Try.results17, go_sem, *]; try rfl) rfl ?_
  exact ⟨rfl, bb⟩
set_option maxRecDepth 20000 in
set_option maxHeartbeats 8000000 in
theorem rfloor_core (h l : Int)  (w : World) :
    Calls Try.prog 24 #[.agg #[.int .i64 h, .int .u64 l]] w fun e w' => e = .returned (.int .i64 h) ∧ Below w.heap.size w w' := by
  go_enter Try.func24, Try.ntmps24
  go_wp2_with fail
  go_returns
  exact ⟨rfl, bb⟩
end Go.Proofs.Ytgiiddioinhfiaa
namespace Go.Proofs.Ytgiiddioinhfiaa
open Go.RowKit

theorem ub_abs {x : Int} (h0 : 0 ≤ x) (h : My x) : ub x = x.natAbs := by obtain ⟨_, _⟩ := h; unfold ub; omega
theorem sg_out {b : Bool} {n : Nat} (h : 170141183460469231731687303715884105728 ≤ n) : ¬ My (sg b n) := by
  unfold My sg; cases b <;> simp <;> omega
theorem sg_in {b : Bool} {n : Nat} (h : n < 170141183460469231731687303715884105728) : My (sg b n) := by
  unfold My sg; cases b <;> simp <;> omega
theorem rint_any (n : Int) (w : World) :
    Calls Try.prog 17 #[.int .i64 n] w fun e w' => e = .returned (.agg #[.int .i64 (fh (intr n)), .int .u64 (fl (intr n))]) ∧ Below w.heap.size w w' := by
  unfold intr
  by_cases c : n < -9223372036854775807
  · rw [if_pos c]; exact rint_lo n c w
  · rw [if_neg c, show fh (n * 18446744073709551616) = n by unfold fh; omega, show fl (n * 18446744073709551616) = 0 by unfold fl; omega]
    exact rint_hi n c w
end Go.Proofs.Ytgiiddioinhfiaa
namespace Go.Proofs.Ytgiiddioinhfiaa
open Go.RowKit

end Go.Proofs.Ytgiiddioinhfiaa
