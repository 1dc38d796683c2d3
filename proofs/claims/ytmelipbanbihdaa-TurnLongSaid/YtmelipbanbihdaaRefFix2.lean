/- The document's numbers with a point, one at a time: as whole numbers. -/
import Derived.Test.YtmelipbanbihdaaRefFix1
namespace Go.Proofs.Ytmelipbanbihdaa
open Go.RowKit

theorem rneg_any (x : Int) (h : My x) (w : World) :
    Calls Try.prog 18 #[.agg #[.int .i64 (fh x), .int .u64 (fl x)]] w fun e w' => e = .returned (.agg #[.int .i64 (fh (-x)), .int .u64 (fl (-x))]) ∧ Below w.heap.size w w' := by
  have z : Wd 0 := ⟨by omega, by omega⟩
  have C := subTwo_any 0 0 (IntKind.u64.wrap (fh x)) (fl x) z z (by rw [ub_1]; exact wd_wd _ _) (fl_wd x)
  have e1 := ub_1 (x := x)
  have e0 := ub_0 x
  have hv : v2 (IntKind.u64.wrap (fh x)) (fl x) = ub x := by rw [e1, e0]; exact ub_v2 x
  rw [hv, show v2 0 0 = 0 from rfl, Nat.zero_add] at C
  have hl := ub_lt x
  have hn : Fx (-x) := by obtain ⟨_, _⟩ := h; exact ⟨by omega, by omega⟩
  have k := of_ub (x := -x) (n := 340282366920938463463374607431768211456 - ub x) hn (by unfold ub at hl ⊢; omega)
  rw [← wrap_i64] at k
  rw [← k.2]
  exact rneg_core _ _ _ _ _ _ _ rfl k.1 w C
theorem ub_abs {x : Int} (h0 : 0 ≤ x) (h : My x) : ub x = x.natAbs := by obtain ⟨_, _⟩ := h; unfold ub; omega
theorem rmag_any (x : Int) (h : My x) (w : World) :
    Calls Try.prog 24 #[.agg #[.int .i64 (fh x), .int .u64 (fl x)]] w fun e w' => e = .returned (.agg #[.int .u64 (wd x.natAbs 1), .int .u64 (wd x.natAbs 0)]) ∧ Below w.heap.size w w' := by
  by_cases c : x < 0
  · have hm : My (-x) := by obtain ⟨_, _⟩ := h; exact ⟨by omega, by omega⟩
    have e1 := ub_1 (x := -x)
    have e0 := ub_0 (-x)
    rw [ub_abs (by omega) hm, Int.natAbs_neg] at e1 e0
    rw [← e0]
    exact rmag_neg _ _ _ _ _ (by unfold fh; omega) e1 w (rneg_any x h)
  · have e1 := ub_1 (x := x)
    have e0 := ub_0 x
    rw [ub_abs (by omega) h] at e1 e0
    rw [← e0]
    exact rmag_pos _ _ _ (by unfold fh; omega) e1 w
theorem sg_out {b : Bool} {n : Nat} (h : 170141183460469231731687303715884105728 ≤ n) : ¬ My (sg b n) := by
  unfold My sg; cases b <;> simp <;> omega
theorem sg_in {b : Bool} {n : Nat} (h : n < 170141183460469231731687303715884105728) : My (sg b n) := by
  unfold My sg; cases b <;> simp <;> omega
theorem rsigned_any (b : Bool) (n : Nat) (h : n < 115792089237316195423570985008687907853269984665640564039457584007913129639936) (w : World) :
    Calls Try.prog 42 #[.bool b, .agg #[.int .u64 (wd n 3), .int .u64 (wd n 2), .int .u64 (wd n 1), .int .u64 (wd n 0)]] w fun e w' =>
      e = .returned (.agg #[.int .i64 (fh (ov (sg b n))), .int .u64 (fl (ov (sg b n))), .int .i64 (oe (sg b n))]) ∧ Below w.heap.size w w' := by
  by_cases c : 340282366920938463463374607431768211456 ≤ n
  · rw [ov_out (sg_out (b := b) (by omega)), oe_out (sg_out (b := b) (by omega)), show fh 0 = 0 from rfl, show fl 0 = 0 from rfl]
    refine rsigned_hi _ _ _ _ b (fun W => ?_) w
    rw [ne_two_one, decide_eq_false]
    · rfl
    · rw [wd3, wd2]; omega
  have q : ∀ W, (Go.binOp .neq 51 (.agg #[.int .u64 (wd n 3), .int .u64 (wd n 2)]) (.agg #[.int .u64 0, .int .u64 0])).run Try.prog W = .ok (.bool false) W := fun W => by
    rw [ne_two_one, decide_eq_true]
    · rfl
    · rw [wd3, wd2]; omega
  by_cases d : 170141183460469231731687303715884105728 ≤ n
  · rw [ov_out (sg_out (b := b) d), oe_out (sg_out (b := b) d), show fh 0 = 0 from rfl, show fl 0 = 0 from rfl]
    exact rsigned_mid _ _ _ _ b q (by rw [wd1]; omega) w
  · rw [ov_in (sg_in (b := b) (by omega)), oe_in (sg_in (b := b) (by omega))]
    have hm : My (n : Int) := ⟨by omega, by omega⟩
    have e1 : wd n 1 = fh (n : Int) := by rw [wd1]; unfold fh; omega
    have e0 : wd n 0 = fl (n : Int) := by rw [wd0]; unfold fl; omega
    have ew : IntKind.i64.wrap (wd n 1) = fh (n : Int) := by rw [e1]; exact IntWalk.i64_in _ (by unfold fh; omega)
    have hg : ¬ 9223372036854775808 ≤ wd n 1 := by rw [wd1]; omega
    cases b
    · show Calls _ _ _ _ (fun e w' => e = .returned (.agg #[.int .i64 (fh (n : Int)), .int .u64 (fl (n : Int)), .int .i64 0]) ∧ _)
      rw [← e0]
      exact rsigned_pos _ _ _ _ _ q hg ew w
    · show Calls _ _ _ _ (fun e w' => e = .returned (.agg #[.int .i64 (fh (-(n : Int))), .int .u64 (fl (-(n : Int))), .int .i64 0]) ∧ _)
      have C := rneg_any (n : Int) hm
      rw [← e0] at C
      exact rsigned_neg _ _ _ _ _ _ _ q hg ew w C
theorem rint_any (n : Int) (w : World) :
    Calls Try.prog 22 #[.int .i64 n] w fun e w' => e = .returned (.agg #[.int .i64 (fh (intr n)), .int .u64 (fl (intr n))]) ∧ Below w.heap.size w w' := by
  unfold intr
  by_cases c : n < -9223372036854775807
  · rw [if_pos c]; exact rint_lo n c w
  · rw [if_neg c, show fh (n * 18446744073709551616) = n by unfold fh; omega, show fl (n * 18446744073709551616) = 0 by unfold fl; omega]
    exact rint_hi n c w
end Go.Proofs.Ytmelipbanbihdaa
