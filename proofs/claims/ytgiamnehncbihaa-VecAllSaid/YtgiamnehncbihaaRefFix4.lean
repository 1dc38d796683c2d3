/- The document's halves, roundings, roots: as whole numbers. -/
import Derived.Test.YtgiamnehncbihaaRefFix3
import Derived.Test.YtgiamnehncbihaaFixAny2
import Derived.Test.YtgiamnehncbihaaRefRoot
import Derived.Test.YtgiamnehncbihaaRefShl
import Derived.Test.YtgiamnehncbihaaRefShr
namespace Go.Proofs.Ytgiamnehncbihaa
open Go.RowKit

theorem neg_word (x : Int) : decide (fh x < 0) = decide (x < 0) := by
  unfold fh
  by_cases c : x < 0
  · rw [decide_eq_true c, decide_eq_true (by omega)]
  · rw [decide_eq_false c, decide_eq_false (by omega)]
theorem v2_63 : v2 0 9223372036854775808 = 9223372036854775808 := by simp [v2]
theorem rnd_words (N : Nat) (h : N < 170141183460469231731687303715884105728) : wd (N + 9223372036854775808) 1 = (((N + 9223372036854775808) / 18446744073709551616 : Nat) : Int) ∧ (N + 9223372036854775808) / 18446744073709551616 ≤ 9223372036854775808 := by
  constructor
  · rw [wd1]; omega
  · omega
theorem rsqrt_any (x : Int) (hx : My x) (h0 : 0 ≤ x) (w : World) :
    Calls Try.prog 65 #[.agg #[.int .i64 (fh x), .int .u64 (fl x)]] w fun e w' => e = .returned (.agg #[.int .i64 (fh (sqr x)), .int .u64 (fl (sqr x)), .int .i64 0]) ∧ Below w.heap.size w w' := by
  have hn := abs_lt hx
  have z : Wd 0 := ⟨by omega, by omega⟩
  have C2 := rshl_any 0 0 _ _ 64 z z (wd_wd x.natAbs 1) (wd_wd x.natAbs 0) (by decide)
  rw [v4_lower, v2_wd, Nat.mod_eq_of_lt (show x.natAbs < _ by omega), pow_64, show x.natAbs = x.toNat by omega] at C2
  have C1 := rmag_any x hx
  rw [show x.natAbs = x.toNat by omega] at C1
  have hb : x.toNat * 18446744073709551616 < 115792089237316195423570985008687907853269984665640564039457584007913129639936 := by obtain ⟨_, _⟩ := hx; omega
  have C3 := rroot_any _ _ _ _ (wd_wd (x.toNat * 18446744073709551616) 3) (wd_wd (x.toNat * 18446744073709551616) 2) (wd_wd (x.toNat * 18446744073709551616) 1) (wd_wd (x.toNat * 18446744073709551616) 0)
  rw [v4_of hb] at C3
  have hs := sqr_My hx
  have hr : isq (x.toNat * 18446744073709551616) < 170141183460469231731687303715884105728 := by obtain ⟨_, _⟩ := hs; unfold sqr at *; omega
  have C4 := rsigned_any false (isq (x.toNat * 18446744073709551616)) (by omega)
  have e3 : wd (isq (x.toNat * 18446744073709551616)) 3 = 0 := by rw [wd3]; omega
  have e2 : wd (isq (x.toNat * 18446744073709551616)) 2 = 0 := by rw [wd2]; omega
  rw [e3, e2, show sg false ((isq (x.toNat * 18446744073709551616) : Nat) : Int) = sqr x from rfl, ov_in hs, oe_in hs] at C4
  exact rsqrt_core _ _ _ _ _ _ _ _ _ _ _ _ _ (by unfold fh; omega) w C1 C2 C3 C4
theorem rsqrt_below (x : Int) (h0 : x < 0) (w : World) :
    Calls Try.prog 65 #[.agg #[.int .i64 (fh x), .int .u64 (fl x)]] w fun e w' => e = .returned (.agg #[.int .i64 0, .int .u64 0, .int .i64 1]) ∧ Below w.heap.size w w' :=
  rsqrt_none _ _ (by unfold fh; omega) w
end Go.Proofs.Ytgiamnehncbihaa
