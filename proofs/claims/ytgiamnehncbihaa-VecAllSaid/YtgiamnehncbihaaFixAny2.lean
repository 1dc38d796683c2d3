/- What each call of package fix comes to, by whole numbers: products, roots, halves, whole numbers. -/
import Derived.Test.YtgiamnehncbihaaFixMul
import Derived.Test.YtgiamnehncbihaaMulAny
import Derived.Test.YtgiamnehncbihaaSqrt
namespace Go.Proofs.Ytgiamnehncbihaa
open Go.RowKit

theorem abs_v2 {x : Int} (h : Fx x) : v2 (wd x.natAbs 1) (wd x.natAbs 0) = x.natAbs := by
  obtain ⟨_, _⟩ := h
  rw [v2_wd]; omega
theorem v4_of {n : Nat} (h : n < 115792089237316195423570985008687907853269984665640564039457584007913129639936) : v4 (wd n 3) (wd n 2) (wd n 1) (wd n 0) = n := v4_small h
theorem v4_lower {h l : Int} : v4 0 0 h l = v2 h l := by unfold v4; rw [v2_zero, Nat.zero_mul, Nat.zero_add]
theorem up_bit (n : Nat) : wd n 0 / 9223372036854775808 = ((n / 9223372036854775808 % 2 : Nat) : Int) := by
  rw [wd0]; omega
theorem up_round (n : Nat) : n / 18446744073709551616 + n / 9223372036854775808 % 2 = (n + 9223372036854775808) / 18446744073709551616 := by omega
theorem pow_64 : (2 : Nat) ^ (64 : Int).toNat = 18446744073709551616 := by decide
theorem pow_1 : (2 : Nat) ^ (1 : Int).toNat = 2 := by decide
theorem abs_lt {x : Int} (h : My x) : x.natAbs < 170141183460469231731687303715884105728 := by obtain ⟨_, _⟩ := h; omega
theorem fmul_any (x y : Int) (hx : My x) (hy : My y) (w : World) :
    Calls Try.prog 58 #[.agg #[.int .i64 (fh x), .int .u64 (fl x)], .agg #[.int .i64 (fh y), .int .u64 (fl y)]] w fun e w' => e = .returned (.tuple #[.agg #[.int .i64 (fh (ov (mulr x y))), .int .u64 (fl (ov (mulr x y)))], .int .i64 (oe (mulr x y))]) ∧ Below w.heap.size w w' := by
  have C3 := mul_any _ _ _ _ (wd_wd x.natAbs 1) (wd_wd x.natAbs 0) (wd_wd y.natAbs 1) (wd_wd y.natAbs 0)
  rw [abs_v2 hx.fx, abs_v2 hy.fx] at C3
  have hp : x.natAbs * y.natAbs < 115792089237316195423570985008687907853269984665640564039457584007913129639936 :=
    Nat.lt_of_le_of_lt (Nat.mul_le_mul (Nat.le_of_lt (abs_lt hx)) (Nat.le_of_lt (abs_lt hy))) (by decide)
  have C4 := shr_any _ _ _ _ 64 (wd_wd (x.natAbs * y.natAbs) 3) (wd_wd (x.natAbs * y.natAbs) 2) (wd_wd (x.natAbs * y.natAbs) 1) (wd_wd (x.natAbs * y.natAbs) 0) (by decide)
  rw [v4_of hp, pow_64] at C4
  have hs : mulr x y = sg (decide (x < 0) != decide (y < 0)) ((x.natAbs * y.natAbs / 18446744073709551616 + x.natAbs * y.natAbs / 9223372036854775808 % 2 : Nat) : Int) := by
    unfold mulr; rw [up_round]
  rw [hs]
  generalize x.natAbs * y.natAbs = n at *
  have C7 := nearest_any _ _ _ _ (n / 9223372036854775808 % 2) (decide (x < 0) != decide (y < 0)) (wd_wd (n / 18446744073709551616) 3) (wd_wd (n / 18446744073709551616) 2) (wd_wd (n / 18446744073709551616) 1) (wd_wd (n / 18446744073709551616) 0) (by omega)
  rw [v4_of (show n / 18446744073709551616 < _ from Nat.lt_of_le_of_lt (Nat.div_le_self _ _) hp)] at C7
  exact fmul_core _ _ _ _ _ _ _ _ _ _ _ _ _ _ _ _ _ _ _ _ _ _ _ (up_bit n) (sw_xor _ _) w (size_any x hx.fx) (size_any y hy.fx) C3 C4 (sign_any x hx.fx) (sign_any y hy.fx) C7
/-- The greatest number whose square is at most x. -/
def sqr (x : Int) : Int := ((isq (x.toNat * 18446744073709551616) : Nat) : Int)
theorem sqr_My {x : Int} (h : My x) : My (sqr x) := by
  obtain ⟨_, _⟩ := h
  have := isq_lt (n := x.toNat * 18446744073709551616) (k := 170141183460469231731687303715884105728) (by omega)
  unfold sqr; constructor <;> omega
theorem fsqrt_any (x : Int) (hx : My x) (h0 : 0 ≤ x) (w : World) :
    Calls Try.prog 60 #[.agg #[.int .i64 (fh x), .int .u64 (fl x)]] w fun e w' => e = .returned (.tuple #[.agg #[.int .i64 (fh (sqr x)), .int .u64 (fl (sqr x))], .int .i64 0]) ∧ Below w.heap.size w w' := by
  have C1 := sign_any x hx.fx
  rw [decide_eq_false (show ¬ x < 0 by omega), sw_false] at C1
  have z : Wd 0 := ⟨by omega, by omega⟩
  have C3 := shl_any 0 0 _ _ 64 z z (wd_wd (ub x) 1) (wd_wd (ub x) 0) (by decide)
  have hu : ub x = x.toNat := by obtain ⟨_, _⟩ := hx; unfold ub; omega
  rw [v4_lower, ub_v2, pow_64, hu] at C3
  have hb : x.toNat * 18446744073709551616 < 115792089237316195423570985008687907853269984665640564039457584007913129639936 := by obtain ⟨_, _⟩ := hx; omega
  have C4 := sqrt_any _ _ _ _ (wd_wd (x.toNat * 18446744073709551616) 3) (wd_wd (x.toNat * 18446744073709551616) 2) (wd_wd (x.toNat * 18446744073709551616) 1) (wd_wd (x.toNat * 18446744073709551616) 0)
  rw [v4_of hb] at C4
  exact fsqrt_ok _ _ _ _ _ _ _ _ _ _ _ _ w C1 (bits_any x) (by rw [hu]; exact C3) C4 (ofBits_any (sqr x) _ (sqr_My hx).fx (by unfold sqr; rfl))
theorem fsqrt_none (x : Int) (hx : My x) (h0 : x < 0) (w : World) :
    Calls Try.prog 60 #[.agg #[.int .i64 (fh x), .int .u64 (fl x)]] w fun e w' => e = .returned (.tuple #[.agg #[.int .i64 (fh 0), .int .u64 (fl 0)], .int .i64 1]) ∧ Below w.heap.size w w' := by
  have C1 := sign_any x hx.fx
  rw [decide_eq_true h0, sw_true] at C1
  exact fsqrt_below _ _ _ (by decide) w C1
theorem u64_and1 (x : Int) (h : Wd x) : bits .and .u64 x 1 = x % 2 := bits_mask .u64 64 (by decide) (fun n h0 h1 => IntWalk.u64_in n (by omega)) 1 (by decide) x h.1 h.2
theorem half_My {x : Int} (h : My x) : My (halfr x) := by
  have := abs_lt h
  unfold halfr; exact sg_small (by omega)
theorem rnd_wrap (s : Bool) (n : Nat) (h : n < 9223372036854775808) : wrap64 (sg s n % 18446744073709551616) = sg s n := by
  unfold wrap64 sg; cases s <;> simp <;> omega
end Go.Proofs.Ytgiamnehncbihaa
