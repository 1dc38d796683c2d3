/- Directions: a quarter, half of an angle. -/
import Derived.Test.YtmelipbanbihdaaFixAdd
import Derived.Test.YtmelipbanbihdaaFixSub
import Derived.Test.YtmelipbanbihdaaFixMul
import Derived.Test.YtmelipbanbihdaaMulAny
import Derived.Test.YtmelipbanbihdaaSqrt
import Derived.Test.YtmelipbanbihdaaRefFix3
import Derived.Test.YtmelipbanbihdaaRefRoot
import Derived.Test.YtmelipbanbihdaaRefShl
import Derived.Test.YtmelipbanbihdaaRefShr
import Derived.Test.YtmelipbanbihdaaRefFix6
import Derived.WalkKit
import Derived.Deep.RegionHeld3
import Derived.Test.YtmelipbanbihdaaFixOpen
import Derived.Test.YtmelipbanbihdaaRefSum
import Derived.Maps.Own
import Derived.MapViews
import Derived.DeepKeys4
import Derived.Carry
import Derived.Test.YtmelipbanbihdaaRefFix2
namespace Go.Proofs.Ytmelipbanbihdaa
open Go.RowKit

theorem sw_and (a b : Bool) : bits .and .u64 (sw a) (sw b) = sw (a && b) := by
  cases a <;> cases b <;> decide
theorem sw_ne {s : Bool} (h : s = true) : sw s ≠ 0 := by subst h; decide
theorem sw_eq {s : Bool} (h : ¬ s = true) : sw s = 0 := by cases s; rfl; exact absurd rfl h
/-- The sum's bits, read as a number. -/
def bmod (n : Int) : Int := (n + 170141183460469231731687303715884105728) % 340282366920938463463374607431768211456 - 170141183460469231731687303715884105728
theorem bmod_Fx (n : Int) : Fx (bmod n) := by unfold bmod; constructor <;> omega
theorem fadd_any (x y : Int) (hx : My x) (hy : My y) (w : World) :
    Calls Try.prog 44 #[.agg #[.int .i64 (fh x), .int .u64 (fl x)], .agg #[.int .i64 (fh y), .int .u64 (fl y)]] w fun e w' => e = .returned (.tuple #[.agg #[.int .i64 (fh (ov (x + y))), .int .u64 (fl (ov (x + y)))], .int .i64 (oe (x + y))]) ∧ Below w.heap.size w w' := by
  have C3 := add_any _ _ _ _ (wd_wd (ub x) 1) (wd_wd (ub x) 0) (wd_wd (ub y) 1) (wd_wd (ub y) 0)
  rw [ub_v2, ub_v2] at C3
  have C4 := ofBits_any (bmod (x + y)) (ub x + ub y) (bmod_Fx _) (by unfold bmod ub; omega)
  have C7 := sign_any (bmod (x + y)) (bmod_Fx _)
  have C8 := may_any (bmod (x + y))
  have hz : (bmod (x + y) = x + y ∧ My (x + y)) ∨ (¬ My (x + y) ∧ (bmod (x + y) = -170141183460469231731687303715884105728 ∨ (x < 0 ∧ y < 0 ∧ 0 ≤ bmod (x + y)) ∨ (0 ≤ x ∧ 0 ≤ y ∧ bmod (x + y) < 0))) := by
    obtain ⟨_, _⟩ := hx; obtain ⟨_, _⟩ := hy
    unfold bmod My; omega
  have hnot : My (x + y) → ¬ (x < 0 ∧ y < 0 ∧ 0 ≤ x + y) ∧ ¬ (0 ≤ x ∧ 0 ≤ y ∧ x + y < 0) := fun _ => by omega
  generalize bmod (x + y) = z at *
  by_cases c : ((decide (x < 0) != decide (z < 0)) && (decide (y < 0) != decide (z < 0))) = true
  · have hb : ¬ My (x + y) := by
      intro hm
      rcases hz with ⟨h1, _⟩ | ⟨h1, _⟩
      · have := hnot hm
        subst h1
        simp at c
        omega
      · exact h1 hm
    rw [ov_out hb, oe_out hb, fh_zero, fl_zero]
    exact fadd_over _ _ _ _ _ _ _ _ _ _ _ _ _ _ _ _ _ _ _ (sw_xor _ _) (sw_xor _ _) (sw_and _ _) (sw_ne c) w (bits_any x) (bits_any y) C3 C4 (sign_any x hx.fx) (sign_any y hy.fx) C7
  · by_cases d : z = -170141183460469231731687303715884105728
    · have hb : ¬ My (x + y) := by
        intro hm
        rcases hz with ⟨h1, h2⟩ | ⟨h1, _⟩
        · obtain ⟨_, _⟩ := h2; omega
        · exact h1 hm
      rw [ov_out hb, oe_out hb, fh_zero, fl_zero]
      rw [decide_eq_false (by simpa using d)] at C8
      exact fadd_least _ _ _ _ _ _ _ _ _ _ _ _ _ _ _ _ _ _ _ (sw_xor _ _) (sw_xor _ _) (sw_and _ _) (sw_eq c) w (bits_any x) (bits_any y) C3 C4 (sign_any x hx.fx) (sign_any y hy.fx) C7 C8
    · have hm : z = x + y ∧ My (x + y) := by
        rcases hz with h | ⟨h1, h2⟩
        · exact h
        · simp at c
          omega
      rw [ov_in hm.2, oe_in hm.2, ← hm.1]
      rw [decide_eq_true d] at C8
      exact fadd_ok _ _ _ _ _ _ _ _ _ _ _ _ _ _ _ _ _ _ _ (sw_xor _ _) (sw_xor _ _) (sw_and _ _) (sw_eq c) w (bits_any x) (bits_any y) C3 C4 (sign_any x hx.fx) (sign_any y hy.fx) C7 C8
theorem fsub_any (x y : Int) (hx : My x) (hy : My y) (w : World) :
    Calls Try.prog 45 #[.agg #[.int .i64 (fh x), .int .u64 (fl x)], .agg #[.int .i64 (fh y), .int .u64 (fl y)]] w fun e w' => e = .returned (.tuple #[.agg #[.int .i64 (fh (ov (x - y))), .int .u64 (fl (ov (x - y)))], .int .i64 (oe (x - y))]) ∧ Below w.heap.size w w' := by
  have C3 := sub_any _ _ _ _ (wd_wd (ub x) 1) (wd_wd (ub x) 0) (wd_wd (ub y) 1) (wd_wd (ub y) 0)
  rw [ub_v2, ub_v2] at C3
  have C4 := ofBits_any (bmod (x - y)) (ub x + (340282366920938463463374607431768211456 - ub y)) (bmod_Fx _) (by unfold bmod ub; omega)
  have C7 := sign_any (bmod (x - y)) (bmod_Fx _)
  have C8 := may_any (bmod (x - y))
  have hz : (bmod (x - y) = x - y ∧ My (x - y)) ∨ (¬ My (x - y) ∧ (bmod (x - y) = -170141183460469231731687303715884105728 ∨ (x < 0 ∧ 0 ≤ y ∧ 0 ≤ bmod (x - y)) ∨ (0 ≤ x ∧ y < 0 ∧ bmod (x - y) < 0))) := by
    obtain ⟨_, _⟩ := hx; obtain ⟨_, _⟩ := hy
    unfold bmod My; omega
  have hnot : My (x - y) → ¬ (x < 0 ∧ 0 ≤ y ∧ 0 ≤ x - y) ∧ ¬ (0 ≤ x ∧ y < 0 ∧ x - y < 0) := fun _ => by omega
  generalize bmod (x - y) = z at *
  by_cases c : ((decide (x < 0) != decide (y < 0)) && (decide (x < 0) != decide (z < 0))) = true
  · have hb : ¬ My (x - y) := by
      intro hm
      rcases hz with ⟨h1, _⟩ | ⟨h1, _⟩
      · have := hnot hm
        subst h1
        simp at c
        omega
      · exact h1 hm
    rw [ov_out hb, oe_out hb, fh_zero, fl_zero]
    exact fsub_over _ _ _ _ _ _ _ _ _ _ _ _ _ _ _ _ _ _ _ (sw_xor _ _) (sw_xor _ _) (sw_and _ _) (sw_ne c) w (bits_any x) (bits_any y) C3 C4 (sign_any x hx.fx) (sign_any y hy.fx) C7
  · by_cases d : z = -170141183460469231731687303715884105728
    · have hb : ¬ My (x - y) := by
        intro hm
        rcases hz with ⟨h1, h2⟩ | ⟨h1, _⟩
        · obtain ⟨_, _⟩ := h2; omega
        · exact h1 hm
      rw [ov_out hb, oe_out hb, fh_zero, fl_zero]
      rw [decide_eq_false (by simpa using d)] at C8
      exact fsub_least _ _ _ _ _ _ _ _ _ _ _ _ _ _ _ _ _ _ _ (sw_xor _ _) (sw_xor _ _) (sw_and _ _) (sw_eq c) w (bits_any x) (bits_any y) C3 C4 (sign_any x hx.fx) (sign_any y hy.fx) C7 C8
    · have hm : z = x - y ∧ My (x - y) := by
        rcases hz with h | ⟨h1, h2⟩
        · exact h
        · simp at c
          omega
      rw [ov_in hm.2, oe_in hm.2, ← hm.1]
      rw [decide_eq_true d] at C8
      exact fsub_ok _ _ _ _ _ _ _ _ _ _ _ _ _ _ _ _ _ _ _ (sw_xor _ _) (sw_xor _ _) (sw_and _ _) (sw_eq c) w (bits_any x) (bits_any y) C3 C4 (sign_any x hx.fx) (sign_any y hy.fx) C7 C8
theorem icmp_fix (x y : Int) : orI (icmp (fh x) (fh y)) (icmp (fl x) (fl y)) = icmp x y := by
  unfold orI icmp fh fl
  repeat' split
  all_goals omega
end Go.Proofs.Ytmelipbanbihdaa
namespace Go.Proofs.Ytmelipbanbihdaa
open Go.RowKit

theorem abs_v2 {x : Int} (h : Fx x) : v2 (wd x.natAbs 1) (wd x.natAbs 0) = x.natAbs := by
  obtain ⟨_, _⟩ := h
  rw [v2_wd]; omega
theorem v4_of {n : Nat} (h : n < 115792089237316195423570985008687907853269984665640564039457584007913129639936) : v4 (wd n 3) (wd n 2) (wd n 1) (wd n 0) = n := v4_small h
theorem v4_lower {h l : Int} : v4 0 0 h l = v2 h l := by unfold v4; rw [v2_zero, Nat.zero_mul, Nat.zero_add]
theorem up_bit (n : Nat) : wd n 0 / 9223372036854775808 = ((n / 9223372036854775808 % 2 : Nat) : Int) := by
  rw [wd0]; omega
theorem up_round (n : Nat) : n / 18446744073709551616 + n / 9223372036854775808 % 2 = (n + 9223372036854775808) / 18446744073709551616 := by omega
theorem pow_64 : (2 : Nat) ^ (64 : Int).toNat = 18446744073709551616 := by decide
theorem pow_1 : (2 : Nat) ^ (1 : Int).toNat = 2 := by decide
theorem abs_lt {x : Int} (h : My x) : x.natAbs < 170141183460469231731687303715884105728 := by obtain ⟨_, _⟩ := h; omega
theorem fmul_any (x y : Int) (hx : My x) (hy : My y) (w : World) :
    Calls Try.prog 48 #[.agg #[.int .i64 (fh x), .int .u64 (fl x)], .agg #[.int .i64 (fh y), .int .u64 (fl y)]] w fun e w' => e = .returned (.tuple #[.agg #[.int .i64 (fh (ov (mulr x y))), .int .u64 (fl (ov (mulr x y)))], .int .i64 (oe (mulr x y))]) ∧ Below w.heap.size w w' := by
  have C3 := mul_any _ _ _ _ (wd_wd x.natAbs 1) (wd_wd x.natAbs 0) (wd_wd y.natAbs 1) (wd_wd y.natAbs 0)
  rw [abs_v2 hx.fx, abs_v2 hy.fx] at C3
  have hp : x.natAbs * y.natAbs < 115792089237316195423570985008687907853269984665640564039457584007913129639936 :=
    Nat.lt_of_le_of_lt (Nat.mul_le_mul (Nat.le_of_lt (abs_lt hx)) (Nat.le_of_lt (abs_lt hy))) (by decide)
  have C4 := shr_any _ _ _ _ 64 (wd_wd (x.natAbs * y.natAbs) 3) (wd_wd (x.natAbs * y.natAbs) 2) (wd_wd (x.natAbs * y.natAbs) 1) (wd_wd (x.natAbs * y.natAbs) 0) (by decide)
  rw [v4_of hp, pow_64] at C4
  have hs : mulr x y = sg (decide (x < 0) != decide (y < 0)) ((x.natAbs * y.natAbs / 18446744073709551616 + x.natAbs * y.natAbs / 9223372036854775808 % 2 : Nat) : Int) := by
    unfold mulr; rw [up_round]
  rw [hs]
  generalize x.natAbs * y.natAbs = n at *
  have C7 := nearest_any _ _ _ _ (n / 9223372036854775808 % 2) (decide (x < 0) != decide (y < 0)) (wd_wd (n / 18446744073709551616) 3) (wd_wd (n / 18446744073709551616) 2) (wd_wd (n / 18446744073709551616) 1) (wd_wd (n / 18446744073709551616) 0) (by omega)
  rw [v4_of (show n / 18446744073709551616 < _ from Nat.lt_of_le_of_lt (Nat.div_le_self _ _) hp)] at C7
  exact fmul_core _ _ _ _ _ _ _ _ _ _ _ _ _ _ _ _ _ _ _ _ _ _ _ (up_bit n) (sw_xor _ _) w (size_any x hx.fx) (size_any y hy.fx) C3 C4 (sign_any x hx.fx) (sign_any y hy.fx) C7
/-- The greatest number whose square is at most x. -/
def sqr (x : Int) : Int := ((isq (x.toNat * 18446744073709551616) : Nat) : Int)
theorem sqr_My {x : Int} (h : My x) : My (sqr x) := by
  obtain ⟨_, _⟩ := h
  have := isq_lt (n := x.toNat * 18446744073709551616) (k := 170141183460469231731687303715884105728) (by omega)
  unfold sqr; constructor <;> omega
theorem fsqrt_any (x : Int) (hx : My x) (h0 : 0 ≤ x) (w : World) :
    Calls Try.prog 46 #[.agg #[.int .i64 (fh x), .int .u64 (fl x)]] w fun e w' => e = .returned (.tuple #[.agg #[.int .i64 (fh (sqr x)), .int .u64 (fl (sqr x))], .int .i64 0]) ∧ Below w.heap.size w w' := by
  have C1 := sign_any x hx.fx
  rw [decide_eq_false (show ¬ x < 0 by omega), sw_false] at C1
  have z : Wd 0 := ⟨by omega, by omega⟩
  have C3 := shl_any 0 0 _ _ 64 z z (wd_wd (ub x) 1) (wd_wd (ub x) 0) (by decide)
  have hu : ub x = x.toNat := by obtain ⟨_, _⟩ := hx; unfold ub; omega
  rw [v4_lower, ub_v2, pow_64, hu] at C3
  have hb : x.toNat * 18446744073709551616 < 115792089237316195423570985008687907853269984665640564039457584007913129639936 := by obtain ⟨_, _⟩ := hx; omega
  have C4 := sqrt_any _ _ _ _ (wd_wd (x.toNat * 18446744073709551616) 3) (wd_wd (x.toNat * 18446744073709551616) 2) (wd_wd (x.toNat * 18446744073709551616) 1) (wd_wd (x.toNat * 18446744073709551616) 0)
  rw [v4_of hb] at C4
  exact fsqrt_ok _ _ _ _ _ _ _ _ _ _ _ _ w C1 (bits_any x) (by rw [hu]; exact C3) C4 (ofBits_any (sqr x) _ (sqr_My hx).fx (by unfold sqr; rfl))
theorem fsqrt_none (x : Int) (hx : My x) (h0 : x < 0) (w : World) :
    Calls Try.prog 46 #[.agg #[.int .i64 (fh x), .int .u64 (fl x)]] w fun e w' => e = .returned (.tuple #[.agg #[.int .i64 (fh 0), .int .u64 (fl 0)], .int .i64 1]) ∧ Below w.heap.size w w' := by
  have C1 := sign_any x hx.fx
  rw [decide_eq_true h0, sw_true] at C1
  exact fsqrt_below _ _ _ (by decide) w C1
theorem u64_and1 (x : Int) (h : Wd x) : bits .and .u64 x 1 = x % 2 := bits_mask .u64 64 (by decide) (fun n h0 h1 => IntWalk.u64_in n (by omega)) 1 (by decide) x h.1 h.2
theorem half_My {x : Int} (h : My x) : My (halfr x) := by
  have := abs_lt h
  unfold halfr; exact sg_small (by omega)
theorem fhalf_any (x : Int) (hx : My x) (w : World) :
    Calls Try.prog 47 #[.agg #[.int .i64 (fh x), .int .u64 (fl x)]] w fun e w' => e = .returned (.agg #[.int .i64 (fh (halfr x)), .int .u64 (fl (halfr x))]) ∧ Below w.heap.size w w' := by
  have hn := abs_lt hx
  have z : Wd 0 := ⟨by omega, by omega⟩
  have C2 := shr_any 0 0 _ _ 1 z z (wd_wd x.natAbs 1) (wd_wd x.natAbs 0) (by decide)
  rw [v4_lower, abs_v2 hx.fx, pow_1] at C2
  have e1 : bits .and .u64 (wd x.natAbs 0) 1 = ((x.natAbs % 2 : Nat) : Int) := by rw [u64_and1 _ (wd_wd _ _), wd0]; omega
  have C3 := add_any _ _ 0 ((x.natAbs % 2 : Nat) : Int) (wd_wd (x.natAbs / 2) 1) (wd_wd (x.natAbs / 2) 0) z ⟨by omega, by omega⟩
  have hv : v2 0 ((x.natAbs % 2 : Nat) : Int) = x.natAbs % 2 := by unfold v2; omega
  rw [v2_wd, Nat.mod_eq_of_lt (show x.natAbs / 2 < _ by omega), hv, show x.natAbs / 2 + x.natAbs % 2 = (x.natAbs + 1) / 2 by omega] at C3
  have C5 := turn_any _ _ (decide (x < 0)) (wd_wd ((x.natAbs + 1) / 2) 1) (wd_wd ((x.natAbs + 1) / 2) 0)
  rw [v2_wd, Nat.mod_eq_of_lt (show (x.natAbs + 1) / 2 < _ by omega)] at C5
  exact fhalf_core _ _ _ _ _ _ _ _ _ _ _ _ _ _ _ _ _ e1 w (size_any x hx.fx) C2 C3 (sign_any x hx.fx) C5 (ofBits_any (halfr x) _ (half_My hx).fx (tn_sg (by omega)))
theorem rnd_wrap (s : Bool) (n : Nat) (h : n < 9223372036854775808) : wrap64 (sg s n % 18446744073709551616) = sg s n := by
  unfold wrap64 sg; cases s <;> simp <;> omega
end Go.Proofs.Ytmelipbanbihdaa
namespace Go.Proofs.Ytmelipbanbihdaa
open Go.RowKit

theorem neg_word (x : Int) : decide (fh x < 0) = decide (x < 0) := by
  unfold fh
  by_cases c : x < 0
  · rw [decide_eq_true c, decide_eq_true (by omega)]
  · rw [decide_eq_false c, decide_eq_false (by omega)]
theorem rhalf_any (x : Int) (hx : My x) (w : World) :
    Calls Try.prog 37 #[.agg #[.int .i64 (fh x), .int .u64 (fl x)]] w fun e w' => e = .returned (.agg #[.int .i64 (fh (halfr x)), .int .u64 (fl (halfr x))]) ∧ Below w.heap.size w w' := by
  have hn := abs_lt hx
  have z : Wd 0 := ⟨by omega, by omega⟩
  have C2 := addTwo_any _ _ 0 1 (wd_wd x.natAbs 1) (wd_wd x.natAbs 0) z ⟨by omega, by omega⟩
  rw [v2_wd, Nat.mod_eq_of_lt (show x.natAbs < _ by omega), show v2 0 1 = 1 from rfl] at C2
  have C3 := rshr_any 0 0 _ _ 1 z z (wd_wd (x.natAbs + 1) 1) (wd_wd (x.natAbs + 1) 0) (by decide)
  rw [v4_lower, v2_wd, Nat.mod_eq_of_lt (show x.natAbs + 1 < _ by omega), pow_1] at C3
  have C4 := rsigned_any (decide (x < 0)) ((x.natAbs + 1) / 2) (by omega)
  have e : sg (decide (x < 0)) (((x.natAbs + 1) / 2 : Nat) : Int) = halfr x := rfl
  rw [e, ov_in (half_My hx)] at C4
  exact rhalf_core _ _ _ _ _ _ _ _ _ _ _ _ _ _ _ (neg_word x) w (rmag_any x hx) C2 C3 C4
theorem v2_63 : v2 0 9223372036854775808 = 9223372036854775808 := by simp [v2]
theorem rnd_words (N : Nat) (h : N < 170141183460469231731687303715884105728) : wd (N + 9223372036854775808) 1 = (((N + 9223372036854775808) / 18446744073709551616 : Nat) : Int) ∧ (N + 9223372036854775808) / 18446744073709551616 ≤ 9223372036854775808 := by
  constructor
  · rw [wd1]; omega
  · omega
theorem rsqrt_any (x : Int) (hx : My x) (h0 : 0 ≤ x) (w : World) :
    Calls Try.prog 36 #[.agg #[.int .i64 (fh x), .int .u64 (fl x)]] w fun e w' => e = .returned (.agg #[.int .i64 (fh (sqr x)), .int .u64 (fl (sqr x)), .int .i64 0]) ∧ Below w.heap.size w w' := by
  have hn := abs_lt hx
  have z : Wd 0 := ⟨by omega, by omega⟩
  have C2 := rshl_any 0 0 _ _ 64 z z (wd_wd x.natAbs 1) (wd_wd x.natAbs 0) (by decide)
  rw [v4_lower, v2_wd, Nat.mod_eq_of_lt (show x.natAbs < _ by omega), pow_64, show x.natAbs = x.toNat by omega] at C2
  have C1 := rmag_any x hx
  rw [show x.natAbs = x.toNat by omega] at C1
  have hb : x.toNat * 18446744073709551616 < 115792089237316195423570985008687907853269984665640564039457584007913129639936 := by obtain ⟨_, _⟩ := hx; omega
  have C3 := rroot_any _ _ _ _ (wd_wd (x.toNat * 18446744073709551616) 3) (wd_wd (x.toNat * 18446744073709551616) 2) (wd_wd (x.toNat * 18446744073709551616) 1) (wd_wd (x.toNat * 18446744073709551616) 0)
  rw [v4_of hb] at C3
  have hs := sqr_My hx
  have hr : isq (x.toNat * 18446744073709551616) < 170141183460469231731687303715884105728 := by obtain ⟨_, _⟩ := hs; unfold sqr at *; omega
  have C4 := rsigned_any false (isq (x.toNat * 18446744073709551616)) (by omega)
  have e3 : wd (isq (x.toNat * 18446744073709551616)) 3 = 0 := by rw [wd3]; omega
  have e2 : wd (isq (x.toNat * 18446744073709551616)) 2 = 0 := by rw [wd2]; omega
  rw [e3, e2, show sg false ((isq (x.toNat * 18446744073709551616) : Nat) : Int) = sqr x from rfl, ov_in hs, oe_in hs] at C4
  exact rsqrt_core _ _ _ _ _ _ _ _ _ _ _ _ _ (by unfold fh; omega) w C1 C2 C3 C4
theorem rsqrt_below (x : Int) (h0 : x < 0) (w : World) :
    Calls Try.prog 36 #[.agg #[.int .i64 (fh x), .int .u64 (fl x)]] w fun e w' => e = .returned (.agg #[.int .i64 0, .int .u64 0, .int .i64 1]) ∧ Below w.heap.size w w' :=
  rsqrt_none _ _ (by unfold fh; omega) w
end Go.Proofs.Ytmelipbanbihdaa
namespace Go.Proofs.Ytmelipbanbihdaa
open Go.RowKit

theorem sg_same (x y : Int) (h : decide (x < 0) = decide (y < 0)) : sg (decide (x < 0)) ((x.natAbs + y.natAbs : Nat) : Int) = x + y := by
  by_cases a : x < 0
  · rw [decide_eq_true a] at h ⊢; have b := of_decide_eq_true h.symm; simp [sg]; omega
  · rw [decide_eq_false a] at h ⊢; have b := of_decide_eq_false h.symm; simp [sg]; omega
theorem sg_less (x y : Int) (h : ¬ decide (x < 0) = decide (y < 0)) (l : x.natAbs < y.natAbs) : sg (decide (y < 0)) ((y.natAbs - x.natAbs : Nat) : Int) = x + y := by
  by_cases a : x < 0 <;> by_cases b : y < 0
  · exact absurd (by rw [decide_eq_true a, decide_eq_true b]) h
  · rw [decide_eq_false b]; simp [sg]; omega
  · rw [decide_eq_true b]; simp [sg]; omega
  · exact absurd (by rw [decide_eq_false a, decide_eq_false b]) h
theorem sg_more (x y : Int) (h : ¬ decide (x < 0) = decide (y < 0)) (l : ¬ x.natAbs < y.natAbs) : sg (decide (x < 0)) ((x.natAbs - y.natAbs : Nat) : Int) = x + y := by
  by_cases a : x < 0 <;> by_cases b : y < 0
  · exact absurd (by rw [decide_eq_true a, decide_eq_true b]) h
  · rw [decide_eq_true a]; simp [sg]; omega
  · rw [decide_eq_false a]; simp [sg]; omega
  · exact absurd (by rw [decide_eq_false a, decide_eq_false b]) h
theorem wd_small {n : Nat} (h : n < 340282366920938463463374607431768211456) : wd n 3 = 0 ∧ wd n 2 = 0 := by
  constructor
  · rw [wd3]; omega
  · rw [wd2]; omega
theorem radd_any (x y : Int) (hx : My x) (hy : My y) (w : World) :
    Calls Try.prog 26 #[.agg #[.int .i64 (fh x), .int .u64 (fl x)], .agg #[.int .i64 (fh y), .int .u64 (fl y)]] w fun e w' => e = .returned (.agg #[.int .i64 (fh (ov (x + y))), .int .u64 (fl (ov (x + y))), .int .i64 (oe (x + y))]) ∧ Below w.heap.size w w' := by
  have ax := abs_lt hx; have ay := abs_lt hy
  have C1 := rmag_any x hx; have C2 := rmag_any y hy
  by_cases h : decide (x < 0) = decide (y < 0)
  · have C3 := addTwo_any _ _ _ _ (wd_wd x.natAbs 1) (wd_wd x.natAbs 0) (wd_wd y.natAbs 1) (wd_wd y.natAbs 0)
    rw [v2_wd, v2_wd, Nat.mod_eq_of_lt (show x.natAbs < 340282366920938463463374607431768211456 by omega), Nat.mod_eq_of_lt (show y.natAbs < 340282366920938463463374607431768211456 by omega)] at C3
    have C4 := rsigned_any (decide (x < 0)) (x.natAbs + y.natAbs) (by omega)
    rw [sg_same x y h, (wd_small (n := x.natAbs + y.natAbs) (by omega)).1, (wd_small (n := x.natAbs + y.natAbs) (by omega)).2] at C4
    exact radd_same _ _ _ _ _ _ _ _ _ _ _ _ _ _ _ (neg_word x) (by rw [neg_word, h]) w C1 C2 C3 C4
  · have hne : (decide (x < 0) == decide (y < 0)) = false := beq_eq_false_iff_ne.2 h
    have C3 := less_any _ _ _ _ (wd_wd x.natAbs 1) (wd_wd x.natAbs 0) (wd_wd y.natAbs 1) (wd_wd y.natAbs 0)
    rw [v2_wd, v2_wd, Nat.mod_eq_of_lt (show x.natAbs < 340282366920938463463374607431768211456 by omega), Nat.mod_eq_of_lt (show y.natAbs < 340282366920938463463374607431768211456 by omega)] at C3
    by_cases l : x.natAbs < y.natAbs
    · rw [decide_eq_true l] at C3
      have C4 := subTwo_any _ _ _ _ (wd_wd y.natAbs 1) (wd_wd y.natAbs 0) (wd_wd x.natAbs 1) (wd_wd x.natAbs 0)
      rw [v2_wd, v2_wd, Nat.mod_eq_of_lt (show x.natAbs < 340282366920938463463374607431768211456 by omega), sub_words (by omega) (by omega) (by omega) (by omega) 1 (by decide), sub_words (by omega) (by omega) (by omega) (by omega) 0 (by decide)] at C4
      have C5 := rsigned_any (decide (y < 0)) (y.natAbs - x.natAbs) (by omega)
      rw [sg_less x y h l, (wd_small (n := y.natAbs - x.natAbs) (by omega)).1, (wd_small (n := y.natAbs - x.natAbs) (by omega)).2] at C5
      exact radd_less _ _ _ _ _ _ _ _ _ _ _ _ _ _ _ _ (neg_word x) (neg_word y) hne w C1 C2 C3 C4 C5
    · rw [decide_eq_false l] at C3
      have C4 := subTwo_any _ _ _ _ (wd_wd x.natAbs 1) (wd_wd x.natAbs 0) (wd_wd y.natAbs 1) (wd_wd y.natAbs 0)
      rw [v2_wd, v2_wd, Nat.mod_eq_of_lt (show y.natAbs < 340282366920938463463374607431768211456 by omega), sub_words (by omega) (by omega) (by omega) (by omega) 1 (by decide), sub_words (by omega) (by omega) (by omega) (by omega) 0 (by decide)] at C4
      have C5 := rsigned_any (decide (x < 0)) (x.natAbs - y.natAbs) (by omega)
      rw [sg_more x y h l, (wd_small (n := x.natAbs - y.natAbs) (by omega)).1, (wd_small (n := x.natAbs - y.natAbs) (by omega)).2] at C5
      exact radd_more _ _ _ _ _ _ _ _ _ _ _ _ _ _ _ _ (neg_word x) (neg_word y) hne w C1 C2 C3 C4 C5
theorem rsub_any (x y : Int) (hx : My x) (hy : My y) (w : World) :
    Calls Try.prog 21 #[.agg #[.int .i64 (fh x), .int .u64 (fl x)], .agg #[.int .i64 (fh y), .int .u64 (fl y)]] w fun e w' => e = .returned (.agg #[.int .i64 (fh (ov (x - y))), .int .u64 (fl (ov (x - y))), .int .i64 (oe (x - y))]) ∧ Below w.heap.size w w' := by
  have hm : My (-y) := by obtain ⟨_, _⟩ := hy; exact ⟨by omega, by omega⟩
  have C2 := radd_any x (-y) hx hm
  rw [← Int.sub_eq_add_neg] at C2
  exact rsub_core _ _ _ _ _ _ _ _ _ w (rneg_any y hy) C2
theorem add_low (P u : Nat) (_hu : u < 340282366920938463463374607431768211456) (i : Nat) (hi : i < 2) : wd (P % 340282366920938463463374607431768211456 + u) i = wd (P + u) i := by
  rcases (show i = 0 ∨ i = 1 by omega) with rfl | rfl
  · rw [wd0, wd0]; omega
  · rw [wd1, wd1]; omega
theorem add_high (P u : Nat) (h : 340282366920938463463374607431768211456 ≤ P % 340282366920938463463374607431768211456 + u) (hu : u < 340282366920938463463374607431768211456) : wd (P / 340282366920938463463374607431768211456 % 340282366920938463463374607431768211456 + 1) 1 = wd (P + u) 3 ∧ wd (P / 340282366920938463463374607431768211456 % 340282366920938463463374607431768211456 + 1) 0 = wd (P + u) 2 := by
  constructor
  · rw [wd1, wd3]; omega
  · rw [wd0, wd2]; omega
theorem add_same (P u : Nat) (h : ¬ 340282366920938463463374607431768211456 ≤ P % 340282366920938463463374607431768211456 + u) : wd P 3 = wd (P + u) 3 ∧ wd P 2 = wd (P + u) 2 := by
  constructor
  · rw [wd3, wd3]; omega
  · rw [wd2, wd2]; omega
theorem rmul_any (x y : Int) (hx : My x) (hy : My y) (w : World) :
    Calls Try.prog 25 #[.agg #[.int .i64 (fh x), .int .u64 (fl x)], .agg #[.int .i64 (fh y), .int .u64 (fl y)]] w fun e w' => e = .returned (.agg #[.int .i64 (fh (ov (mulr x y))), .int .u64 (fl (ov (mulr x y))), .int .i64 (oe (mulr x y))]) ∧ Below w.heap.size w w' := by
  have ax := abs_lt hx; have ay := abs_lt hy
  have hp : x.natAbs * y.natAbs < 170141183460469231731687303715884105728 * 170141183460469231731687303715884105728 := Nat.mul_lt_mul'' ax ay
  have C1 := rmag_any x hx; have C2 := rmag_any y hy
  have C3 := mulTwo_any _ _ _ _ (wd_wd x.natAbs 1) (wd_wd x.natAbs 0) (wd_wd y.natAbs 1) (wd_wd y.natAbs 0)
  rw [v2_wd, v2_wd, Nat.mod_eq_of_lt (show x.natAbs < 340282366920938463463374607431768211456 by omega), Nat.mod_eq_of_lt (show y.natAbs < 340282366920938463463374607431768211456 by omega)] at C3
  have e : mulr x y = sg (!(decide (x < 0) == decide (y < 0))) (((x.natAbs * y.natAbs + 9223372036854775808) / 18446744073709551616 : Nat) : Int) := rfl
  have z : Wd 0 := ⟨by omega, by omega⟩
  rw [e]
  have C4 := addTwo_any _ _ 0 9223372036854775808 (wd_wd (x.natAbs * y.natAbs) 1) (wd_wd (x.natAbs * y.natAbs) 0) z ⟨by omega, by omega⟩
  generalize x.natAbs * y.natAbs = P at *
  rw [v2_wd, v2_63, add_low P _ (by omega) 1 (by decide), add_low P _ (by omega) 0 (by decide)] at C4
  have hb : P + 9223372036854775808 < 115792089237316195423570985008687907853269984665640564039457584007913129639936 := by omega
  have C6 := rshr_any _ _ _ _ 64 (wd_wd (P + 9223372036854775808) 3) (wd_wd (P + 9223372036854775808) 2) (wd_wd (P + 9223372036854775808) 1) (wd_wd (P + 9223372036854775808) 0) (by decide)
  rw [v4_of hb, pow_64] at C6
  have C7 := rsigned_any (!(decide (x < 0) == decide (y < 0))) ((P + 9223372036854775808) / 18446744073709551616) (by omega)
  by_cases c : 340282366920938463463374607431768211456 ≤ P % 340282366920938463463374607431768211456 + 9223372036854775808
  · rw [decide_eq_true c] at C4
    have hi := add_high P _ c (by omega)
    have C5 := addTwo_any _ _ 0 1 (wd_wd P 3) (wd_wd P 2) z ⟨by omega, by omega⟩
    rw [v2_wd23, show v2 0 1 = 1 from rfl, hi.1, hi.2] at C5
    exact rmul_true _ _ _ _ _ _ _ _ _ _ _ _ _ _ _ _ _ _ _ _ _ _ _ _ _ _ (neg_word x) (neg_word y) w C1 C2 C3 C4 C5 C6 C7
  · rw [decide_eq_false c] at C4
    have hs := add_same P _ c
    rw [hs.1, hs.2] at C3
    exact rmul_false _ _ _ _ _ _ _ _ _ _ _ _ _ _ _ _ _ _ _ _ _ _ _ (neg_word x) (neg_word y) w C1 C2 C3 C4 C6 C7
theorem pow_65 : (2 : Nat) ^ (65 : Int).toNat = 36893488147419103232 := by decide
end Go.Proofs.Ytmelipbanbihdaa
namespace Go.Proofs.Ytmelipbanbihdaa

section
variable {P : Program} {ops : Array Oper} {Q : Exit → Act → World → Prop} {md : Region.Mode} {C : World → Prop} {k : Nat}

/-- Whatever order is picked, and C holds as long as operation k has not come. -/
def wpAnyK (P : Program) (md : Region.Mode) (ops : Array Oper) (Q : Exit → Act → World → Prop) (C : World → Prop) (k : Nat) : Nat → Array Bool → Act → World → Prop
  | 0, listed, a, w => Region.ready md ops listed = [] ∧ Q .normal a w
  | fuel + 1, listed, a, w =>
    (Region.ready md ops listed = [] → Q .normal a w) ∧
    ∀ i ∈ Region.ready md ops listed, wpOp P ops Q i (fun a' w' => ((listed.setIfInBounds i true).getD k true = false → C w') ∧ wpAnyK P md ops Q C k fuel (listed.setIfInBounds i true) a' w') a w

theorem wpAny_of_late : ∀ (fuel : Nat) (listed : Array Bool) (a : Act) (w : World), wpAnyK P md ops Q C k fuel listed a w → wpAny P md ops Q fuel listed a w
  | 0, _, _, _, h => h
  | fuel + 1, _, _, _, h => ⟨h.1, fun i hi => wpOp_mono (fun a' w' h' => wpAny_of_late fuel _ a' w' h'.2) (h.2 i hi)⟩

/-- Operation k waits for operation i. -/
def waits (md : Region.Mode) (ops : Array Oper) (k i : Nat) : Bool := ((ops[k]?).map (·.after.any fun e => Region.binds md e && e.on == i)).getD false
theorem waits_spec {i : Nat} (h : waits md ops k i = true) : ∃ o e, ops[k]? = some o ∧ e ∈ o.after ∧ Region.binds md e = true ∧ e.on = i := by
  unfold waits at h
  cases ho : ops[k]? with
  | none => rw [ho] at h; cases h
  | some o =>
    rw [ho] at h
    simp only [Option.map_some, Option.getD_some, Array.any_eq_true'] at h
    obtain ⟨e, he, hb⟩ := h
    simp only [Bool.and_eq_true, beq_iff_eq] at hb
    exact ⟨o, e, rfl, he, hb.1, hb.2⟩
theorem wpAnyK_first {i : Nat} {oi : Oper} {v : Value} (hi : ops[i]? = some oi) (hsel : ∀ (j : Nat) (o : Oper) cs b, ops[j]? = some o → o.op ≠ .select cs b)
    (hQ : ∀ c a w, Q (.panic c) (a.put oi.dst v) w → Q (.panic c) a w) (hk : waits md ops k i = true) :
    ∀ (fuel : Nat) (listed : Array Bool) (a : Act) (w : World), listed.getD k true = false →
      (∀ j oj, ops[j]? = some oj → j ≠ i → listed.getD j true = false → (∀ e ∈ oj.after, Region.binds md e = true → e.on ≠ i) → oi.apart ops oj = true) →
      i ∈ Region.ready md ops listed → YieldsIf P ops C oi v a → C w →
      wpAnyK P md ops Q C k fuel (listed.setIfInBounds i true) (a.put oi.dst v) w → wpAnyK P md ops Q C k (fuel + 1) listed a w := by
  intro fuel
  induction fuel with
  | zero =>
    intro listed a w _ _ hr hy hC H
    refine ⟨fun h => (by rw [h] at hr; cases hr), fun j hj => ?_⟩
    by_cases hji : j = i
    · subst hji; exact hy.wpOp hi hC ⟨fun _ => hC, H⟩
    · have := ready_mono hj hji
      rw [H.1] at this
      cases this
  | succ fuel ih =>
    intro listed a w hlk hfree hr hy hC H
    refine ⟨fun h => (by rw [h] at hr; cases hr), fun j hj => ?_⟩
    by_cases hji : j = i
    · subst hji; exact hy.wpOp hi hC ⟨fun _ => hC, H⟩
    · have h1 := H.2 j (ready_mono hj hji)
      obtain ⟨hjun, oj, hoj, hall⟩ := mem_ready.1 hj
      have hnot : ∀ e ∈ oj.after, Region.binds md e = true → e.on ≠ i := fun e he hb heq => by
        have h1 := hall e he hb
        have h0 := (mem_ready.1 hr).1
        rw [heq] at h1
        rcases Nat.lt_or_ge i listed.size with h' | h'
        · simp [h'] at h0 h1; rw [h0] at h1; cases h1
        · simp [Array.getElem?_eq_none h'] at h1
      have hjk : j ≠ k := fun h => by
        subst h
        obtain ⟨o, e, ho, he, hb, heq⟩ := waits_spec hk
        rw [hoj] at ho
        cases ho
        exact hnot e he hb heq
      have hik : i ≠ k := fun h => by
        subst h
        obtain ⟨o, e, ho, he, hb, heq⟩ := waits_spec hk
        obtain ⟨h0, o2, ho2, hall2⟩ := mem_ready.1 hr
        rw [ho] at ho2
        cases ho2
        have h1 := hall2 e he hb
        rw [heq] at h1
        rcases Nat.lt_or_ge i listed.size with h' | h'
        · simp [h'] at h0 h1; rw [h0] at h1; cases h1
        · simp [Array.getElem?_eq_none h'] at h1
      have h2 := wpOp_putIf hoj (hfree j oj hoj hji hjun hnot) (fun cs b => hsel i oi cs b hi) (fun cs b => hsel j oj cs b hoj) hQ hy h1
      have hlj : (listed.setIfInBounds j true).getD k true = false := by rw [getD_set_ne true hjk]; exact hlk
      have hlij : ((listed.setIfInBounds i true).setIfInBounds j true).getD k true = false := by rw [getD_set_ne true hjk, getD_set_ne true hik]; exact hlk
      have hfree' : ∀ m om, ops[m]? = some om → m ≠ i → (listed.setIfInBounds j true).getD m true = false →
          (∀ e ∈ om.after, Region.binds md e = true → e.on ≠ i) → oi.apart ops om = true := fun m om hm hmi hun hno => by
        refine hfree m om hm hmi ?_ hno
        by_cases hjm : j = m
        · subst hjm; exact hjun
        · rw [getD_set_ne true hjm] at hun; exact hun
      refine wpOp_mono (fun a' w' h3 => ⟨fun _ => h3.2.1 hlij, ih (listed.setIfInBounds j true) a' w' hlj hfree' (ready_mono hr (Ne.symm hji)) h3.1 (h3.2.1 hlij) ?_⟩) h2
      rw [Array.setIfInBounds_comm _ _ hji]
      exact h3.2.2

/-- Take number i first. -/
theorem wpAnyK_take {i : Nat} {oi : Oper} {v : Value} {fuel : Nat} {listed : Array Bool} {a : Act} {w : World} (hi : ops[i]? = some oi)
    (hs : Region.noSelect ops = true) (hf : Region.free md ops listed i = true) (hr : (Region.ready md ops listed).contains i = true) (hk : waits md ops k i = true) (hl : listed.getD k true = false)
    (hQ : ∀ c a w, Q (.panic c) (a.put oi.dst v) w → Q (.panic c) a w) (hy : YieldsIf P ops C oi v a) (hC : C w)
    (h : wpAnyK P md ops Q C k fuel (listed.setIfInBounds i true) (a.put oi.dst v) w) : wpAnyK P md ops Q C k (fuel + 1) listed a w :=
  wpAnyK_first hi (Region.noSelect_spec hs) hQ hk fuel listed a w hl (Region.free_spec hi hf) (by simpa using hr) hy hC h
/-- One operation alone may come up: carry it out. -/
theorem wpAnyK_one {i : Nat} {o : Oper} {fuel : Nat} {listed : Array Bool} {a : Act} {w : World} (hr : Region.ready md ops listed = [i]) (ho : ops[i]? = some o)
    (h : ∀ K' : Act → World → Prop, Shut (∀ a w, ((listed.setIfInBounds i true).getD k true = false → C w) → (((listed.setIfInBounds i true).getD k true = false → C w) → wpAnyK P md ops Q C k fuel (listed.setIfInBounds i true) a w) → K' a w) →
      if Region.wanted o (yielded ops a.tmps) = true then Oper.wp P o a w K' Q else K' (a.put o.dst undef) w) : wpAnyK P md ops Q C k (fuel + 1) listed a w := by
  refine ⟨fun h0 => (by rw [hr] at h0; cases h0), fun j hj => ?_⟩
  rw [hr] at hj
  rcases List.mem_cons.1 hj with rfl | hj
  · exact wpOp_step ho (fun K' hK => h K' (fun a w hC hW => hK a w ⟨hC, hW hC⟩))
  · cases hj
theorem wpAnyK_done {listed : Array Bool} {a : Act} {w : World} (hr : Region.ready md ops listed = []) (h : Q .normal a w) :
    ∀ fuel, wpAnyK P md ops Q C k fuel listed a w
  | 0 => ⟨hr, h⟩
  | _ + 1 => ⟨fun _ => h, by rw [hr]; simp⟩
theorem wp_region_late {id : Nat} {a : Act} {w : World} (C : World → Prop) (k : Nat) (hm : P.follows .mixedOrders = true)
    (h : wpAnyK P .any ops Q C k ops.size (Array.replicate ops.size false) a w.drew) : (Code.region id ops true).wp P Q a w :=
  wp_region_any hm (wpAny_of_late _ _ _ _ h)
theorem wp_region_late_drew {id : Nat} {a : Act} {w : World} (C : World → Prop) (k : Nat) (hm : P.follows .mixedOrders = true) (hC : C w.drew)
    (h : C w.drew → wpAnyK P .any ops Q C k ops.size (Array.replicate ops.size false) a w.drew) : (Code.region id ops true).wp P Q a w :=
  wp_region_late C k hm (h hC)
end
end Go.Proofs.Ytmelipbanbihdaa
namespace Go.Proofs.Ytmelipbanbihdaa
open Go.ChangeShapes Go.WideShapes Go.ChangeAt Go.RowKit Go.Joins

theorem cells_vec : Try.prog.cellsOf 26 = 4 := by kernel_rfl
/-- A way as a value. -/
def vec (x y : Int) : Value := .agg #[.int .i64 (fh x), .int .u64 (fl x), .int .i64 (fh y), .int .u64 (fl y)]
section
variable {H : Type} {enc : TypeId × Value → H} {w : World} {base : Nat} {spare : Nat → Bool} {held : Bool}
def vecd (H : Type) (x y : Int) : DataW H := .agg [.agg [.lit (.int .i64 (fh x)), .lit (.int .u64 (fl x))], .agg [.lit (.int .i64 (fh y)), .lit (.int .u64 (fl y))]]
set_option maxRecDepth 20000 in
theorem open_vec {r : Reach} {b0 : Nat} {v : Value} {d : DataW H} {p : List MemPlace} (hv : Value.okWide Try.prog w r b0 26 v) (h : DataW.Trod enc Try.prog w base spare held 26 v d p) :
    ∃ x y : Int, v = vec x y ∧ d = vecd H x y ∧ p = [] ∧ Fx x ∧ Fx y := by
  obtain ⟨cs, rfl, hsz⟩ := okWide_struct Try.underlying26 hv
  obtain ⟨c0, c1, c2, c3, rfl⟩ := array4 (hsz.trans cells_vec)
  obtain ⟨fuel, hf⟩ := h
  obtain ⟨y0, y1, m, e, _, g0, g1⟩ := trod_struct2 Try.underlying26 hf
  simp [Value.cells, cells_fix] at g0 g1
  obtain ⟨a3, a2, rfl, rfl, rfl, k3, k2⟩ := trod_fix g0
  obtain ⟨a1, a0, rfl, rfl, rfl, k1, k0⟩ := trod_fix g1
  simp only [Prod.mk.injEq] at e
  refine ⟨fx a3 a2, fx a1 a0, ?_, ?_, by simpa using e.2, fx_Fx k3 k2, fx_Fx k1 k0⟩
  · unfold vec; rw [fh_fx k2, fl_fx k2, fh_fx k0, fl_fx k0]
  · unfold vecd; rw [fh_fx k2, fl_fx k2, fh_fx k0, fl_fx k0]; exact e.1
set_option maxRecDepth 20000 in
theorem shut_vec {x y : Int} (hx : Fx x) (hy : Fx y) : DataW.Trod enc Try.prog w base spare held 26 (vec x y) (vecd H x y) [] := by
  have := trod_struct2_mk (enc := enc) (w := w) (base := base) (spare := spare) (held := held) (n := 2) (cs := [.int .i64 (fh x), .int .u64 (fl x), .int .i64 (fh y), .int .u64 (fl y)]) (y0 := (.agg [.lit (.int .i64 (fh x)), .lit (.int .u64 (fl x))], [])) (y1 := (.agg [.lit (.int .i64 (fh y)), .lit (.int .u64 (fl y))], [])) Try.underlying26 (by simp [cells_vec])
    (by simpa [cells_fix] using trod_fix_mk 0 (fh_hd hx) (fl_wd x)) (by simpa [cells_fix] using trod_fix_mk 0 (fh_hd hy) (fl_wd y))
  exact ⟨3, by simpa [vec, vecd, Value.cells] using this⟩
end
theorem laidOut : laidOutB Try.prog = true := by kernel_rfl
theorem vec_row : (26 : TypeId) < Try.prog.types.size := of_decide_eq_true (by kernel_rfl)
set_option maxRecDepth 20000 in
theorem vec_wide : (match Try.prog.underlying 26 with | some (.array _ _) | some (.struct _) => true | _ => false) = true := by rw [Try.underlying26]
set_option maxRecDepth 100000 in
theorem vec_law : Maps.Keyed Try.prog 26 := Maps.Keyed.of_law (deep_law_laid laidOut (m := 3) (by omega) vec_row (by kernel_rfl) vec_wide)
theorem vec_deep : Try.prog.keyTypeAt (Try.prog.types.size + 1) 26 = true := by kernel_rfl
set_option maxRecDepth 20000 in
theorem vec_formed (x y : Int) : (vec x y).formed Try.prog 26 = true := by simp [vec, Value.formed, Try.underlying26, cells_vec]
set_option maxRecDepth 100000 in
theorem vec_key (x y : Int) (hx : Fx x) (hy : Fx y) : ∃ l, keyOf Try.prog 26 (vec x y) = some l :=
  ⟨_, (keyOf_asKey (H := Unit) (enc := fun _ => ()) (w := default) (base := 0) (sp := fun _ => false) (held := false) vec_deep vec_wide (vec_formed x y) (shut_vec hx hy)).1⟩
open Go.ChangeMaps (setBlock)
theorem zero_fix (W : World) : (zeroValue 24).run Try.prog W = .ok (.agg #[.int .i64 0, .int .u64 0]) W := by kernel_rfl
section
variable {W : World} {B cl born : Nat} {x y x1 y1 : Int}
end
theorem vec_inj {x y x1 y1 : Int} (h : vec x1 y1 = vec x y) : x1 = x ∧ y1 = y := by
  unfold vec at h
  injection h with h
  have e : ∀ i : Nat, (#[Value.int .i64 (fh x1), .int .u64 (fl x1), .int .i64 (fh y1), .int .u64 (fl y1)] : Array Value)[i]? = (#[Value.int .i64 (fh x), .int .u64 (fl x), .int .i64 (fh y), .int .u64 (fl y)] : Array Value)[i]? := fun i => by rw [h]
  have e0 := e 0; have e1 := e 1; have e2 := e 2; have e3 := e 3
  simp at e0 e1 e2 e3
  unfold fh at e0 e2; unfold fl at e1 e3
  exact ⟨by omega, by omega⟩
end Go.Proofs.Ytmelipbanbihdaa
namespace Go.Proofs.Ytmelipbanbihdaa
open Go.RowKit
set_option maxRecDepth 20000 in
set_option maxHeartbeats 8000000 in
theorem rmayvec_core (axh axl ayh ayl : Int) (p q : Bool) (w : World)
    (C1 : ∀ W, Calls Try.prog 29 #[.agg #[.int .i64 axh, .int .u64 axl]] W fun e w' => e = .returned (.bool p) ∧ Below W.heap.size W w')
    (C2 : ∀ W, Calls Try.prog 29 #[.agg #[.int .i64 ayh, .int .u64 ayl]] W fun e w' => e = .returned (.bool q) ∧ Below W.heap.size W w') :
    Calls Try.prog 8 #[.agg #[.int .i64 axh, .int .u64 axl, .int .i64 ayh, .int .u64 ayl]] w fun e w' => e = .returned (.bool (p && q)) ∧ Below w.heap.size w w' := by
  have K1 := Lib.hid C1; have K2 := Lib.hid C2
  clear C1 C2
  cases p
  · clear K2
    go_enter Try.func8, Try.ntmps8
    go_wp2_with fail
    (with_reducible refine (K1.out _).mono ?_); rintro e w1 ⟨rfl, hb⟩
    obtain ⟨hcl, hfr⟩ := bcell hb
    have HBw1 : Hid (Below w.heap.size w w1) := bl_trans (by repeat (first | with_reducible exact Below.refl _ _ | with_reducible exact Hid.out (by assumption) | with_reducible refine Below.setCell ?_ (by first | (simp; done) | omega | (simp <;> omega)) _ | with_reducible refine bl_al ?_ _ | with_reducible apply Below.drew)) hb
    clear hb hcl hfr
    go_wp2_with fail
    go_returns
    exact ⟨rfl, HBw1.out⟩
  · rw [Bool.true_and]
    go_enter Try.func8, Try.ntmps8
    go_wp2_with fail
    (with_reducible refine (K1.out _).mono ?_); rintro e w1 ⟨rfl, hb⟩
    obtain ⟨hcl, hfr⟩ := bcell hb
    have zw1_0 : w.heap.size < w1.heap.size := by have hz := hb.size; (try simp at hz); omega
    have cw1_0_0 : w1.cell? ⟨w.heap.size, 0, none⟩ = some (.int .i64 axh) := by rw [hcl _ _ (by first | omega | (simp; done) | (simp; omega))]; simp [go_sem, *]
    have cw1_0_1 : w1.cell? ⟨w.heap.size, 1, none⟩ = some (.int .u64 axl) := by rw [hcl _ _ (by first | omega | (simp; done) | (simp; omega))]; simp [go_sem, *]
    have cw1_0_2 : w1.cell? ⟨w.heap.size, 2, none⟩ = some (.int .i64 ayh) := by rw [hcl _ _ (by first | omega | (simp; done) | (simp; omega))]; simp [go_sem, *]
    have cw1_0_3 : w1.cell? ⟨w.heap.size, 3, none⟩ = some (.int .u64 ayl) := by rw [hcl _ _ (by first | omega | (simp; done) | (simp; omega))]; simp [go_sem, *]
    have HBw1 : Hid (Below w.heap.size w w1) := bl_trans (by repeat (first | with_reducible exact Below.refl _ _ | with_reducible exact Hid.out (by assumption) | with_reducible refine Below.setCell ?_ (by first | (simp; done) | omega | (simp <;> omega)) _ | with_reducible refine bl_al ?_ _ | with_reducible apply Below.drew)) hb
    clear hb hcl hfr
    go_wp2_with fail
    (with_reducible refine (K2.out _).mono ?_); rintro e w2 ⟨rfl, hb⟩
    obtain ⟨hcl, hfr⟩ := bcell hb
    have HBw2 : Hid (Below w.heap.size w w2) := bl_trans (by repeat (first | with_reducible exact Below.refl _ _ | with_reducible exact Hid.out (by assumption) | with_reducible refine Below.setCell ?_ (by first | (simp; done) | omega | (simp <;> omega)) _ | with_reducible refine bl_al ?_ _ | with_reducible apply Below.drew)) hb
    clear hb hcl hfr
    go_wp2_with fail
    go_returns
    exact ⟨rfl, HBw2.out⟩
end Go.Proofs.Ytmelipbanbihdaa
namespace Go.Proofs.Ytmelipbanbihdaa
open Go.RowKit
open Go.ChangeMaps (setBlock)
section
variable {W : World} {B b : Nat}
theorem heap_al {v : Obj} (h : W.heap[B]? = some v) (o : Obj) : (W.alloc o).heap[B]? = some v := by
  have hlt : B < W.heap.size := (Array.getElem?_eq_some_iff.1 h).1
  rw [(MapKept.heap_alloc W o).2 B hlt]
  exact h
theorem cell_put (o : Obj) (j : Nat) (h : b ≠ B) : (setBlock W B o).cell? ⟨b, j, none⟩ = W.cell? ⟨b, j, none⟩ := World.cell?_of_block (by
  show (W.heap.setIfInBounds B o)[b]? = W.heap[b]?
  rw [Array.getElem?_setIfInBounds_ne (Ne.symm h)])
theorem frozen_put (o : Obj) (j : Nat) (h : b ≠ B) : (setBlock W B o).frozen? ⟨b, j, none⟩ = W.frozen? ⟨b, j, none⟩ := World.frozen?_of_block (by
  show (W.heap.setIfInBounds B o)[b]? = W.heap[b]?
  rw [Array.getElem?_setIfInBounds_ne (Ne.symm h)])
theorem set_heap (x : Value) (A j : Nat) (h : A ≠ B) : (W.setCell ⟨A, j, none⟩ x).heap[B]? = W.heap[B]? := Below.heap_setCell _ _ _ _ (fun e => h (by simpa using e.symm))
theorem grown_below {W' : World} (g : Below W.heap.size W W') : W.grownBy W' (some B) := ⟨g.os, g.tape, g.output, g.size, fun k hk _ => g.block k hk⟩
theorem grown_put {W' : World} (g : W.grownBy W' (some B)) (o : Obj) : W.grownBy (setBlock W' B o) (some B) :=
  ⟨g.os, g.tape, g.output, by simpa [setBlock] using g.size, fun k hk hne => by
    show (W'.heap.setIfInBounds B o)[k]? = _
    rw [Array.getElem?_setIfInBounds_ne (fun e => hne (by rw [e]))]; exact g.block k hk hne⟩
theorem grown_cell {W' : World} (g : W.grownBy W' (some B)) (A j : Nat) (x : Value) (h : W.heap.size ≤ A) : W.grownBy (W'.setCell ⟨A, j, none⟩ x) (some B) :=
  ⟨g.os, g.tape, g.output, by simpa using g.size, fun k hk hne => (Below.heap_setCell _ _ _ _ (fun e => by simp at e; omega)).trans (g.block k hk hne)⟩
theorem grown_cells {W' : World} (g : W.grownBy W' (some B)) : (∀ b o, b < W.heap.size → b ≠ B → W'.cell? ⟨b, o, none⟩ = W.cell? ⟨b, o, none⟩) ∧ (∀ b o, b < W.heap.size → b ≠ B → W'.frozen? ⟨b, o, none⟩ = W.frozen? ⟨b, o, none⟩) :=
  ⟨fun b _ hb h => World.cell?_of_block (g.block b hb (fun e => h (Option.some.inj e))), fun b _ hb h => World.frozen?_of_block (g.block b hb (fun e => h (Option.some.inj e)))⟩
end
end Go.Proofs.Ytmelipbanbihdaa
namespace Go.Proofs.Ytmelipbanbihdaa
open Go.RowKit
open Go.ChangeMaps (setBlock)
end Go.Proofs.Ytmelipbanbihdaa
namespace Go.Proofs.Ytmelipbanbihdaa
open Go.RowKit
open Go.ChangeMaps (setBlock)
/-- The error of two steps, X ahead of Y; what they tell together. -/
def ve (p q : Int) : Int := if oe p = 0 then oe q else oe p
def vx (p q : Int) : Int := if ve p q = 0 then p else 0
def vy (p q : Int) : Int := if ve p q = 0 then q else 0
theorem oe_my {p : Int} (h : oe p = 0) : My p := by
  by_cases m : My p
  · exact m
  · rw [oe_out m] at h; omega
theorem oe_zero_iff (p : Int) : oe p = 0 ↔ My p := ⟨oe_my, oe_in⟩
theorem ve_out {p q : Int} (h : ¬ oe p = 0) : ve p q = oe p ∧ vx p q = 0 ∧ vy p q = 0 := by
  have e : ve p q = oe p := if_neg h
  exact ⟨e, if_neg (by rw [e]; exact h), if_neg (by rw [e]; exact h)⟩
theorem ve_mid {p q : Int} (h : oe p = 0) (g : ¬ oe q = 0) : ve p q = oe q ∧ vx p q = 0 ∧ vy p q = 0 := by
  have e : ve p q = oe q := if_pos h
  exact ⟨e, if_neg (by rw [e]; exact g), if_neg (by rw [e]; exact g)⟩
theorem ve_in {p q : Int} (h : oe p = 0) (g : oe q = 0) : ve p q = 0 ∧ vx p q = p ∧ vy p q = q := by
  have e : ve p q = 0 := (if_pos h).trans g
  exact ⟨e, if_pos e, if_pos e⟩
theorem zero_words : fh 0 = 0 ∧ fl 0 = 0 := by decide
theorem vec_zero : vec 0 0 = .agg #[.int .i64 0, .int .u64 0, .int .i64 0, .int .u64 0] := by unfold vec; rw [zero_words.1, zero_words.2]
theorem rmayvec_any (x y : Int) (w : World) :
    Calls Try.prog 8 #[vec x y] w fun e w' => e = .returned (.bool (decide (x ≠ -170141183460469231731687303715884105728) && decide (y ≠ -170141183460469231731687303715884105728))) ∧ Below w.heap.size w w' :=
  rmayvec_core _ _ _ _ _ _ w (rmay_any x) (rmay_any y)
/-- What Dot comes to: its error, its number. -/
def de (p q : Int) : Int := if oe p = 0 then (if oe q = 0 then oe (p + q) else oe q) else oe p
def dv (p q : Int) : Int := if de p q = 0 then p + q else 0
theorem de_3 (p q : Int) : de p q = 0 ∨ de p q = 3 := by
  have h : ∀ x, oe x = 0 ∨ oe x = 3 := fun x => by unfold oe; split; exact Or.inl rfl; exact Or.inr rfl
  unfold de
  split
  · split
    · exact h _
    · exact h _
  · exact h _
theorem de_zero {p q : Int} (h : de p q = 0) : My p ∧ My q ∧ My (p + q) ∧ dv p q = p + q := by
  have h0 := h
  unfold de at h
  split at h
  · rename_i a
    split at h
    · rename_i b
      exact ⟨oe_my a, oe_my b, oe_my h, if_pos h0⟩
    · rename_i b
      exact absurd h b
  · rename_i a
    exact absurd h a
theorem dv_My (p q : Int) : My (dv p q) := by
  by_cases h : de p q = 0
  · obtain ⟨_, _, a, b⟩ := de_zero h; rw [b]; exact a
  · rw [show dv p q = 0 from if_neg h]; exact ⟨by decide, by decide⟩
theorem mulr_self (x : Int) : 0 ≤ mulr x x := by
  unfold mulr sg
  have : (decide (x < 0) != decide (x < 0)) = false := by cases decide (x < 0) <;> rfl
  rw [this]
  exact Int.natCast_nonneg _
theorem dv_self (ax ay : Int) : 0 ≤ dv (mulr ax ax) (mulr ay ay) := by
  have := mulr_self ax; have := mulr_self ay
  unfold dv; split <;> omega
/-- What Len comes to. -/
def lv (ax ay : Int) : Int := if de (mulr ax ax) (mulr ay ay) = 0 then sqr (dv (mulr ax ax) (mulr ay ay)) else 0
end Go.Proofs.Ytmelipbanbihdaa
namespace Go.Proofs.Ytmelipbanbihdaa
open Go.RowKit
theorem eq_vec_true (a b c d : Int) (W : World) : (Go.binOp .eql 26 (.agg #[.int .i64 a, .int .u64 b, .int .i64 c, .int .u64 d]) (.agg #[.int .i64 a, .int .u64 b, .int .i64 c, .int .u64 d])).run Try.prog W = .ok (.bool true) W := by
  simp [go_sem]
theorem ne_vec_false (a b c d : Int) (W : World) : (Go.binOp .neq 26 (.agg #[.int .i64 a, .int .u64 b, .int .i64 c, .int .u64 d]) (.agg #[.int .i64 a, .int .u64 b, .int .i64 c, .int .u64 d])).run Try.prog W = .ok (.bool false) W := by
  simp [go_sem]
theorem sqr_five : sqr 461168601842738790400 = 92233720368547758080 := by
  unfold sqr
  rw [show (461168601842738790400 : Int).toNat * 18446744073709551616 = 92233720368547758080 * 92233720368547758080 by decide, isq_of (Nat.le_refl _) (by omega)]
  rfl
theorem three_my : My 55340232221128654848 ∧ My 73786976294838206464 ∧ My 92233720368547758080 := by unfold My; omega
theorem rmv_true {x y : Int} (hx : My x) (hy : My y) (w : World) : Calls Try.prog 8 #[vec x y] w fun e w' => e = .returned (.bool true) ∧ Below w.heap.size w w' := by
  have h := rmayvec_any x y w
  rw [decide_eq_true (show x ≠ -170141183460469231731687303715884105728 by unfold My at hx; omega), decide_eq_true (show y ≠ -170141183460469231731687303715884105728 by unfold My at hy; omega)] at h; exact h
theorem rmv_false {x y : Int} (hx : Fx x) (hy : Fx y) (n : ¬ (My x ∧ My y)) (w : World) : Calls Try.prog 8 #[vec x y] w fun e w' => e = .returned (.bool false) ∧ Below w.heap.size w w' := by
  have h := rmayvec_any x y w
  by_cases mx : My x
  · have my : ¬ My y := fun g => n ⟨mx, g⟩
    rw [decide_eq_false (show ¬ y ≠ -170141183460469231731687303715884105728 by unfold My at my; unfold Fx at hy; omega), Bool.and_false] at h; exact h
  · rw [decide_eq_false (show ¬ x ≠ -170141183460469231731687303715884105728 by unfold My at mx; unfold Fx at hx; omega)] at h; exact h
end Go.Proofs.Ytmelipbanbihdaa
namespace Go.Proofs.Ytmelipbanbihdaa
open Go.RowKit
set_option maxRecDepth 20000 in
set_option maxHeartbeats 60000000 in
theorem rboth_x (xh xl yh yl ex ey : Int) (he : ¬ ex = 0) (w : World) :
    Calls Try.prog 56 #[.agg #[.int .i64 xh, .int .u64 xl, .int .i64 ex], .agg #[.int .i64 yh, .int .u64 yl, .int .i64 ey]] w fun e w' => e = .returned (.agg #[.int .i64 0, .int .u64 0, .int .i64 0, .int .u64 0, .int .i64 ex]) ∧ Below w.heap.size w w' := by
  go_enter Try.func56, Try.ntmps56
  go_wp2_with fail
  refine bodyPost_ret (by simp [results, Try.results56, go_sem, *]; try rfl) rfl ?_
  exact ⟨rfl, by repeat (first | with_reducible exact Below.refl _ _ | with_reducible exact Hid.out (by assumption) | with_reducible refine Below.setCell ?_ (by first | (simp; done) | omega | (simp <;> omega)) _ | with_reducible refine bl_al ?_ _ | with_reducible apply Below.drew)⟩
set_option maxRecDepth 20000 in
set_option maxHeartbeats 60000000 in
theorem rboth_y (xh xl yh yl ex ey : Int) (hx : ex = 0) (he : ¬ ey = 0) (w : World) :
    Calls Try.prog 56 #[.agg #[.int .i64 xh, .int .u64 xl, .int .i64 ex], .agg #[.int .i64 yh, .int .u64 yl, .int .i64 ey]] w fun e w' => e = .returned (.agg #[.int .i64 0, .int .u64 0, .int .i64 0, .int .u64 0, .int .i64 ey]) ∧ Below w.heap.size w w' := by
  subst hx
  go_enter Try.func56, Try.ntmps56
  go_wp2_with fail
  refine bodyPost_ret (by simp [results, Try.results56, go_sem, *]; try rfl) rfl ?_
  exact ⟨rfl, by repeat (first | with_reducible exact Below.refl _ _ | with_reducible exact Hid.out (by assumption) | with_reducible refine Below.setCell ?_ (by first | (simp; done) | omega | (simp <;> omega)) _ | with_reducible refine bl_al ?_ _ | with_reducible apply Below.drew)⟩
set_option maxRecDepth 20000 in
set_option maxHeartbeats 60000000 in
theorem rboth_ok (xh xl yh yl ex ey : Int) (hx : ex = 0) (hy : ey = 0) (w : World) :
    Calls Try.prog 56 #[.agg #[.int .i64 xh, .int .u64 xl, .int .i64 ex], .agg #[.int .i64 yh, .int .u64 yl, .int .i64 ey]] w fun e w' => e = .returned (.agg #[.int .i64 xh, .int .u64 xl, .int .i64 yh, .int .u64 yl, .int .i64 0]) ∧ Below w.heap.size w w' := by
  subst hx
  subst hy
  go_enter Try.func56, Try.ntmps56
  go_wp2_with fail
  refine bodyPost_ret (by simp [results, Try.results56, go_sem, *]; try rfl) rfl ?_
  exact ⟨rfl, by repeat (first | with_reducible exact Below.refl _ _ | with_reducible exact Hid.out (by assumption) | with_reducible refine Below.setCell ?_ (by first | (simp; done) | omega | (simp <;> omega)) _ | with_reducible refine bl_al ?_ _ | with_reducible apply Below.drew)⟩
theorem Has.mk5 {B : Nat} {x0 x1 x2 x3 x4 : Value} {W : World} (h : B < W.heap.size) (h0 : W.cell? ⟨B, 0, none⟩ = some x0) (h1 : W.cell? ⟨B, 1, none⟩ = some x1) (h2 : W.cell? ⟨B, 2, none⟩ = some x2) (h3 : W.cell? ⟨B, 3, none⟩ = some x3) (h4 : W.cell? ⟨B, 4, none⟩ = some x4) : Has B [x0, x1, x2, x3, x4] W := by
  refine ⟨h, fun j x e => ?_⟩
  rcases (show j = 0 ∨ j = 1 ∨ j = 2 ∨ j = 3 ∨ j = 4 ∨ 5 ≤ j by omega) with rfl | rfl | rfl | rfl | rfl | g
  · cases e; exact h0
  · cases e; exact h1
  · cases e; exact h2
  · cases e; exact h3
  · cases e; exact h4
  · rw [List.getElem?_eq_none (by simpa using g)] at e; cases e
set_option maxRecDepth 20000 in
set_option maxHeartbeats 60000000 in
theorem rdot_err (axh axl ayh ayl bxh bxl byh byl wxh wxl wyh wyl ph pl qh ql ep eq er : Int) (he : ¬ er = 0) (w : World)
    (C1 : ∀ W, Calls Try.prog 25 #[.agg #[.int .i64 axh, .int .u64 axl], .agg #[.int .i64 bxh, .int .u64 bxl]] W fun e w' => e = .returned (.agg #[.int .i64 ph, .int .u64 pl, .int .i64 ep]) ∧ Below W.heap.size W w')
    (C2 : ∀ W, Calls Try.prog 25 #[.agg #[.int .i64 ayh, .int .u64 ayl], .agg #[.int .i64 byh, .int .u64 byl]] W fun e w' => e = .returned (.agg #[.int .i64 qh, .int .u64 ql, .int .i64 eq]) ∧ Below W.heap.size W w')
    (C3 : ∀ W, Calls Try.prog 56 #[.agg #[.int .i64 ph, .int .u64 pl, .int .i64 ep], .agg #[.int .i64 qh, .int .u64 ql, .int .i64 eq]] W fun e w' => e = .returned (.agg #[.int .i64 wxh, .int .u64 wxl, .int .i64 wyh, .int .u64 wyl, .int .i64 er]) ∧ Below W.heap.size W w') :
    Calls Try.prog 39 #[.agg #[.int .i64 axh, .int .u64 axl, .int .i64 ayh, .int .u64 ayl], .agg #[.int .i64 bxh, .int .u64 bxl, .int .i64 byh, .int .u64 byl]] w fun e w' => e = .returned (.agg #[.int .i64 0, .int .u64 0, .int .i64 er]) ∧ Below w.heap.size w w' := by
  have K1 := Lib.hid C1; have K2 := Lib.hid C2; have K3 := Lib.hid C3
  clear C1 C2 C3
  go_enter Try.func39, Try.ntmps39
  go_upto_region 1 with fail
  refine name_world (P := fun W => Code.wp _ _ _ _ W) _ (fun R1 hR1 => ?_)
  have zR1_a : w.heap.size < R1.heap.size := by rw [hR1]; first | omega | (simp <;> omega)
  have yR1_a : w.heap.size < R1.heap.size + 1 := by omega
  have yyR1_a : w.heap.size < R1.heap.size + 1 + 1 := by omega
  have cR1_a_0 : R1.cell? ⟨w.heap.size, 0, none⟩ = some (.int .i64 axh) := by rw [hR1]; first | assumption | (simp [go_sem, *]; done)
  have cR1_a_1 : R1.cell? ⟨w.heap.size, 1, none⟩ = some (.int .u64 axl) := by rw [hR1]; first | assumption | (simp [go_sem, *]; done)
  have cR1_a_2 : R1.cell? ⟨w.heap.size, 2, none⟩ = some (.int .i64 ayh) := by rw [hR1]; first | assumption | (simp [go_sem, *]; done)
  have cR1_a_3 : R1.cell? ⟨w.heap.size, 3, none⟩ = some (.int .u64 ayl) := by rw [hR1]; first | assumption | (simp [go_sem, *]; done)
  have zR1_b : w.heap.size + 1 < R1.heap.size := by rw [hR1]; first | omega | (simp <;> omega)
  have yR1_b : w.heap.size + 1 < R1.heap.size + 1 := by omega
  have yyR1_b : w.heap.size + 1 < R1.heap.size + 1 + 1 := by omega
  have cR1_b_0 : R1.cell? ⟨w.heap.size + 1, 0, none⟩ = some (.int .i64 bxh) := by rw [hR1]; first | assumption | (simp [go_sem, *]; done)
  have cR1_b_1 : R1.cell? ⟨w.heap.size + 1, 1, none⟩ = some (.int .u64 bxl) := by rw [hR1]; first | assumption | (simp [go_sem, *]; done)
  have cR1_b_2 : R1.cell? ⟨w.heap.size + 1, 2, none⟩ = some (.int .i64 byh) := by rw [hR1]; first | assumption | (simp [go_sem, *]; done)
  have cR1_b_3 : R1.cell? ⟨w.heap.size + 1, 3, none⟩ = some (.int .u64 byl) := by rw [hR1]; first | assumption | (simp [go_sem, *]; done)
  have zR1_r : w.heap.size + 1 + 1 < R1.heap.size := by rw [hR1]; first | omega | (simp <;> omega)
  have yR1_r : w.heap.size + 1 + 1 < R1.heap.size + 1 := by omega
  have yyR1_r : w.heap.size + 1 + 1 < R1.heap.size + 1 + 1 := by omega
  have cR1_r_0 : R1.cell? ⟨w.heap.size + 1 + 1, 0, none⟩ = some (.int .i64 0) := by rw [hR1]; first | assumption | (simp [go_sem, *]; done)
  have cR1_r_1 : R1.cell? ⟨w.heap.size + 1 + 1, 1, none⟩ = some (.int .u64 0) := by rw [hR1]; first | assumption | (simp [go_sem, *]; done)
  have cR1_r_2 : R1.cell? ⟨w.heap.size + 1 + 1, 2, none⟩ = some (.int .i64 0) := by rw [hR1]; first | assumption | (simp [go_sem, *]; done)
  have fR1_r : ∀ j, R1.frozen? ⟨w.heap.size + 1 + 1, j, none⟩ = false := fun j => by rw [hR1]; first | (simp [go_sem, *]; done) | (simp only [frozen?_alloc_cells]; rw [hfrw0 _ _ (by first | omega | (simp <;> omega))]; simp [frozen?_alloc_cells, World.frozen?]; done) | (simp [frozen?_alloc_cells, World.frozen?, *]; done)
  have lo_r : w.heap.size ≤ w.heap.size + 1 + 1 := by omega
  have HBR1 : Hid (Below w.heap.size w R1) := by rw [hR1]; show Below _ _ _; exact (by repeat (first | with_reducible exact Below.refl _ _ | with_reducible exact Hid.out (by assumption) | with_reducible refine Below.setCell ?_ (by first | (simp; done) | omega | (simp <;> omega)) _ | with_reducible refine bl_al ?_ _ | with_reducible apply Below.drew))
  clear hR1
  go_cut [5] (fun slot0 X1 => ∃ bX1w : Nat, slot0 = .pointer (some ⟨bX1w, 0, none⟩) ∧ R1.heap.size ≤ bX1w ∧ Below R1.heap.size R1 X1 ∧ Has (bX1w) [.int .i64 wxh, .int .u64 wxl, .int .i64 wyh, .int .u64 wyl, .int .i64 er] X1)
  case first =>
    clear HBR1
    have ltt : ∀ n : Nat, n < n + 1 + 1 := fun n => by omega
    have lttt : ∀ n : Nat, n + 1 < n + 1 + 1 := fun n => by omega
    go_region_held3 (fun w' => w'.cell? ⟨w.heap.size, 0, none⟩ = some (.int .i64 axh) ∧ w'.cell? ⟨w.heap.size, 1, none⟩ = some (.int .u64 axl) ∧ w'.cell? ⟨w.heap.size, 2, none⟩ = some (.int .i64 ayh) ∧ w'.cell? ⟨w.heap.size, 3, none⟩ = some (.int .u64 ayl) ∧ w'.cell? ⟨w.heap.size + 1, 0, none⟩ = some (.int .i64 bxh) ∧ w'.cell? ⟨w.heap.size + 1, 1, none⟩ = some (.int .u64 bxl) ∧ w'.cell? ⟨w.heap.size + 1, 2, none⟩ = some (.int .i64 byh) ∧ w'.cell? ⟨w.heap.size + 1, 3, none⟩ = some (.int .u64 byl)) (first | (simp [*, go_sem]; done) | (simp [*, go_sem, World.cell?_alloc_past]; done))
      (first
        | (go_at_call 25; (with_reducible refine (K1.out _).mono ?_); rintro e w1 ⟨rfl, hb⟩; (first | (with_reducible (obtain ⟨hclw1, hfrw1⟩ := bcell_drew hb)) | (obtain ⟨hclw1, hfrw1⟩ := bcell hb)); have zw1_a : w.heap.size < w1.heap.size := (by first | omega | (have hz := hb.size; (try simp at hz); omega)); have yw1_a : w.heap.size < w1.heap.size + 1 := (by omega); have yyw1_a : w.heap.size < w1.heap.size + 1 + 1 := (by omega); have zw1_b : w.heap.size + 1 < w1.heap.size := (by first | omega | (have hz := hb.size; (try simp at hz); omega)); have yw1_b : w.heap.size + 1 < w1.heap.size + 1 := (by omega); have yyw1_b : w.heap.size + 1 < w1.heap.size + 1 + 1 := (by omega); (try have sw1_0 : R1.heap.size < w1.heap.size := (by first | omega | (have hz := hb.size; (try simp at hz); omega))); (try have syw1_0 : R1.heap.size < w1.heap.size + 1 := (by omega)); (try have stw1_0 : R1.heap.size + 1 < w1.heap.size := (by first | omega | (have hz := hb.size; (try simp at hz); omega))); have sxw1_0 : R1.heap.size ≤ w1.heap.size := (by first | omega | (have hz := hb.size; (try simp at hz); omega)); have HBw1 : Hid (Below R1.heap.size R1 w1) := (bl_trans (by repeat (first | with_reducible exact Below.refl _ _ | with_reducible exact Hid.out (by assumption) | with_reducible refine Below.setCell ?_ (by first | (simp; done) | omega | (simp <;> omega)) _ | with_reducible refine bl_al ?_ _ | with_reducible apply Below.drew)) hb); clear hb; clear K1)
        | (go_at_call 25; (with_reducible refine (K2.out _).mono ?_); rintro e w2 ⟨rfl, hb⟩; obtain ⟨hclw2, hfrw2⟩ := bcell hb; have zw2_a : w.heap.size < w2.heap.size := (by first | omega | (have hz := hb.size; (try simp at hz); omega)); have yw2_a : w.heap.size < w2.heap.size + 1 := (by omega); have yyw2_a : w.heap.size < w2.heap.size + 1 + 1 := (by omega); have zw2_b : w.heap.size + 1 < w2.heap.size := (by first | omega | (have hz := hb.size; (try simp at hz); omega)); have yw2_b : w.heap.size + 1 < w2.heap.size + 1 := (by omega); have yyw2_b : w.heap.size + 1 < w2.heap.size + 1 + 1 := (by omega); (try have sw2_0 : R1.heap.size < w2.heap.size := (by first | omega | (have hz := hb.size; (try simp at hz); omega))); (try have syw2_0 : R1.heap.size < w2.heap.size + 1 := (by omega)); (try have stw2_0 : R1.heap.size + 1 < w2.heap.size := (by first | omega | (have hz := hb.size; (try simp at hz); omega))); have sxw2_0 : R1.heap.size ≤ w2.heap.size := (by first | omega | (have hz := hb.size; (try simp at hz); omega)); (try have sw2_w1 : w1.heap.size < w2.heap.size := (by first | omega | (have hz := hb.size; (try simp at hz); omega))); (try have syw2_w1 : w1.heap.size < w2.heap.size + 1 := (by omega)); (try have stw2_w1 : w1.heap.size + 1 < w2.heap.size := (by first | omega | (have hz := hb.size; (try simp at hz); omega))); have sxw2_w1 : w1.heap.size ≤ w2.heap.size := (by first | omega | (have hz := hb.size; (try simp at hz); omega)); have HBw2 : Hid (Below R1.heap.size R1 w2) := (bl_trans (by repeat (first | with_reducible exact Below.refl _ _ | with_reducible exact Hid.out (by assumption) | with_reducible refine Below.setCell ?_ (by first | (simp; done) | omega | (simp <;> omega)) _ | with_reducible refine bl_al ?_ _ | with_reducible apply Below.drew)) hb); clear hb; clear K2)
        | (go_at_call 56; (with_reducible refine (K3.out _).mono ?_); rintro e w3 ⟨rfl, hb⟩; obtain ⟨hclw3, hfrw3⟩ := bcell hb; have zw3_a : w.heap.size < w3.heap.size := (by first | omega | (have hz := hb.size; (try simp at hz); omega)); have yw3_a : w.heap.size < w3.heap.size + 1 := (by omega); have yyw3_a : w.heap.size < w3.heap.size + 1 + 1 := (by omega); have zw3_b : w.heap.size + 1 < w3.heap.size := (by first | omega | (have hz := hb.size; (try simp at hz); omega)); have yw3_b : w.heap.size + 1 < w3.heap.size + 1 := (by omega); have yyw3_b : w.heap.size + 1 < w3.heap.size + 1 + 1 := (by omega); (try have sw3_0 : R1.heap.size < w3.heap.size := (by first | omega | (have hz := hb.size; (try simp at hz); omega))); (try have syw3_0 : R1.heap.size < w3.heap.size + 1 := (by omega)); (try have stw3_0 : R1.heap.size + 1 < w3.heap.size := (by first | omega | (have hz := hb.size; (try simp at hz); omega))); have sxw3_0 : R1.heap.size ≤ w3.heap.size := (by first | omega | (have hz := hb.size; (try simp at hz); omega)); (try have sw3_w1 : w1.heap.size < w3.heap.size := (by first | omega | (have hz := hb.size; (try simp at hz); omega))); (try have syw3_w1 : w1.heap.size < w3.heap.size + 1 := (by omega)); (try have stw3_w1 : w1.heap.size + 1 < w3.heap.size := (by first | omega | (have hz := hb.size; (try simp at hz); omega))); have sxw3_w1 : w1.heap.size ≤ w3.heap.size := (by first | omega | (have hz := hb.size; (try simp at hz); omega)); (try have sw3_w2 : w2.heap.size < w3.heap.size := (by first | omega | (have hz := hb.size; (try simp at hz); omega))); (try have syw3_w2 : w2.heap.size < w3.heap.size + 1 := (by omega)); (try have stw3_w2 : w2.heap.size + 1 < w3.heap.size := (by first | omega | (have hz := hb.size; (try simp at hz); omega))); have sxw3_w2 : w2.heap.size ≤ w3.heap.size := (by first | omega | (have hz := hb.size; (try simp at hz); omega)); have HBw3 : Hid (Below R1.heap.size R1 w3) := (bl_trans (by repeat (first | with_reducible exact Below.refl _ _ | with_reducible exact Hid.out (by assumption) | with_reducible refine Below.setCell ?_ (by first | (simp; done) | omega | (simp <;> omega)) _ | with_reducible refine bl_al ?_ _ | with_reducible apply Below.drew)) hb); clear hb; clear K3))
    all_goals (rename_i hHeld; clear hHeld; go_wp2_with fail; go_meet; exact ⟨_, rfl, (by first | omega | (simp <;> omega)), (by repeat (first | with_reducible exact Below.refl _ _ | with_reducible exact Hid.out (by assumption) | with_reducible refine Below.setCell ?_ (by first | (simp; done) | omega | (simp <;> omega)) _ | with_reducible refine bl_al ?_ _ | with_reducible apply Below.drew)), Has.mk5 (by first | (simp <;> omega) | omega) (by simp [go_sem, *]) (by simp [go_sem, *]) (by simp [go_sem, *]) (by simp [go_sem, *]) (by simp [go_sem, *])⟩)
  case rest =>
  obtain ⟨X1, hX1⟩ : ∃ X, X = wc := ⟨wc, rfl⟩
  subst hX1
  obtain ⟨bX1w, rfl, m_bX1w, hX, g_w⟩ := hcut
  have zX1_a : w.heap.size < X1.heap.size := Nat.lt_of_lt_of_le zR1_a hX.size
  have cX1_a_0 : X1.cell? ⟨w.heap.size, 0, none⟩ = some (.int .i64 axh) := by rw [(bcell hX).1 _ _ zR1_a]; exact cR1_a_0
  have cX1_a_1 : X1.cell? ⟨w.heap.size, 1, none⟩ = some (.int .u64 axl) := by rw [(bcell hX).1 _ _ zR1_a]; exact cR1_a_1
  have cX1_a_2 : X1.cell? ⟨w.heap.size, 2, none⟩ = some (.int .i64 ayh) := by rw [(bcell hX).1 _ _ zR1_a]; exact cR1_a_2
  have cX1_a_3 : X1.cell? ⟨w.heap.size, 3, none⟩ = some (.int .u64 ayl) := by rw [(bcell hX).1 _ _ zR1_a]; exact cR1_a_3
  have zX1_b : w.heap.size + 1 < X1.heap.size := Nat.lt_of_lt_of_le zR1_b hX.size
  have cX1_b_0 : X1.cell? ⟨w.heap.size + 1, 0, none⟩ = some (.int .i64 bxh) := by rw [(bcell hX).1 _ _ zR1_b]; exact cR1_b_0
  have cX1_b_1 : X1.cell? ⟨w.heap.size + 1, 1, none⟩ = some (.int .u64 bxl) := by rw [(bcell hX).1 _ _ zR1_b]; exact cR1_b_1
  have cX1_b_2 : X1.cell? ⟨w.heap.size + 1, 2, none⟩ = some (.int .i64 byh) := by rw [(bcell hX).1 _ _ zR1_b]; exact cR1_b_2
  have cX1_b_3 : X1.cell? ⟨w.heap.size + 1, 3, none⟩ = some (.int .u64 byl) := by rw [(bcell hX).1 _ _ zR1_b]; exact cR1_b_3
  have zX1_r : w.heap.size + 1 + 1 < X1.heap.size := Nat.lt_of_lt_of_le zR1_r hX.size
  have cX1_r_0 : X1.cell? ⟨w.heap.size + 1 + 1, 0, none⟩ = some (.int .i64 0) := by rw [(bcell hX).1 _ _ zR1_r]; exact cR1_r_0
  have cX1_r_1 : X1.cell? ⟨w.heap.size + 1 + 1, 1, none⟩ = some (.int .u64 0) := by rw [(bcell hX).1 _ _ zR1_r]; exact cR1_r_1
  have cX1_r_2 : X1.cell? ⟨w.heap.size + 1 + 1, 2, none⟩ = some (.int .i64 0) := by rw [(bcell hX).1 _ _ zR1_r]; exact cR1_r_2
  have fX1_r : ∀ j, X1.frozen? ⟨w.heap.size + 1 + 1, j, none⟩ = false := fun j => by rw [(bcell hX).2 _ _ zR1_r]; exact fR1_r j
  have zX1_w := g_w.1; have cX1_w_0 := g_w.2 0 _ rfl; have cX1_w_1 := g_w.2 1 _ rfl; have cX1_w_2 := g_w.2 2 _ rfl; have cX1_w_3 := g_w.2 3 _ rfl; have cX1_w_4 := g_w.2 4 _ rfl; clear g_w
  have nebX1w_r : ¬ (bX1w = w.heap.size + 1 + 1) := by omega
  have ndbX1w_r : ¬ (w.heap.size + 1 + 1 = bX1w) := by omega
  have HBX1 : Hid (Below w.heap.size w X1) := bl_trans HBR1.out hX
  clear hX
  clear zR1_a yR1_a yyR1_a cR1_a_0 cR1_a_1 cR1_a_2 cR1_a_3 zR1_b yR1_b yyR1_b cR1_b_0 cR1_b_1 cR1_b_2 cR1_b_3 zR1_r yR1_r yyR1_r cR1_r_0 cR1_r_1 cR1_r_2 fR1_r HBR1 m_bX1w
  go_wp2_with fail
  refine bodyPost_ret (by simp [results, Try.results39, go_sem, *]; try rfl) rfl ?_
  exact ⟨rfl, by repeat (first | with_reducible exact Below.refl _ _ | with_reducible exact Hid.out (by assumption) | with_reducible refine Below.setCell ?_ (by first | (simp; done) | omega | (simp <;> omega)) _ | with_reducible refine bl_al ?_ _ | with_reducible apply Below.drew)⟩
set_option maxRecDepth 20000 in
set_option maxHeartbeats 60000000 in
theorem rdot_ok (axh axl ayh ayl bxh bxl byh byl wxh wxl wyh wyl ph pl qh ql sh sl ep eq er es : Int) (he : er = 0) (w : World)
    (C1 : ∀ W, Calls Try.prog 25 #[.agg #[.int .i64 axh, .int .u64 axl], .agg #[.int .i64 bxh, .int .u64 bxl]] W fun e w' => e = .returned (.agg #[.int .i64 ph, .int .u64 pl, .int .i64 ep]) ∧ Below W.heap.size W w')
    (C2 : ∀ W, Calls Try.prog 25 #[.agg #[.int .i64 ayh, .int .u64 ayl], .agg #[.int .i64 byh, .int .u64 byl]] W fun e w' => e = .returned (.agg #[.int .i64 qh, .int .u64 ql, .int .i64 eq]) ∧ Below W.heap.size W w')
    (C3 : ∀ W, Calls Try.prog 56 #[.agg #[.int .i64 ph, .int .u64 pl, .int .i64 ep], .agg #[.int .i64 qh, .int .u64 ql, .int .i64 eq]] W fun e w' => e = .returned (.agg #[.int .i64 wxh, .int .u64 wxl, .int .i64 wyh, .int .u64 wyl, .int .i64 er]) ∧ Below W.heap.size W w')
    (C4 : ∀ W, Calls Try.prog 26 #[.agg #[.int .i64 wxh, .int .u64 wxl], .agg #[.int .i64 wyh, .int .u64 wyl]] W fun e w' => e = .returned (.agg #[.int .i64 sh, .int .u64 sl, .int .i64 es]) ∧ Below W.heap.size W w') :
    Calls Try.prog 39 #[.agg #[.int .i64 axh, .int .u64 axl, .int .i64 ayh, .int .u64 ayl], .agg #[.int .i64 bxh, .int .u64 bxl, .int .i64 byh, .int .u64 byl]] w fun e w' => e = .returned (.agg #[.int .i64 sh, .int .u64 sl, .int .i64 es]) ∧ Below w.heap.size w w' := by
  have K1 := Lib.hid C1; have K2 := Lib.hid C2; have K3 := Lib.hid C3; have K4 := Lib.hid C4
  clear C1 C2 C3 C4
  subst he
  go_enter Try.func39, Try.ntmps39
  go_upto_region 1 with fail
  refine name_world (P := fun W => Code.wp _ _ _ _ W) _ (fun R1 hR1 => ?_)
  have zR1_a : w.heap.size < R1.heap.size := by rw [hR1]; first | omega | (simp <;> omega)
  have yR1_a : w.heap.size < R1.heap.size + 1 := by omega
  have yyR1_a : w.heap.size < R1.heap.size + 1 + 1 := by omega
  have cR1_a_0 : R1.cell? ⟨w.heap.size, 0, none⟩ = some (.int .i64 axh) := by rw [hR1]; first | assumption | (simp [go_sem, *]; done)
  have cR1_a_1 : R1.cell? ⟨w.heap.size, 1, none⟩ = some (.int .u64 axl) := by rw [hR1]; first | assumption | (simp [go_sem, *]; done)
  have cR1_a_2 : R1.cell? ⟨w.heap.size, 2, none⟩ = some (.int .i64 ayh) := by rw [hR1]; first | assumption | (simp [go_sem, *]; done)
  have cR1_a_3 : R1.cell? ⟨w.heap.size, 3, none⟩ = some (.int .u64 ayl) := by rw [hR1]; first | assumption | (simp [go_sem, *]; done)
  have zR1_b : w.heap.size + 1 < R1.heap.size := by rw [hR1]; first | omega | (simp <;> omega)
  have yR1_b : w.heap.size + 1 < R1.heap.size + 1 := by omega
  have yyR1_b : w.heap.size + 1 < R1.heap.size + 1 + 1 := by omega
  have cR1_b_0 : R1.cell? ⟨w.heap.size + 1, 0, none⟩ = some (.int .i64 bxh) := by rw [hR1]; first | assumption | (simp [go_sem, *]; done)
  have cR1_b_1 : R1.cell? ⟨w.heap.size + 1, 1, none⟩ = some (.int .u64 bxl) := by rw [hR1]; first | assumption | (simp [go_sem, *]; done)
  have cR1_b_2 : R1.cell? ⟨w.heap.size + 1, 2, none⟩ = some (.int .i64 byh) := by rw [hR1]; first | assumption | (simp [go_sem, *]; done)
  have cR1_b_3 : R1.cell? ⟨w.heap.size + 1, 3, none⟩ = some (.int .u64 byl) := by rw [hR1]; first | assumption | (simp [go_sem, *]; done)
  have zR1_r : w.heap.size + 1 + 1 < R1.heap.size := by rw [hR1]; first | omega | (simp <;> omega)
  have yR1_r : w.heap.size + 1 + 1 < R1.heap.size + 1 := by omega
  have yyR1_r : w.heap.size + 1 + 1 < R1.heap.size + 1 + 1 := by omega
  have cR1_r_0 : R1.cell? ⟨w.heap.size + 1 + 1, 0, none⟩ = some (.int .i64 0) := by rw [hR1]; first | assumption | (simp [go_sem, *]; done)
  have cR1_r_1 : R1.cell? ⟨w.heap.size + 1 + 1, 1, none⟩ = some (.int .u64 0) := by rw [hR1]; first | assumption | (simp [go_sem, *]; done)
  have cR1_r_2 : R1.cell? ⟨w.heap.size + 1 + 1, 2, none⟩ = some (.int .i64 0) := by rw [hR1]; first | assumption | (simp [go_sem, *]; done)
  have fR1_r : ∀ j, R1.frozen? ⟨w.heap.size + 1 + 1, j, none⟩ = false := fun j => by rw [hR1]; first | (simp [go_sem, *]; done) | (simp only [frozen?_alloc_cells]; rw [hfrw0 _ _ (by first | omega | (simp <;> omega))]; simp [frozen?_alloc_cells, World.frozen?]; done) | (simp [frozen?_alloc_cells, World.frozen?, *]; done)
  have lo_r : w.heap.size ≤ w.heap.size + 1 + 1 := by omega
  have HBR1 : Hid (Below w.heap.size w R1) := by rw [hR1]; show Below _ _ _; exact (by repeat (first | with_reducible exact Below.refl _ _ | with_reducible exact Hid.out (by assumption) | with_reducible refine Below.setCell ?_ (by first | (simp; done) | omega | (simp <;> omega)) _ | with_reducible refine bl_al ?_ _ | with_reducible apply Below.drew))
  clear hR1
  go_cut [5] (fun slot0 X1 => ∃ bX1w : Nat, slot0 = .pointer (some ⟨bX1w, 0, none⟩) ∧ R1.heap.size ≤ bX1w ∧ Below R1.heap.size R1 X1 ∧ Has (bX1w) [.int .i64 wxh, .int .u64 wxl, .int .i64 wyh, .int .u64 wyl, .int .i64 0] X1)
  case first =>
    clear HBR1
    have ltt : ∀ n : Nat, n < n + 1 + 1 := fun n => by omega
    have lttt : ∀ n : Nat, n + 1 < n + 1 + 1 := fun n => by omega
    go_region_held3 (fun w' => w'.cell? ⟨w.heap.size, 0, none⟩ = some (.int .i64 axh) ∧ w'.cell? ⟨w.heap.size, 1, none⟩ = some (.int .u64 axl) ∧ w'.cell? ⟨w.heap.size, 2, none⟩ = some (.int .i64 ayh) ∧ w'.cell? ⟨w.heap.size, 3, none⟩ = some (.int .u64 ayl) ∧ w'.cell? ⟨w.heap.size + 1, 0, none⟩ = some (.int .i64 bxh) ∧ w'.cell? ⟨w.heap.size + 1, 1, none⟩ = some (.int .u64 bxl) ∧ w'.cell? ⟨w.heap.size + 1, 2, none⟩ = some (.int .i64 byh) ∧ w'.cell? ⟨w.heap.size + 1, 3, none⟩ = some (.int .u64 byl)) (first | (simp [*, go_sem]; done) | (simp [*, go_sem, World.cell?_alloc_past]; done))
      (first
        | (go_at_call 25; (with_reducible refine (K1.out _).mono ?_); rintro e w1 ⟨rfl, hb⟩; (first | (with_reducible (obtain ⟨hclw1, hfrw1⟩ := bcell_drew hb)) | (obtain ⟨hclw1, hfrw1⟩ := bcell hb)); have zw1_a : w.heap.size < w1.heap.size := (by first | omega | (have hz := hb.size; (try simp at hz); omega)); have yw1_a : w.heap.size < w1.heap.size + 1 := (by omega); have yyw1_a : w.heap.size < w1.heap.size + 1 + 1 := (by omega); have zw1_b : w.heap.size + 1 < w1.heap.size := (by first | omega | (have hz := hb.size; (try simp at hz); omega)); have yw1_b : w.heap.size + 1 < w1.heap.size + 1 := (by omega); have yyw1_b : w.heap.size + 1 < w1.heap.size + 1 + 1 := (by omega); (try have sw1_0 : R1.heap.size < w1.heap.size := (by first | omega | (have hz := hb.size; (try simp at hz); omega))); (try have syw1_0 : R1.heap.size < w1.heap.size + 1 := (by omega)); (try have stw1_0 : R1.heap.size + 1 < w1.heap.size := (by first | omega | (have hz := hb.size; (try simp at hz); omega))); have sxw1_0 : R1.heap.size ≤ w1.heap.size := (by first | omega | (have hz := hb.size; (try simp at hz); omega)); have HBw1 : Hid (Below R1.heap.size R1 w1) := (bl_trans (by repeat (first | with_reducible exact Below.refl _ _ | with_reducible exact Hid.out (by assumption) | with_reducible refine Below.setCell ?_ (by first | (simp; done) | omega | (simp <;> omega)) _ | with_reducible refine bl_al ?_ _ | with_reducible apply Below.drew)) hb); clear hb; clear K1)
        | (go_at_call 25; (with_reducible refine (K2.out _).mono ?_); rintro e w2 ⟨rfl, hb⟩; obtain ⟨hclw2, hfrw2⟩ := bcell hb; have zw2_a : w.heap.size < w2.heap.size := (by first | omega | (have hz := hb.size; (try simp at hz); omega)); have yw2_a : w.heap.size < w2.heap.size + 1 := (by omega); have yyw2_a : w.heap.size < w2.heap.size + 1 + 1 := (by omega); have zw2_b : w.heap.size + 1 < w2.heap.size := (by first | omega | (have hz := hb.size; (try simp at hz); omega)); have yw2_b : w.heap.size + 1 < w2.heap.size + 1 := (by omega); have yyw2_b : w.heap.size + 1 < w2.heap.size + 1 + 1 := (by omega); (try have sw2_0 : R1.heap.size < w2.heap.size := (by first | omega | (have hz := hb.size; (try simp at hz); omega))); (try have syw2_0 : R1.heap.size < w2.heap.size + 1 := (by omega)); (try have stw2_0 : R1.heap.size + 1 < w2.heap.size := (by first | omega | (have hz := hb.size; (try simp at hz); omega))); have sxw2_0 : R1.heap.size ≤ w2.heap.size := (by first | omega | (have hz := hb.size; (try simp at hz); omega)); (try have sw2_w1 : w1.heap.size < w2.heap.size := (by first | omega | (have hz := hb.size; (try simp at hz); omega))); (try have syw2_w1 : w1.heap.size < w2.heap.size + 1 := (by omega)); (try have stw2_w1 : w1.heap.size + 1 < w2.heap.size := (by first | omega | (have hz := hb.size; (try simp at hz); omega))); have sxw2_w1 : w1.heap.size ≤ w2.heap.size := (by first | omega | (have hz := hb.size; (try simp at hz); omega)); have HBw2 : Hid (Below R1.heap.size R1 w2) := (bl_trans (by repeat (first | with_reducible exact Below.refl _ _ | with_reducible exact Hid.out (by assumption) | with_reducible refine Below.setCell ?_ (by first | (simp; done) | omega | (simp <;> omega)) _ | with_reducible refine bl_al ?_ _ | with_reducible apply Below.drew)) hb); clear hb; clear K2)
        | (go_at_call 56; (with_reducible refine (K3.out _).mono ?_); rintro e w3 ⟨rfl, hb⟩; obtain ⟨hclw3, hfrw3⟩ := bcell hb; have zw3_a : w.heap.size < w3.heap.size := (by first | omega | (have hz := hb.size; (try simp at hz); omega)); have yw3_a : w.heap.size < w3.heap.size + 1 := (by omega); have yyw3_a : w.heap.size < w3.heap.size + 1 + 1 := (by omega); have zw3_b : w.heap.size + 1 < w3.heap.size := (by first | omega | (have hz := hb.size; (try simp at hz); omega)); have yw3_b : w.heap.size + 1 < w3.heap.size + 1 := (by omega); have yyw3_b : w.heap.size + 1 < w3.heap.size + 1 + 1 := (by omega); (try have sw3_0 : R1.heap.size < w3.heap.size := (by first | omega | (have hz := hb.size; (try simp at hz); omega))); (try have syw3_0 : R1.heap.size < w3.heap.size + 1 := (by omega)); (try have stw3_0 : R1.heap.size + 1 < w3.heap.size := (by first | omega | (have hz := hb.size; (try simp at hz); omega))); have sxw3_0 : R1.heap.size ≤ w3.heap.size := (by first | omega | (have hz := hb.size; (try simp at hz); omega)); (try have sw3_w1 : w1.heap.size < w3.heap.size := (by first | omega | (have hz := hb.size; (try simp at hz); omega))); (try have syw3_w1 : w1.heap.size < w3.heap.size + 1 := (by omega)); (try have stw3_w1 : w1.heap.size + 1 < w3.heap.size := (by first | omega | (have hz := hb.size; (try simp at hz); omega))); have sxw3_w1 : w1.heap.size ≤ w3.heap.size := (by first | omega | (have hz := hb.size; (try simp at hz); omega)); (try have sw3_w2 : w2.heap.size < w3.heap.size := (by first | omega | (have hz := hb.size; (try simp at hz); omega))); (try have syw3_w2 : w2.heap.size < w3.heap.size + 1 := (by omega)); (try have stw3_w2 : w2.heap.size + 1 < w3.heap.size := (by first | omega | (have hz := hb.size; (try simp at hz); omega))); have sxw3_w2 : w2.heap.size ≤ w3.heap.size := (by first | omega | (have hz := hb.size; (try simp at hz); omega)); have HBw3 : Hid (Below R1.heap.size R1 w3) := (bl_trans (by repeat (first | with_reducible exact Below.refl _ _ | with_reducible exact Hid.out (by assumption) | with_reducible refine Below.setCell ?_ (by first | (simp; done) | omega | (simp <;> omega)) _ | with_reducible refine bl_al ?_ _ | with_reducible apply Below.drew)) hb); clear hb; clear K3))
    all_goals (rename_i hHeld; clear hHeld; go_wp2_with fail; go_meet; exact ⟨_, rfl, (by first | omega | (simp <;> omega)), (by repeat (first | with_reducible exact Below.refl _ _ | with_reducible exact Hid.out (by assumption) | with_reducible refine Below.setCell ?_ (by first | (simp; done) | omega | (simp <;> omega)) _ | with_reducible refine bl_al ?_ _ | with_reducible apply Below.drew)), Has.mk5 (by first | (simp <;> omega) | omega) (by simp [go_sem, *]) (by simp [go_sem, *]) (by simp [go_sem, *]) (by simp [go_sem, *]) (by simp [go_sem, *])⟩)
  case rest =>
  obtain ⟨X1, hX1⟩ : ∃ X, X = wc := ⟨wc, rfl⟩
  subst hX1
  obtain ⟨bX1w, rfl, m_bX1w, hX, g_w⟩ := hcut
  have zX1_a : w.heap.size < X1.heap.size := Nat.lt_of_lt_of_le zR1_a hX.size
  have cX1_a_0 : X1.cell? ⟨w.heap.size, 0, none⟩ = some (.int .i64 axh) := by rw [(bcell hX).1 _ _ zR1_a]; exact cR1_a_0
  have cX1_a_1 : X1.cell? ⟨w.heap.size, 1, none⟩ = some (.int .u64 axl) := by rw [(bcell hX).1 _ _ zR1_a]; exact cR1_a_1
  have cX1_a_2 : X1.cell? ⟨w.heap.size, 2, none⟩ = some (.int .i64 ayh) := by rw [(bcell hX).1 _ _ zR1_a]; exact cR1_a_2
  have cX1_a_3 : X1.cell? ⟨w.heap.size, 3, none⟩ = some (.int .u64 ayl) := by rw [(bcell hX).1 _ _ zR1_a]; exact cR1_a_3
  have zX1_b : w.heap.size + 1 < X1.heap.size := Nat.lt_of_lt_of_le zR1_b hX.size
  have cX1_b_0 : X1.cell? ⟨w.heap.size + 1, 0, none⟩ = some (.int .i64 bxh) := by rw [(bcell hX).1 _ _ zR1_b]; exact cR1_b_0
  have cX1_b_1 : X1.cell? ⟨w.heap.size + 1, 1, none⟩ = some (.int .u64 bxl) := by rw [(bcell hX).1 _ _ zR1_b]; exact cR1_b_1
  have cX1_b_2 : X1.cell? ⟨w.heap.size + 1, 2, none⟩ = some (.int .i64 byh) := by rw [(bcell hX).1 _ _ zR1_b]; exact cR1_b_2
  have cX1_b_3 : X1.cell? ⟨w.heap.size + 1, 3, none⟩ = some (.int .u64 byl) := by rw [(bcell hX).1 _ _ zR1_b]; exact cR1_b_3
  have zX1_r : w.heap.size + 1 + 1 < X1.heap.size := Nat.lt_of_lt_of_le zR1_r hX.size
  have cX1_r_0 : X1.cell? ⟨w.heap.size + 1 + 1, 0, none⟩ = some (.int .i64 0) := by rw [(bcell hX).1 _ _ zR1_r]; exact cR1_r_0
  have cX1_r_1 : X1.cell? ⟨w.heap.size + 1 + 1, 1, none⟩ = some (.int .u64 0) := by rw [(bcell hX).1 _ _ zR1_r]; exact cR1_r_1
  have cX1_r_2 : X1.cell? ⟨w.heap.size + 1 + 1, 2, none⟩ = some (.int .i64 0) := by rw [(bcell hX).1 _ _ zR1_r]; exact cR1_r_2
  have fX1_r : ∀ j, X1.frozen? ⟨w.heap.size + 1 + 1, j, none⟩ = false := fun j => by rw [(bcell hX).2 _ _ zR1_r]; exact fR1_r j
  have zX1_w := g_w.1; have cX1_w_0 := g_w.2 0 _ rfl; have cX1_w_1 := g_w.2 1 _ rfl; have cX1_w_2 := g_w.2 2 _ rfl; have cX1_w_3 := g_w.2 3 _ rfl; have cX1_w_4 := g_w.2 4 _ rfl; clear g_w
  have nebX1w_r : ¬ (bX1w = w.heap.size + 1 + 1) := by omega
  have ndbX1w_r : ¬ (w.heap.size + 1 + 1 = bX1w) := by omega
  have HBX1 : Hid (Below w.heap.size w X1) := bl_trans HBR1.out hX
  clear hX
  clear zR1_a yR1_a yyR1_a cR1_a_0 cR1_a_1 cR1_a_2 cR1_a_3 zR1_b yR1_b yyR1_b cR1_b_0 cR1_b_1 cR1_b_2 cR1_b_3 zR1_r yR1_r yyR1_r cR1_r_0 cR1_r_1 cR1_r_2 fR1_r HBR1 m_bX1w
  go_upto_region 4 with fail
  refine name_world (P := fun W => Code.wp _ _ _ _ W) _ (fun R2 hR2 => ?_)
  have zR2_a : w.heap.size < R2.heap.size := by rw [hR2]; first | omega | (simp <;> omega)
  have yR2_a : w.heap.size < R2.heap.size + 1 := by omega
  have yyR2_a : w.heap.size < R2.heap.size + 1 + 1 := by omega
  have cR2_a_0 : R2.cell? ⟨w.heap.size, 0, none⟩ = some (.int .i64 axh) := by rw [hR2]; first | assumption | (simp [go_sem, *]; done)
  have cR2_a_1 : R2.cell? ⟨w.heap.size, 1, none⟩ = some (.int .u64 axl) := by rw [hR2]; first | assumption | (simp [go_sem, *]; done)
  have cR2_a_2 : R2.cell? ⟨w.heap.size, 2, none⟩ = some (.int .i64 ayh) := by rw [hR2]; first | assumption | (simp [go_sem, *]; done)
  have cR2_a_3 : R2.cell? ⟨w.heap.size, 3, none⟩ = some (.int .u64 ayl) := by rw [hR2]; first | assumption | (simp [go_sem, *]; done)
  have zR2_b : w.heap.size + 1 < R2.heap.size := by rw [hR2]; first | omega | (simp <;> omega)
  have yR2_b : w.heap.size + 1 < R2.heap.size + 1 := by omega
  have yyR2_b : w.heap.size + 1 < R2.heap.size + 1 + 1 := by omega
  have cR2_b_0 : R2.cell? ⟨w.heap.size + 1, 0, none⟩ = some (.int .i64 bxh) := by rw [hR2]; first | assumption | (simp [go_sem, *]; done)
  have cR2_b_1 : R2.cell? ⟨w.heap.size + 1, 1, none⟩ = some (.int .u64 bxl) := by rw [hR2]; first | assumption | (simp [go_sem, *]; done)
  have cR2_b_2 : R2.cell? ⟨w.heap.size + 1, 2, none⟩ = some (.int .i64 byh) := by rw [hR2]; first | assumption | (simp [go_sem, *]; done)
  have cR2_b_3 : R2.cell? ⟨w.heap.size + 1, 3, none⟩ = some (.int .u64 byl) := by rw [hR2]; first | assumption | (simp [go_sem, *]; done)
  have zR2_r : w.heap.size + 1 + 1 < R2.heap.size := by rw [hR2]; first | omega | (simp <;> omega)
  have yR2_r : w.heap.size + 1 + 1 < R2.heap.size + 1 := by omega
  have yyR2_r : w.heap.size + 1 + 1 < R2.heap.size + 1 + 1 := by omega
  have cR2_r_0 : R2.cell? ⟨w.heap.size + 1 + 1, 0, none⟩ = some (.int .i64 0) := by rw [hR2]; first | assumption | (simp [go_sem, *]; done)
  have cR2_r_1 : R2.cell? ⟨w.heap.size + 1 + 1, 1, none⟩ = some (.int .u64 0) := by rw [hR2]; first | assumption | (simp [go_sem, *]; done)
  have cR2_r_2 : R2.cell? ⟨w.heap.size + 1 + 1, 2, none⟩ = some (.int .i64 0) := by rw [hR2]; first | assumption | (simp [go_sem, *]; done)
  have fR2_r : ∀ j, R2.frozen? ⟨w.heap.size + 1 + 1, j, none⟩ = false := fun j => by rw [hR2]; first | (simp [go_sem, *]; done) | (simp only [frozen?_alloc_cells]; rw [hfrX1 _ _ (by first | omega | (simp <;> omega))]; simp [frozen?_alloc_cells, World.frozen?]; done) | (simp [frozen?_alloc_cells, World.frozen?, *]; done)
  have zR2_w : bX1w < R2.heap.size := by rw [hR2]; first | omega | (simp <;> omega)
  have yR2_w : bX1w < R2.heap.size + 1 := by omega
  have yyR2_w : bX1w < R2.heap.size + 1 + 1 := by omega
  have cR2_w_0 : R2.cell? ⟨bX1w, 0, none⟩ = some (.int .i64 wxh) := by rw [hR2]; first | assumption | (simp [go_sem, *]; done)
  have cR2_w_1 : R2.cell? ⟨bX1w, 1, none⟩ = some (.int .u64 wxl) := by rw [hR2]; first | assumption | (simp [go_sem, *]; done)
  have cR2_w_2 : R2.cell? ⟨bX1w, 2, none⟩ = some (.int .i64 wyh) := by rw [hR2]; first | assumption | (simp [go_sem, *]; done)
  have cR2_w_3 : R2.cell? ⟨bX1w, 3, none⟩ = some (.int .u64 wyl) := by rw [hR2]; first | assumption | (simp [go_sem, *]; done)
  have cR2_w_4 : R2.cell? ⟨bX1w, 4, none⟩ = some (.int .i64 0) := by rw [hR2]; first | assumption | (simp [go_sem, *]; done)
  have HBR2 : Hid (Below w.heap.size w R2) := by rw [hR2]; show Below _ _ _; exact (by repeat (first | with_reducible exact Below.refl _ _ | with_reducible exact Hid.out (by assumption) | with_reducible refine Below.setCell ?_ (by first | (simp; done) | omega | (simp <;> omega)) _ | with_reducible refine bl_al ?_ _ | with_reducible apply Below.drew))
  clear hR2
  clear HBX1 zX1_a cX1_a_0 cX1_a_1 cX1_a_2 cX1_a_3 zX1_b cX1_b_0 cX1_b_1 cX1_b_2 cX1_b_3 zX1_r cX1_r_0 cX1_r_1 cX1_r_2 fX1_r zX1_w cX1_w_0 cX1_w_1 cX1_w_2 cX1_w_3 cX1_w_4
  go_wp2_with fail
  (with_reducible refine (K4.out _).mono ?_); rintro e w4 ⟨rfl, hb⟩; obtain ⟨hclw4, hfrw4⟩ := bcell hb; have zw4_a : w.heap.size < w4.heap.size := (by first | omega | (have hz := hb.size; (try simp at hz); omega)); have yw4_a : w.heap.size < w4.heap.size + 1 := (by omega); have yyw4_a : w.heap.size < w4.heap.size + 1 + 1 := (by omega); have zw4_b : w.heap.size + 1 < w4.heap.size := (by first | omega | (have hz := hb.size; (try simp at hz); omega)); have yw4_b : w.heap.size + 1 < w4.heap.size + 1 := (by omega); have yyw4_b : w.heap.size + 1 < w4.heap.size + 1 + 1 := (by omega); have zw4_r : w.heap.size + 1 + 1 < w4.heap.size := (by first | omega | (have hz := hb.size; (try simp at hz); omega)); have yw4_r : w.heap.size + 1 + 1 < w4.heap.size + 1 := (by omega); have yyw4_r : w.heap.size + 1 + 1 < w4.heap.size + 1 + 1 := (by omega); have zw4_w : bX1w < w4.heap.size := (by first | omega | (have hz := hb.size; (try simp at hz); omega)); have yw4_w : bX1w < w4.heap.size + 1 := (by omega); have yyw4_w : bX1w < w4.heap.size + 1 + 1 := (by omega); have sxw4_0 : R2.heap.size ≤ w4.heap.size := (by first | omega | (have hz := hb.size; (try simp at hz); omega)); have HBw4 : Hid (Below w.heap.size w w4) := (bl_trans (by repeat (first | with_reducible exact Below.refl _ _ | with_reducible exact Hid.out (by assumption) | with_reducible refine Below.setCell ?_ (by first | (simp; done) | omega | (simp <;> omega)) _ | with_reducible refine bl_al ?_ _ | with_reducible apply Below.drew)) hb); clear hb
  have fw4_r : ∀ j, w4.frozen? ⟨w.heap.size + 1 + 1, j, none⟩ = false := fun j => by rw [hfrw4 _ _ (by first | exact zR2_r | (simp; exact zR2_r))]; exact fR2_r j
  go_wp2_with fail
  refine bodyPost_ret (by simp [results, Try.results39, go_sem, *]; try rfl) rfl ?_
  exact ⟨rfl, by repeat (first | with_reducible exact Below.refl _ _ | with_reducible exact Hid.out (by assumption) | with_reducible refine Below.setCell ?_ (by first | (simp; done) | omega | (simp <;> omega)) _ | with_reducible refine bl_al ?_ _ | with_reducible apply Below.drew)⟩
set_option maxRecDepth 20000 in
set_option maxHeartbeats 60000000 in
theorem rlen2_core (axh axl ayh ayl sh sl es : Int)  (w : World)
    (C1 : ∀ W, Calls Try.prog 39 #[.agg #[.int .i64 axh, .int .u64 axl, .int .i64 ayh, .int .u64 ayl], .agg #[.int .i64 axh, .int .u64 axl, .int .i64 ayh, .int .u64 ayl]] W fun e w' => e = .returned (.agg #[.int .i64 sh, .int .u64 sl, .int .i64 es]) ∧ Below W.heap.size W w') :
    Calls Try.prog 20 #[.agg #[.int .i64 axh, .int .u64 axl, .int .i64 ayh, .int .u64 ayl]] w fun e w' => e = .returned (.agg #[.int .i64 sh, .int .u64 sl, .int .i64 es]) ∧ Below w.heap.size w w' := by
  have K1 := Lib.hid C1
  clear C1
  go_enter Try.func20, Try.ntmps20
  go_upto_region 1 with fail
  refine name_world (P := fun W => Code.wp _ _ _ _ W) _ (fun R1 hR1 => ?_)
  have zR1_a : w.heap.size < R1.heap.size := by rw [hR1]; first | omega | (simp <;> omega)
  have yR1_a : w.heap.size < R1.heap.size + 1 := by omega
  have yyR1_a : w.heap.size < R1.heap.size + 1 + 1 := by omega
  have cR1_a_0 : R1.cell? ⟨w.heap.size, 0, none⟩ = some (.int .i64 axh) := by rw [hR1]; first | assumption | (simp [go_sem, *]; done)
  have cR1_a_1 : R1.cell? ⟨w.heap.size, 1, none⟩ = some (.int .u64 axl) := by rw [hR1]; first | assumption | (simp [go_sem, *]; done)
  have cR1_a_2 : R1.cell? ⟨w.heap.size, 2, none⟩ = some (.int .i64 ayh) := by rw [hR1]; first | assumption | (simp [go_sem, *]; done)
  have cR1_a_3 : R1.cell? ⟨w.heap.size, 3, none⟩ = some (.int .u64 ayl) := by rw [hR1]; first | assumption | (simp [go_sem, *]; done)
  have zR1_r : w.heap.size + 1 < R1.heap.size := by rw [hR1]; first | omega | (simp <;> omega)
  have yR1_r : w.heap.size + 1 < R1.heap.size + 1 := by omega
  have yyR1_r : w.heap.size + 1 < R1.heap.size + 1 + 1 := by omega
  have cR1_r_0 : R1.cell? ⟨w.heap.size + 1, 0, none⟩ = some (.int .i64 0) := by rw [hR1]; first | assumption | (simp [go_sem, *]; done)
  have cR1_r_1 : R1.cell? ⟨w.heap.size + 1, 1, none⟩ = some (.int .u64 0) := by rw [hR1]; first | assumption | (simp [go_sem, *]; done)
  have cR1_r_2 : R1.cell? ⟨w.heap.size + 1, 2, none⟩ = some (.int .i64 0) := by rw [hR1]; first | assumption | (simp [go_sem, *]; done)
  have fR1_r : ∀ j, R1.frozen? ⟨w.heap.size + 1, j, none⟩ = false := fun j => by rw [hR1]; first | (simp [go_sem, *]; done) | (simp only [frozen?_alloc_cells]; rw [hfrw0 _ _ (by first | omega | (simp <;> omega))]; simp [frozen?_alloc_cells, World.frozen?]; done) | (simp [frozen?_alloc_cells, World.frozen?, *]; done)
  have lo_r : w.heap.size ≤ w.heap.size + 1 := by omega
  have HBR1 : Hid (Below w.heap.size w R1) := by rw [hR1]; show Below _ _ _; exact (by repeat (first | with_reducible exact Below.refl _ _ | with_reducible exact Hid.out (by assumption) | with_reducible refine Below.setCell ?_ (by first | (simp; done) | omega | (simp <;> omega)) _ | with_reducible refine bl_al ?_ _ | with_reducible apply Below.drew))
  clear hR1
  go_wp2_with fail
  (with_reducible refine (K1.out _).mono ?_); rintro e w1 ⟨rfl, hb⟩; obtain ⟨hclw1, hfrw1⟩ := bcell hb; have zw1_a : w.heap.size < w1.heap.size := (by first | omega | (have hz := hb.size; (try simp at hz); omega)); have yw1_a : w.heap.size < w1.heap.size + 1 := (by omega); have yyw1_a : w.heap.size < w1.heap.size + 1 + 1 := (by omega); have zw1_r : w.heap.size + 1 < w1.heap.size := (by first | omega | (have hz := hb.size; (try simp at hz); omega)); have yw1_r : w.heap.size + 1 < w1.heap.size + 1 := (by omega); have yyw1_r : w.heap.size + 1 < w1.heap.size + 1 + 1 := (by omega); have sxw1_0 : R1.heap.size ≤ w1.heap.size := (by first | omega | (have hz := hb.size; (try simp at hz); omega)); have HBw1 : Hid (Below w.heap.size w w1) := (bl_trans (by repeat (first | with_reducible exact Below.refl _ _ | with_reducible exact Hid.out (by assumption) | with_reducible refine Below.setCell ?_ (by first | (simp; done) | omega | (simp <;> omega)) _ | with_reducible refine bl_al ?_ _ | with_reducible apply Below.drew)) hb); clear hb
  have fw1_r : ∀ j, w1.frozen? ⟨w.heap.size + 1, j, none⟩ = false := fun j => by rw [hfrw1 _ _ (by first | exact zR1_r | (simp; exact zR1_r))]; exact fR1_r j
  go_wp2_with fail
  refine bodyPost_ret (by simp [results, Try.results20, go_sem, *]; try rfl) rfl ?_
  exact ⟨rfl, by repeat (first | with_reducible exact Below.refl _ _ | with_reducible exact Hid.out (by assumption) | with_reducible refine Below.setCell ?_ (by first | (simp; done) | omega | (simp <;> omega)) _ | with_reducible refine bl_al ?_ _ | with_reducible apply Below.drew)⟩
set_option maxRecDepth 20000 in
set_option maxHeartbeats 60000000 in
theorem rlength_err (axh axl ayh ayl sh sl es : Int) (he : ¬ es = 0) (w : World)
    (C1 : ∀ W, Calls Try.prog 20 #[.agg #[.int .i64 axh, .int .u64 axl, .int .i64 ayh, .int .u64 ayl]] W fun e w' => e = .returned (.agg #[.int .i64 sh, .int .u64 sl, .int .i64 es]) ∧ Below W.heap.size W w') :
    Calls Try.prog 27 #[.agg #[.int .i64 axh, .int .u64 axl, .int .i64 ayh, .int .u64 ayl]] w fun e w' => e = .returned (.agg #[.int .i64 sh, .int .u64 sl, .int .i64 es]) ∧ Below w.heap.size w w' := by
  have K1 := Lib.hid C1
  clear C1
  go_enter Try.func27, Try.ntmps27
  go_upto_region 1 with fail
  refine name_world (P := fun W => Code.wp _ _ _ _ W) _ (fun R1 hR1 => ?_)
  have zR1_a : w.heap.size < R1.heap.size := by rw [hR1]; first | omega | (simp <;> omega)
  have yR1_a : w.heap.size < R1.heap.size + 1 := by omega
  have yyR1_a : w.heap.size < R1.heap.size + 1 + 1 := by omega
  have cR1_a_0 : R1.cell? ⟨w.heap.size, 0, none⟩ = some (.int .i64 axh) := by rw [hR1]; first | assumption | (simp [go_sem, *]; done)
  have cR1_a_1 : R1.cell? ⟨w.heap.size, 1, none⟩ = some (.int .u64 axl) := by rw [hR1]; first | assumption | (simp [go_sem, *]; done)
  have cR1_a_2 : R1.cell? ⟨w.heap.size, 2, none⟩ = some (.int .i64 ayh) := by rw [hR1]; first | assumption | (simp [go_sem, *]; done)
  have cR1_a_3 : R1.cell? ⟨w.heap.size, 3, none⟩ = some (.int .u64 ayl) := by rw [hR1]; first | assumption | (simp [go_sem, *]; done)
  have zR1_r : w.heap.size + 1 < R1.heap.size := by rw [hR1]; first | omega | (simp <;> omega)
  have yR1_r : w.heap.size + 1 < R1.heap.size + 1 := by omega
  have yyR1_r : w.heap.size + 1 < R1.heap.size + 1 + 1 := by omega
  have cR1_r_0 : R1.cell? ⟨w.heap.size + 1, 0, none⟩ = some (.int .i64 0) := by rw [hR1]; first | assumption | (simp [go_sem, *]; done)
  have cR1_r_1 : R1.cell? ⟨w.heap.size + 1, 1, none⟩ = some (.int .u64 0) := by rw [hR1]; first | assumption | (simp [go_sem, *]; done)
  have cR1_r_2 : R1.cell? ⟨w.heap.size + 1, 2, none⟩ = some (.int .i64 0) := by rw [hR1]; first | assumption | (simp [go_sem, *]; done)
  have fR1_r : ∀ j, R1.frozen? ⟨w.heap.size + 1, j, none⟩ = false := fun j => by rw [hR1]; first | (simp [go_sem, *]; done) | (simp only [frozen?_alloc_cells]; rw [hfrw0 _ _ (by first | omega | (simp <;> omega))]; simp [frozen?_alloc_cells, World.frozen?]; done) | (simp [frozen?_alloc_cells, World.frozen?, *]; done)
  have lo_r : w.heap.size ≤ w.heap.size + 1 := by omega
  have HBR1 : Hid (Below w.heap.size w R1) := by rw [hR1]; show Below _ _ _; exact (by repeat (first | with_reducible exact Below.refl _ _ | with_reducible exact Hid.out (by assumption) | with_reducible refine Below.setCell ?_ (by first | (simp; done) | omega | (simp <;> omega)) _ | with_reducible refine bl_al ?_ _ | with_reducible apply Below.drew))
  clear hR1
  go_wp2_with fail
  (with_reducible refine (K1.out _).mono ?_); rintro e w1 ⟨rfl, hb⟩; obtain ⟨hclw1, hfrw1⟩ := bcell hb; have zw1_a : w.heap.size < w1.heap.size := (by first | omega | (have hz := hb.size; (try simp at hz); omega)); have yw1_a : w.heap.size < w1.heap.size + 1 := (by omega); have yyw1_a : w.heap.size < w1.heap.size + 1 + 1 := (by omega); have zw1_r : w.heap.size + 1 < w1.heap.size := (by first | omega | (have hz := hb.size; (try simp at hz); omega)); have yw1_r : w.heap.size + 1 < w1.heap.size + 1 := (by omega); have yyw1_r : w.heap.size + 1 < w1.heap.size + 1 + 1 := (by omega); have sxw1_0 : R1.heap.size ≤ w1.heap.size := (by first | omega | (have hz := hb.size; (try simp at hz); omega)); have HBw1 : Hid (Below w.heap.size w w1) := (bl_trans (by repeat (first | with_reducible exact Below.refl _ _ | with_reducible exact Hid.out (by assumption) | with_reducible refine Below.setCell ?_ (by first | (simp; done) | omega | (simp <;> omega)) _ | with_reducible refine bl_al ?_ _ | with_reducible apply Below.drew)) hb); clear hb
  have fw1_r : ∀ j, w1.frozen? ⟨w.heap.size + 1, j, none⟩ = false := fun j => by rw [hfrw1 _ _ (by first | exact zR1_r | (simp; exact zR1_r))]; exact fR1_r j
  go_wp2_with fail
  refine bodyPost_ret (by simp [results, Try.results27, go_sem, *]; try rfl) rfl ?_
  exact ⟨rfl, by repeat (first | with_reducible exact Below.refl _ _ | with_reducible exact Hid.out (by assumption) | with_reducible refine Below.setCell ?_ (by first | (simp; done) | omega | (simp <;> omega)) _ | with_reducible refine bl_al ?_ _ | with_reducible apply Below.drew)⟩
set_option maxRecDepth 20000 in
set_option maxHeartbeats 60000000 in
theorem rlength_ok (axh axl ayh ayl sh sl qh ql es eq : Int) (he : es = 0) (w : World)
    (C1 : ∀ W, Calls Try.prog 20 #[.agg #[.int .i64 axh, .int .u64 axl, .int .i64 ayh, .int .u64 ayl]] W fun e w' => e = .returned (.agg #[.int .i64 sh, .int .u64 sl, .int .i64 es]) ∧ Below W.heap.size W w')
    (C2 : ∀ W, Calls Try.prog 36 #[.agg #[.int .i64 sh, .int .u64 sl]] W fun e w' => e = .returned (.agg #[.int .i64 qh, .int .u64 ql, .int .i64 eq]) ∧ Below W.heap.size W w') :
    Calls Try.prog 27 #[.agg #[.int .i64 axh, .int .u64 axl, .int .i64 ayh, .int .u64 ayl]] w fun e w' => e = .returned (.agg #[.int .i64 qh, .int .u64 ql, .int .i64 eq]) ∧ Below w.heap.size w w' := by
  have K1 := Lib.hid C1; have K2 := Lib.hid C2
  clear C1 C2
  subst he
  go_enter Try.func27, Try.ntmps27
  go_upto_region 1 with fail
  refine name_world (P := fun W => Code.wp _ _ _ _ W) _ (fun R1 hR1 => ?_)
  have zR1_a : w.heap.size < R1.heap.size := by rw [hR1]; first | omega | (simp <;> omega)
  have yR1_a : w.heap.size < R1.heap.size + 1 := by omega
  have yyR1_a : w.heap.size < R1.heap.size + 1 + 1 := by omega
  have cR1_a_0 : R1.cell? ⟨w.heap.size, 0, none⟩ = some (.int .i64 axh) := by rw [hR1]; first | assumption | (simp [go_sem, *]; done)
  have cR1_a_1 : R1.cell? ⟨w.heap.size, 1, none⟩ = some (.int .u64 axl) := by rw [hR1]; first | assumption | (simp [go_sem, *]; done)
  have cR1_a_2 : R1.cell? ⟨w.heap.size, 2, none⟩ = some (.int .i64 ayh) := by rw [hR1]; first | assumption | (simp [go_sem, *]; done)
  have cR1_a_3 : R1.cell? ⟨w.heap.size, 3, none⟩ = some (.int .u64 ayl) := by rw [hR1]; first | assumption | (simp [go_sem, *]; done)
  have zR1_r : w.heap.size + 1 < R1.heap.size := by rw [hR1]; first | omega | (simp <;> omega)
  have yR1_r : w.heap.size + 1 < R1.heap.size + 1 := by omega
  have yyR1_r : w.heap.size + 1 < R1.heap.size + 1 + 1 := by omega
  have cR1_r_0 : R1.cell? ⟨w.heap.size + 1, 0, none⟩ = some (.int .i64 0) := by rw [hR1]; first | assumption | (simp [go_sem, *]; done)
  have cR1_r_1 : R1.cell? ⟨w.heap.size + 1, 1, none⟩ = some (.int .u64 0) := by rw [hR1]; first | assumption | (simp [go_sem, *]; done)
  have cR1_r_2 : R1.cell? ⟨w.heap.size + 1, 2, none⟩ = some (.int .i64 0) := by rw [hR1]; first | assumption | (simp [go_sem, *]; done)
  have fR1_r : ∀ j, R1.frozen? ⟨w.heap.size + 1, j, none⟩ = false := fun j => by rw [hR1]; first | (simp [go_sem, *]; done) | (simp only [frozen?_alloc_cells]; rw [hfrw0 _ _ (by first | omega | (simp <;> omega))]; simp [frozen?_alloc_cells, World.frozen?]; done) | (simp [frozen?_alloc_cells, World.frozen?, *]; done)
  have lo_r : w.heap.size ≤ w.heap.size + 1 := by omega
  have HBR1 : Hid (Below w.heap.size w R1) := by rw [hR1]; show Below _ _ _; exact (by repeat (first | with_reducible exact Below.refl _ _ | with_reducible exact Hid.out (by assumption) | with_reducible refine Below.setCell ?_ (by first | (simp; done) | omega | (simp <;> omega)) _ | with_reducible refine bl_al ?_ _ | with_reducible apply Below.drew))
  clear hR1
  go_wp2_with fail
  (with_reducible refine (K1.out _).mono ?_); rintro e w1 ⟨rfl, hb⟩; obtain ⟨hclw1, hfrw1⟩ := bcell hb; have zw1_a : w.heap.size < w1.heap.size := (by first | omega | (have hz := hb.size; (try simp at hz); omega)); have yw1_a : w.heap.size < w1.heap.size + 1 := (by omega); have yyw1_a : w.heap.size < w1.heap.size + 1 + 1 := (by omega); have zw1_r : w.heap.size + 1 < w1.heap.size := (by first | omega | (have hz := hb.size; (try simp at hz); omega)); have yw1_r : w.heap.size + 1 < w1.heap.size + 1 := (by omega); have yyw1_r : w.heap.size + 1 < w1.heap.size + 1 + 1 := (by omega); have sxw1_0 : R1.heap.size ≤ w1.heap.size := (by first | omega | (have hz := hb.size; (try simp at hz); omega)); have HBw1 : Hid (Below w.heap.size w w1) := (bl_trans (by repeat (first | with_reducible exact Below.refl _ _ | with_reducible exact Hid.out (by assumption) | with_reducible refine Below.setCell ?_ (by first | (simp; done) | omega | (simp <;> omega)) _ | with_reducible refine bl_al ?_ _ | with_reducible apply Below.drew)) hb); clear hb
  have fw1_r : ∀ j, w1.frozen? ⟨w.heap.size + 1, j, none⟩ = false := fun j => by rw [hfrw1 _ _ (by first | exact zR1_r | (simp; exact zR1_r))]; exact fR1_r j
  go_upto_region 4 with fail
  refine name_world (P := fun W => Code.wp _ _ _ _ W) _ (fun R2 hR2 => ?_)
  have zR2_a : w.heap.size < R2.heap.size := by rw [hR2]; first | omega | (simp <;> omega)
  have yR2_a : w.heap.size < R2.heap.size + 1 := by omega
  have yyR2_a : w.heap.size < R2.heap.size + 1 + 1 := by omega
  have cR2_a_0 : R2.cell? ⟨w.heap.size, 0, none⟩ = some (.int .i64 axh) := by rw [hR2]; first | assumption | (simp [go_sem, *]; done)
  have cR2_a_1 : R2.cell? ⟨w.heap.size, 1, none⟩ = some (.int .u64 axl) := by rw [hR2]; first | assumption | (simp [go_sem, *]; done)
  have cR2_a_2 : R2.cell? ⟨w.heap.size, 2, none⟩ = some (.int .i64 ayh) := by rw [hR2]; first | assumption | (simp [go_sem, *]; done)
  have cR2_a_3 : R2.cell? ⟨w.heap.size, 3, none⟩ = some (.int .u64 ayl) := by rw [hR2]; first | assumption | (simp [go_sem, *]; done)
  have zR2_r : w.heap.size + 1 < R2.heap.size := by rw [hR2]; first | omega | (simp <;> omega)
  have yR2_r : w.heap.size + 1 < R2.heap.size + 1 := by omega
  have yyR2_r : w.heap.size + 1 < R2.heap.size + 1 + 1 := by omega
  have cR2_r_0 : R2.cell? ⟨w.heap.size + 1, 0, none⟩ = some (.int .i64 0) := by rw [hR2]; first | assumption | (simp [go_sem, *]; done)
  have cR2_r_1 : R2.cell? ⟨w.heap.size + 1, 1, none⟩ = some (.int .u64 0) := by rw [hR2]; first | assumption | (simp [go_sem, *]; done)
  have cR2_r_2 : R2.cell? ⟨w.heap.size + 1, 2, none⟩ = some (.int .i64 0) := by rw [hR2]; first | assumption | (simp [go_sem, *]; done)
  have fR2_r : ∀ j, R2.frozen? ⟨w.heap.size + 1, j, none⟩ = false := fun j => by rw [hR2]; first | (simp [go_sem, *]; done) | (simp only [frozen?_alloc_cells]; rw [hfrw1 _ _ (by first | omega | (simp <;> omega))]; simp [frozen?_alloc_cells, World.frozen?]; done) | (simp [frozen?_alloc_cells, World.frozen?, *]; done)
  have zR2_l : w1.heap.size < R2.heap.size := by rw [hR2]; first | omega | (simp <;> omega)
  have yR2_l : w1.heap.size < R2.heap.size + 1 := by omega
  have yyR2_l : w1.heap.size < R2.heap.size + 1 + 1 := by omega
  have cR2_l_0 : R2.cell? ⟨w1.heap.size, 0, none⟩ = some (.int .i64 sh) := by rw [hR2]; first | assumption | (simp [go_sem, *]; done)
  have cR2_l_1 : R2.cell? ⟨w1.heap.size, 1, none⟩ = some (.int .u64 sl) := by rw [hR2]; first | assumption | (simp [go_sem, *]; done)
  have cR2_l_2 : R2.cell? ⟨w1.heap.size, 2, none⟩ = some (.int .i64 0) := by rw [hR2]; first | assumption | (simp [go_sem, *]; done)
  have HBR2 : Hid (Below w.heap.size w R2) := by rw [hR2]; show Below _ _ _; exact (by repeat (first | with_reducible exact Below.refl _ _ | with_reducible exact Hid.out (by assumption) | with_reducible refine Below.setCell ?_ (by first | (simp; done) | omega | (simp <;> omega)) _ | with_reducible refine bl_al ?_ _ | with_reducible apply Below.drew))
  clear hR2
  clear zR1_a yR1_a yyR1_a cR1_a_0 cR1_a_1 cR1_a_2 cR1_a_3 zR1_r yR1_r yyR1_r cR1_r_0 cR1_r_1 cR1_r_2 fR1_r HBR1 zw1_a yw1_a yyw1_a zw1_r yw1_r yyw1_r sxw1_0 hclw1 hfrw1 HBw1 fw1_r
  go_wp2_with fail
  (with_reducible refine (K2.out _).mono ?_); rintro e w2 ⟨rfl, hb⟩; obtain ⟨hclw2, hfrw2⟩ := bcell hb; have zw2_a : w.heap.size < w2.heap.size := (by first | omega | (have hz := hb.size; (try simp at hz); omega)); have yw2_a : w.heap.size < w2.heap.size + 1 := (by omega); have yyw2_a : w.heap.size < w2.heap.size + 1 + 1 := (by omega); have zw2_r : w.heap.size + 1 < w2.heap.size := (by first | omega | (have hz := hb.size; (try simp at hz); omega)); have yw2_r : w.heap.size + 1 < w2.heap.size + 1 := (by omega); have yyw2_r : w.heap.size + 1 < w2.heap.size + 1 + 1 := (by omega); have zw2_l : w1.heap.size < w2.heap.size := (by first | omega | (have hz := hb.size; (try simp at hz); omega)); have yw2_l : w1.heap.size < w2.heap.size + 1 := (by omega); have yyw2_l : w1.heap.size < w2.heap.size + 1 + 1 := (by omega); have sxw2_0 : R2.heap.size ≤ w2.heap.size := (by first | omega | (have hz := hb.size; (try simp at hz); omega)); have HBw2 : Hid (Below w.heap.size w w2) := (bl_trans (by repeat (first | with_reducible exact Below.refl _ _ | with_reducible exact Hid.out (by assumption) | with_reducible refine Below.setCell ?_ (by first | (simp; done) | omega | (simp <;> omega)) _ | with_reducible refine bl_al ?_ _ | with_reducible apply Below.drew)) hb); clear hb
  have fw2_r : ∀ j, w2.frozen? ⟨w.heap.size + 1, j, none⟩ = false := fun j => by rw [hfrw2 _ _ (by first | exact zR2_r | (simp; exact zR2_r))]; exact fR2_r j
  go_wp2_with fail
  refine bodyPost_ret (by simp [results, Try.results27, go_sem, *]; try rfl) rfl ?_
  exact ⟨rfl, by repeat (first | with_reducible exact Below.refl _ _ | with_reducible exact Hid.out (by assumption) | with_reducible refine Below.setCell ?_ (by first | (simp; done) | omega | (simp <;> omega)) _ | with_reducible refine bl_al ?_ _ | with_reducible apply Below.drew)⟩
end Go.Proofs.Ytmelipbanbihdaa
namespace Go.Proofs.Ytmelipbanbihdaa
open Go.RowKit
/-- A way and an error; a number and an error. -/
def wayv (x y e : Int) : Value := .agg #[.int .i64 (fh x), .int .u64 (fl x), .int .i64 (fh y), .int .u64 (fl y), .int .i64 e]
def gotv (x e : Int) : Value := .agg #[.int .i64 (fh x), .int .u64 (fl x), .int .i64 e]
/-- Two steps together. -/
theorem rboth_any (p q : Int) (w : World) : Calls Try.prog 56 #[gotv (ov p) (oe p), gotv (ov q) (oe q)] w fun e w' => e = .returned (wayv (vx p q) (vy p q) (ve p q)) ∧ Below w.heap.size w w' := by
  by_cases c1 : oe p = 0
  · by_cases c2 : oe q = 0
    · obtain ⟨e1, e2, e3⟩ := ve_in c1 c2
      have h := rboth_ok (fh (ov p)) (fl (ov p)) (fh (ov q)) (fl (ov q)) _ _ c1 c2 w
      rw [e1, e2, e3]
      rw [ov_in (oe_my c1), ov_in (oe_my c2)] at h
      unfold gotv
      rw [ov_in (oe_my c1), ov_in (oe_my c2)]
      exact h
    · obtain ⟨e1, e2, e3⟩ := ve_mid c1 c2
      have h := rboth_y (fh (ov p)) (fl (ov p)) (fh (ov q)) (fl (ov q)) _ _ c1 c2 w
      rw [e1, e2, e3]
      unfold wayv
      rw [zero_words.1, zero_words.2]
      exact h
  · obtain ⟨e1, e2, e3⟩ := ve_out (q := q) c1
    have h := rboth_x (fh (ov p)) (fl (ov p)) (fh (ov q)) (fl (ov q)) _ (oe q) c1 w
    rw [e1, e2, e3]
    unfold wayv
    rw [zero_words.1, zero_words.2]
    exact h
theorem rdot_any (ax ay bx by_ : Int) (hax : My ax) (hay : My ay) (hbx : My bx) (hby : My by_) (w : World) :
    Calls Try.prog 39 #[vec ax ay, vec bx by_] w fun e w' => e = .returned (gotv (dv (mulr ax bx) (mulr ay by_)) (de (mulr ax bx) (mulr ay by_))) ∧ Below w.heap.size w w' := by
  have M1 := rmul_any ax bx hax hbx
  have M2 := rmul_any ay by_ hay hby
  generalize mulr ax bx = p at *
  generalize mulr ay by_ = q at *
  have BO := rboth_any p q
  by_cases c : ve p q = 0
  · have c1 : oe p = 0 := by
      by_cases h : oe p = 0
      · exact h
      · rw [(ve_out (q := q) h).1] at c; exact c
    have c2 : oe q = 0 := by rw [show ve p q = oe q from if_pos c1] at c; exact c
    have e : de p q = oe (p + q) := by unfold de; rw [if_pos c1, if_pos c2]
    have d : dv p q = ov (p + q) := by
      unfold dv; rw [e]
      by_cases c3 : oe (p + q) = 0
      · rw [if_pos c3, ov_in (oe_my c3)]
      · rw [if_neg c3, ov_out (fun m => c3 (oe_in m))]
    rw [e, d]
    rw [(ve_in c1 c2).2.1, (ve_in c1 c2).2.2] at BO
    exact rdot_ok _ _ _ _ _ _ _ _ _ _ _ _ _ _ _ _ _ _ _ _ _ _ c w M1 M2 BO (radd_any p q (oe_my c1) (oe_my c2))
  · have e : de p q = ve p q := by
      by_cases h : oe p = 0
      · have g : ¬ oe q = 0 := fun g => c (by rw [show ve p q = oe q from if_pos h]; exact g)
        unfold de; rw [if_pos h, if_neg g, (ve_mid h g).1]
      · unfold de; rw [if_neg h, (ve_out (q := q) h).1]
    have d : dv p q = 0 := by unfold dv; rw [e, if_neg c]
    rw [e, d]
    unfold gotv
    rw [zero_words.1, zero_words.2]
    exact rdot_err _ _ _ _ _ _ _ _ _ _ _ _ _ _ _ _ _ _ _ c w M1 M2 BO
theorem rlen2_any (ax ay : Int) (hax : My ax) (hay : My ay) (w : World) :
    Calls Try.prog 20 #[vec ax ay] w fun e w' => e = .returned (gotv (dv (mulr ax ax) (mulr ay ay)) (de (mulr ax ax) (mulr ay ay))) ∧ Below w.heap.size w w' :=
  rlen2_core _ _ _ _ _ _ _ w (rdot_any ax ay ax ay hax hay hax hay)
theorem rlength_any (ax ay : Int) (hax : My ax) (hay : My ay) (w : World) :
    Calls Try.prog 27 #[vec ax ay] w fun e w' => e = .returned (gotv (lv ax ay) (de (mulr ax ax) (mulr ay ay))) ∧ Below w.heap.size w w' := by
  have L := rlen2_any ax ay hax hay
  by_cases c : de (mulr ax ax) (mulr ay ay) = 0
  · rw [show lv ax ay = sqr (dv (mulr ax ax) (mulr ay ay)) from if_pos c]
    have S := rsqrt_any (dv (mulr ax ax) (mulr ay ay)) (dv_My _ _) (dv_self ax ay)
    have h := rlength_ok _ _ _ _ _ _ _ _ _ _ c w L S
    rw [c]; exact h
  · have d : dv (mulr ax ax) (mulr ay ay) = 0 := if_neg c
    rw [show lv ax ay = 0 from if_neg c]
    rw [d] at L
    exact rlength_err _ _ _ _ _ _ _ c w L
set_option maxRecDepth 20000 in
set_option maxHeartbeats 8000000 in
theorem rnegvec_core (axh axl ayh ayl rh rl sh sl : Int) (w : World)
    (C1 : ∀ W, Calls Try.prog 18 #[.agg #[.int .i64 axh, .int .u64 axl]] W fun e w' => e = .returned (.agg #[.int .i64 rh, .int .u64 rl]) ∧ Below W.heap.size W w')
    (C2 : ∀ W, Calls Try.prog 18 #[.agg #[.int .i64 ayh, .int .u64 ayl]] W fun e w' => e = .returned (.agg #[.int .i64 sh, .int .u64 sl]) ∧ Below W.heap.size W w') :
    Calls Try.prog 19 #[.agg #[.int .i64 axh, .int .u64 axl, .int .i64 ayh, .int .u64 ayl]] w fun e w' => e = .returned (.agg #[.int .i64 rh, .int .u64 rl, .int .i64 sh, .int .u64 sl]) ∧ Below w.heap.size w w' := by
  have K1 := Lib.hid C1; have K2 := Lib.hid C2
  clear C1 C2
  go_enter Try.func19, Try.ntmps19
  go_upto_region 1 with fail
  refine name_world (P := fun W => Code.wp _ _ _ _ W) _ (fun R hR => ?_)
  have zR_0 : w.heap.size < R.heap.size := by rw [hR]; first | omega | (simp; done) | (simp; omega)
  have cR_0_0 : R.cell? ⟨w.heap.size, 0, none⟩ = some (.int .i64 axh) := by rw [hR]; simp [go_sem, *]
  have cR_0_1 : R.cell? ⟨w.heap.size, 1, none⟩ = some (.int .u64 axl) := by rw [hR]; simp [go_sem, *]
  have cR_0_2 : R.cell? ⟨w.heap.size, 2, none⟩ = some (.int .i64 ayh) := by rw [hR]; simp [go_sem, *]
  have cR_0_3 : R.cell? ⟨w.heap.size, 3, none⟩ = some (.int .u64 ayl) := by rw [hR]; simp [go_sem, *]
  have zR_1 : w.heap.size + 1 < R.heap.size := by rw [hR]; first | omega | (simp; done) | (simp; omega)
  have cR_1_0 : R.cell? ⟨w.heap.size + 1, 0, none⟩ = some (.int .i64 0) := by rw [hR]; simp [go_sem, *]
  have cR_1_1 : R.cell? ⟨w.heap.size + 1, 1, none⟩ = some (.int .u64 0) := by rw [hR]; simp [go_sem, *]
  have cR_1_2 : R.cell? ⟨w.heap.size + 1, 2, none⟩ = some (.int .i64 0) := by rw [hR]; simp [go_sem, *]
  have cR_1_3 : R.cell? ⟨w.heap.size + 1, 3, none⟩ = some (.int .u64 0) := by rw [hR]; simp [go_sem, *]
  have fR_1 : ∀ j, R.frozen? ⟨w.heap.size + 1, j, none⟩ = false := fun j => by rw [hR]; first | (simp [go_sem, *]; done) | (simp only [frozen?_alloc_cells]; simp [World.frozen?, *]; done) | (simp [frozen?_alloc_cells, World.frozen?, *]; done)
  have HBR : Hid (Below w.heap.size w R) := by rw [hR]; show Below _ _ _; exact (by repeat (first | with_reducible exact Below.refl _ _ | with_reducible exact Hid.out (by assumption) | with_reducible refine Below.setCell ?_ (by first | (simp; done) | omega | (simp <;> omega)) _ | with_reducible refine bl_al ?_ _ | with_reducible apply Below.drew))
  clear hR
  go_region_held3 (fun w' => w'.cell? ⟨w.heap.size, 0, none⟩ = some (.int .i64 axh) ∧ w'.cell? ⟨w.heap.size, 1, none⟩ = some (.int .u64 axl) ∧ w'.cell? ⟨w.heap.size, 2, none⟩ = some (.int .i64 ayh) ∧ w'.cell? ⟨w.heap.size, 3, none⟩ = some (.int .u64 ayl)) (first | (simp [*, go_sem]; done))
    (first
      | (go_at_call 18; (with_reducible refine (K1.out _).mono ?_); rintro e w1 ⟨rfl, hb⟩; obtain ⟨hclw1, hfrw1⟩ := bcell_drew hb; have zw1_0 : w.heap.size < w1.heap.size := (by have hz := hb.size; (try simp at hz); omega); have zw1_1 : w.heap.size + 1 < w1.heap.size := (by have hz := hb.size; (try simp at hz); omega); have HBw1 : Hid (Below w.heap.size w w1) := (bl_trans (by repeat (first | with_reducible exact Below.refl _ _ | with_reducible exact Hid.out (by assumption) | with_reducible refine Below.setCell ?_ (by first | (simp; done) | omega | (simp <;> omega)) _ | with_reducible refine bl_al ?_ _ | with_reducible apply Below.drew)) hb); clear hb)
      | (go_at_call 18; (with_reducible refine (K2.out _).mono ?_); rintro e w2 ⟨rfl, hb⟩; obtain ⟨hclw2, hfrw2⟩ := bcell hb; have zw2_0 : w.heap.size < w2.heap.size := (by have hz := hb.size; (try simp at hz); omega); have zw2_1 : w.heap.size + 1 < w2.heap.size := (by have hz := hb.size; (try simp at hz); omega); have HBw2 : Hid (Below w.heap.size w w2) := (bl_trans (by repeat (first | with_reducible exact Below.refl _ _ | with_reducible exact Hid.out (by assumption) | with_reducible refine Below.setCell ?_ (by first | (simp; done) | omega | (simp <;> omega)) _ | with_reducible refine bl_al ?_ _ | with_reducible apply Below.drew)) hb); clear hb))
  rename_i hHeld
  clear hHeld
  go_wp2_with fail
  refine bodyPost_ret (by simp [results, Try.results19, go_sem, *]; try rfl) rfl ?_
  exact ⟨rfl, by repeat (first | with_reducible exact Below.refl _ _ | with_reducible exact Hid.out (by assumption) | with_reducible refine Below.setCell ?_ (by first | (simp; done) | omega | (simp <;> omega)) _ | with_reducible refine bl_al ?_ _ | with_reducible apply Below.drew)⟩
theorem rnegvec_any (x y : Int) (hx : My x) (hy : My y) (w : World) :
    Calls Try.prog 19 #[vec x y] w fun e w' => e = .returned (vec (-x) (-y)) ∧ Below w.heap.size w w' :=
  rnegvec_core _ _ _ _ _ _ _ _ w (rneg_any x hx) (rneg_any y hy)
end Go.Proofs.Ytmelipbanbihdaa
namespace Go.Proofs.Ytmelipbanbihdaa
open Go.RowKit
theorem sg_mul2 (a b : Int) : sg (decide (a < 0) != decide (b < 0)) ((a.natAbs * b.natAbs : Nat) : Int) = a * b := by
  have e := Int.natAbs_mul a b
  rw [← e]
  by_cases ha : a < 0 <;> by_cases hb : b < 0
  · have := Int.mul_nonneg_of_nonpos_of_nonpos (Int.le_of_lt ha) (Int.le_of_lt hb)
    simp [ha, hb, sg]; omega
  · have := Int.mul_nonpos_of_nonpos_of_nonneg (Int.le_of_lt ha) (show 0 ≤ b by omega)
    simp [ha, hb, sg]; omega
  · have := Int.mul_nonpos_of_nonneg_of_nonpos (show 0 ≤ a by omega) (Int.le_of_lt hb)
    simp [ha, hb, sg]; omega
  · have := Int.mul_nonneg (show 0 ≤ a by omega) (show 0 ≤ b by omega)
    simp [ha, hb, sg]; omega
theorem sign_int2 (a : Int) : decide (a * 18446744073709551616 < 0) = decide (a < 0) := by rw [decide_eq_decide]; omega
theorem mulr_int2 (a b : Int) : mulr (a * 18446744073709551616) (b * 18446744073709551616) = a * b * 18446744073709551616 := by
  unfold mulr
  have h : ((a * 18446744073709551616).natAbs * (b * 18446744073709551616).natAbs + 9223372036854775808) / 18446744073709551616 = a.natAbs * b.natAbs * 18446744073709551616 := by
    rw [Int.natAbs_mul, Int.natAbs_mul, show (18446744073709551616 : Int).natAbs = 18446744073709551616 from rfl, Nat.mul_mul_mul_comm, ← Nat.mul_assoc]
    generalize a.natAbs * b.natAbs = n
    omega
  rw [h, sign_int2, sign_int2]
  have := sg_mul2 a b
  generalize a.natAbs * b.natAbs = n at *
  rw [← this]; unfold sg; split <;> simp <;> omega
theorem prod_bound {a b : Int} {A B : Nat} (ha : a.natAbs ≤ A) (hb : b.natAbs ≤ B) : (a * b).natAbs ≤ A * B := by rw [Int.natAbs_mul]; exact Nat.mul_le_mul ha hb
theorem int_small {n : Int} (h : -9223372036854775807 ≤ n) : intr n = n * 18446744073709551616 := by unfold intr; rw [if_neg (by omega)]
theorem my_small {n : Int} (h : n.natAbs ≤ 4294967296) : My (n * 18446744073709551616) := by unfold My; omega
/-- A whole number, and a pair of them: what Scale, Add, Dot come to. -/
theorem scale_small {x y k : Int} (hx : (x * k).natAbs ≤ 4294967296) (hy : (y * k).natAbs ≤ 4294967296) : ve (mulr (x * 18446744073709551616) (k * 18446744073709551616)) (mulr (y * 18446744073709551616) (k * 18446744073709551616)) = 0 ∧ vx (mulr (x * 18446744073709551616) (k * 18446744073709551616)) (mulr (y * 18446744073709551616) (k * 18446744073709551616)) = x * k * 18446744073709551616 ∧ vy (mulr (x * 18446744073709551616) (k * 18446744073709551616)) (mulr (y * 18446744073709551616) (k * 18446744073709551616)) = y * k * 18446744073709551616 := by
  rw [mulr_int2, mulr_int2]
  exact ve_in (oe_in (my_small hx)) (oe_in (my_small hy))
theorem mulr_turn (x y : Int) : mulr (-x) y = -mulr x y ∧ mulr x (-y) = -mulr x y := by
  have sgn : ∀ (b : Bool) (n : Int), sg (!b) n = -sg b n := by intro b n; cases b <;> simp [sg]
  have hz : ∀ z : Int, mulr 0 z = 0 ∧ mulr z 0 = 0 := fun z => by
    have h : ((0 : Nat) + 9223372036854775808) / 18446744073709551616 = 0 := by decide
    constructor
    · unfold mulr sg; rw [Int.natAbs_zero, Nat.zero_mul, h]; split <;> rfl
    · unfold mulr sg; rw [Int.natAbs_zero, Nat.mul_zero, h]; split <;> rfl
  constructor
  · by_cases c : x = 0
    · subst c; rw [Int.neg_zero, (hz y).1]; rfl
    · unfold mulr; rw [Int.natAbs_neg, ← sgn]
      congr 1
      by_cases d : x < 0
      · rw [decide_eq_true d, decide_eq_false (show ¬ -x < 0 by omega)]; cases decide (y < 0) <;> rfl
      · rw [decide_eq_false d, decide_eq_true (show -x < 0 by omega)]; cases decide (y < 0) <;> rfl
  · by_cases c : y = 0
    · subst c; rw [Int.neg_zero, (hz x).2]; rfl
    · unfold mulr; rw [Int.natAbs_neg, ← sgn]
      congr 1
      by_cases d : y < 0
      · rw [decide_eq_true d, decide_eq_false (show ¬ -y < 0 by omega)]; cases decide (x < 0) <;> rfl
      · rw [decide_eq_false d, decide_eq_true (show -y < 0 by omega)]; cases decide (x < 0) <;> rfl
theorem mulr_comm (x y : Int) : mulr x y = mulr y x := by
  have e : (decide (x < 0) != decide (y < 0)) = (decide (y < 0) != decide (x < 0)) := by cases decide (x < 0) <;> cases decide (y < 0) <;> rfl
  unfold mulr; rw [Nat.mul_comm, e]
theorem my_neg_iff (x : Int) : My (-x) ↔ My x := by unfold My; omega
theorem oe_neg (x : Int) : oe (-x) = oe x := by
  by_cases h : My x
  · rw [oe_in h, oe_in ((my_neg_iff x).2 h)]
  · rw [oe_out h, oe_out (fun g => h ((my_neg_iff x).1 g))]
theorem ve_neg (p q : Int) : ve (-p) (-q) = ve p q ∧ vx (-p) (-q) = -vx p q ∧ vy (-p) (-q) = -vy p q := by
  have e : ve (-p) (-q) = ve p q := by unfold ve; rw [oe_neg, oe_neg]
  refine ⟨e, ?_, ?_⟩
  · unfold vx; rw [e]; split <;> simp
  · unfold vy; rw [e]; split <;> simp
theorem de_neg (p q : Int) : de (-p) (-q) = de p q ∧ dv (-p) (-q) = -dv p q := by
  have e : de (-p) (-q) = de p q := by unfold de; rw [oe_neg, oe_neg, ← Int.neg_add, oe_neg]
  refine ⟨e, ?_⟩
  unfold dv; rw [e]; split
  · omega
  · rfl
theorem vx_My (p q : Int) : My (vx p q) := by
  unfold vx
  split
  · rename_i h
    unfold ve at h
    split at h
    · rename_i g; exact oe_my g
    · rename_i g; exact absurd h g
  · exact ⟨by decide, by decide⟩
theorem vy_My (p q : Int) : My (vy p q) := by
  unfold vy
  split
  · rename_i h
    unfold ve at h
    split at h
    · exact oe_my h
    · rename_i g; exact absurd h g
  · exact ⟨by decide, by decide⟩
theorem my_neg2 {x : Int} (h : My x) : My (-x) := (my_neg_iff x).2 h
theorem mulr_nn (x : Int) : mulr (-x) (-x) = mulr x x := by rw [(mulr_turn x (-x)).1, (mulr_turn x x).2]; omega
end Go.Proofs.Ytmelipbanbihdaa
namespace Go.Proofs.Ytmelipbanbihdaa
def hc (x : Int) : Int := sqr (halfr (18446744073709551616 + x))
def hs (x : Int) : Int := sqr (halfr (18446744073709551616 - x))
def In1 (x : Int) : Prop := 0 ≤ x ∧ x ≤ 18446744073709551616
theorem In1.my {x : Int} (h : In1 x) : My x := by unfold In1 at h; unfold My; omega
theorem halfr_nn {x : Int} (h0 : 0 ≤ x) : halfr x = (x + 1) / 2 := by
  unfold halfr sg
  rw [decide_eq_false (by omega), if_neg (by decide)]
  omega
theorem sqr_in1 {x : Int} (h : In1 x) : In1 (sqr x) := by
  unfold In1 at h
  have hs : isq (x.toNat * 18446744073709551616) ≤ 18446744073709551616 := isq_le (by omega)
  unfold In1 sqr
  omega
theorem more_in {x : Int} (h : In1 x) : In1 (halfr (18446744073709551616 + x)) := by
  unfold In1 at *
  rw [halfr_nn (by omega)]; omega
theorem less_in {x : Int} (h : In1 x) : In1 (halfr (18446744073709551616 - x)) := by
  unfold In1 at *
  rw [halfr_nn (by omega)]; omega
theorem hc_in {x : Int} (h : In1 x) : In1 (hc x) := sqr_in1 (more_in h)
theorem hs_in {x : Int} (h : In1 x) : In1 (hs x) := sqr_in1 (less_in h)
def tcos : Nat → Int
  | 0 => 0
  | i + 1 => hc (tcos i)
def tsin (i : Nat) : Int := hs (tcos i)
theorem tcos_in (i : Nat) : In1 (tcos i) := by
  induction i with
  | zero => exact ⟨by decide, by decide⟩
  | succ i ih => exact hc_in ih
theorem tsin_in (i : Nat) : In1 (tsin i) := hs_in (tcos_in i)
/-- A way by one direction: its parts, where each step is within the numbers. -/
def tp (a b c d : Int) : Int := ov (mulr a c) - ov (mulr b d)
def tq (a b c d : Int) : Int := ov (mulr a d) + ov (mulr b c)
def te (a b c d : Int) : Int := if oe (mulr a c) + oe (mulr b d) + oe (mulr a d) + oe (mulr b c) + oe (tp a b c d) + oe (tq a b c d) = 0 then 0 else 3
def tx (a b c d : Int) : Int := if te a b c d = 0 then tp a b c d else 0
def ty (a b c d : Int) : Int := if te a b c d = 0 then tq a b c d else 0
theorem oe_two (x : Int) : oe x = 0 ∨ oe x = 3 := by unfold oe; split; exact Or.inl rfl; exact Or.inr rfl
theorem te_cases (a b c d : Int) : te a b c d = 0 ∧ (oe (mulr a c) = 0 ∧ oe (mulr b d) = 0 ∧ oe (mulr a d) = 0 ∧ oe (mulr b c) = 0 ∧ oe (tp a b c d) = 0 ∧ oe (tq a b c d) = 0) ∧ tx a b c d = tp a b c d ∧ ty a b c d = tq a b c d
    ∨ te a b c d = 3 ∧ ¬ (oe (mulr a c) = 0 ∧ oe (mulr b d) = 0 ∧ oe (mulr a d) = 0 ∧ oe (mulr b c) = 0 ∧ oe (tp a b c d) = 0 ∧ oe (tq a b c d) = 0) ∧ tx a b c d = 0 ∧ ty a b c d = 0 := by
  have h1 := oe_two (mulr a c); have h2 := oe_two (mulr b d); have h3 := oe_two (mulr a d); have h4 := oe_two (mulr b c); have h5 := oe_two (tp a b c d); have h6 := oe_two (tq a b c d)
  by_cases k : oe (mulr a c) + oe (mulr b d) + oe (mulr a d) + oe (mulr b c) + oe (tp a b c d) + oe (tq a b c d) = 0
  · have e : te a b c d = 0 := if_pos k
    exact Or.inl ⟨e, by omega, if_pos e, if_pos e⟩
  · have e : te a b c d = 3 := if_neg k
    have n : ¬ te a b c d = 0 := by omega
    exact Or.inr ⟨e, by omega, if_neg n, if_neg n⟩
theorem tx_my (a b c d : Int) : My (tx a b c d) ∧ My (ty a b c d) := by
  rcases te_cases a b c d with ⟨_, ⟨_, _, _, _, h5, h6⟩, e1, e2⟩ | ⟨_, _, e1, e2⟩
  · rw [e1, e2]; exact ⟨oe_my h5, oe_my h6⟩
  · rw [e1, e2]; exact ⟨by unfold My; omega, by unfold My; omega⟩
/-- The lower bits, the highest first: k of them are left, c is the X of the direction ahead. -/
def rot (A : Nat) : Nat → Int → Int → Int → Int × Int × Int
  | 0, _, x, y => (x, y, 0)
  | k + 1, c, x, y => if A / 2 ^ k % 2 = 1 then (if te x y (hc c) (hs c) = 0 then rot A k (hc c) (tx x y (hc c) (hs c)) (ty x y (hc c) (hs c)) else (0, 0, 3)) else rot A k (hc c) x y
theorem rot_my (A : Nat) : ∀ (k : Nat) (c x y : Int), My x → My y → My (rot A k c x y).1 ∧ My (rot A k c x y).2.1 := by
  intro k
  induction k with
  | zero => intro c x y hx hy; exact ⟨hx, hy⟩
  | succ k ih =>
    intro c x y hx hy
    unfold rot
    split
    · split
      · exact ih _ _ _ (tx_my _ _ _ _).1 (tx_my _ _ _ _).2
      · exact ⟨by show My 0; unfold My; omega, by show My 0; unfold My; omega⟩
    · exact ih _ _ _ hx hy
theorem rot_off {A k : Nat} (h : ¬ A / 2 ^ k % 2 = 1) (c x y : Int) : rot A (k + 1) c x y = rot A k (hc c) x y := by
  show (if A / 2 ^ k % 2 = 1 then _ else _) = _
  rw [if_neg h]
theorem rot_on {A k : Nat} (h : A / 2 ^ k % 2 = 1) {c x y : Int} (g : te x y (hc c) (hs c) = 0) : rot A (k + 1) c x y = rot A k (hc c) (tx x y (hc c) (hs c)) (ty x y (hc c) (hs c)) := by
  show (if A / 2 ^ k % 2 = 1 then _ else _) = _
  rw [if_pos h, if_pos g]
theorem rot_err {A k : Nat} (h : A / 2 ^ k % 2 = 1) {c x y : Int} (g : ¬ te x y (hc c) (hs c) = 0) : rot A (k + 1) c x y = (0, 0, 3) := by
  show (if A / 2 ^ k % 2 = 1 then _ else _) = _
  rw [if_pos h, if_neg g]
theorem rot_done (A : Nat) : ∀ (k : Nat) (c x y : Int), A % 2 ^ k = 0 → rot A k c x y = (x, y, 0) := by
  intro k
  induction k with
  | zero => intro c x y _; rfl
  | succ k ih =>
    intro c x y h
    rw [Nat.pow_succ] at h
    have hp := Nat.two_pow_pos k
    have h1 : A % 2 ^ k = 0 := by rw [← Nat.mod_mul_right_mod A (2 ^ k) 2, h]; exact Nat.zero_mod _
    have h2 : A / 2 ^ k % 2 = 0 := by
      have := Nat.mod_mul_right_div_self A (2 ^ k) 2
      rw [h] at this
      rw [← this]; exact Nat.zero_div _
    rw [rot_off (by omega)]
    exact ih _ _ _ h1
def qt : Nat → Int → Int → Int × Int
  | 0, x, y => (x, y)
  | q + 1, x, y => qt q (-y) x
theorem qt_zero (q : Nat) : qt q 0 0 = (0, 0) := by
  induction q with
  | zero => rfl
  | succ q ih => show qt q (-0) 0 = _; rw [show (-0 : Int) = 0 from rfl]; exact ih
theorem qt_my : ∀ (q : Nat) (x y : Int), My x → My y → My (qt q x y).1 ∧ My (qt q x y).2 := by
  intro q
  induction q with
  | zero => intro x y hx hy; exact ⟨hx, hy⟩
  | succ q ih => intro x y hx hy; exact ih _ _ (by unfold My at *; omega) hx
/-- A way turned by an angle: its parts, its error. -/
def ang (a : Int) : Nat := (a % 65536).toNat
theorem ang_lt (a : Int) : ang a < 65536 := by unfold ang; omega
def rx (A : Nat) (x y : Int) : Int := (qt (A / 16384) (rot A 14 0 x y).1 (rot A 14 0 x y).2.1).1
def ry (A : Nat) (x y : Int) : Int := (qt (A / 16384) (rot A 14 0 x y).1 (rot A 14 0 x y).2.1).2
def re (A : Nat) (x y : Int) : Int := (rot A 14 0 x y).2.2
theorem r_my (A : Nat) {x y : Int} (hx : My x) (hy : My y) : My (rx A x y) ∧ My (ry A x y) :=
  qt_my _ _ _ (rot_my A 14 0 x y hx hy).1 (rot_my A 14 0 x y hx hy).2
theorem rot_error (A : Nat) : ∀ (k : Nat) (c x y : Int), (rot A k c x y).2.2 = 0 ∨ rot A k c x y = (0, 0, 3) := by
  intro k
  induction k with
  | zero => intro c x y; exact Or.inl rfl
  | succ k ih =>
    intro c x y
    unfold rot
    split
    · split
      · exact ih _ _ _
      · exact Or.inr rfl
    · exact ih _ _ _
theorem r_error (A : Nat) (x y : Int) : re A x y = 0 ∨ re A x y = 3 ∧ rx A x y = 0 ∧ ry A x y = 0 := by
  rcases rot_error A 14 0 x y with h | h
  · exact Or.inl h
  · refine Or.inr ⟨?_, ?_, ?_⟩
    · unfold re; rw [h]
    · unfold rx; rw [h, qt_zero]
    · unfold ry; rw [h, qt_zero]
end Go.Proofs.Ytmelipbanbihdaa
namespace Go.Proofs.Ytmelipbanbihdaa
open Go.RowKit
/-- The first of six that is not nought. -/
def first6 (e1 e2 e3 e4 e5 e6 : Int) : Int := if e1 ≠ 0 then e1 else if e2 ≠ 0 then e2 else if e3 ≠ 0 then e3 else if e4 ≠ 0 then e4 else if e5 ≠ 0 then e5 else e6
set_option maxHeartbeats 8000000 in
theorem or6_any (e1 e2 e3 e4 e5 e6 : Int) (B : Nat) (w : World) (h0 : w.cell? ⟨B, 0, none⟩ = some (.int .i64 e1)) (h1 : w.cell? ⟨B, 1, none⟩ = some (.int .i64 e2)) (h2 : w.cell? ⟨B, 2, none⟩ = some (.int .i64 e3)) (h3 : w.cell? ⟨B, 3, none⟩ = some (.int .i64 e4)) (h4 : w.cell? ⟨B, 4, none⟩ = some (.int .i64 e5)) (h5 : w.cell? ⟨B, 5, none⟩ = some (.int .i64 e6)) :
    Calls Try.prog 49 #[.slice (some ⟨B, 0, none⟩) 6 6] w fun e w' => e = .returned (.int .i64 (first6 e1 e2 e3 e4 e5 e6)) ∧ w = w' := by
  by_cases c1 : e1 = 0
  · subst c1
    by_cases c2 : e2 = 0
    · subst c2
      by_cases c3 : e3 = 0
      · subst c3
        by_cases c4 : e4 = 0
        · subst c4
          by_cases c5 : e5 = 0
          · subst c5
            by_cases c6 : e6 = 0
            · subst c6
              have E : Hid (0 = first6 0 0 0 0 0 0) := by show _ = _; decide
              go_enter Try.func49, Try.ntmps49
              go_wp2
              go_rounds 7
              go_returns
              exact ⟨ret_int E.out, rfl⟩
            · have E : Hid (e6 = first6 0 0 0 0 0 e6) := by show _ = _; unfold first6; first | (simp; done) | simp [c6]
              have t1 : (e6 != 0) = true := by simpa using c6
              go_enter Try.func49, Try.ntmps49
              go_wp2
              go_rounds 7
              go_returns
              exact ⟨ret_int E.out, rfl⟩
          · have E : Hid (e5 = first6 0 0 0 0 e5 e6) := by show _ = _; unfold first6; first | (simp; done) | simp [c5]
            have t1 : (e5 != 0) = true := by simpa using c5
            go_enter Try.func49, Try.ntmps49
            go_wp2
            go_rounds 7
            go_returns
            exact ⟨ret_int E.out, rfl⟩
        · have E : Hid (e4 = first6 0 0 0 e4 e5 e6) := by show _ = _; unfold first6; first | (simp; done) | simp [c4]
          have t1 : (e4 != 0) = true := by simpa using c4
          go_enter Try.func49, Try.ntmps49
          go_wp2
          go_rounds 7
          go_returns
          exact ⟨ret_int E.out, rfl⟩
      · have E : Hid (e3 = first6 0 0 e3 e4 e5 e6) := by show _ = _; unfold first6; first | (simp; done) | simp [c3]
        have t1 : (e3 != 0) = true := by simpa using c3
        go_enter Try.func49, Try.ntmps49
        go_wp2
        go_rounds 7
        go_returns
        exact ⟨ret_int E.out, rfl⟩
    · have E : Hid (e2 = first6 0 e2 e3 e4 e5 e6) := by show _ = _; unfold first6; first | (simp; done) | simp [c2]
      have t1 : (e2 != 0) = true := by simpa using c2
      go_enter Try.func49, Try.ntmps49
      go_wp2
      go_rounds 7
      go_returns
      exact ⟨ret_int E.out, rfl⟩
  · have E : Hid (e1 = first6 e1 e2 e3 e4 e5 e6) := by show _ = _; unfold first6; first | (simp; done) | simp [c1]
    have t1 : (e1 != 0) = true := by simpa using c1
    go_enter Try.func49, Try.ntmps49
    go_wp2
    go_rounds 7
    go_returns
    exact ⟨ret_int E.out, rfl⟩
end Go.Proofs.Ytmelipbanbihdaa
namespace Go.Proofs.Ytmelipbanbihdaa
open Go.RowKit
set_option maxRecDepth 20000 in
set_option maxHeartbeats 60000000 in
theorem quarter_core (ph pl : Int)  (w : World)
    (C1 : ∀ W, Calls Try.prog 30 #[.int .i64 1] W fun e w' => e = .returned (.agg #[.int .i64 ph, .int .u64 pl]) ∧ Below W.heap.size W w') :
    Calls Try.prog 31 #[] w fun e w' => e = .returned (.agg #[.int .i64 0, .int .u64 0, .int .i64 ph, .int .u64 pl]) ∧ Below w.heap.size w w' := by
  have K1 := Lib.hid C1
  clear C1
  go_enter Try.func31, Try.ntmps31
  go_wp2_with fail
  (with_reducible refine (K1.out _).mono ?_); rintro e w1 ⟨rfl, hb⟩
  obtain ⟨hcl, hfr⟩ := bcell hb
  have zw1_r : w.heap.size < w1.heap.size := by have hz := hb.size; (try simp at hz); omega
  have cw1_r_0 : w1.cell? ⟨w.heap.size, 0, none⟩ = some (.int .i64 0) := by rw [hcl _ _ (by first | omega | (simp; done) | (simp; omega))]; simp [go_sem, *]
  have cw1_r_1 : w1.cell? ⟨w.heap.size, 1, none⟩ = some (.int .u64 0) := by rw [hcl _ _ (by first | omega | (simp; done) | (simp; omega))]; simp [go_sem, *]
  have cw1_r_2 : w1.cell? ⟨w.heap.size, 2, none⟩ = some (.int .i64 0) := by rw [hcl _ _ (by first | omega | (simp; done) | (simp; omega))]; simp [go_sem, *]
  have cw1_r_3 : w1.cell? ⟨w.heap.size, 3, none⟩ = some (.int .u64 0) := by rw [hcl _ _ (by first | omega | (simp; done) | (simp; omega))]; simp [go_sem, *]
  have fw1_r : ∀ j, w1.frozen? ⟨w.heap.size, j, none⟩ = false := fun j => by rw [hfr _ _ (by first | omega | (simp; done) | (simp; omega))]; first | (simp [go_sem, *]; done) | (simp only [frozen?_alloc_cells]; simp [World.frozen?, *]; done) | (simp [frozen?_alloc_cells, World.frozen?, *]; done)
  have HBw1 : Hid (Below w.heap.size w w1) := bl_trans (by repeat (first | with_reducible exact Below.refl _ _ | with_reducible exact Hid.out (by assumption) | with_reducible refine Below.setCell ?_ (by first | (simp; done) | omega | (simp <;> omega)) _ | with_reducible refine bl_al ?_ _ | with_reducible apply Below.drew)) hb
  clear hb hcl hfr
  go_wp2_with fail
  refine bodyPost_ret (by simp [results, Try.results31, go_sem, *]; try rfl) rfl ?_
  exact ⟨rfl, by repeat (first | with_reducible exact Below.refl _ _ | with_reducible exact Hid.out (by assumption) | with_reducible refine Below.setCell ?_ (by first | (simp; done) | omega | (simp <;> omega)) _ | with_reducible refine bl_al ?_ _ | with_reducible apply Below.drew)⟩
set_option maxRecDepth 20000 in
set_option maxHeartbeats 60000000 in
theorem halved_core (dxh dxl dyh dyl ph pl mh ml nh nl sh sl uh ul xh xl yh yl : Int)  (w : World)
    (C1 : ∀ W, Calls Try.prog 30 #[.int .i64 1] W fun e w' => e = .returned (.agg #[.int .i64 ph, .int .u64 pl]) ∧ Below W.heap.size W w')
    (C2 : ∀ W, Calls Try.prog 44 #[.agg #[.int .i64 ph, .int .u64 pl], .agg #[.int .i64 dxh, .int .u64 dxl]] W fun e w' => e = .returned (.tuple #[.agg #[.int .i64 mh, .int .u64 ml], .int .i64 0]) ∧ Below W.heap.size W w')
    (C3 : ∀ W, Calls Try.prog 30 #[.int .i64 1] W fun e w' => e = .returned (.agg #[.int .i64 ph, .int .u64 pl]) ∧ Below W.heap.size W w')
    (C4 : ∀ W, Calls Try.prog 45 #[.agg #[.int .i64 ph, .int .u64 pl], .agg #[.int .i64 dxh, .int .u64 dxl]] W fun e w' => e = .returned (.tuple #[.agg #[.int .i64 nh, .int .u64 nl], .int .i64 0]) ∧ Below W.heap.size W w')
    (C5 : ∀ W, Calls Try.prog 47 #[.agg #[.int .i64 mh, .int .u64 ml]] W fun e w' => e = .returned (.agg #[.int .i64 sh, .int .u64 sl]) ∧ Below W.heap.size W w')
    (C6 : ∀ W, Calls Try.prog 46 #[.agg #[.int .i64 sh, .int .u64 sl]] W fun e w' => e = .returned (.tuple #[.agg #[.int .i64 xh, .int .u64 xl], .int .i64 0]) ∧ Below W.heap.size W w')
    (C7 : ∀ W, Calls Try.prog 47 #[.agg #[.int .i64 nh, .int .u64 nl]] W fun e w' => e = .returned (.agg #[.int .i64 uh, .int .u64 ul]) ∧ Below W.heap.size W w')
    (C8 : ∀ W, Calls Try.prog 46 #[.agg #[.int .i64 uh, .int .u64 ul]] W fun e w' => e = .returned (.tuple #[.agg #[.int .i64 yh, .int .u64 yl], .int .i64 0]) ∧ Below W.heap.size W w') :
    Calls Try.prog 32 #[.agg #[.int .i64 dxh, .int .u64 dxl, .int .i64 dyh, .int .u64 dyl]] w fun e w' => e = .returned (.agg #[.int .i64 xh, .int .u64 xl, .int .i64 yh, .int .u64 yl]) ∧ Below w.heap.size w w' := by
  have K1 := Lib.hid C1; have K2 := Lib.hid C2; have K3 := Lib.hid C3; have K4 := Lib.hid C4; have K5 := Lib.hid C5; have K6 := Lib.hid C6; have K7 := Lib.hid C7; have K8 := Lib.hid C8
  clear C1 C2 C3 C4 C5 C6 C7 C8
  go_enter Try.func32, Try.ntmps32
  go_upto_region 1 with fail
  refine name_world (P := fun W => Code.wp _ _ _ _ W) _ (fun R1 hR1 => ?_)
  have zR1_d : w.heap.size < R1.heap.size := by rw [hR1]; first | omega | (simp <;> omega)
  have yR1_d : w.heap.size < R1.heap.size + 1 := by omega
  have yyR1_d : w.heap.size < R1.heap.size + 1 + 1 := by omega
  have cR1_d_0 : R1.cell? ⟨w.heap.size, 0, none⟩ = some (.int .i64 dxh) := by rw [hR1]; first | assumption | (simp [go_sem, *]; done)
  have cR1_d_1 : R1.cell? ⟨w.heap.size, 1, none⟩ = some (.int .u64 dxl) := by rw [hR1]; first | assumption | (simp [go_sem, *]; done)
  have cR1_d_2 : R1.cell? ⟨w.heap.size, 2, none⟩ = some (.int .i64 dyh) := by rw [hR1]; first | assumption | (simp [go_sem, *]; done)
  have cR1_d_3 : R1.cell? ⟨w.heap.size, 3, none⟩ = some (.int .u64 dyl) := by rw [hR1]; first | assumption | (simp [go_sem, *]; done)
  have zR1_r : w.heap.size + 1 < R1.heap.size := by rw [hR1]; first | omega | (simp <;> omega)
  have yR1_r : w.heap.size + 1 < R1.heap.size + 1 := by omega
  have yyR1_r : w.heap.size + 1 < R1.heap.size + 1 + 1 := by omega
  have cR1_r_0 : R1.cell? ⟨w.heap.size + 1, 0, none⟩ = some (.int .i64 0) := by rw [hR1]; first | assumption | (simp [go_sem, *]; done)
  have cR1_r_1 : R1.cell? ⟨w.heap.size + 1, 1, none⟩ = some (.int .u64 0) := by rw [hR1]; first | assumption | (simp [go_sem, *]; done)
  have cR1_r_2 : R1.cell? ⟨w.heap.size + 1, 2, none⟩ = some (.int .i64 0) := by rw [hR1]; first | assumption | (simp [go_sem, *]; done)
  have cR1_r_3 : R1.cell? ⟨w.heap.size + 1, 3, none⟩ = some (.int .u64 0) := by rw [hR1]; first | assumption | (simp [go_sem, *]; done)
  have fR1_r : ∀ j, R1.frozen? ⟨w.heap.size + 1, j, none⟩ = false := fun j => by rw [hR1]; first | (simp [go_sem, *]; done) | (simp only [frozen?_alloc_cells]; rw [hfrw0 _ _ (by first | omega | (simp <;> omega))]; simp [frozen?_alloc_cells, World.frozen?]; done) | (simp [frozen?_alloc_cells, World.frozen?, *]; done)
  have lo_r : w.heap.size ≤ w.heap.size + 1 := by omega
  have HBR1 : Hid (Below w.heap.size w R1) := by rw [hR1]; show Below _ _ _; exact (by repeat (first | with_reducible exact Below.refl _ _ | with_reducible exact Hid.out (by assumption) | with_reducible refine Below.setCell ?_ (by first | (simp; done) | omega | (simp <;> omega)) _ | with_reducible refine bl_al ?_ _ | with_reducible apply Below.drew))
  clear hR1
  go_cut [3, 4] (fun slot0 slot1 X1 => ∃ bX1m : Nat, slot0 = .pointer (some ⟨bX1m, 0, none⟩) ∧ slot1 = .int .i64 0 ∧ R1.heap.size ≤ bX1m ∧ Below R1.heap.size R1 X1 ∧ Has (bX1m) [.int .i64 mh, .int .u64 ml] X1)
  case first =>
    clear HBR1
    have ltt : ∀ n : Nat, n < n + 1 + 1 := fun n => by omega
    have lttt : ∀ n : Nat, n + 1 < n + 1 + 1 := fun n => by omega
    go_region_held3 (fun w' => w'.cell? ⟨w.heap.size, 0, none⟩ = some (.int .i64 dxh) ∧ w'.cell? ⟨w.heap.size, 1, none⟩ = some (.int .u64 dxl) ∧ w'.cell? ⟨w.heap.size, 2, none⟩ = some (.int .i64 dyh) ∧ w'.cell? ⟨w.heap.size, 3, none⟩ = some (.int .u64 dyl)) (first | (simp [*, go_sem]; done) | (simp [*, go_sem, World.cell?_alloc_past]; done))
      (first
        | (go_at_call 30; (with_reducible refine (K1.out _).mono ?_); rintro e w1 ⟨rfl, hb⟩; (first | (with_reducible (obtain ⟨hclw1, hfrw1⟩ := bcell_drew hb)) | (obtain ⟨hclw1, hfrw1⟩ := bcell hb)); have zw1_d : w.heap.size < w1.heap.size := (by first | omega | (have hz := hb.size; (try simp at hz); omega)); have yw1_d : w.heap.size < w1.heap.size + 1 := (by omega); have yyw1_d : w.heap.size < w1.heap.size + 1 + 1 := (by omega); (try have sw1_0 : R1.heap.size < w1.heap.size := (by first | omega | (have hz := hb.size; (try simp at hz); omega))); (try have syw1_0 : R1.heap.size < w1.heap.size + 1 := (by omega)); (try have stw1_0 : R1.heap.size + 1 < w1.heap.size := (by first | omega | (have hz := hb.size; (try simp at hz); omega))); have sxw1_0 : R1.heap.size ≤ w1.heap.size := (by first | omega | (have hz := hb.size; (try simp at hz); omega)); have HBw1 : Hid (Below R1.heap.size R1 w1) := (bl_trans (by repeat (first | with_reducible exact Below.refl _ _ | with_reducible exact Hid.out (by assumption) | with_reducible refine Below.setCell ?_ (by first | (simp; done) | omega | (simp <;> omega)) _ | with_reducible refine bl_al ?_ _ | with_reducible apply Below.drew)) hb); clear hb; clear K1)
        | (go_at_call 44; (with_reducible refine (K2.out _).mono ?_); rintro e w2 ⟨rfl, hb⟩; obtain ⟨hclw2, hfrw2⟩ := bcell hb; have zw2_d : w.heap.size < w2.heap.size := (by first | omega | (have hz := hb.size; (try simp at hz); omega)); have yw2_d : w.heap.size < w2.heap.size + 1 := (by omega); have yyw2_d : w.heap.size < w2.heap.size + 1 + 1 := (by omega); (try have sw2_0 : R1.heap.size < w2.heap.size := (by first | omega | (have hz := hb.size; (try simp at hz); omega))); (try have syw2_0 : R1.heap.size < w2.heap.size + 1 := (by omega)); (try have stw2_0 : R1.heap.size + 1 < w2.heap.size := (by first | omega | (have hz := hb.size; (try simp at hz); omega))); have sxw2_0 : R1.heap.size ≤ w2.heap.size := (by first | omega | (have hz := hb.size; (try simp at hz); omega)); (try have sw2_w1 : w1.heap.size < w2.heap.size := (by first | omega | (have hz := hb.size; (try simp at hz); omega))); (try have syw2_w1 : w1.heap.size < w2.heap.size + 1 := (by omega)); (try have stw2_w1 : w1.heap.size + 1 < w2.heap.size := (by first | omega | (have hz := hb.size; (try simp at hz); omega))); have sxw2_w1 : w1.heap.size ≤ w2.heap.size := (by first | omega | (have hz := hb.size; (try simp at hz); omega)); have HBw2 : Hid (Below R1.heap.size R1 w2) := (bl_trans (by repeat (first | with_reducible exact Below.refl _ _ | with_reducible exact Hid.out (by assumption) | with_reducible refine Below.setCell ?_ (by first | (simp; done) | omega | (simp <;> omega)) _ | with_reducible refine bl_al ?_ _ | with_reducible apply Below.drew)) hb); clear hb; clear K2))
    all_goals (rename_i hHeld; clear hHeld; go_wp2_with fail; go_meet; exact ⟨_, rfl, rfl, (by first | omega | (simp <;> omega)), (by repeat (first | with_reducible exact Below.refl _ _ | with_reducible exact Hid.out (by assumption) | with_reducible refine Below.setCell ?_ (by first | (simp; done) | omega | (simp <;> omega)) _ | with_reducible refine bl_al ?_ _ | with_reducible apply Below.drew)), Has.mk2 (by first | (simp <;> omega) | omega) (by simp [go_sem, *]) (by simp [go_sem, *])⟩)
  case rest =>
  obtain ⟨X1, hX1⟩ : ∃ X, X = wc := ⟨wc, rfl⟩
  subst hX1
  obtain ⟨bX1m, rfl, rfl, m_bX1m, hX, g_m⟩ := hcut
  have zX1_d : w.heap.size < X1.heap.size := Nat.lt_of_lt_of_le zR1_d hX.size
  have cX1_d_0 : X1.cell? ⟨w.heap.size, 0, none⟩ = some (.int .i64 dxh) := by rw [(bcell hX).1 _ _ zR1_d]; exact cR1_d_0
  have cX1_d_1 : X1.cell? ⟨w.heap.size, 1, none⟩ = some (.int .u64 dxl) := by rw [(bcell hX).1 _ _ zR1_d]; exact cR1_d_1
  have cX1_d_2 : X1.cell? ⟨w.heap.size, 2, none⟩ = some (.int .i64 dyh) := by rw [(bcell hX).1 _ _ zR1_d]; exact cR1_d_2
  have cX1_d_3 : X1.cell? ⟨w.heap.size, 3, none⟩ = some (.int .u64 dyl) := by rw [(bcell hX).1 _ _ zR1_d]; exact cR1_d_3
  have zX1_r : w.heap.size + 1 < X1.heap.size := Nat.lt_of_lt_of_le zR1_r hX.size
  have cX1_r_0 : X1.cell? ⟨w.heap.size + 1, 0, none⟩ = some (.int .i64 0) := by rw [(bcell hX).1 _ _ zR1_r]; exact cR1_r_0
  have cX1_r_1 : X1.cell? ⟨w.heap.size + 1, 1, none⟩ = some (.int .u64 0) := by rw [(bcell hX).1 _ _ zR1_r]; exact cR1_r_1
  have cX1_r_2 : X1.cell? ⟨w.heap.size + 1, 2, none⟩ = some (.int .i64 0) := by rw [(bcell hX).1 _ _ zR1_r]; exact cR1_r_2
  have cX1_r_3 : X1.cell? ⟨w.heap.size + 1, 3, none⟩ = some (.int .u64 0) := by rw [(bcell hX).1 _ _ zR1_r]; exact cR1_r_3
  have fX1_r : ∀ j, X1.frozen? ⟨w.heap.size + 1, j, none⟩ = false := fun j => by rw [(bcell hX).2 _ _ zR1_r]; exact fR1_r j
  have zX1_m := g_m.1; have cX1_m_0 := g_m.2 0 _ rfl; have cX1_m_1 := g_m.2 1 _ rfl; clear g_m
  have nebX1m_r : ¬ (bX1m = w.heap.size + 1) := by omega
  have ndbX1m_r : ¬ (w.heap.size + 1 = bX1m) := by omega
  have HBX1 : Hid (Below w.heap.size w X1) := bl_trans HBR1.out hX
  clear hX
  clear zR1_d yR1_d yyR1_d cR1_d_0 cR1_d_1 cR1_d_2 cR1_d_3 zR1_r yR1_r yyR1_r cR1_r_0 cR1_r_1 cR1_r_2 cR1_r_3 fR1_r HBR1 m_bX1m
  go_upto_region 2 with fail
  refine name_world (P := fun W => Code.wp _ _ _ _ W) _ (fun R2 hR2 => ?_)
  have zR2_d : w.heap.size < R2.heap.size := by rw [hR2]; first | omega | (simp <;> omega)
  have yR2_d : w.heap.size < R2.heap.size + 1 := by omega
  have yyR2_d : w.heap.size < R2.heap.size + 1 + 1 := by omega
  have cR2_d_0 : R2.cell? ⟨w.heap.size, 0, none⟩ = some (.int .i64 dxh) := by rw [hR2]; first | assumption | (simp [go_sem, *]; done)
  have cR2_d_1 : R2.cell? ⟨w.heap.size, 1, none⟩ = some (.int .u64 dxl) := by rw [hR2]; first | assumption | (simp [go_sem, *]; done)
  have cR2_d_2 : R2.cell? ⟨w.heap.size, 2, none⟩ = some (.int .i64 dyh) := by rw [hR2]; first | assumption | (simp [go_sem, *]; done)
  have cR2_d_3 : R2.cell? ⟨w.heap.size, 3, none⟩ = some (.int .u64 dyl) := by rw [hR2]; first | assumption | (simp [go_sem, *]; done)
  have zR2_r : w.heap.size + 1 < R2.heap.size := by rw [hR2]; first | omega | (simp <;> omega)
  have yR2_r : w.heap.size + 1 < R2.heap.size + 1 := by omega
  have yyR2_r : w.heap.size + 1 < R2.heap.size + 1 + 1 := by omega
  have cR2_r_0 : R2.cell? ⟨w.heap.size + 1, 0, none⟩ = some (.int .i64 0) := by rw [hR2]; first | assumption | (simp [go_sem, *]; done)
  have cR2_r_1 : R2.cell? ⟨w.heap.size + 1, 1, none⟩ = some (.int .u64 0) := by rw [hR2]; first | assumption | (simp [go_sem, *]; done)
  have cR2_r_2 : R2.cell? ⟨w.heap.size + 1, 2, none⟩ = some (.int .i64 0) := by rw [hR2]; first | assumption | (simp [go_sem, *]; done)
  have cR2_r_3 : R2.cell? ⟨w.heap.size + 1, 3, none⟩ = some (.int .u64 0) := by rw [hR2]; first | assumption | (simp [go_sem, *]; done)
  have fR2_r : ∀ j, R2.frozen? ⟨w.heap.size + 1, j, none⟩ = false := fun j => by rw [hR2]; first | (simp [go_sem, *]; done) | (simp only [frozen?_alloc_cells]; rw [hfrX1 _ _ (by first | omega | (simp <;> omega))]; simp [frozen?_alloc_cells, World.frozen?]; done) | (simp [frozen?_alloc_cells, World.frozen?, *]; done)
  have zR2_m : bX1m < R2.heap.size := by rw [hR2]; first | omega | (simp <;> omega)
  have yR2_m : bX1m < R2.heap.size + 1 := by omega
  have yyR2_m : bX1m < R2.heap.size + 1 + 1 := by omega
  have cR2_m_0 : R2.cell? ⟨bX1m, 0, none⟩ = some (.int .i64 mh) := by rw [hR2]; first | assumption | (simp [go_sem, *]; done)
  have cR2_m_1 : R2.cell? ⟨bX1m, 1, none⟩ = some (.int .u64 ml) := by rw [hR2]; first | assumption | (simp [go_sem, *]; done)
  have HBR2 : Hid (Below w.heap.size w R2) := by rw [hR2]; show Below _ _ _; exact (by repeat (first | with_reducible exact Below.refl _ _ | with_reducible exact Hid.out (by assumption) | with_reducible refine Below.setCell ?_ (by first | (simp; done) | omega | (simp <;> omega)) _ | with_reducible refine bl_al ?_ _ | with_reducible apply Below.drew))
  clear hR2
  clear HBX1 zX1_d cX1_d_0 cX1_d_1 cX1_d_2 cX1_d_3 zX1_r cX1_r_0 cX1_r_1 cX1_r_2 cX1_r_3 fX1_r zX1_m cX1_m_0 cX1_m_1
  go_cut [5, 6] (fun slot0 slot1 X2 => ∃ bX2n : Nat, slot0 = .pointer (some ⟨bX2n, 0, none⟩) ∧ slot1 = .int .i64 0 ∧ R2.heap.size ≤ bX2n ∧ Below R2.heap.size R2 X2 ∧ Has (bX2n) [.int .i64 nh, .int .u64 nl] X2)
  case first =>
    clear HBR2
    have ltt : ∀ n : Nat, n < n + 1 + 1 := fun n => by omega
    have lttt : ∀ n : Nat, n + 1 < n + 1 + 1 := fun n => by omega
    go_region_held3 (fun w' => w'.cell? ⟨w.heap.size, 0, none⟩ = some (.int .i64 dxh) ∧ w'.cell? ⟨w.heap.size, 1, none⟩ = some (.int .u64 dxl) ∧ w'.cell? ⟨w.heap.size, 2, none⟩ = some (.int .i64 dyh) ∧ w'.cell? ⟨w.heap.size, 3, none⟩ = some (.int .u64 dyl)) (first | (simp [*, go_sem]; done) | (simp [*, go_sem, World.cell?_alloc_past]; done))
      (first
        | (go_at_call 30; (with_reducible refine (K3.out _).mono ?_); rintro e w3 ⟨rfl, hb⟩; (first | (with_reducible (obtain ⟨hclw3, hfrw3⟩ := bcell_drew hb)) | (obtain ⟨hclw3, hfrw3⟩ := bcell hb)); have zw3_d : w.heap.size < w3.heap.size := (by first | omega | (have hz := hb.size; (try simp at hz); omega)); have yw3_d : w.heap.size < w3.heap.size + 1 := (by omega); have yyw3_d : w.heap.size < w3.heap.size + 1 + 1 := (by omega); (try have sw3_0 : R2.heap.size < w3.heap.size := (by first | omega | (have hz := hb.size; (try simp at hz); omega))); (try have syw3_0 : R2.heap.size < w3.heap.size + 1 := (by omega)); (try have stw3_0 : R2.heap.size + 1 < w3.heap.size := (by first | omega | (have hz := hb.size; (try simp at hz); omega))); have sxw3_0 : R2.heap.size ≤ w3.heap.size := (by first | omega | (have hz := hb.size; (try simp at hz); omega)); have HBw3 : Hid (Below R2.heap.size R2 w3) := (bl_trans (by repeat (first | with_reducible exact Below.refl _ _ | with_reducible exact Hid.out (by assumption) | with_reducible refine Below.setCell ?_ (by first | (simp; done) | omega | (simp <;> omega)) _ | with_reducible refine bl_al ?_ _ | with_reducible apply Below.drew)) hb); clear hb; clear K3)
        | (go_at_call 45; (with_reducible refine (K4.out _).mono ?_); rintro e w4 ⟨rfl, hb⟩; obtain ⟨hclw4, hfrw4⟩ := bcell hb; have zw4_d : w.heap.size < w4.heap.size := (by first | omega | (have hz := hb.size; (try simp at hz); omega)); have yw4_d : w.heap.size < w4.heap.size + 1 := (by omega); have yyw4_d : w.heap.size < w4.heap.size + 1 + 1 := (by omega); (try have sw4_0 : R2.heap.size < w4.heap.size := (by first | omega | (have hz := hb.size; (try simp at hz); omega))); (try have syw4_0 : R2.heap.size < w4.heap.size + 1 := (by omega)); (try have stw4_0 : R2.heap.size + 1 < w4.heap.size := (by first | omega | (have hz := hb.size; (try simp at hz); omega))); have sxw4_0 : R2.heap.size ≤ w4.heap.size := (by first | omega | (have hz := hb.size; (try simp at hz); omega)); (try have sw4_w3 : w3.heap.size < w4.heap.size := (by first | omega | (have hz := hb.size; (try simp at hz); omega))); (try have syw4_w3 : w3.heap.size < w4.heap.size + 1 := (by omega)); (try have stw4_w3 : w3.heap.size + 1 < w4.heap.size := (by first | omega | (have hz := hb.size; (try simp at hz); omega))); have sxw4_w3 : w3.heap.size ≤ w4.heap.size := (by first | omega | (have hz := hb.size; (try simp at hz); omega)); have HBw4 : Hid (Below R2.heap.size R2 w4) := (bl_trans (by repeat (first | with_reducible exact Below.refl _ _ | with_reducible exact Hid.out (by assumption) | with_reducible refine Below.setCell ?_ (by first | (simp; done) | omega | (simp <;> omega)) _ | with_reducible refine bl_al ?_ _ | with_reducible apply Below.drew)) hb); clear hb; clear K4))
    all_goals (rename_i hHeld; clear hHeld; go_wp2_with fail; go_meet; exact ⟨_, rfl, rfl, (by first | omega | (simp <;> omega)), (by repeat (first | with_reducible exact Below.refl _ _ | with_reducible exact Hid.out (by assumption) | with_reducible refine Below.setCell ?_ (by first | (simp; done) | omega | (simp <;> omega)) _ | with_reducible refine bl_al ?_ _ | with_reducible apply Below.drew)), Has.mk2 (by first | (simp <;> omega) | omega) (by simp [go_sem, *]) (by simp [go_sem, *])⟩)
  case rest =>
  obtain ⟨X2, hX2⟩ : ∃ X, X = wc := ⟨wc, rfl⟩
  subst hX2
  obtain ⟨bX2n, rfl, rfl, m_bX2n, hX, g_n⟩ := hcut
  have zX2_d : w.heap.size < X2.heap.size := Nat.lt_of_lt_of_le zR2_d hX.size
  have cX2_d_0 : X2.cell? ⟨w.heap.size, 0, none⟩ = some (.int .i64 dxh) := by rw [(bcell hX).1 _ _ zR2_d]; exact cR2_d_0
  have cX2_d_1 : X2.cell? ⟨w.heap.size, 1, none⟩ = some (.int .u64 dxl) := by rw [(bcell hX).1 _ _ zR2_d]; exact cR2_d_1
  have cX2_d_2 : X2.cell? ⟨w.heap.size, 2, none⟩ = some (.int .i64 dyh) := by rw [(bcell hX).1 _ _ zR2_d]; exact cR2_d_2
  have cX2_d_3 : X2.cell? ⟨w.heap.size, 3, none⟩ = some (.int .u64 dyl) := by rw [(bcell hX).1 _ _ zR2_d]; exact cR2_d_3
  have zX2_r : w.heap.size + 1 < X2.heap.size := Nat.lt_of_lt_of_le zR2_r hX.size
  have cX2_r_0 : X2.cell? ⟨w.heap.size + 1, 0, none⟩ = some (.int .i64 0) := by rw [(bcell hX).1 _ _ zR2_r]; exact cR2_r_0
  have cX2_r_1 : X2.cell? ⟨w.heap.size + 1, 1, none⟩ = some (.int .u64 0) := by rw [(bcell hX).1 _ _ zR2_r]; exact cR2_r_1
  have cX2_r_2 : X2.cell? ⟨w.heap.size + 1, 2, none⟩ = some (.int .i64 0) := by rw [(bcell hX).1 _ _ zR2_r]; exact cR2_r_2
  have cX2_r_3 : X2.cell? ⟨w.heap.size + 1, 3, none⟩ = some (.int .u64 0) := by rw [(bcell hX).1 _ _ zR2_r]; exact cR2_r_3
  have fX2_r : ∀ j, X2.frozen? ⟨w.heap.size + 1, j, none⟩ = false := fun j => by rw [(bcell hX).2 _ _ zR2_r]; exact fR2_r j
  have zX2_m : bX1m < X2.heap.size := Nat.lt_of_lt_of_le zR2_m hX.size
  have cX2_m_0 : X2.cell? ⟨bX1m, 0, none⟩ = some (.int .i64 mh) := by rw [(bcell hX).1 _ _ zR2_m]; exact cR2_m_0
  have cX2_m_1 : X2.cell? ⟨bX1m, 1, none⟩ = some (.int .u64 ml) := by rw [(bcell hX).1 _ _ zR2_m]; exact cR2_m_1
  have zX2_n := g_n.1; have cX2_n_0 := g_n.2 0 _ rfl; have cX2_n_1 := g_n.2 1 _ rfl; clear g_n
  have nebX2n_r : ¬ (bX2n = w.heap.size + 1) := by omega
  have ndbX2n_r : ¬ (w.heap.size + 1 = bX2n) := by omega
  have HBX2 : Hid (Below w.heap.size w X2) := bl_trans HBR2.out hX
  clear hX
  clear zR2_d yR2_d yyR2_d cR2_d_0 cR2_d_1 cR2_d_2 cR2_d_3 zR2_r yR2_r yyR2_r cR2_r_0 cR2_r_1 cR2_r_2 cR2_r_3 fR2_r zR2_m yR2_m yyR2_m cR2_m_0 cR2_m_1 HBR2 m_bX2n
  go_wp2_with fail
  (with_reducible refine (K5.out _).mono ?_); rintro e w5 ⟨rfl, hb⟩
  obtain ⟨hcl, hfr⟩ := bcell hb
  have zw5_r : w.heap.size + 1 < w5.heap.size := by have hz := hb.size; (try simp at hz); omega
  have cw5_r_0 : w5.cell? ⟨w.heap.size + 1, 0, none⟩ = some (.int .i64 0) := by rw [hcl _ _ (by first | omega | (simp; done) | (simp; omega))]; simp [go_sem, *]
  have cw5_r_1 : w5.cell? ⟨w.heap.size + 1, 1, none⟩ = some (.int .u64 0) := by rw [hcl _ _ (by first | omega | (simp; done) | (simp; omega))]; simp [go_sem, *]
  have cw5_r_2 : w5.cell? ⟨w.heap.size + 1, 2, none⟩ = some (.int .i64 0) := by rw [hcl _ _ (by first | omega | (simp; done) | (simp; omega))]; simp [go_sem, *]
  have cw5_r_3 : w5.cell? ⟨w.heap.size + 1, 3, none⟩ = some (.int .u64 0) := by rw [hcl _ _ (by first | omega | (simp; done) | (simp; omega))]; simp [go_sem, *]
  have fw5_r : ∀ j, w5.frozen? ⟨w.heap.size + 1, j, none⟩ = false := fun j => by rw [hfr _ _ (by first | omega | (simp; done) | (simp; omega))]; first | (simp [go_sem, *]; done) | (simp only [frozen?_alloc_cells]; simp [World.frozen?, *]; done) | (simp [frozen?_alloc_cells, World.frozen?, *]; done)
  have zw5_n : bX2n < w5.heap.size := by have hz := hb.size; (try simp at hz); omega
  have cw5_n_0 : w5.cell? ⟨bX2n, 0, none⟩ = some (.int .i64 nh) := by rw [hcl _ _ (by first | omega | (simp; done) | (simp; omega))]; simp [go_sem, *]
  have cw5_n_1 : w5.cell? ⟨bX2n, 1, none⟩ = some (.int .u64 nl) := by rw [hcl _ _ (by first | omega | (simp; done) | (simp; omega))]; simp [go_sem, *]
  have HBw5 : Hid (Below w.heap.size w w5) := bl_trans (by repeat (first | with_reducible exact Below.refl _ _ | with_reducible exact Hid.out (by assumption) | with_reducible refine Below.setCell ?_ (by first | (simp; done) | omega | (simp <;> omega)) _ | with_reducible refine bl_al ?_ _ | with_reducible apply Below.drew)) hb
  clear hb hcl hfr
  go_wp2_with fail
  (with_reducible refine (K6.out _).mono ?_); rintro e w6 ⟨rfl, hb⟩
  obtain ⟨hcl, hfr⟩ := bcell hb
  have zw6_r : w.heap.size + 1 < w6.heap.size := by have hz := hb.size; (try simp at hz); omega
  have cw6_r_0 : w6.cell? ⟨w.heap.size + 1, 0, none⟩ = some (.int .i64 0) := by rw [hcl _ _ (by first | omega | (simp; done) | (simp; omega))]; simp [go_sem, *]
  have cw6_r_1 : w6.cell? ⟨w.heap.size + 1, 1, none⟩ = some (.int .u64 0) := by rw [hcl _ _ (by first | omega | (simp; done) | (simp; omega))]; simp [go_sem, *]
  have cw6_r_2 : w6.cell? ⟨w.heap.size + 1, 2, none⟩ = some (.int .i64 0) := by rw [hcl _ _ (by first | omega | (simp; done) | (simp; omega))]; simp [go_sem, *]
  have cw6_r_3 : w6.cell? ⟨w.heap.size + 1, 3, none⟩ = some (.int .u64 0) := by rw [hcl _ _ (by first | omega | (simp; done) | (simp; omega))]; simp [go_sem, *]
  have fw6_r : ∀ j, w6.frozen? ⟨w.heap.size + 1, j, none⟩ = false := fun j => by rw [hfr _ _ (by first | omega | (simp; done) | (simp; omega))]; first | (simp [go_sem, *]; done) | (simp only [frozen?_alloc_cells]; simp [World.frozen?, *]; done) | (simp [frozen?_alloc_cells, World.frozen?, *]; done)
  have zw6_n : bX2n < w6.heap.size := by have hz := hb.size; (try simp at hz); omega
  have cw6_n_0 : w6.cell? ⟨bX2n, 0, none⟩ = some (.int .i64 nh) := by rw [hcl _ _ (by first | omega | (simp; done) | (simp; omega))]; simp [go_sem, *]
  have cw6_n_1 : w6.cell? ⟨bX2n, 1, none⟩ = some (.int .u64 nl) := by rw [hcl _ _ (by first | omega | (simp; done) | (simp; omega))]; simp [go_sem, *]
  have HBw6 : Hid (Below w.heap.size w w6) := bl_trans (by repeat (first | with_reducible exact Below.refl _ _ | with_reducible exact Hid.out (by assumption) | with_reducible refine Below.setCell ?_ (by first | (simp; done) | omega | (simp <;> omega)) _ | with_reducible refine bl_al ?_ _ | with_reducible apply Below.drew)) hb
  clear hb hcl hfr
  go_wp2_with fail
  (with_reducible refine (K7.out _).mono ?_); rintro e w7 ⟨rfl, hb⟩
  obtain ⟨hcl, hfr⟩ := bcell hb
  have zw7_r : w.heap.size + 1 < w7.heap.size := by have hz := hb.size; (try simp at hz); omega
  have cw7_r_0 : w7.cell? ⟨w.heap.size + 1, 0, none⟩ = some (.int .i64 0) := by rw [hcl _ _ (by first | omega | (simp; done) | (simp; omega))]; simp [go_sem, *]
  have cw7_r_1 : w7.cell? ⟨w.heap.size + 1, 1, none⟩ = some (.int .u64 0) := by rw [hcl _ _ (by first | omega | (simp; done) | (simp; omega))]; simp [go_sem, *]
  have cw7_r_2 : w7.cell? ⟨w.heap.size + 1, 2, none⟩ = some (.int .i64 0) := by rw [hcl _ _ (by first | omega | (simp; done) | (simp; omega))]; simp [go_sem, *]
  have cw7_r_3 : w7.cell? ⟨w.heap.size + 1, 3, none⟩ = some (.int .u64 0) := by rw [hcl _ _ (by first | omega | (simp; done) | (simp; omega))]; simp [go_sem, *]
  have fw7_r : ∀ j, w7.frozen? ⟨w.heap.size + 1, j, none⟩ = false := fun j => by rw [hfr _ _ (by first | omega | (simp; done) | (simp; omega))]; first | (simp [go_sem, *]; done) | (simp only [frozen?_alloc_cells]; simp [World.frozen?, *]; done) | (simp [frozen?_alloc_cells, World.frozen?, *]; done)
  have zw7_x : w6.heap.size < w7.heap.size := by have hz := hb.size; (try simp at hz); omega
  have cw7_x_0 : w7.cell? ⟨w6.heap.size, 0, none⟩ = some (.int .i64 xh) := by rw [hcl _ _ (by first | omega | (simp; done) | (simp; omega))]; simp [go_sem, *]
  have cw7_x_1 : w7.cell? ⟨w6.heap.size, 1, none⟩ = some (.int .u64 xl) := by rw [hcl _ _ (by first | omega | (simp; done) | (simp; omega))]; simp [go_sem, *]
  have HBw7 : Hid (Below w.heap.size w w7) := bl_trans (by repeat (first | with_reducible exact Below.refl _ _ | with_reducible exact Hid.out (by assumption) | with_reducible refine Below.setCell ?_ (by first | (simp; done) | omega | (simp <;> omega)) _ | with_reducible refine bl_al ?_ _ | with_reducible apply Below.drew)) hb
  clear hb hcl hfr
  go_wp2_with fail
  (with_reducible refine (K8.out _).mono ?_); rintro e w8 ⟨rfl, hb⟩
  obtain ⟨hcl, hfr⟩ := bcell hb
  have zw8_r : w.heap.size + 1 < w8.heap.size := by have hz := hb.size; (try simp at hz); omega
  have cw8_r_0 : w8.cell? ⟨w.heap.size + 1, 0, none⟩ = some (.int .i64 0) := by rw [hcl _ _ (by first | omega | (simp; done) | (simp; omega))]; simp [go_sem, *]
  have cw8_r_1 : w8.cell? ⟨w.heap.size + 1, 1, none⟩ = some (.int .u64 0) := by rw [hcl _ _ (by first | omega | (simp; done) | (simp; omega))]; simp [go_sem, *]
  have cw8_r_2 : w8.cell? ⟨w.heap.size + 1, 2, none⟩ = some (.int .i64 0) := by rw [hcl _ _ (by first | omega | (simp; done) | (simp; omega))]; simp [go_sem, *]
  have cw8_r_3 : w8.cell? ⟨w.heap.size + 1, 3, none⟩ = some (.int .u64 0) := by rw [hcl _ _ (by first | omega | (simp; done) | (simp; omega))]; simp [go_sem, *]
  have fw8_r : ∀ j, w8.frozen? ⟨w.heap.size + 1, j, none⟩ = false := fun j => by rw [hfr _ _ (by first | omega | (simp; done) | (simp; omega))]; first | (simp [go_sem, *]; done) | (simp only [frozen?_alloc_cells]; simp [World.frozen?, *]; done) | (simp [frozen?_alloc_cells, World.frozen?, *]; done)
  have zw8_x : w6.heap.size < w8.heap.size := by have hz := hb.size; (try simp at hz); omega
  have cw8_x_0 : w8.cell? ⟨w6.heap.size, 0, none⟩ = some (.int .i64 xh) := by rw [hcl _ _ (by first | omega | (simp; done) | (simp; omega))]; simp [go_sem, *]
  have cw8_x_1 : w8.cell? ⟨w6.heap.size, 1, none⟩ = some (.int .u64 xl) := by rw [hcl _ _ (by first | omega | (simp; done) | (simp; omega))]; simp [go_sem, *]
  have HBw8 : Hid (Below w.heap.size w w8) := bl_trans (by repeat (first | with_reducible exact Below.refl _ _ | with_reducible exact Hid.out (by assumption) | with_reducible refine Below.setCell ?_ (by first | (simp; done) | omega | (simp <;> omega)) _ | with_reducible refine bl_al ?_ _ | with_reducible apply Below.drew)) hb
  clear hb hcl hfr
  go_wp2_with fail
  refine bodyPost_ret (by simp [results, Try.results32, go_sem, *]; try rfl) rfl ?_
  exact ⟨rfl, by repeat (first | with_reducible exact Below.refl _ _ | with_reducible exact Hid.out (by assumption) | with_reducible refine Below.setCell ?_ (by first | (simp; done) | omega | (simp <;> omega)) _ | with_reducible refine bl_al ?_ _ | with_reducible apply Below.drew)⟩
theorem quarter_any (w : World) : Calls Try.prog 31 #[] w fun e w' => e = .returned (vec 0 18446744073709551616) ∧ Below w.heap.size w w' := by
  have h := quarter_core _ _ w (int_any 1)
  rw [show intr 1 = 18446744073709551616 by decide] at h
  unfold vec; rw [zero_words.1, zero_words.2]; exact h
theorem halved_any (x y : Int) (hx : In1 x) (w : World) : Calls Try.prog 32 #[vec x y] w fun e w' => e = .returned (vec (hc x) (hs x)) ∧ Below w.heap.size w w' := by
  have P1 : My 18446744073709551616 := by unfold My; omega
  have i1 := int_any 1
  rw [show intr 1 = 18446744073709551616 by decide] at i1
  have A2 := fadd_any _ x P1 hx.my
  have A4 := fsub_any _ x P1 hx.my
  have m2 : My (18446744073709551616 + x) := by unfold In1 at hx; unfold My; omega
  have m4 : My (18446744073709551616 - x) := by unfold In1 at hx; unfold My; omega
  rw [ov_in m2, oe_in m2] at A2
  rw [ov_in m4, oe_in m4] at A4
  have A5 := fhalf_any _ m2
  have A7 := fhalf_any _ m4
  have A6 := fsqrt_any _ (more_in hx).my (more_in hx).1
  have A8 := fsqrt_any _ (less_in hx).my (less_in hx).1
  exact halved_core _ _ _ _ _ _ _ _ _ _ _ _ _ _ _ _ _ _ w i1 A2 i1 A4 A5 A6 A7 A8
end Go.Proofs.Ytmelipbanbihdaa
