/- FixAll: the sum, what is left, the product, the quotient of any two that may be, or their error, is the document's; whether any may be, which is the lesser one. For any two numbers, without conditions. -/
import Derived.Test.YtgcblfaommhpbaaFixAdd
import Derived.Test.YtgcblfaommhpbaaFixSub
import Derived.Test.YtgcblfaommhpbaaFixMul
import Derived.Test.YtgcblfaommhpbaaMulAny
import Derived.Test.YtgcblfaommhpbaaSqrt
import Derived.Test.YtgcblfaommhpbaaFixDiv
import Derived.Test.YtgcblfaommhpbaaDiv
import Derived.Test.YtgcblfaommhpbaaFixOpen
import Derived.Test.YtgcblfaommhpbaaRefFix2
import Derived.Test.YtgcblfaommhpbaaRefRoot
import Derived.Test.YtgcblfaommhpbaaRefShl
import Derived.Test.YtgcblfaommhpbaaRefShr
import Derived.Test.YtgcblfaommhpbaaRefSum
import Derived.Test.YtgcblfaommhpbaaRefDivRel
import Derived.Test.YtgcblfaommhpbaaRefFix6
import Derived.Test.YtgcblfaommhpbaaRefFix7
namespace Go.Proofs.Ytgcblfaommhpbaa
open Go.RowKit

theorem sw_and (a b : Bool) : bits .and .u64 (sw a) (sw b) = sw (a && b) := by
  cases a <;> cases b <;> decide
theorem sw_ne {s : Bool} (h : s = true) : sw s ≠ 0 := by subst h; decide
theorem sw_eq {s : Bool} (h : ¬ s = true) : sw s = 0 := by cases s; rfl; exact absurd rfl h
/-- The sum's bits, read as a number. -/
def bmod (n : Int) : Int := (n + 170141183460469231731687303715884105728) % 340282366920938463463374607431768211456 - 170141183460469231731687303715884105728
theorem bmod_Fx (n : Int) : Fx (bmod n) := by unfold bmod; constructor <;> omega
theorem fadd_any (x y : Int) (hx : My x) (hy : My y) (w : World) :
    Calls Try.prog 35 #[.agg #[.int .i64 (fh x), .int .u64 (fl x)], .agg #[.int .i64 (fh y), .int .u64 (fl y)]] w fun e w' => e = .returned (.tuple #[.agg #[.int .i64 (fh (ov (x + y))), .int .u64 (fl (ov (x + y)))], .int .i64 (oe (x + y))]) ∧ Below w.heap.size w w' := by
  have C3 := add_any _ _ _ _ (wd_wd (ub x) 1) (wd_wd (ub x) 0) (wd_wd (ub y) 1) (wd_wd (ub y) 0)
  rw [ub_v2, ub_v2] at C3
  have C4 := ofBits_any (bmod (x + y)) (ub x + ub y) (bmod_Fx _) (by unfold bmod ub; omega)
  have C7 := sign_any (bmod (x + y)) (bmod_Fx _)
  have C8 := may_any (bmod (x + y))
  have hz : (bmod (x + y) = x + y ∧ My (x + y)) ∨ (¬ My (x + y) ∧ (bmod (x + y) = -170141183460469231731687303715884105728 ∨ (x < 0 ∧ y < 0 ∧ 0 ≤ bmod (x + y)) ∨ (0 ≤ x ∧ 0 ≤ y ∧ bmod (x + y) < 0))) := by
    obtain ⟨_, _⟩ := hx; obtain ⟨_, _⟩ := hy
    unfold bmod My; omega
  have hnot : My (x + y) → ¬ (x < 0 ∧ y < 0 ∧ 0 ≤ x + y) ∧ ¬ (0 ≤ x ∧ 0 ≤ y ∧ x + y < 0) := fun _ => by omega
  generalize bmod (x + y) = z at *
  by_cases c : ((decide (x < 0) != decide (z < 0)) && (decide (y < 0) != decide (z < 0))) = true
  · have hb : ¬ My (x + y) := by
      intro hm
      rcases hz with ⟨h1, _⟩ | ⟨h1, _⟩
      · have := hnot hm
        subst h1
        simp at c
        omega
      · exact h1 hm
    rw [ov_out hb, oe_out hb, fh_zero, fl_zero]
    exact fadd_over _ _ _ _ _ _ _ _ _ _ _ _ _ _ _ _ _ _ _ (sw_xor _ _) (sw_xor _ _) (sw_and _ _) (sw_ne c) w (bits_any x) (bits_any y) C3 C4 (sign_any x hx.fx) (sign_any y hy.fx) C7
  · by_cases d : z = -170141183460469231731687303715884105728
    · have hb : ¬ My (x + y) := by
        intro hm
        rcases hz with ⟨h1, h2⟩ | ⟨h1, _⟩
        · obtain ⟨_, _⟩ := h2; omega
        · exact h1 hm
      rw [ov_out hb, oe_out hb, fh_zero, fl_zero]
      rw [decide_eq_false (by simpa using d)] at C8
      exact fadd_least _ _ _ _ _ _ _ _ _ _ _ _ _ _ _ _ _ _ _ (sw_xor _ _) (sw_xor _ _) (sw_and _ _) (sw_eq c) w (bits_any x) (bits_any y) C3 C4 (sign_any x hx.fx) (sign_any y hy.fx) C7 C8
    · have hm : z = x + y ∧ My (x + y) := by
        rcases hz with h | ⟨h1, h2⟩
        · exact h
        · simp at c
          omega
      rw [ov_in hm.2, oe_in hm.2, ← hm.1]
      rw [decide_eq_true d] at C8
      exact fadd_ok _ _ _ _ _ _ _ _ _ _ _ _ _ _ _ _ _ _ _ (sw_xor _ _) (sw_xor _ _) (sw_and _ _) (sw_eq c) w (bits_any x) (bits_any y) C3 C4 (sign_any x hx.fx) (sign_any y hy.fx) C7 C8
theorem fsub_any (x y : Int) (hx : My x) (hy : My y) (w : World) :
    Calls Try.prog 36 #[.agg #[.int .i64 (fh x), .int .u64 (fl x)], .agg #[.int .i64 (fh y), .int .u64 (fl y)]] w fun e w' => e = .returned (.tuple #[.agg #[.int .i64 (fh (ov (x - y))), .int .u64 (fl (ov (x - y)))], .int .i64 (oe (x - y))]) ∧ Below w.heap.size w w' := by
  have C3 := sub_any _ _ _ _ (wd_wd (ub x) 1) (wd_wd (ub x) 0) (wd_wd (ub y) 1) (wd_wd (ub y) 0)
  rw [ub_v2, ub_v2] at C3
  have C4 := ofBits_any (bmod (x - y)) (ub x + (340282366920938463463374607431768211456 - ub y)) (bmod_Fx _) (by unfold bmod ub; omega)
  have C7 := sign_any (bmod (x - y)) (bmod_Fx _)
  have C8 := may_any (bmod (x - y))
  have hz : (bmod (x - y) = x - y ∧ My (x - y)) ∨ (¬ My (x - y) ∧ (bmod (x - y) = -170141183460469231731687303715884105728 ∨ (x < 0 ∧ 0 ≤ y ∧ 0 ≤ bmod (x - y)) ∨ (0 ≤ x ∧ y < 0 ∧ bmod (x - y) < 0))) := by
    obtain ⟨_, _⟩ := hx; obtain ⟨_, _⟩ := hy
    unfold bmod My; omega
  have hnot : My (x - y) → ¬ (x < 0 ∧ 0 ≤ y ∧ 0 ≤ x - y) ∧ ¬ (0 ≤ x ∧ y < 0 ∧ x - y < 0) := fun _ => by omega
  generalize bmod (x - y) = z at *
  by_cases c : ((decide (x < 0) != decide (y < 0)) && (decide (x < 0) != decide (z < 0))) = true
  · have hb : ¬ My (x - y) := by
      intro hm
      rcases hz with ⟨h1, _⟩ | ⟨h1, _⟩
      · have := hnot hm
        subst h1
        simp at c
        omega
      · exact h1 hm
    rw [ov_out hb, oe_out hb, fh_zero, fl_zero]
    exact fsub_over _ _ _ _ _ _ _ _ _ _ _ _ _ _ _ _ _ _ _ (sw_xor _ _) (sw_xor _ _) (sw_and _ _) (sw_ne c) w (bits_any x) (bits_any y) C3 C4 (sign_any x hx.fx) (sign_any y hy.fx) C7
  · by_cases d : z = -170141183460469231731687303715884105728
    · have hb : ¬ My (x - y) := by
        intro hm
        rcases hz with ⟨h1, h2⟩ | ⟨h1, _⟩
        · obtain ⟨_, _⟩ := h2; omega
        · exact h1 hm
      rw [ov_out hb, oe_out hb, fh_zero, fl_zero]
      rw [decide_eq_false (by simpa using d)] at C8
      exact fsub_least _ _ _ _ _ _ _ _ _ _ _ _ _ _ _ _ _ _ _ (sw_xor _ _) (sw_xor _ _) (sw_and _ _) (sw_eq c) w (bits_any x) (bits_any y) C3 C4 (sign_any x hx.fx) (sign_any y hy.fx) C7 C8
    · have hm : z = x - y ∧ My (x - y) := by
        rcases hz with h | ⟨h1, h2⟩
        · exact h
        · simp at c
          omega
      rw [ov_in hm.2, oe_in hm.2, ← hm.1]
      rw [decide_eq_true d] at C8
      exact fsub_ok _ _ _ _ _ _ _ _ _ _ _ _ _ _ _ _ _ _ _ (sw_xor _ _) (sw_xor _ _) (sw_and _ _) (sw_eq c) w (bits_any x) (bits_any y) C3 C4 (sign_any x hx.fx) (sign_any y hy.fx) C7 C8
theorem icmp_fix (x y : Int) : orI (icmp (fh x) (fh y)) (icmp (fl x) (fl y)) = icmp x y := by
  unfold orI icmp fh fl
  repeat' split
  all_goals omega
theorem fcmp_any (x y : Int) (w : World) :
    Calls Try.prog 32 #[.agg #[.int .i64 (fh x), .int .u64 (fl x)], .agg #[.int .i64 (fh y), .int .u64 (fl y)]] w fun e w' => e = .returned (.int .i64 (icmp x y)) ∧ Below w.heap.size w w' := by
  rw [← icmp_fix]; exact fcmp_core _ _ _ _ w
end Go.Proofs.Ytgcblfaommhpbaa
namespace Go.Proofs.Ytgcblfaommhpbaa
open Go.RowKit

theorem abs_v2 {x : Int} (h : Fx x) : v2 (wd x.natAbs 1) (wd x.natAbs 0) = x.natAbs := by
  obtain ⟨_, _⟩ := h
  rw [v2_wd]; omega
theorem v4_of {n : Nat} (h : n < 115792089237316195423570985008687907853269984665640564039457584007913129639936) : v4 (wd n 3) (wd n 2) (wd n 1) (wd n 0) = n := v4_small h
theorem v4_lower {h l : Int} : v4 0 0 h l = v2 h l := by unfold v4; rw [v2_zero, Nat.zero_mul, Nat.zero_add]
theorem up_bit (n : Nat) : wd n 0 / 9223372036854775808 = ((n / 9223372036854775808 % 2 : Nat) : Int) := by
  rw [wd0]; omega
theorem up_round (n : Nat) : n / 18446744073709551616 + n / 9223372036854775808 % 2 = (n + 9223372036854775808) / 18446744073709551616 := by omega
theorem pow_64 : (2 : Nat) ^ (64 : Int).toNat = 18446744073709551616 := by decide
theorem pow_1 : (2 : Nat) ^ (1 : Int).toNat = 2 := by decide
theorem abs_lt {x : Int} (h : My x) : x.natAbs < 170141183460469231731687303715884105728 := by obtain ⟨_, _⟩ := h; omega
theorem fmul_any (x y : Int) (hx : My x) (hy : My y) (w : World) :
    Calls Try.prog 37 #[.agg #[.int .i64 (fh x), .int .u64 (fl x)], .agg #[.int .i64 (fh y), .int .u64 (fl y)]] w fun e w' => e = .returned (.tuple #[.agg #[.int .i64 (fh (ov (mulr x y))), .int .u64 (fl (ov (mulr x y)))], .int .i64 (oe (mulr x y))]) ∧ Below w.heap.size w w' := by
  have C3 := mul_any _ _ _ _ (wd_wd x.natAbs 1) (wd_wd x.natAbs 0) (wd_wd y.natAbs 1) (wd_wd y.natAbs 0)
  rw [abs_v2 hx.fx, abs_v2 hy.fx] at C3
  have hp : x.natAbs * y.natAbs < 115792089237316195423570985008687907853269984665640564039457584007913129639936 :=
    Nat.lt_of_le_of_lt (Nat.mul_le_mul (Nat.le_of_lt (abs_lt hx)) (Nat.le_of_lt (abs_lt hy))) (by decide)
  have C4 := shr_any _ _ _ _ 64 (wd_wd (x.natAbs * y.natAbs) 3) (wd_wd (x.natAbs * y.natAbs) 2) (wd_wd (x.natAbs * y.natAbs) 1) (wd_wd (x.natAbs * y.natAbs) 0) (by decide)
  rw [v4_of hp, pow_64] at C4
  have hs : mulr x y = sg (decide (x < 0) != decide (y < 0)) ((x.natAbs * y.natAbs / 18446744073709551616 + x.natAbs * y.natAbs / 9223372036854775808 % 2 : Nat) : Int) := by
    unfold mulr; rw [up_round]
  rw [hs]
  generalize x.natAbs * y.natAbs = n at *
  have C7 := nearest_any _ _ _ _ (n / 9223372036854775808 % 2) (decide (x < 0) != decide (y < 0)) (wd_wd (n / 18446744073709551616) 3) (wd_wd (n / 18446744073709551616) 2) (wd_wd (n / 18446744073709551616) 1) (wd_wd (n / 18446744073709551616) 0) (by omega)
  rw [v4_of (show n / 18446744073709551616 < _ from Nat.lt_of_le_of_lt (Nat.div_le_self _ _) hp)] at C7
  exact fmul_core _ _ _ _ _ _ _ _ _ _ _ _ _ _ _ _ _ _ _ _ _ _ _ (up_bit n) (sw_xor _ _) w (size_any x hx.fx) (size_any y hy.fx) C3 C4 (sign_any x hx.fx) (sign_any y hy.fx) C7
/-- The greatest number whose square is at most x. -/
def sqr (x : Int) : Int := ((isq (x.toNat * 18446744073709551616) : Nat) : Int)
theorem sqr_My {x : Int} (h : My x) : My (sqr x) := by
  obtain ⟨_, _⟩ := h
  have := isq_lt (n := x.toNat * 18446744073709551616) (k := 170141183460469231731687303715884105728) (by omega)
  unfold sqr; constructor <;> omega
theorem fsqrt_any (x : Int) (hx : My x) (h0 : 0 ≤ x) (w : World) :
    Calls Try.prog 46 #[.agg #[.int .i64 (fh x), .int .u64 (fl x)]] w fun e w' => e = .returned (.tuple #[.agg #[.int .i64 (fh (sqr x)), .int .u64 (fl (sqr x))], .int .i64 0]) ∧ Below w.heap.size w w' := by
  have C1 := sign_any x hx.fx
  rw [decide_eq_false (show ¬ x < 0 by omega), sw_false] at C1
  have z : Wd 0 := ⟨by omega, by omega⟩
  have C3 := shl_any 0 0 _ _ 64 z z (wd_wd (ub x) 1) (wd_wd (ub x) 0) (by decide)
  have hu : ub x = x.toNat := by obtain ⟨_, _⟩ := hx; unfold ub; omega
  rw [v4_lower, ub_v2, pow_64, hu] at C3
  have hb : x.toNat * 18446744073709551616 < 115792089237316195423570985008687907853269984665640564039457584007913129639936 := by obtain ⟨_, _⟩ := hx; omega
  have C4 := sqrt_any _ _ _ _ (wd_wd (x.toNat * 18446744073709551616) 3) (wd_wd (x.toNat * 18446744073709551616) 2) (wd_wd (x.toNat * 18446744073709551616) 1) (wd_wd (x.toNat * 18446744073709551616) 0)
  rw [v4_of hb] at C4
  exact fsqrt_ok _ _ _ _ _ _ _ _ _ _ _ _ w C1 (bits_any x) (by rw [hu]; exact C3) C4 (ofBits_any (sqr x) _ (sqr_My hx).fx (by unfold sqr; rfl))
theorem fsqrt_none (x : Int) (hx : My x) (h0 : x < 0) (w : World) :
    Calls Try.prog 46 #[.agg #[.int .i64 (fh x), .int .u64 (fl x)]] w fun e w' => e = .returned (.tuple #[.agg #[.int .i64 (fh 0), .int .u64 (fl 0)], .int .i64 1]) ∧ Below w.heap.size w w' := by
  have C1 := sign_any x hx.fx
  rw [decide_eq_true h0, sw_true] at C1
  exact fsqrt_below _ _ _ (by decide) w C1
theorem u64_and1 (x : Int) (h : Wd x) : bits .and .u64 x 1 = x % 2 := bits_mask .u64 64 (by decide) (fun n h0 h1 => IntWalk.u64_in n (by omega)) 1 (by decide) x h.1 h.2
theorem half_My {x : Int} (h : My x) : My (halfr x) := by
  have := abs_lt h
  unfold halfr; exact sg_small (by omega)
theorem fhalf_any (x : Int) (hx : My x) (w : World) :
    Calls Try.prog 49 #[.agg #[.int .i64 (fh x), .int .u64 (fl x)]] w fun e w' => e = .returned (.agg #[.int .i64 (fh (halfr x)), .int .u64 (fl (halfr x))]) ∧ Below w.heap.size w w' := by
  have hn := abs_lt hx
  have z : Wd 0 := ⟨by omega, by omega⟩
  have C2 := shr_any 0 0 _ _ 1 z z (wd_wd x.natAbs 1) (wd_wd x.natAbs 0) (by decide)
  rw [v4_lower, abs_v2 hx.fx, pow_1] at C2
  have e1 : bits .and .u64 (wd x.natAbs 0) 1 = ((x.natAbs % 2 : Nat) : Int) := by rw [u64_and1 _ (wd_wd _ _), wd0]; omega
  have C3 := add_any _ _ 0 ((x.natAbs % 2 : Nat) : Int) (wd_wd (x.natAbs / 2) 1) (wd_wd (x.natAbs / 2) 0) z ⟨by omega, by omega⟩
  have hv : v2 0 ((x.natAbs % 2 : Nat) : Int) = x.natAbs % 2 := by unfold v2; omega
  rw [v2_wd, Nat.mod_eq_of_lt (show x.natAbs / 2 < _ by omega), hv, show x.natAbs / 2 + x.natAbs % 2 = (x.natAbs + 1) / 2 by omega] at C3
  have C5 := turn_any _ _ (decide (x < 0)) (wd_wd ((x.natAbs + 1) / 2) 1) (wd_wd ((x.natAbs + 1) / 2) 0)
  rw [v2_wd, Nat.mod_eq_of_lt (show (x.natAbs + 1) / 2 < _ by omega)] at C5
  exact fhalf_core _ _ _ _ _ _ _ _ _ _ _ _ _ _ _ _ _ e1 w (size_any x hx.fx) C2 C3 (sign_any x hx.fx) C5 (ofBits_any (halfr x) _ (half_My hx).fx (tn_sg (by omega)))
theorem turnWord_any (n : Nat) (s : Bool) (h : n < 9223372036854775808) (w : World) :
    Calls Try.prog 97 #[.int .u64 (n : Int), .int .u64 (sw s)] w fun e w' => e = .returned (.int .u64 (sg s n % 18446744073709551616)) ∧ Below w.heap.size w w' := by
  have hw : Wd (n : Int) := ⟨by omega, by omega⟩
  cases s with
  | false => exact turnWord_core _ _ _ _ (xor_zero hw) (by rw [wrap_u64]; unfold sg; simp) w
  | true => exact turnWord_core _ _ _ _ (xor_ones hw) (by rw [wrap_u64]; unfold sg; simp; omega) w
theorem rnd_wrap (s : Bool) (n : Nat) (h : n < 9223372036854775808) : wrap64 (sg s n % 18446744073709551616) = sg s n := by
  unfold wrap64 sg; cases s <;> simp <;> omega
theorem fround_any (x : Int) (hx : My x) (w : World) :
    Calls Try.prog 52 #[.agg #[.int .i64 (fh x), .int .u64 (fl x)]] w fun e w' => e = .returned (.int .i64 (rndr x)) ∧ Below w.heap.size w w' := by
  have hn := abs_lt hx
  have e1 : wd x.natAbs 0 / 9223372036854775808 = ((x.natAbs / 9223372036854775808 % 2 : Nat) : Int) := up_bit _
  have e2 : IntKind.u64.wrap (wd x.natAbs 1 + ((x.natAbs / 9223372036854775808 % 2 : Nat) : Int)) = (((x.natAbs + 9223372036854775808) / 18446744073709551616 : Nat) : Int) := by
    rw [wrap_u64, wd1]; omega
  unfold rndr
  generalize hk : (x.natAbs + 9223372036854775808) / 18446744073709551616 = k at *
  by_cases c : k ≤ 9223372036854775807
  · have hm : min k 9223372036854775807 = k := by omega
    rw [hm]
    exact fround_low _ _ _ _ _ _ _ _ _ e1 e2 (by omega) (by omega) (rnd_wrap (decide (x < 0)) k (by omega)) w (size_any x hx.fx) (sign_any x hx.fx) (turnWord_any k _ (by omega))
  · have hm : min k 9223372036854775807 = 9223372036854775807 := by omega
    rw [hm]
    exact fround_high _ _ _ _ _ _ _ _ _ e1 e2 (by omega) (rnd_wrap (decide (x < 0)) 9223372036854775807 (by decide)) w (size_any x hx.fx) (sign_any x hx.fx) (turnWord_any 9223372036854775807 _ (by decide))
end Go.Proofs.Ytgcblfaommhpbaa
namespace Go.Proofs.Ytgcblfaommhpbaa
open Go.RowKit

theorem div_round {N d : Nat} (hd : d ≠ 0) : (N * 2 + d) / (2 * d) = N / d + (if d ≤ N % d * 2 then 1 else 0) := by
  have e := Nat.div_add_mod N d
  have hr := Nat.mod_lt N (show 0 < d by omega)
  generalize N / d = q at *
  generalize N % d = r at *
  have h1 : N * 2 + d = 2 * d * q + (r * 2 + d) := by rw [← e, Nat.mul_assoc]; omega
  rw [h1, Nat.mul_add_div (by omega)]
  congr 1
  by_cases c : d ≤ r * 2
  · rw [if_pos c]; exact Nat.div_eq_of_lt_le (by omega) (by omega)
  · rw [if_neg c]; exact Nat.div_eq_of_lt (by omega)
theorem icmp_ge {a b : Nat} : 0 ≤ icmp (a : Int) (b : Int) ↔ b ≤ a := by
  unfold icmp; repeat' split
  all_goals omega
theorem fdiv_any (x y : Int) (hx : My x) (hy : My y) (h0 : y ≠ 0) (w : World) :
    Calls Try.prog 38 #[.agg #[.int .i64 (fh x), .int .u64 (fl x)], .agg #[.int .i64 (fh y), .int .u64 (fl y)]] w fun e w' => e = .returned (.tuple #[.agg #[.int .i64 (fh (ov (divr x y))), .int .u64 (fl (ov (divr x y)))], .int .i64 (oe (divr x y))]) ∧ Below w.heap.size w w' := by
  have z : Wd 0 := ⟨by omega, by omega⟩
  have ax := abs_lt hx
  have ay := abs_lt hy
  have hd : y.natAbs ≠ 0 := by omega
  have C3 := shl_any 0 0 _ _ 64 z z (wd_wd x.natAbs 1) (wd_wd x.natAbs 0) (by decide)
  rw [v4_lower, abs_v2 hx.fx, pow_64] at C3
  have C4 := div_any _ _ _ _ _ _ (wd_wd (x.natAbs * 18446744073709551616) 3) (wd_wd (x.natAbs * 18446744073709551616) 2) (wd_wd (x.natAbs * 18446744073709551616) 1) (wd_wd (x.natAbs * 18446744073709551616) 0) (wd_wd y.natAbs 1) (wd_wd y.natAbs 0) (by rw [abs_v2 hy.fx]; exact hd)
  have hN : x.natAbs * 18446744073709551616 < 115792089237316195423570985008687907853269984665640564039457584007913129639936 := by omega
  rw [v4_of hN, abs_v2 hy.fx] at C4
  have hs : divr x y = sg (decide (x < 0) != decide (y < 0)) ((x.natAbs * 18446744073709551616 / y.natAbs + (if y.natAbs ≤ x.natAbs * 18446744073709551616 % y.natAbs * 2 then 1 else 0) : Nat) : Int) := by
    unfold divr
    rw [show x.natAbs * 36893488147419103232 = x.natAbs * 18446744073709551616 * 2 by omega, div_round hd]
  rw [hs]
  have C1 := size_any y hy.fx
  have B := abs_v2 hy.fx
  generalize x.natAbs * 18446744073709551616 = N at *
  have hR := Nat.mod_lt N (show 0 < y.natAbs by omega)
  have hQ := Nat.lt_of_le_of_lt (Nat.div_le_self N y.natAbs) hN
  generalize y.natAbs = d at *
  generalize N / d = Q at *
  generalize N % d = R at *
  have C5 := shl_any 0 0 _ _ 1 z z (wd_wd R 1) (wd_wd R 0) (by decide)
  rw [v4_lower, v2_wd, Nat.mod_eq_of_lt (show R < _ by omega), pow_1] at C5
  have C6 := cmp_any _ _ _ _ 0 0 _ _ (wd_wd (R * 2) 3) (wd_wd (R * 2) 2) (wd_wd (R * 2) 1) (wd_wd (R * 2) 0) z z (wd_wd d 1) (wd_wd d 0)
  rw [v4_of (show R * 2 < _ by omega), v4_lower, B] at C6
  have C9 := nearest_any _ _ _ _ (if d ≤ R * 2 then 1 else 0) (decide (x < 0) != decide (y < 0)) (wd_wd Q 3) (wd_wd Q 2) (wd_wd Q 1) (wd_wd Q 0) (by split <;> omega)
  rw [v4_of hQ] at C9
  refine fdiv_core _ _ _ _ _ _ _ _ _ _ _ _ _ _ _ _ _ _ _ _ _ _ _ _ _ _ _ _ _ _ _ _ _ true (sw_xor _ _) ?_ (Or.inr ⟨rfl, rfl, rfl, rfl⟩) w C1 (size_any x hx.fx) C3 C4 C5 C6 (sign_any x hx.fx) (sign_any y hy.fx) C9
  by_cases c : d ≤ R * 2
  · exact Or.inl ⟨icmp_ge.2 c, by rw [if_pos c]; rfl⟩
  · exact Or.inr ⟨fun h => c (icmp_ge.1 h), by rw [if_neg c]; rfl⟩
theorem fdiv_none (x : Int) (hx : My x) (w : World) :
    Calls Try.prog 38 #[.agg #[.int .i64 (fh x), .int .u64 (fl x)], .agg #[.int .i64 0, .int .u64 0]] w fun e w' => e = .returned (.tuple #[.agg #[.int .i64 0, .int .u64 0], .int .i64 2]) ∧ Below w.heap.size w w' := by
  have z : Wd 0 := ⟨by omega, by omega⟩
  have h0 : Fx 0 := ⟨by decide, by decide⟩
  have C3 := shl_any 0 0 _ _ 64 z z (wd_wd x.natAbs 1) (wd_wd x.natAbs 0) (by decide)
  have C1 := size_any 0 h0
  have S := sign_any 0 h0
  rw [fh_zero, fl_zero] at C1 S
  rw [show wd (0 : Int).natAbs 1 = 0 from rfl, show wd (0 : Int).natAbs 0 = 0 from rfl] at C1
  have C5 := shl_any 0 0 0 0 1 z z z z (by decide)
  have C6 := cmp_any _ _ _ _ 0 0 0 0 (wd_wd (v4 0 0 0 0 * 2 ^ (1 : Int).toNat) 3) (wd_wd (v4 0 0 0 0 * 2 ^ (1 : Int).toNat) 2) (wd_wd (v4 0 0 0 0 * 2 ^ (1 : Int).toNat) 1) (wd_wd (v4 0 0 0 0 * 2 ^ (1 : Int).toNat) 0) z z z z
  have C9 := nearest_any 0 0 0 0 (if v4 0 0 0 0 ≤ v4 (wd (v4 0 0 0 0 * 2 ^ (1 : Int).toNat) 3) (wd (v4 0 0 0 0 * 2 ^ (1 : Int).toNat) 2) (wd (v4 0 0 0 0 * 2 ^ (1 : Int).toNat) 1) (wd (v4 0 0 0 0 * 2 ^ (1 : Int).toNat) 0) then 1 else 0) (decide (x < 0) != decide ((0 : Int) < 0)) z z z z (by split <;> omega)
  refine fdiv_core _ _ _ _ _ _ _ _ _ _ _ _ _ _ _ _ _ _ _ _ _ _ _ _ _ _ _ _ _ _ _ _ _ false (sw_xor _ _) ?_ (Or.inl ⟨rfl, rfl, rfl, rfl⟩) w C1 (size_any x hx.fx) C3 (div_zero _ _ _ _) C5 C6 (sign_any x hx.fx) S C9
  by_cases c : v4 0 0 0 0 ≤ v4 (wd (v4 0 0 0 0 * 2 ^ (1 : Int).toNat) 3) (wd (v4 0 0 0 0 * 2 ^ (1 : Int).toNat) 2) (wd (v4 0 0 0 0 * 2 ^ (1 : Int).toNat) 1) (wd (v4 0 0 0 0 * 2 ^ (1 : Int).toNat) 0)
  · exact Or.inl ⟨icmp_ge.2 c, by rw [if_pos c]; rfl⟩
  · exact Or.inr ⟨fun h => c (icmp_ge.1 h), by rw [if_neg c]; rfl⟩
end Go.Proofs.Ytgcblfaommhpbaa
namespace Go.Proofs.Ytgcblfaommhpbaa
open Go.RowKit

set_option maxRecDepth 20000 in
set_option maxHeartbeats 4000000 in
theorem fawake_core (o1 o0 t1 t0 g1 g0 m1 m0 : Int) (q1 : ∀ W, (Go.binOp .eql 44 (.agg #[.int .i64 g1, .int .u64 g0]) (.agg #[.int .i64 0, .int .u64 6148914691236517205])).run Try.prog W = .ok (.bool true) W) (q2 : ∀ W, (Go.binOp .eql 44 (.agg #[.int .i64 m1, .int .u64 m0]) (.agg #[.int .i64 (-2), .int .u64 0])).run Try.prog W = .ok (.bool true) W) (w : World)
    (C1 : ∀ W, Calls Try.prog 44 #[.int .i64 1] W fun e w' => e = .returned (.agg #[.int .i64 o1, .int .u64 o0]) ∧ Below W.heap.size W w')
    (C2 : ∀ W, Calls Try.prog 44 #[.int .i64 3] W fun e w' => e = .returned (.agg #[.int .i64 t1, .int .u64 t0]) ∧ Below W.heap.size W w')
    (C3 : ∀ W, Calls Try.prog 38 #[.agg #[.int .i64 o1, .int .u64 o0], .agg #[.int .i64 t1, .int .u64 t0]] W fun e w' => e = .returned (.tuple #[.agg #[.int .i64 g1, .int .u64 g0], .int .i64 0]) ∧ Below W.heap.size W w')
    (C4 : ∀ W, Calls Try.prog 56 #[.int .i64 0] W fun e w' => e = .returned (.int .i64 0) ∧ Below W.heap.size W w')
    (C5 : ∀ W, Calls Try.prog 44 #[.int .i64 (-2)] W fun e w' => e = .returned (.agg #[.int .i64 m1, .int .u64 m0]) ∧ Below W.heap.size W w')
    (C6 : ∀ W, Calls Try.prog 30 #[.agg #[.int .i64 (-9223372036854775808), .int .u64 0]] W fun e w' => e = .returned (.bool false) ∧ Below W.heap.size W w') :
    Calls Try.prog 34 #[] w fun e w' => e = .returned (.bool true) ∧ Below w.heap.size w w' := by
  have K1 := Lib.hid C1; have K2 := Lib.hid C2; have K3 := Lib.hid C3; have K4 := Lib.hid C4; have K5 := Lib.hid C5; have K6 := Lib.hid C6
  clear C1 C2 C3 C4 C5 C6
  go_enter Try.func34, Try.ntmps34
  go_wp2_with fail
  (with_reducible refine (K1.out _).mono ?_); rintro e w1 ⟨rfl, hb⟩; obtain ⟨hclw1, hfrw1⟩ := bcell hb; (try have sw1_0 : w.heap.size < w1.heap.size := (by first | omega | (have hz := hb.size; (try simp at hz); omega))); (try have syw1_0 : w.heap.size < w1.heap.size + 1 := (by omega)); (try have stw1_0 : w.heap.size + 1 < w1.heap.size := (by first | omega | (have hz := hb.size; (try simp at hz); omega))); have sxw1_0 : w.heap.size ≤ w1.heap.size := (by first | omega | (have hz := hb.size; (try simp at hz); omega)); have HBw1 : Hid (Below w.heap.size w w1) := (bl_trans (by repeat (first | with_reducible exact Below.refl _ _ | with_reducible exact Hid.out (by assumption) | with_reducible refine Below.setCell ?_ (by first | (simp; done) | omega | (simp <;> omega)) _ | with_reducible refine bl_al ?_ _ | with_reducible apply Below.drew)) hb); clear hb
  go_wp2_with fail
  (with_reducible refine (K2.out _).mono ?_); rintro e w2 ⟨rfl, hb⟩; obtain ⟨hclw2, hfrw2⟩ := bcell hb; (try have sw2_0 : w1.heap.size < w2.heap.size := (by first | omega | (have hz := hb.size; (try simp at hz); omega))); (try have syw2_0 : w1.heap.size < w2.heap.size + 1 := (by omega)); (try have stw2_0 : w1.heap.size + 1 < w2.heap.size := (by first | omega | (have hz := hb.size; (try simp at hz); omega))); have sxw2_0 : w1.heap.size ≤ w2.heap.size := (by first | omega | (have hz := hb.size; (try simp at hz); omega)); have HBw2 : Hid (Below w.heap.size w w2) := (bl_trans (by repeat (first | with_reducible exact Below.refl _ _ | with_reducible exact Hid.out (by assumption) | with_reducible refine Below.setCell ?_ (by first | (simp; done) | omega | (simp <;> omega)) _ | with_reducible refine bl_al ?_ _ | with_reducible apply Below.drew)) hb); clear hb
  go_wp2_with fail
  (with_reducible refine (K3.out _).mono ?_); rintro e w3 ⟨rfl, hb⟩; obtain ⟨hclw3, hfrw3⟩ := bcell hb; (try have sw3_0 : w2.heap.size < w3.heap.size := (by first | omega | (have hz := hb.size; (try simp at hz); omega))); (try have syw3_0 : w2.heap.size < w3.heap.size + 1 := (by omega)); (try have stw3_0 : w2.heap.size + 1 < w3.heap.size := (by first | omega | (have hz := hb.size; (try simp at hz); omega))); have sxw3_0 : w2.heap.size ≤ w3.heap.size := (by first | omega | (have hz := hb.size; (try simp at hz); omega)); have HBw3 : Hid (Below w.heap.size w w3) := (bl_trans (by repeat (first | with_reducible exact Below.refl _ _ | with_reducible exact Hid.out (by assumption) | with_reducible refine Below.setCell ?_ (by first | (simp; done) | omega | (simp <;> omega)) _ | with_reducible refine bl_al ?_ _ | with_reducible apply Below.drew)) hb); clear hb
  go_wp2_with fail
  (with_reducible refine (K4.out _).mono ?_); rintro e w4 ⟨rfl, hb⟩; obtain ⟨hclw4, hfrw4⟩ := bcell hb; have zw4_a : w3.heap.size < w4.heap.size := (by first | omega | (have hz := hb.size; (try simp at hz); omega)); have yw4_a : w3.heap.size < w4.heap.size + 1 := (by omega); have yyw4_a : w3.heap.size < w4.heap.size + 1 + 1 := (by omega); (try have sw4_0 : w3.heap.size + 1 < w4.heap.size := (by first | omega | (have hz := hb.size; (try simp at hz); omega))); (try have syw4_0 : w3.heap.size + 1 < w4.heap.size + 1 := (by omega)); (try have stw4_0 : w3.heap.size + 1 + 1 < w4.heap.size := (by first | omega | (have hz := hb.size; (try simp at hz); omega))); have sxw4_0 : w3.heap.size + 1 ≤ w4.heap.size := (by first | omega | (have hz := hb.size; (try simp at hz); omega)); have HBw4 : Hid (Below w.heap.size w w4) := (bl_trans (by repeat (first | with_reducible exact Below.refl _ _ | with_reducible exact Hid.out (by assumption) | with_reducible refine Below.setCell ?_ (by first | (simp; done) | omega | (simp <;> omega)) _ | with_reducible refine bl_al ?_ _ | with_reducible apply Below.drew)) hb); clear hb
  go_wp2_with fail
  (with_reducible refine (K5.out _).mono ?_); rintro e w5 ⟨rfl, hb⟩; obtain ⟨hclw5, hfrw5⟩ := bcell hb; have zw5_a : w3.heap.size < w5.heap.size := (by first | omega | (have hz := hb.size; (try simp at hz); omega)); have yw5_a : w3.heap.size < w5.heap.size + 1 := (by omega); have yyw5_a : w3.heap.size < w5.heap.size + 1 + 1 := (by omega); (try have sw5_0 : w4.heap.size < w5.heap.size := (by first | omega | (have hz := hb.size; (try simp at hz); omega))); (try have syw5_0 : w4.heap.size < w5.heap.size + 1 := (by omega)); (try have stw5_0 : w4.heap.size + 1 < w5.heap.size := (by first | omega | (have hz := hb.size; (try simp at hz); omega))); have sxw5_0 : w4.heap.size ≤ w5.heap.size := (by first | omega | (have hz := hb.size; (try simp at hz); omega)); have HBw5 : Hid (Below w.heap.size w w5) := (bl_trans (by repeat (first | with_reducible exact Below.refl _ _ | with_reducible exact Hid.out (by assumption) | with_reducible refine Below.setCell ?_ (by first | (simp; done) | omega | (simp <;> omega)) _ | with_reducible refine bl_al ?_ _ | with_reducible apply Below.drew)) hb); clear hb
  go_wp2_with fail
  (with_reducible refine (K6.out _).mono ?_); rintro e w6 ⟨rfl, hb⟩; obtain ⟨hclw6, hfrw6⟩ := bcell hb; have zw6_a : w3.heap.size < w6.heap.size := (by first | omega | (have hz := hb.size; (try simp at hz); omega)); have yw6_a : w3.heap.size < w6.heap.size + 1 := (by omega); have yyw6_a : w3.heap.size < w6.heap.size + 1 + 1 := (by omega); (try have sw6_0 : w5.heap.size < w6.heap.size := (by first | omega | (have hz := hb.size; (try simp at hz); omega))); (try have syw6_0 : w5.heap.size < w6.heap.size + 1 := (by omega)); (try have stw6_0 : w5.heap.size + 1 < w6.heap.size := (by first | omega | (have hz := hb.size; (try simp at hz); omega))); have sxw6_0 : w5.heap.size ≤ w6.heap.size := (by first | omega | (have hz := hb.size; (try simp at hz); omega)); have HBw6 : Hid (Below w.heap.size w w6) := (bl_trans (by repeat (first | with_reducible exact Below.refl _ _ | with_reducible exact Hid.out (by assumption) | with_reducible refine Below.setCell ?_ (by first | (simp; done) | omega | (simp <;> omega)) _ | with_reducible refine bl_al ?_ _ | with_reducible apply Below.drew)) hb); clear hb
  go_wp2_with fail
  go_returns
  exact ⟨rfl, by repeat (first | with_reducible exact Below.refl _ _ | with_reducible exact Hid.out (by assumption) | with_reducible refine Below.setCell ?_ (by first | (simp; done) | omega | (simp <;> omega)) _ | with_reducible refine bl_al ?_ _ | with_reducible apply Below.drew)⟩
theorem fawake_true (w : World) : Calls Try.prog 34 #[] w fun e w' => e = .returned (.bool true) ∧ Below w.heap.size w w' := by
  have i1 : intr 1 = 18446744073709551616 := by decide
  have i3 : intr 3 = 55340232221128654848 := by decide
  have C3 := fdiv_any (intr 1) (intr 3) (by rw [i1]; exact ⟨by decide, by decide⟩) (by rw [i3]; exact ⟨by decide, by decide⟩) (by rw [i3]; decide)
  have d : divr (intr 1) (intr 3) = 6148914691236517205 := by rw [i1, i3]; decide
  have m : My 6148914691236517205 := ⟨by decide, by decide⟩
  rw [d, ov_in m, oe_in m] at C3
  have C6 := may_any (-170141183460469231731687303715884105728)
  rw [show fh (-170141183460469231731687303715884105728) = -9223372036854775808 by decide, show fl (-170141183460469231731687303715884105728) = 0 by decide, decide_eq_false (by decide)] at C6
  refine fawake_core _ _ _ _ _ _ _ _ ?_ ?_ w (int_any 1) (int_any 3) C3 (num_any 0) (int_any (-2)) C6
  · rw [show fh 6148914691236517205 = 0 by decide, show fl 6148914691236517205 = 6148914691236517205 by decide]; exact eq_fix_true _ _
  · rw [show fh (intr (-2)) = -2 by decide, show fl (intr (-2)) = 0 by decide]; exact eq_fix_true _ _
end Go.Proofs.Ytgcblfaommhpbaa
namespace Go.Proofs.Ytgcblfaommhpbaa
open Go.RowKit

set_option maxRecDepth 20000 in
set_option maxHeartbeats 8000000 in
theorem rhalf_core (h l d1 d0 m1 m0 t3 t2 t1 t0 g1 g0 k : Int) (c b : Bool) (hb : decide (h < 0) = b) (w : World)
    (C1 : ∀ W, Calls Try.prog 57 #[.agg #[.int .i64 h, .int .u64 l]] W fun e w' => e = .returned (.agg #[.int .u64 d1, .int .u64 d0]) ∧ Below W.heap.size W w')
    (C2 : ∀ W, Calls Try.prog 58 #[.agg #[.int .u64 d1, .int .u64 d0], .agg #[.int .u64 0, .int .u64 1]] W fun e w' => e = .returned (.agg #[.int .u64 m1, .int .u64 m0, .bool c]) ∧ Below W.heap.size W w')
    (C3 : ∀ W, Calls Try.prog 22 #[.agg #[.int .u64 0, .int .u64 0, .int .u64 m1, .int .u64 m0], .int .i64 1] W fun e w' => e = .returned (.agg #[.int .u64 t3, .int .u64 t2, .int .u64 t1, .int .u64 t0]) ∧ Below W.heap.size W w')
    (C4 : ∀ W, Calls Try.prog 95 #[.bool b, .agg #[.int .u64 t3, .int .u64 t2, .int .u64 t1, .int .u64 t0]] W fun e w' => e = .returned (.agg #[.int .i64 g1, .int .u64 g0, .int .i64 k]) ∧ Below W.heap.size W w') :
    Calls Try.prog 50 #[.agg #[.int .i64 h, .int .u64 l]] w fun e w' => e = .returned (.agg #[.int .i64 g1, .int .u64 g0]) ∧ Below w.heap.size w w' := by
  have K1 := Lib.hid C1; have K2 := Lib.hid C2; have K3 := Lib.hid C3; have K4 := Lib.hid C4
  clear C1 C2 C3 C4
  have fld := field_sum; have fld2 := field_got
  go_enter Try.func50, Try.ntmps50
  go_upto_region 1 with fail
  refine name_world (P := fun W => Code.wp _ _ _ _ W) _ (fun R1 hR1 => ?_)
  have zR1_a : w.heap.size < R1.heap.size := by rw [hR1]; first | omega | (simp <;> omega)
  have yR1_a : w.heap.size < R1.heap.size + 1 := by omega
  have yyR1_a : w.heap.size < R1.heap.size + 1 + 1 := by omega
  have cR1_a_0 : R1.cell? ⟨w.heap.size, 0, none⟩ = some (.int .i64 h) := by rw [hR1]; first | assumption | (simp [go_sem, *]; done)
  have cR1_a_1 : R1.cell? ⟨w.heap.size, 1, none⟩ = some (.int .u64 l) := by rw [hR1]; first | assumption | (simp [go_sem, *]; done)
  have zR1_r : w.heap.size + 1 < R1.heap.size := by rw [hR1]; first | omega | (simp <;> omega)
  have yR1_r : w.heap.size + 1 < R1.heap.size + 1 := by omega
  have yyR1_r : w.heap.size + 1 < R1.heap.size + 1 + 1 := by omega
  have cR1_r_0 : R1.cell? ⟨w.heap.size + 1, 0, none⟩ = some (.int .i64 0) := by rw [hR1]; first | assumption | (simp [go_sem, *]; done)
  have cR1_r_1 : R1.cell? ⟨w.heap.size + 1, 1, none⟩ = some (.int .u64 0) := by rw [hR1]; first | assumption | (simp [go_sem, *]; done)
  have fR1_r : ∀ j, R1.frozen? ⟨w.heap.size + 1, j, none⟩ = false := fun j => by rw [hR1]; first | (simp [go_sem, *]; done) | (simp only [frozen?_alloc_cells]; rw [hfrw0 _ _ (by first | omega | (simp <;> omega))]; simp [frozen?_alloc_cells, World.frozen?]; done) | (simp [frozen?_alloc_cells, World.frozen?, *]; done)
  have lo_r : w.heap.size ≤ w.heap.size + 1 := by omega
  have na_r_a : ¬ (w.heap.size + 1 = w.heap.size) := by omega
  have nb_r_a : ¬ (w.heap.size = w.heap.size + 1) := by omega
  have HBR1 : Hid (Below w.heap.size w R1) := by rw [hR1]; show Below _ _ _; exact (by repeat (first | with_reducible exact Below.refl _ _ | with_reducible exact Hid.out (by assumption) | with_reducible refine Below.setCell ?_ (by first | (simp; done) | omega | (simp <;> omega)) _ | with_reducible refine bl_al ?_ _ | with_reducible apply Below.drew))
  clear hR1
  go_wp2_with fail
  (with_reducible refine (K1.out _).mono ?_); rintro e w1 ⟨rfl, hb⟩; obtain ⟨hclw1, hfrw1⟩ := bcell hb; have zw1_a : w.heap.size < w1.heap.size := (by first | omega | (have hz := hb.size; (try simp at hz); omega)); have yw1_a : w.heap.size < w1.heap.size + 1 := (by omega); have yyw1_a : w.heap.size < w1.heap.size + 1 + 1 := (by omega); have zw1_r : w.heap.size + 1 < w1.heap.size := (by first | omega | (have hz := hb.size; (try simp at hz); omega)); have yw1_r : w.heap.size + 1 < w1.heap.size + 1 := (by omega); have yyw1_r : w.heap.size + 1 < w1.heap.size + 1 + 1 := (by omega); have sxw1_0 : R1.heap.size ≤ w1.heap.size := (by first | omega | (have hz := hb.size; (try simp at hz); omega)); have HBw1 : Hid (Below w.heap.size w w1) := (bl_trans (by repeat (first | with_reducible exact Below.refl _ _ | with_reducible exact Hid.out (by assumption) | with_reducible refine Below.setCell ?_ (by first | (simp; done) | omega | (simp <;> omega)) _ | with_reducible refine bl_al ?_ _ | with_reducible apply Below.drew)) hb); clear hb
  have fw1_r : ∀ j, w1.frozen? ⟨w.heap.size + 1, j, none⟩ = false := fun j => by rw [hfrw1 _ _ (by first | exact zR1_r | (simp; exact zR1_r))]; exact fR1_r j
  go_wp2_with fail
  (with_reducible refine (K2.out _).mono ?_); rintro e w2 ⟨rfl, hb⟩; obtain ⟨hclw2, hfrw2⟩ := bcell hb; have zw2_a : w.heap.size < w2.heap.size := (by first | omega | (have hz := hb.size; (try simp at hz); omega)); have yw2_a : w.heap.size < w2.heap.size + 1 := (by omega); have yyw2_a : w.heap.size < w2.heap.size + 1 + 1 := (by omega); have zw2_r : w.heap.size + 1 < w2.heap.size := (by first | omega | (have hz := hb.size; (try simp at hz); omega)); have yw2_r : w.heap.size + 1 < w2.heap.size + 1 := (by omega); have yyw2_r : w.heap.size + 1 < w2.heap.size + 1 + 1 := (by omega); have sxw2_0 : w1.heap.size ≤ w2.heap.size := (by first | omega | (have hz := hb.size; (try simp at hz); omega)); have HBw2 : Hid (Below w.heap.size w w2) := (bl_trans (by repeat (first | with_reducible exact Below.refl _ _ | with_reducible exact Hid.out (by assumption) | with_reducible refine Below.setCell ?_ (by first | (simp; done) | omega | (simp <;> omega)) _ | with_reducible refine bl_al ?_ _ | with_reducible apply Below.drew)) hb); clear hb
  go_upto_region 2 with fail
  refine name_world (P := fun W => Code.wp _ _ _ _ W) _ (fun R2 hR2 => ?_)
  have zR2_a : w.heap.size < R2.heap.size := by rw [hR2]; first | omega | (simp <;> omega)
  have yR2_a : w.heap.size < R2.heap.size + 1 := by omega
  have yyR2_a : w.heap.size < R2.heap.size + 1 + 1 := by omega
  have cR2_a_0 : R2.cell? ⟨w.heap.size, 0, none⟩ = some (.int .i64 h) := by rw [hR2]; first | assumption | (simp [go_sem, *]; done)
  have cR2_a_1 : R2.cell? ⟨w.heap.size, 1, none⟩ = some (.int .u64 l) := by rw [hR2]; first | assumption | (simp [go_sem, *]; done)
  have zR2_r : w.heap.size + 1 < R2.heap.size := by rw [hR2]; first | omega | (simp <;> omega)
  have yR2_r : w.heap.size + 1 < R2.heap.size + 1 := by omega
  have yyR2_r : w.heap.size + 1 < R2.heap.size + 1 + 1 := by omega
  have cR2_r_0 : R2.cell? ⟨w.heap.size + 1, 0, none⟩ = some (.int .i64 0) := by rw [hR2]; first | assumption | (simp [go_sem, *]; done)
  have cR2_r_1 : R2.cell? ⟨w.heap.size + 1, 1, none⟩ = some (.int .u64 0) := by rw [hR2]; first | assumption | (simp [go_sem, *]; done)
  have fR2_r : ∀ j, R2.frozen? ⟨w.heap.size + 1, j, none⟩ = false := fun j => by rw [hR2]; first | (simp [go_sem, *]; done) | (simp only [frozen?_alloc_cells]; rw [hfrw2 _ _ (by first | omega | (simp <;> omega))]; simp [frozen?_alloc_cells, World.frozen?]; done) | (simp [frozen?_alloc_cells, World.frozen?, *]; done)
  have zR2_m : w2.heap.size < R2.heap.size := by rw [hR2]; first | omega | (simp <;> omega)
  have yR2_m : w2.heap.size < R2.heap.size + 1 := by omega
  have yyR2_m : w2.heap.size < R2.heap.size + 1 + 1 := by omega
  have cR2_m_0 : R2.cell? ⟨w2.heap.size, 0, none⟩ = some (.int .u64 m1) := by rw [hR2]; first | assumption | (simp [go_sem, *]; done)
  have cR2_m_1 : R2.cell? ⟨w2.heap.size, 1, none⟩ = some (.int .u64 m0) := by rw [hR2]; first | assumption | (simp [go_sem, *]; done)
  have na_r_m : ¬ (w.heap.size + 1 = w2.heap.size) := by omega
  have nb_r_m : ¬ (w2.heap.size = w.heap.size + 1) := by omega
  have HBR2 : Hid (Below w.heap.size w R2) := by rw [hR2]; show Below _ _ _; exact (by repeat (first | with_reducible exact Below.refl _ _ | with_reducible exact Hid.out (by assumption) | with_reducible refine Below.setCell ?_ (by first | (simp; done) | omega | (simp <;> omega)) _ | with_reducible refine bl_al ?_ _ | with_reducible apply Below.drew))
  clear hR2
  clear zR1_a yR1_a yyR1_a cR1_a_0 cR1_a_1 zR1_r yR1_r yyR1_r cR1_r_0 cR1_r_1 fR1_r HBR1 zw1_a yw1_a yyw1_a zw1_r yw1_r yyw1_r sxw1_0 hclw1 hfrw1 HBw1 fw1_r zw2_a yw2_a yyw2_a zw2_r yw2_r yyw2_r sxw2_0 hclw2 hfrw2 HBw2
  go_region_held3 (fun w' => w'.cell? ⟨w.heap.size, 0, none⟩ = some (.int .i64 h) ∧ w'.cell? ⟨w.heap.size, 1, none⟩ = some (.int .u64 l) ∧ w'.cell? ⟨w2.heap.size, 0, none⟩ = some (.int .u64 m1) ∧ w'.cell? ⟨w2.heap.size, 1, none⟩ = some (.int .u64 m0)) (first | (simp [*, go_sem]; done) | (simp [*, go_sem, World.cell?_alloc_past]; done))
    (first
      | (go_at_call 22; (with_reducible refine (K3.out _).mono ?_); rintro e w3 ⟨rfl, hb⟩; (first | (with_reducible (obtain ⟨hclw3, hfrw3⟩ := bcell_drew hb)) | (obtain ⟨hclw3, hfrw3⟩ := bcell hb)); have zw3_a : w.heap.size < w3.heap.size := (by first | omega | (have hz := hb.size; (try simp at hz); omega)); have yw3_a : w.heap.size < w3.heap.size + 1 := (by omega); have yyw3_a : w.heap.size < w3.heap.size + 1 + 1 := (by omega); have zw3_r : w.heap.size + 1 < w3.heap.size := (by first | omega | (have hz := hb.size; (try simp at hz); omega)); have yw3_r : w.heap.size + 1 < w3.heap.size + 1 := (by omega); have yyw3_r : w.heap.size + 1 < w3.heap.size + 1 + 1 := (by omega); have zw3_m : w2.heap.size < w3.heap.size := (by first | omega | (have hz := hb.size; (try simp at hz); omega)); have yw3_m : w2.heap.size < w3.heap.size + 1 := (by omega); have yyw3_m : w2.heap.size < w3.heap.size + 1 + 1 := (by omega); have sxw3_0 : R2.heap.size ≤ w3.heap.size := (by first | omega | (have hz := hb.size; (try simp at hz); omega)); have HBw3 : Hid (Below w.heap.size w w3) := (bl_trans (by repeat (first | with_reducible exact Below.refl _ _ | with_reducible exact Hid.out (by assumption) | with_reducible refine Below.setCell ?_ (by first | (simp; done) | omega | (simp <;> omega)) _ | with_reducible refine bl_al ?_ _ | with_reducible apply Below.drew)) hb); clear hb; clear K3)
      | (go_at_call 95; (with_reducible refine (K4.out _).mono ?_); rintro e w4 ⟨rfl, hb⟩; obtain ⟨hclw4, hfrw4⟩ := bcell hb; have zw4_a : w.heap.size < w4.heap.size := (by first | omega | (have hz := hb.size; (try simp at hz); omega)); have yw4_a : w.heap.size < w4.heap.size + 1 := (by omega); have yyw4_a : w.heap.size < w4.heap.size + 1 + 1 := (by omega); have zw4_r : w.heap.size + 1 < w4.heap.size := (by first | omega | (have hz := hb.size; (try simp at hz); omega)); have yw4_r : w.heap.size + 1 < w4.heap.size + 1 := (by omega); have yyw4_r : w.heap.size + 1 < w4.heap.size + 1 + 1 := (by omega); have zw4_m : w2.heap.size < w4.heap.size := (by first | omega | (have hz := hb.size; (try simp at hz); omega)); have yw4_m : w2.heap.size < w4.heap.size + 1 := (by omega); have yyw4_m : w2.heap.size < w4.heap.size + 1 + 1 := (by omega); have sxw4_0 : R2.heap.size ≤ w4.heap.size := (by first | omega | (have hz := hb.size; (try simp at hz); omega)); have sxw4_w3 : w3.heap.size ≤ w4.heap.size := (by first | omega | (have hz := hb.size; (try simp at hz); omega)); have HBw4 : Hid (Below w.heap.size w w4) := (bl_trans (by repeat (first | with_reducible exact Below.refl _ _ | with_reducible exact Hid.out (by assumption) | with_reducible refine Below.setCell ?_ (by first | (simp; done) | omega | (simp <;> omega)) _ | with_reducible refine bl_al ?_ _ | with_reducible apply Below.drew)) hb); clear hb; clear K4))
  rename_i hHeld
  clear hHeld
  go_wp2_with fail
  refine bodyPost_ret (by simp [results, Try.results50, go_sem, *]; try rfl) rfl ?_
  exact ⟨rfl, by repeat (first | with_reducible exact Below.refl _ _ | with_reducible exact Hid.out (by assumption) | with_reducible refine Below.setCell ?_ (by first | (simp; done) | omega | (simp <;> omega)) _ | with_reducible refine bl_al ?_ _ | with_reducible apply Below.drew)⟩
set_option maxRecDepth 20000 in
set_option maxHeartbeats 8000000 in
theorem rround_true_lo (h l d1 d0 m1 m0 p n : Int) (c : Bool) (hlt : h < 0) (hm : m1 ≤ 9223372036854775807) (hp : IntKind.i64.wrap m1 = p) (hn : IntKind.i64.wrap (-p) = n) (w : World)
    (C1 : ∀ W, Calls Try.prog 57 #[.agg #[.int .i64 h, .int .u64 l]] W fun e w' => e = .returned (.agg #[.int .u64 d1, .int .u64 d0]) ∧ Below W.heap.size W w')
    (C2 : ∀ W, Calls Try.prog 58 #[.agg #[.int .u64 d1, .int .u64 d0], .agg #[.int .u64 0, .int .u64 9223372036854775808]] W fun e w' => e = .returned (.agg #[.int .u64 m1, .int .u64 m0, .bool c]) ∧ Below W.heap.size W w') :
    Calls Try.prog 53 #[.agg #[.int .i64 h, .int .u64 l]] w fun e w' => e = .returned (.int .i64 n) ∧ Below w.heap.size w w' := by
  have K1 := Lib.hid C1; have K2 := Lib.hid C2
  clear C1 C2
  have fld := field_sum
  go_enter Try.func53, Try.ntmps53
  go_wp2_with fail
  (with_reducible refine (K1.out _).mono ?_); rintro e w1 ⟨rfl, hb⟩; obtain ⟨hclw1, hfrw1⟩ := bcell hb; have zw1_a : w.heap.size < w1.heap.size := (by first | omega | (have hz := hb.size; (try simp at hz); omega)); have yw1_a : w.heap.size < w1.heap.size + 1 := (by omega); have yyw1_a : w.heap.size < w1.heap.size + 1 + 1 := (by omega); have sxw1_0 : w.heap.size + 1 ≤ w1.heap.size := (by first | omega | (have hz := hb.size; (try simp at hz); omega)); have HBw1 : Hid (Below w.heap.size w w1) := (bl_trans (by repeat (first | with_reducible exact Below.refl _ _ | with_reducible exact Hid.out (by assumption) | with_reducible refine Below.setCell ?_ (by first | (simp; done) | omega | (simp <;> omega)) _ | with_reducible refine bl_al ?_ _ | with_reducible apply Below.drew)) hb); clear hb
  go_wp2_with fail
  (with_reducible refine (K2.out _).mono ?_); rintro e w2 ⟨rfl, hb⟩; obtain ⟨hclw2, hfrw2⟩ := bcell hb; have zw2_a : w.heap.size < w2.heap.size := (by first | omega | (have hz := hb.size; (try simp at hz); omega)); have yw2_a : w.heap.size < w2.heap.size + 1 := (by omega); have yyw2_a : w.heap.size < w2.heap.size + 1 + 1 := (by omega); have sxw2_0 : w1.heap.size ≤ w2.heap.size := (by first | omega | (have hz := hb.size; (try simp at hz); omega)); have HBw2 : Hid (Below w.heap.size w w2) := (bl_trans (by repeat (first | with_reducible exact Below.refl _ _ | with_reducible exact Hid.out (by assumption) | with_reducible refine Below.setCell ?_ (by first | (simp; done) | omega | (simp <;> omega)) _ | with_reducible refine bl_al ?_ _ | with_reducible apply Below.drew)) hb); clear hb
  go_wp2_with fail
  go_wp2_with fail
  go_returns
  exact ⟨rfl, by repeat (first | with_reducible exact Below.refl _ _ | with_reducible exact Hid.out (by assumption) | with_reducible refine Below.setCell ?_ (by first | (simp; done) | omega | (simp <;> omega)) _ | with_reducible refine bl_al ?_ _ | with_reducible apply Below.drew)⟩
set_option maxRecDepth 20000 in
set_option maxHeartbeats 8000000 in
theorem rround_true_hi (h l d1 d0 m1 m0 p n : Int) (c : Bool) (hlt : h < 0) (hm : ¬ m1 ≤ 9223372036854775807) (hp : 9223372036854775807 = p) (hn : IntKind.i64.wrap (-p) = n) (w : World)
    (C1 : ∀ W, Calls Try.prog 57 #[.agg #[.int .i64 h, .int .u64 l]] W fun e w' => e = .returned (.agg #[.int .u64 d1, .int .u64 d0]) ∧ Below W.heap.size W w')
    (C2 : ∀ W, Calls Try.prog 58 #[.agg #[.int .u64 d1, .int .u64 d0], .agg #[.int .u64 0, .int .u64 9223372036854775808]] W fun e w' => e = .returned (.agg #[.int .u64 m1, .int .u64 m0, .bool c]) ∧ Below W.heap.size W w') :
    Calls Try.prog 53 #[.agg #[.int .i64 h, .int .u64 l]] w fun e w' => e = .returned (.int .i64 n) ∧ Below w.heap.size w w' := by
  have K1 := Lib.hid C1; have K2 := Lib.hid C2
  clear C1 C2
  have fld := field_sum
  go_enter Try.func53, Try.ntmps53
  go_wp2_with fail
  (with_reducible refine (K1.out _).mono ?_); rintro e w1 ⟨rfl, hb⟩; obtain ⟨hclw1, hfrw1⟩ := bcell hb; have zw1_a : w.heap.size < w1.heap.size := (by first | omega | (have hz := hb.size; (try simp at hz); omega)); have yw1_a : w.heap.size < w1.heap.size + 1 := (by omega); have yyw1_a : w.heap.size < w1.heap.size + 1 + 1 := (by omega); have sxw1_0 : w.heap.size + 1 ≤ w1.heap.size := (by first | omega | (have hz := hb.size; (try simp at hz); omega)); have HBw1 : Hid (Below w.heap.size w w1) := (bl_trans (by repeat (first | with_reducible exact Below.refl _ _ | with_reducible exact Hid.out (by assumption) | with_reducible refine Below.setCell ?_ (by first | (simp; done) | omega | (simp <;> omega)) _ | with_reducible refine bl_al ?_ _ | with_reducible apply Below.drew)) hb); clear hb
  go_wp2_with fail
  (with_reducible refine (K2.out _).mono ?_); rintro e w2 ⟨rfl, hb⟩; obtain ⟨hclw2, hfrw2⟩ := bcell hb; have zw2_a : w.heap.size < w2.heap.size := (by first | omega | (have hz := hb.size; (try simp at hz); omega)); have yw2_a : w.heap.size < w2.heap.size + 1 := (by omega); have yyw2_a : w.heap.size < w2.heap.size + 1 + 1 := (by omega); have sxw2_0 : w1.heap.size ≤ w2.heap.size := (by first | omega | (have hz := hb.size; (try simp at hz); omega)); have HBw2 : Hid (Below w.heap.size w w2) := (bl_trans (by repeat (first | with_reducible exact Below.refl _ _ | with_reducible exact Hid.out (by assumption) | with_reducible refine Below.setCell ?_ (by first | (simp; done) | omega | (simp <;> omega)) _ | with_reducible refine bl_al ?_ _ | with_reducible apply Below.drew)) hb); clear hb
  go_wp2_with fail
  go_wp2_with fail
  go_returns
  exact ⟨rfl, by repeat (first | with_reducible exact Below.refl _ _ | with_reducible exact Hid.out (by assumption) | with_reducible refine Below.setCell ?_ (by first | (simp; done) | omega | (simp <;> omega)) _ | with_reducible refine bl_al ?_ _ | with_reducible apply Below.drew)⟩
set_option maxRecDepth 20000 in
set_option maxHeartbeats 8000000 in
theorem rround_false_lo (h l d1 d0 m1 m0 p n : Int) (c : Bool) (hlt : ¬ h < 0) (hm : m1 ≤ 9223372036854775807) (hp : IntKind.i64.wrap m1 = p) (_hn : IntKind.i64.wrap (-p) = n) (w : World)
    (C1 : ∀ W, Calls Try.prog 57 #[.agg #[.int .i64 h, .int .u64 l]] W fun e w' => e = .returned (.agg #[.int .u64 d1, .int .u64 d0]) ∧ Below W.heap.size W w')
    (C2 : ∀ W, Calls Try.prog 58 #[.agg #[.int .u64 d1, .int .u64 d0], .agg #[.int .u64 0, .int .u64 9223372036854775808]] W fun e w' => e = .returned (.agg #[.int .u64 m1, .int .u64 m0, .bool c]) ∧ Below W.heap.size W w') :
    Calls Try.prog 53 #[.agg #[.int .i64 h, .int .u64 l]] w fun e w' => e = .returned (.int .i64 p) ∧ Below w.heap.size w w' := by
  have K1 := Lib.hid C1; have K2 := Lib.hid C2
  clear C1 C2
  have fld := field_sum
  go_enter Try.func53, Try.ntmps53
  go_wp2_with fail
  (with_reducible refine (K1.out _).mono ?_); rintro e w1 ⟨rfl, hb⟩; obtain ⟨hclw1, hfrw1⟩ := bcell hb; have zw1_a : w.heap.size < w1.heap.size := (by first | omega | (have hz := hb.size; (try simp at hz); omega)); have yw1_a : w.heap.size < w1.heap.size + 1 := (by omega); have yyw1_a : w.heap.size < w1.heap.size + 1 + 1 := (by omega); have sxw1_0 : w.heap.size + 1 ≤ w1.heap.size := (by first | omega | (have hz := hb.size; (try simp at hz); omega)); have HBw1 : Hid (Below w.heap.size w w1) := (bl_trans (by repeat (first | with_reducible exact Below.refl _ _ | with_reducible exact Hid.out (by assumption) | with_reducible refine Below.setCell ?_ (by first | (simp; done) | omega | (simp <;> omega)) _ | with_reducible refine bl_al ?_ _ | with_reducible apply Below.drew)) hb); clear hb
  go_wp2_with fail
  (with_reducible refine (K2.out _).mono ?_); rintro e w2 ⟨rfl, hb⟩; obtain ⟨hclw2, hfrw2⟩ := bcell hb; have zw2_a : w.heap.size < w2.heap.size := (by first | omega | (have hz := hb.size; (try simp at hz); omega)); have yw2_a : w.heap.size < w2.heap.size + 1 := (by omega); have yyw2_a : w.heap.size < w2.heap.size + 1 + 1 := (by omega); have sxw2_0 : w1.heap.size ≤ w2.heap.size := (by first | omega | (have hz := hb.size; (try simp at hz); omega)); have HBw2 : Hid (Below w.heap.size w w2) := (bl_trans (by repeat (first | with_reducible exact Below.refl _ _ | with_reducible exact Hid.out (by assumption) | with_reducible refine Below.setCell ?_ (by first | (simp; done) | omega | (simp <;> omega)) _ | with_reducible refine bl_al ?_ _ | with_reducible apply Below.drew)) hb); clear hb
  go_wp2_with fail
  go_wp2_with fail
  go_returns
  exact ⟨rfl, by repeat (first | with_reducible exact Below.refl _ _ | with_reducible exact Hid.out (by assumption) | with_reducible refine Below.setCell ?_ (by first | (simp; done) | omega | (simp <;> omega)) _ | with_reducible refine bl_al ?_ _ | with_reducible apply Below.drew)⟩
set_option maxRecDepth 20000 in
set_option maxHeartbeats 8000000 in
theorem rround_false_hi (h l d1 d0 m1 m0 p n : Int) (c : Bool) (hlt : ¬ h < 0) (hm : ¬ m1 ≤ 9223372036854775807) (hp : 9223372036854775807 = p) (_hn : IntKind.i64.wrap (-p) = n) (w : World)
    (C1 : ∀ W, Calls Try.prog 57 #[.agg #[.int .i64 h, .int .u64 l]] W fun e w' => e = .returned (.agg #[.int .u64 d1, .int .u64 d0]) ∧ Below W.heap.size W w')
    (C2 : ∀ W, Calls Try.prog 58 #[.agg #[.int .u64 d1, .int .u64 d0], .agg #[.int .u64 0, .int .u64 9223372036854775808]] W fun e w' => e = .returned (.agg #[.int .u64 m1, .int .u64 m0, .bool c]) ∧ Below W.heap.size W w') :
    Calls Try.prog 53 #[.agg #[.int .i64 h, .int .u64 l]] w fun e w' => e = .returned (.int .i64 p) ∧ Below w.heap.size w w' := by
  have K1 := Lib.hid C1; have K2 := Lib.hid C2
  clear C1 C2
  have fld := field_sum
  go_enter Try.func53, Try.ntmps53
  go_wp2_with fail
  (with_reducible refine (K1.out _).mono ?_); rintro e w1 ⟨rfl, hb⟩; obtain ⟨hclw1, hfrw1⟩ := bcell hb; have zw1_a : w.heap.size < w1.heap.size := (by first | omega | (have hz := hb.size; (try simp at hz); omega)); have yw1_a : w.heap.size < w1.heap.size + 1 := (by omega); have yyw1_a : w.heap.size < w1.heap.size + 1 + 1 := (by omega); have sxw1_0 : w.heap.size + 1 ≤ w1.heap.size := (by first | omega | (have hz := hb.size; (try simp at hz); omega)); have HBw1 : Hid (Below w.heap.size w w1) := (bl_trans (by repeat (first | with_reducible exact Below.refl _ _ | with_reducible exact Hid.out (by assumption) | with_reducible refine Below.setCell ?_ (by first | (simp; done) | omega | (simp <;> omega)) _ | with_reducible refine bl_al ?_ _ | with_reducible apply Below.drew)) hb); clear hb
  go_wp2_with fail
  (with_reducible refine (K2.out _).mono ?_); rintro e w2 ⟨rfl, hb⟩; obtain ⟨hclw2, hfrw2⟩ := bcell hb; have zw2_a : w.heap.size < w2.heap.size := (by first | omega | (have hz := hb.size; (try simp at hz); omega)); have yw2_a : w.heap.size < w2.heap.size + 1 := (by omega); have yyw2_a : w.heap.size < w2.heap.size + 1 + 1 := (by omega); have sxw2_0 : w1.heap.size ≤ w2.heap.size := (by first | omega | (have hz := hb.size; (try simp at hz); omega)); have HBw2 : Hid (Below w.heap.size w w2) := (bl_trans (by repeat (first | with_reducible exact Below.refl _ _ | with_reducible exact Hid.out (by assumption) | with_reducible refine Below.setCell ?_ (by first | (simp; done) | omega | (simp <;> omega)) _ | with_reducible refine bl_al ?_ _ | with_reducible apply Below.drew)) hb); clear hb
  go_wp2_with fail
  go_wp2_with fail
  go_returns
  exact ⟨rfl, by repeat (first | with_reducible exact Below.refl _ _ | with_reducible exact Hid.out (by assumption) | with_reducible refine Below.setCell ?_ (by first | (simp; done) | omega | (simp <;> omega)) _ | with_reducible refine bl_al ?_ _ | with_reducible apply Below.drew)⟩
set_option maxRecDepth 20000 in
set_option maxHeartbeats 8000000 in
theorem rsqrt_none (h l : Int) (hlt : h < 0) (w : World) :
    Calls Try.prog 51 #[.agg #[.int .i64 h, .int .u64 l]] w fun e w' => e = .returned (.agg #[.int .i64 0, .int .u64 0, .int .i64 1]) ∧ Below w.heap.size w w' := by
  go_enter Try.func51, Try.ntmps51
  go_wp2_with fail
  refine bodyPost_ret (by simp [results, Try.results51, go_sem, *]; try rfl) rfl ?_
  exact ⟨rfl, by repeat (first | with_reducible exact Below.refl _ _ | with_reducible exact Hid.out (by assumption) | with_reducible refine Below.setCell ?_ (by first | (simp; done) | omega | (simp <;> omega)) _ | with_reducible refine bl_al ?_ _ | with_reducible apply Below.drew)⟩
set_option maxRecDepth 20000 in
set_option maxHeartbeats 8000000 in
theorem rsqrt_core (h l d1 d0 s3 s2 s1 s0 r1 r0 g1 g0 k : Int) (hlt : ¬ h < 0) (w : World)
    (C1 : ∀ W, Calls Try.prog 57 #[.agg #[.int .i64 h, .int .u64 l]] W fun e w' => e = .returned (.agg #[.int .u64 d1, .int .u64 d0]) ∧ Below W.heap.size W w')
    (C2 : ∀ W, Calls Try.prog 20 #[.agg #[.int .u64 0, .int .u64 0, .int .u64 d1, .int .u64 d0], .int .i64 64] W fun e w' => e = .returned (.agg #[.int .u64 s3, .int .u64 s2, .int .u64 s1, .int .u64 s0]) ∧ Below W.heap.size W w')
    (C3 : ∀ W, Calls Try.prog 28 #[.agg #[.int .u64 s3, .int .u64 s2, .int .u64 s1, .int .u64 s0]] W fun e w' => e = .returned (.agg #[.int .u64 r1, .int .u64 r0]) ∧ Below W.heap.size W w')
    (C4 : ∀ W, Calls Try.prog 95 #[.bool false, .agg #[.int .u64 0, .int .u64 0, .int .u64 r1, .int .u64 r0]] W fun e w' => e = .returned (.agg #[.int .i64 g1, .int .u64 g0, .int .i64 k]) ∧ Below W.heap.size W w') :
    Calls Try.prog 51 #[.agg #[.int .i64 h, .int .u64 l]] w fun e w' => e = .returned (.agg #[.int .i64 g1, .int .u64 g0, .int .i64 k]) ∧ Below w.heap.size w w' := by
  have K1 := Lib.hid C1; have K2 := Lib.hid C2; have K3 := Lib.hid C3; have K4 := Lib.hid C4
  clear C1 C2 C3 C4
  go_enter Try.func51, Try.ntmps51
  go_upto_region 3 with fail
  refine name_world (P := fun W => Code.wp _ _ _ _ W) _ (fun R1 hR1 => ?_)
  have zR1_a : w.heap.size < R1.heap.size := by rw [hR1]; first | omega | (simp <;> omega)
  have yR1_a : w.heap.size < R1.heap.size + 1 := by omega
  have yyR1_a : w.heap.size < R1.heap.size + 1 + 1 := by omega
  have cR1_a_0 : R1.cell? ⟨w.heap.size, 0, none⟩ = some (.int .i64 h) := by rw [hR1]; first | assumption | (simp [go_sem, *]; done)
  have cR1_a_1 : R1.cell? ⟨w.heap.size, 1, none⟩ = some (.int .u64 l) := by rw [hR1]; first | assumption | (simp [go_sem, *]; done)
  have zR1_r : w.heap.size + 1 < R1.heap.size := by rw [hR1]; first | omega | (simp <;> omega)
  have yR1_r : w.heap.size + 1 < R1.heap.size + 1 := by omega
  have yyR1_r : w.heap.size + 1 < R1.heap.size + 1 + 1 := by omega
  have cR1_r_0 : R1.cell? ⟨w.heap.size + 1, 0, none⟩ = some (.int .i64 0) := by rw [hR1]; first | assumption | (simp [go_sem, *]; done)
  have cR1_r_1 : R1.cell? ⟨w.heap.size + 1, 1, none⟩ = some (.int .u64 0) := by rw [hR1]; first | assumption | (simp [go_sem, *]; done)
  have cR1_r_2 : R1.cell? ⟨w.heap.size + 1, 2, none⟩ = some (.int .i64 0) := by rw [hR1]; first | assumption | (simp [go_sem, *]; done)
  have fR1_r : ∀ j, R1.frozen? ⟨w.heap.size + 1, j, none⟩ = false := fun j => by rw [hR1]; first | (simp [go_sem, *]; done) | (simp only [frozen?_alloc_cells]; rw [hfrw0 _ _ (by first | omega | (simp <;> omega))]; simp [frozen?_alloc_cells, World.frozen?]; done) | (simp [frozen?_alloc_cells, World.frozen?, *]; done)
  have lo_r : w.heap.size ≤ w.heap.size + 1 := by omega
  have na_r_a : ¬ (w.heap.size + 1 = w.heap.size) := by omega
  have nb_r_a : ¬ (w.heap.size = w.heap.size + 1) := by omega
  have HBR1 : Hid (Below w.heap.size w R1) := by rw [hR1]; show Below _ _ _; exact (by repeat (first | with_reducible exact Below.refl _ _ | with_reducible exact Hid.out (by assumption) | with_reducible refine Below.setCell ?_ (by first | (simp; done) | omega | (simp <;> omega)) _ | with_reducible refine bl_al ?_ _ | with_reducible apply Below.drew))
  clear hR1
  go_wp2_with fail
  (with_reducible refine (K1.out _).mono ?_); rintro e w1 ⟨rfl, hb⟩; obtain ⟨hclw1, hfrw1⟩ := bcell hb; have zw1_a : w.heap.size < w1.heap.size := (by first | omega | (have hz := hb.size; (try simp at hz); omega)); have yw1_a : w.heap.size < w1.heap.size + 1 := (by omega); have yyw1_a : w.heap.size < w1.heap.size + 1 + 1 := (by omega); have zw1_r : w.heap.size + 1 < w1.heap.size := (by first | omega | (have hz := hb.size; (try simp at hz); omega)); have yw1_r : w.heap.size + 1 < w1.heap.size + 1 := (by omega); have yyw1_r : w.heap.size + 1 < w1.heap.size + 1 + 1 := (by omega); have sxw1_0 : R1.heap.size ≤ w1.heap.size := (by first | omega | (have hz := hb.size; (try simp at hz); omega)); have HBw1 : Hid (Below w.heap.size w w1) := (bl_trans (by repeat (first | with_reducible exact Below.refl _ _ | with_reducible exact Hid.out (by assumption) | with_reducible refine Below.setCell ?_ (by first | (simp; done) | omega | (simp <;> omega)) _ | with_reducible refine bl_al ?_ _ | with_reducible apply Below.drew)) hb); clear hb
  have fw1_r : ∀ j, w1.frozen? ⟨w.heap.size + 1, j, none⟩ = false := fun j => by rw [hfrw1 _ _ (by first | exact zR1_r | (simp; exact zR1_r))]; exact fR1_r j
  go_wp2_with fail
  (with_reducible refine (K2.out _).mono ?_); rintro e w2 ⟨rfl, hb⟩; obtain ⟨hclw2, hfrw2⟩ := bcell hb; have zw2_a : w.heap.size < w2.heap.size := (by first | omega | (have hz := hb.size; (try simp at hz); omega)); have yw2_a : w.heap.size < w2.heap.size + 1 := (by omega); have yyw2_a : w.heap.size < w2.heap.size + 1 + 1 := (by omega); have zw2_r : w.heap.size + 1 < w2.heap.size := (by first | omega | (have hz := hb.size; (try simp at hz); omega)); have yw2_r : w.heap.size + 1 < w2.heap.size + 1 := (by omega); have yyw2_r : w.heap.size + 1 < w2.heap.size + 1 + 1 := (by omega); have sxw2_0 : w1.heap.size ≤ w2.heap.size := (by first | omega | (have hz := hb.size; (try simp at hz); omega)); have HBw2 : Hid (Below w.heap.size w w2) := (bl_trans (by repeat (first | with_reducible exact Below.refl _ _ | with_reducible exact Hid.out (by assumption) | with_reducible refine Below.setCell ?_ (by first | (simp; done) | omega | (simp <;> omega)) _ | with_reducible refine bl_al ?_ _ | with_reducible apply Below.drew)) hb); clear hb
  go_wp2_with fail
  (with_reducible refine (K3.out _).mono ?_); rintro e w3 ⟨rfl, hb⟩; obtain ⟨hclw3, hfrw3⟩ := bcell hb; have zw3_a : w.heap.size < w3.heap.size := (by first | omega | (have hz := hb.size; (try simp at hz); omega)); have yw3_a : w.heap.size < w3.heap.size + 1 := (by omega); have yyw3_a : w.heap.size < w3.heap.size + 1 + 1 := (by omega); have zw3_r : w.heap.size + 1 < w3.heap.size := (by first | omega | (have hz := hb.size; (try simp at hz); omega)); have yw3_r : w.heap.size + 1 < w3.heap.size + 1 := (by omega); have yyw3_r : w.heap.size + 1 < w3.heap.size + 1 + 1 := (by omega); have sxw3_0 : w2.heap.size ≤ w3.heap.size := (by first | omega | (have hz := hb.size; (try simp at hz); omega)); have HBw3 : Hid (Below w.heap.size w w3) := (bl_trans (by repeat (first | with_reducible exact Below.refl _ _ | with_reducible exact Hid.out (by assumption) | with_reducible refine Below.setCell ?_ (by first | (simp; done) | omega | (simp <;> omega)) _ | with_reducible refine bl_al ?_ _ | with_reducible apply Below.drew)) hb); clear hb
  go_wp2_with fail
  (with_reducible refine (K4.out _).mono ?_); rintro e w4 ⟨rfl, hb⟩; obtain ⟨hclw4, hfrw4⟩ := bcell hb; have zw4_a : w.heap.size < w4.heap.size := (by first | omega | (have hz := hb.size; (try simp at hz); omega)); have yw4_a : w.heap.size < w4.heap.size + 1 := (by omega); have yyw4_a : w.heap.size < w4.heap.size + 1 + 1 := (by omega); have zw4_r : w.heap.size + 1 < w4.heap.size := (by first | omega | (have hz := hb.size; (try simp at hz); omega)); have yw4_r : w.heap.size + 1 < w4.heap.size + 1 := (by omega); have yyw4_r : w.heap.size + 1 < w4.heap.size + 1 + 1 := (by omega); have sxw4_0 : w3.heap.size ≤ w4.heap.size := (by first | omega | (have hz := hb.size; (try simp at hz); omega)); have HBw4 : Hid (Below w.heap.size w w4) := (bl_trans (by repeat (first | with_reducible exact Below.refl _ _ | with_reducible exact Hid.out (by assumption) | with_reducible refine Below.setCell ?_ (by first | (simp; done) | omega | (simp <;> omega)) _ | with_reducible refine bl_al ?_ _ | with_reducible apply Below.drew)) hb); clear hb
  go_wp2_with fail
  refine bodyPost_ret (by simp [results, Try.results51, go_sem, *]; try rfl) rfl ?_
  exact ⟨rfl, by repeat (first | with_reducible exact Below.refl _ _ | with_reducible exact Hid.out (by assumption) | with_reducible refine Below.setCell ?_ (by first | (simp; done) | omega | (simp <;> omega)) _ | with_reducible refine bl_al ?_ _ | with_reducible apply Below.drew)⟩
end Go.Proofs.Ytgcblfaommhpbaa
namespace Go.Proofs.Ytgcblfaommhpbaa
open Go.RowKit

theorem neg_word (x : Int) : decide (fh x < 0) = decide (x < 0) := by
  unfold fh
  by_cases c : x < 0
  · rw [decide_eq_true c, decide_eq_true (by omega)]
  · rw [decide_eq_false c, decide_eq_false (by omega)]
theorem rhalf_any (x : Int) (hx : My x) (w : World) :
    Calls Try.prog 50 #[.agg #[.int .i64 (fh x), .int .u64 (fl x)]] w fun e w' => e = .returned (.agg #[.int .i64 (fh (halfr x)), .int .u64 (fl (halfr x))]) ∧ Below w.heap.size w w' := by
  have hn := abs_lt hx
  have z : Wd 0 := ⟨by omega, by omega⟩
  have C2 := addTwo_any _ _ 0 1 (wd_wd x.natAbs 1) (wd_wd x.natAbs 0) z ⟨by omega, by omega⟩
  rw [v2_wd, Nat.mod_eq_of_lt (show x.natAbs < _ by omega), show v2 0 1 = 1 from rfl] at C2
  have C3 := rshr_any 0 0 _ _ 1 z z (wd_wd (x.natAbs + 1) 1) (wd_wd (x.natAbs + 1) 0) (by decide)
  rw [v4_lower, v2_wd, Nat.mod_eq_of_lt (show x.natAbs + 1 < _ by omega), pow_1] at C3
  have C4 := rsigned_any (decide (x < 0)) ((x.natAbs + 1) / 2) (by omega)
  have e : sg (decide (x < 0)) (((x.natAbs + 1) / 2 : Nat) : Int) = halfr x := rfl
  rw [e, ov_in (half_My hx)] at C4
  exact rhalf_core _ _ _ _ _ _ _ _ _ _ _ _ _ _ _ (neg_word x) w (rmag_any x hx) C2 C3 C4
theorem v2_63 : v2 0 9223372036854775808 = 9223372036854775808 := by simp [v2]
theorem rnd_hi_true (h l d1 d0 m1 m0 : Int) (c : Bool) (hlt : h < 0) (hm : ¬ m1 ≤ 9223372036854775807) (hq : IntKind.i64.wrap (-9223372036854775807) = -9223372036854775807) (w : World)
    (C1 : ∀ W, Calls Try.prog 57 #[.agg #[.int .i64 h, .int .u64 l]] W fun e w' => e = .returned (.agg #[.int .u64 d1, .int .u64 d0]) ∧ Below W.heap.size W w')
    (C2 : ∀ W, Calls Try.prog 58 #[.agg #[.int .u64 d1, .int .u64 d0], .agg #[.int .u64 0, .int .u64 9223372036854775808]] W fun e w' => e = .returned (.agg #[.int .u64 m1, .int .u64 m0, .bool c]) ∧ Below W.heap.size W w') :
    Calls Try.prog 53 #[.agg #[.int .i64 h, .int .u64 l]] w fun e w' => e = .returned (.int .i64 (-9223372036854775807)) ∧ Below w.heap.size w w' :=
  rround_true_hi h l d1 d0 m1 m0 9223372036854775807 (-9223372036854775807) c hlt hm rfl hq w C1 C2
theorem rnd_hi_false (h l d1 d0 m1 m0 : Int) (c : Bool) (hlt : ¬ h < 0) (hm : ¬ m1 ≤ 9223372036854775807) (hq : IntKind.i64.wrap (-9223372036854775807) = -9223372036854775807) (w : World)
    (C1 : ∀ W, Calls Try.prog 57 #[.agg #[.int .i64 h, .int .u64 l]] W fun e w' => e = .returned (.agg #[.int .u64 d1, .int .u64 d0]) ∧ Below W.heap.size W w')
    (C2 : ∀ W, Calls Try.prog 58 #[.agg #[.int .u64 d1, .int .u64 d0], .agg #[.int .u64 0, .int .u64 9223372036854775808]] W fun e w' => e = .returned (.agg #[.int .u64 m1, .int .u64 m0, .bool c]) ∧ Below W.heap.size W w') :
    Calls Try.prog 53 #[.agg #[.int .i64 h, .int .u64 l]] w fun e w' => e = .returned (.int .i64 9223372036854775807) ∧ Below w.heap.size w w' :=
  rround_false_hi h l d1 d0 m1 m0 9223372036854775807 (-9223372036854775807) c hlt hm rfl hq w C1 C2
theorem rnd_low (h l d1 d0 m1 m0 p : Int) (c b : Bool) (hb : decide (h < 0) = b) (e : m1 = p) (h0 : 0 ≤ p) (hm : p ≤ 9223372036854775807) (w : World)
    (C1 : ∀ W, Calls Try.prog 57 #[.agg #[.int .i64 h, .int .u64 l]] W fun e w' => e = .returned (.agg #[.int .u64 d1, .int .u64 d0]) ∧ Below W.heap.size W w')
    (C2 : ∀ W, Calls Try.prog 58 #[.agg #[.int .u64 d1, .int .u64 d0], .agg #[.int .u64 0, .int .u64 9223372036854775808]] W fun e w' => e = .returned (.agg #[.int .u64 m1, .int .u64 m0, .bool c]) ∧ Below W.heap.size W w') :
    Calls Try.prog 53 #[.agg #[.int .i64 h, .int .u64 l]] w fun e w' => e = .returned (.int .i64 (sg b p)) ∧ Below w.heap.size w w' := by
  have hp : IntKind.i64.wrap m1 = p := by rw [e]; exact IntWalk.i64_in _ (by omega)
  have hq : IntKind.i64.wrap (-p) = -p := IntWalk.i64_in _ (by omega)
  subst hb
  by_cases d : h < 0
  · rw [decide_eq_true d]
    exact rround_true_lo h l d1 d0 m1 m0 p (-p) c d (by omega) hp hq w C1 C2
  · rw [decide_eq_false d]
    exact rround_false_lo h l d1 d0 m1 m0 p (-p) c d (by omega) hp hq w C1 C2
theorem rnd_words (N : Nat) (h : N < 170141183460469231731687303715884105728) : wd (N + 9223372036854775808) 1 = (((N + 9223372036854775808) / 18446744073709551616 : Nat) : Int) ∧ (N + 9223372036854775808) / 18446744073709551616 ≤ 9223372036854775808 := by
  constructor
  · rw [wd1]; omega
  · omega
theorem rround_any (x : Int) (hx : My x) (w : World) :
    Calls Try.prog 53 #[.agg #[.int .i64 (fh x), .int .u64 (fl x)]] w fun e w' => e = .returned (.int .i64 (rndr x)) ∧ Below w.heap.size w w' := by
  have hn := abs_lt hx
  have z : Wd 0 := ⟨by omega, by omega⟩
  have C1 := rmag_any x hx
  have C2 := addTwo_any _ _ 0 9223372036854775808 (wd_wd x.natAbs 1) (wd_wd x.natAbs 0) z ⟨by omega, by omega⟩
  rw [v2_wd, Nat.mod_eq_of_lt (show x.natAbs < _ by omega), v2_63] at C2
  obtain ⟨e1, hk⟩ := rnd_words x.natAbs hn
  have hb := neg_word x
  unfold rndr
  generalize (x.natAbs + 9223372036854775808) / 18446744073709551616 = k at *
  generalize decide (x < 0) = b at *
  by_cases c : k ≤ 9223372036854775807
  · rw [Nat.min_eq_left c]
    exact rnd_low _ _ _ _ _ _ _ _ _ hb e1 (Int.natCast_nonneg _) (by omega) w C1 C2
  · rw [Nat.min_eq_right (by omega)]
    have hc : ¬ wd (x.natAbs + 9223372036854775808) 1 ≤ 9223372036854775807 := by rw [e1]; omega
    have hq : IntKind.i64.wrap (-9223372036854775807) = -9223372036854775807 := IntWalk.i64_in _ (by omega)
    have et : sg true ((9223372036854775807 : Nat) : Int) = -9223372036854775807 := by simp [sg]
    have ef : sg false ((9223372036854775807 : Nat) : Int) = 9223372036854775807 := by simp [sg]
    cases b
    · rw [ef]; exact rnd_hi_false _ _ _ _ _ _ _ (of_decide_eq_false hb) hc hq w C1 C2
    · rw [et]; exact rnd_hi_true _ _ _ _ _ _ _ (of_decide_eq_true hb) hc hq w C1 C2
theorem rsqrt_any (x : Int) (hx : My x) (h0 : 0 ≤ x) (w : World) :
    Calls Try.prog 51 #[.agg #[.int .i64 (fh x), .int .u64 (fl x)]] w fun e w' => e = .returned (.agg #[.int .i64 (fh (sqr x)), .int .u64 (fl (sqr x)), .int .i64 0]) ∧ Below w.heap.size w w' := by
  have hn := abs_lt hx
  have z : Wd 0 := ⟨by omega, by omega⟩
  have C2 := rshl_any 0 0 _ _ 64 z z (wd_wd x.natAbs 1) (wd_wd x.natAbs 0) (by decide)
  rw [v4_lower, v2_wd, Nat.mod_eq_of_lt (show x.natAbs < _ by omega), pow_64, show x.natAbs = x.toNat by omega] at C2
  have C1 := rmag_any x hx
  rw [show x.natAbs = x.toNat by omega] at C1
  have hb : x.toNat * 18446744073709551616 < 115792089237316195423570985008687907853269984665640564039457584007913129639936 := by obtain ⟨_, _⟩ := hx; omega
  have C3 := rroot_any _ _ _ _ (wd_wd (x.toNat * 18446744073709551616) 3) (wd_wd (x.toNat * 18446744073709551616) 2) (wd_wd (x.toNat * 18446744073709551616) 1) (wd_wd (x.toNat * 18446744073709551616) 0)
  rw [v4_of hb] at C3
  have hs := sqr_My hx
  have hr : isq (x.toNat * 18446744073709551616) < 170141183460469231731687303715884105728 := by obtain ⟨_, _⟩ := hs; unfold sqr at *; omega
  have C4 := rsigned_any false (isq (x.toNat * 18446744073709551616)) (by omega)
  have e3 : wd (isq (x.toNat * 18446744073709551616)) 3 = 0 := by rw [wd3]; omega
  have e2 : wd (isq (x.toNat * 18446744073709551616)) 2 = 0 := by rw [wd2]; omega
  rw [e3, e2, show sg false ((isq (x.toNat * 18446744073709551616) : Nat) : Int) = sqr x from rfl, ov_in hs, oe_in hs] at C4
  exact rsqrt_core _ _ _ _ _ _ _ _ _ _ _ _ _ (by unfold fh; omega) w C1 C2 C3 C4
theorem rsqrt_below (x : Int) (h0 : x < 0) (w : World) :
    Calls Try.prog 51 #[.agg #[.int .i64 (fh x), .int .u64 (fl x)]] w fun e w' => e = .returned (.agg #[.int .i64 0, .int .u64 0, .int .i64 1]) ∧ Below w.heap.size w w' :=
  rsqrt_none _ _ (by unfold fh; omega) w
end Go.Proofs.Ytgcblfaommhpbaa
namespace Go.Proofs.Ytgcblfaommhpbaa
open Go.RowKit

set_option maxRecDepth 20000 in
set_option maxHeartbeats 60000000 in
theorem is_core (h l k : Int)  (w : World)
    (C1 : ∀ W, Calls Try.prog 56 #[.int .i64 k] W fun e w' => e = .returned (.int .i64 k) ∧ Below W.heap.size W w') :
    Calls Try.prog 39 #[.agg #[.int .i64 h, .int .u64 l], .int .i64 k, .agg #[.int .i64 h, .int .u64 l, .int .i64 k]] w fun e w' => e = .returned (.bool true) ∧ Below w.heap.size w w' := by
  have K1 := Lib.hid C1
  clear C1
  have q1 := eq_fix_true h l
  go_enter Try.func39, Try.ntmps39
  go_upto_region 1 with fail
  refine name_world (P := fun W => Code.wp _ _ _ _ W) _ (fun R1 hR1 => ?_)
  have zR1_a : w.heap.size < R1.heap.size := by rw [hR1]; first | omega | (simp <;> omega)
  have yR1_a : w.heap.size < R1.heap.size + 1 := by omega
  have yyR1_a : w.heap.size < R1.heap.size + 1 + 1 := by omega
  have cR1_a_0 : R1.cell? ⟨w.heap.size, 0, none⟩ = some (.int .i64 h) := by rw [hR1]; first | assumption | (simp [go_sem, *]; done)
  have cR1_a_1 : R1.cell? ⟨w.heap.size, 1, none⟩ = some (.int .u64 l) := by rw [hR1]; first | assumption | (simp [go_sem, *]; done)
  have zR1_x : w.heap.size + 1 < R1.heap.size := by rw [hR1]; first | omega | (simp <;> omega)
  have yR1_x : w.heap.size + 1 < R1.heap.size + 1 := by omega
  have yyR1_x : w.heap.size + 1 < R1.heap.size + 1 + 1 := by omega
  have cR1_x_0 : R1.cell? ⟨w.heap.size + 1, 0, none⟩ = some (.int .i64 h) := by rw [hR1]; first | assumption | (simp [go_sem, *]; done)
  have cR1_x_1 : R1.cell? ⟨w.heap.size + 1, 1, none⟩ = some (.int .u64 l) := by rw [hR1]; first | assumption | (simp [go_sem, *]; done)
  have cR1_x_2 : R1.cell? ⟨w.heap.size + 1, 2, none⟩ = some (.int .i64 k) := by rw [hR1]; first | assumption | (simp [go_sem, *]; done)
  have HBR1 : Hid (Below w.heap.size w R1) := by rw [hR1]; show Below _ _ _; exact (by repeat (first | with_reducible exact Below.refl _ _ | with_reducible exact Hid.out (by assumption) | with_reducible refine Below.setCell ?_ (by first | (simp; done) | omega | (simp <;> omega)) _ | with_reducible refine bl_al ?_ _ | with_reducible apply Below.drew))
  clear hR1
  go_region_held3 (fun w' => w'.cell? ⟨w.heap.size, 0, none⟩ = some (.int .i64 h) ∧ w'.cell? ⟨w.heap.size, 1, none⟩ = some (.int .u64 l) ∧ w'.cell? ⟨w.heap.size + 1, 0, none⟩ = some (.int .i64 h) ∧ w'.cell? ⟨w.heap.size + 1, 1, none⟩ = some (.int .u64 l) ∧ w'.cell? ⟨w.heap.size + 1, 2, none⟩ = some (.int .i64 k)) (first | (simp [*, go_sem]; done) | (simp [*, go_sem, World.cell?_alloc_past]; done))
    (first
      | (go_at_call 56; (with_reducible refine (K1.out _).mono ?_); rintro e w1 ⟨rfl, hb⟩; (first | (with_reducible (obtain ⟨hclw1, hfrw1⟩ := bcell_drew hb)) | (obtain ⟨hclw1, hfrw1⟩ := bcell hb)); have zw1_a : w.heap.size < w1.heap.size := (by first | omega | (have hz := hb.size; (try simp at hz); omega)); have yw1_a : w.heap.size < w1.heap.size + 1 := (by omega); have yyw1_a : w.heap.size < w1.heap.size + 1 + 1 := (by omega); have zw1_x : w.heap.size + 1 < w1.heap.size := (by first | omega | (have hz := hb.size; (try simp at hz); omega)); have yw1_x : w.heap.size + 1 < w1.heap.size + 1 := (by omega); have yyw1_x : w.heap.size + 1 < w1.heap.size + 1 + 1 := (by omega); have sxw1_0 : R1.heap.size ≤ w1.heap.size := (by first | omega | (have hz := hb.size; (try simp at hz); omega)); have HBw1 : Hid (Below w.heap.size w w1) := (bl_trans (by repeat (first | with_reducible exact Below.refl _ _ | with_reducible exact Hid.out (by assumption) | with_reducible refine Below.setCell ?_ (by first | (simp; done) | omega | (simp <;> omega)) _ | with_reducible refine bl_al ?_ _ | with_reducible apply Below.drew)) hb); clear hb; clear K1))
  rename_i hHeld
  clear hHeld
  go_wp2_with fail
  go_returns
  exact ⟨rfl, by repeat (first | with_reducible exact Below.refl _ _ | with_reducible exact Hid.out (by assumption) | with_reducible refine Below.setCell ?_ (by first | (simp; done) | omega | (simp <;> omega)) _ | with_reducible refine bl_al ?_ _ | with_reducible apply Below.drew)⟩
theorem is_any (h l k : Int) (w : World) : Calls Try.prog 39 #[.agg #[.int .i64 h, .int .u64 l], .int .i64 k, .agg #[.int .i64 h, .int .u64 l, .int .i64 k]] w fun e w' => e = .returned (.bool true) ∧ Below w.heap.size w w' :=
  is_core h l k w (num_any k)
end Go.Proofs.Ytgcblfaommhpbaa
namespace Go.Proofs.Ytgcblfaommhpbaa
open Go.RowKit

theorem field_rsum (x0 x1 x2 : Value) (w : World) : (Instr.field 65 (.agg #[x0, x1, x2]) 0).run Try.prog w = .ok (.agg #[x0, x1]) w := by kernel_rfl
theorem rdiv_none (a3 a2 a1 a0 : Int) (w : World) :
    Calls Try.prog 15 #[.agg #[.int .u64 a3, .int .u64 a2, .int .u64 a1, .int .u64 a0], .agg #[.int .u64 0, .int .u64 0]] w fun e w' => e = .returned (.agg #[.int .u64 0, .int .u64 0, .int .u64 0, .int .u64 0, .int .u64 0, .int .u64 0, .bool false]) ∧ Below w.heap.size w w' := by
  have q := eq_two_true 0 0
  go_enter Try.func15, Try.ntmps15
  go_wp2_with fail
  refine bodyPost_ret (by simp [results, Try.results15, go_sem, *]; try rfl) rfl ?_
  exact ⟨rfl, by repeat (first | with_reducible exact Below.refl _ _ | with_reducible exact Hid.out (by assumption) | with_reducible refine Below.setCell ?_ (by first | (simp; done) | omega | (simp <;> omega)) _ | with_reducible refine bl_al ?_ _ | with_reducible apply Below.drew)⟩
set_option maxRecDepth 20000 in
set_option maxHeartbeats 16000000 in
theorem rdiv_core (a3 a2 a1 a0 b1 b0 : Int) (N d : Nat) (hq0 : ∀ W, (Go.binOp .eql 24 (.agg #[.int .u64 b1, .int .u64 b0]) (.agg #[.int .u64 0, .int .u64 0])).run Try.prog W = .ok (.bool false) W) (hd : d ≠ 0) (hd2 : d < 340282366920938463463374607431768211456) (hN : N < 2 ^ 256)
    (hbit : ∀ i : Nat, i < 256 → ∀ W, Calls Try.prog 70 #[.agg #[.int .u64 a3, .int .u64 a2, .int .u64 a1, .int .u64 a0], .int .i64 (i : Int)] W fun e w' => e = .returned (.int .u64 ((bt N i : Nat) : Int)) ∧ Below W.heap.size W w')
    (hless : ∀ n : Nat, ∀ W, Calls Try.prog 71 #[.agg #[.int .u64 ((wd n 1)), .int .u64 ((wd n 0))], .agg #[.int .u64 b1, .int .u64 b0]] W fun e w' => e = .returned (.bool (decide (n % 340282366920938463463374607431768211456 < d))) ∧ Below W.heap.size W w')
    (hsub : ∀ n : Nat, ∀ W, Calls Try.prog 72 #[.agg #[.int .u64 ((wd n 1)), .int .u64 ((wd n 0))], .agg #[.int .u64 b1, .int .u64 b0]] W fun e w' => e = .returned (.agg #[.int .u64 (wd (n % 340282366920938463463374607431768211456 + (340282366920938463463374607431768211456 - d)) 1), .int .u64 (wd (n % 340282366920938463463374607431768211456 + (340282366920938463463374607431768211456 - d)) 0), .bool (decide (n % 340282366920938463463374607431768211456 < d))]) ∧ Below W.heap.size W w') (w : World) :
    Calls Try.prog 15 #[.agg #[.int .u64 a3, .int .u64 a2, .int .u64 a1, .int .u64 a0], .agg #[.int .u64 b1, .int .u64 b0]] w fun e w' => e = .returned (.agg #[.int .u64 (wd (N / d) 3), .int .u64 (wd (N / d) 2), .int .u64 (wd (N / d) 1), .int .u64 (wd (N / d) 0), .int .u64 (wd (N % d) 1), .int .u64 (wd (N % d) 0), .bool true]) ∧ Below w.heap.size w w' := by
  have HBits := Lib.hid hbit; have HLesss := Lib.hid hless; have HSubs := Lib.hid hsub; have HN := Lib.hid hN; have HD := Lib.hid hd; have HD2 := Lib.hid hd2
  clear hbit hless hsub hN hd hd2
  have fld := field_rsum
  have hmk : ∀ w, (Instr.makeSlice 89 (.int .i64 4) (.int .i64 4)).run Try.prog w = .ok (.slice (some ⟨w.heap.size, 0, none⟩) 4 4) (w.alloc (.cells #[.int .u64 0, .int .u64 0, .int .u64 0, .int .u64 0] 22)) := fun _ => by kernel_rfl
  go_enter Try.func15, Try.ntmps15
  go_wp2_with fail
  refine name_world (P := fun W => Code.wp _ _ _ _ W) _ (fun R hR => ?_)
  have g0 : Dv w a3 a2 a1 a0 b1 b0 0 0 0 R := by
    rw [hR]
    refine ⟨Has.mk4 (by simp <;> omega) (by simp [go_sem]) (by simp [go_sem]) (by simp [go_sem]) (by simp [go_sem]), Has.mk2 (by simp <;> omega) (by simp [go_sem]) (by simp [go_sem]), Has.mk7 (by simp <;> omega) (by simp [go_sem]) (by simp [go_sem]) (by simp [go_sem]) (by simp [go_sem]) (by simp [go_sem]) (by simp [go_sem]) (by simp [go_sem]), Has.mk7 (by simp <;> omega) (by simp [go_sem]) (by simp [go_sem]) (by simp [go_sem]) (by simp [go_sem]) (by simp [go_sem]) (by simp [go_sem]) (by simp [go_sem]), by simp, fun j hj => ?_, fun j => ?_, fun j => ?_, fun j => ?_, (by repeat (first | with_reducible exact Below.refl _ _ | with_reducible exact Hid.out (by assumption) | with_reducible refine Below.setCell ?_ (by first | (simp; done) | omega | (simp <;> omega)) _ | with_reducible refine bl_al ?_ _ | with_reducible apply Below.drew))⟩
    · rcases (show j = 0 ∨ j = 1 ∨ j = 2 ∨ j = 3 by omega) with rfl | rfl | rfl | rfl <;> simp [go_sem] <;> rfl
    · simp only [frozen?_alloc_cells]; exact frozen_late (by omega)
    · simp only [frozen?_alloc_cells]; exact frozen_late (by omega)
    · simp only [frozen?_alloc_cells]; exact frozen_late (by omega)
  have G0 := Lib.hid g0
  clear g0 hR hmk
  go_loopg [7] 256 (fun k iv wr => k ≤ 256 ∧ iv = .int .i64 ((k : Int) - 1) ∧ Dv w a3 a2 a1 a0 b1 b0 (wd (rq N d k) 1) (wd (rq N d k) 0) (qq N d k) wr)
  case atStart =>
    refine ⟨Nat.le_refl _, rfl, ?_⟩
    rw [rq_top HN.out, qq_top HN.out]; exact G0.out
  case round =>
    obtain ⟨hk, rfl, P⟩ := hrel
    clear G0
    rcases gk with _ | k
    · rw [rq_end, qq_end] at P
      have HP := Lib.hid P
      have hF : Has (w.heap.size + 1 + 1 + 1 + 1) [.int .u64 (wd (N / d) 0), .int .u64 (wd (N / d) 1), .int .u64 (wd (N / d) 2), .int .u64 (wd (N / d) 3)] wr := Has.mk4 P.size (P.q 0 (by decide)) (P.q 1 (by decide)) (P.q 2 (by decide)) (P.q 3 (by decide))
      have HF := Lib.hid hF
      clear P hF HBits HLesss HSubs
      go_wp2_with fail
      refine (rfour_any _ _ _ _ _ _ HF.out).mono ?_
      rintro e w1 ⟨rfl, hb⟩
      have HP1 := Lib.hid (HP.out.step hb)
      clear hb HP HF
      have P := HP1.out
      have c0 := P.out.2 0 _ rfl; have c1 := P.out.2 1 _ rfl; have c2 := P.out.2 2 _ rfl; have c3 := P.out.2 3 _ rfl; have c4 := P.out.2 4 _ rfl; have c5 := P.out.2 5 _ rfl; have c6 := P.out.2 6 _ rfl
      have s0 := P.res.2 0 _ rfl; have s1 := P.res.2 1 _ rfl; have s2 := P.res.2 2 _ rfl; have s3 := P.res.2 3 _ rfl; have s4 := P.res.2 4 _ rfl; have s5 := P.res.2 5 _ rfl; have s6 := P.res.2 6 _ rfl
      have fo : ∀ j, w1.frozen? ⟨w.heap.size + 1 + 1 + 1, j, none⟩ = false := P.zo
      have fr : ∀ j, w1.frozen? ⟨w.heap.size + 1 + 1, j, none⟩ = false := P.zr
      have zO := P.out.1; have zR := P.res.1
      clear P
      go_wp2_with fail
      refine bodyPost_ret (by simp [results, Try.results15, go_sem, *]; try rfl) rfl ?_
      refine ⟨rfl, ?_⟩
      have hB := HP1.out.below
      repeat (first | with_reducible exact hB | with_reducible refine Below.setCell ?_ (by simp; omega) _)
    · have HP := Lib.hid P
      have k1 : ((k + 1 : Nat) : Int) - 1 = (k : Int) := by omega
      have k4 : (k : Int) < 256 := by omega
      have wk : IntKind.i64.wrap ((k : Int) - 1) = (k : Int) - 1 := IntWalk.i64_in _ (by omega)
      rw [k1]
      obtain ⟨q, hq⟩ : ∃ q, q = k / 64 := ⟨_, rfl⟩
      obtain ⟨r, hr⟩ : ∃ r, r = k % 64 := ⟨_, rfl⟩
      have hkq : k = 64 * q + r := by omega
      have hq4 : q < 4 := by omega
      have hq5 : (q : Int) < 4 := by omega
      have hr6 : (r : Int) < 64 := by omega
      have hrn : r < 64 := by omega
      have t1 : (k : Int).tdiv 64 = (q : Int) := by rw [Int.tdiv_eq_ediv_of_nonneg (by omega)]; omega
      have t2 : (k : Int).tmod 64 = (r : Int) := by rw [Int.tmod_eq_emod_of_nonneg (by omega)]; omega
      have t3 : IntKind.i64.wrap (q : Int) = q := IntWalk.i64_in _ (by omega)
      have t4 : IntKind.u64.wrap ((2 : Int) ^ r) = 2 ^ r := by
        have := pow_word r hrn
        have e : ((2 : Int) ^ r) = ((2 ^ r : Nat) : Int) := by simp
        rw [e]; clear e; generalize (2 : Nat) ^ r = Z at *; exact IntWalk.u64_in _ (by omega)
      have hlt := rq_lt (N := N) (m := k + 1) HD.out
      have hbl := bt_le N k
      have hw := two_words (R := rq N d (k + 1)) (b := bt N k) (by have := HD2.out; omega) hbl
      have hst := div_step (N := N) (i := k) HD.out
      have HBit := Lib.hid (HBits.out k (by omega))
      have HLess := Lib.hid (HLesss.out (2 * rq N d (k + 1) + bt N k))
      have HSub := Lib.hid (HSubs.out (2 * rq N d (k + 1) + bt N k))
      have hmore := word_more (Q := qq N d (k + 1)) (m := k) (q := q) (r := r) hrn hkq (qq_dvd N d (k + 1))
      rw [show ((2 ^ r : Nat) : Int) = (2 : Int) ^ r by simp] at hmore
      have hd2 := HD2.out
      obtain ⟨w1', w0', wh⟩ := hw
      have HS : Hid ((2 * rq N d (k + 1) + bt N k < d ∧ wd (rq N d (k + 1)) 1 / 9223372036854775808 = 0 ∧ decide ((2 * rq N d (k + 1) + bt N k) % 340282366920938463463374607431768211456 < d) = true ∧
          (wd (rq N d k) 1 = wd (2 * rq N d (k + 1) + bt N k) 1 ∧ wd (rq N d k) 0 = wd (2 * rq N d (k + 1) + bt N k) 0 ∧ qq N d k = qq N d (k + 1))) ∨
        ((wd (rq N d (k + 1)) 1 / 9223372036854775808 = 1 ∨ (wd (rq N d (k + 1)) 1 / 9223372036854775808 = 0 ∧ decide ((2 * rq N d (k + 1) + bt N k) % 340282366920938463463374607431768211456 < d) = false)) ∧
          (wd (rq N d k) 1 = wd ((2 * rq N d (k + 1) + bt N k) % 340282366920938463463374607431768211456 + (340282366920938463463374607431768211456 - d)) 1 ∧ wd (rq N d k) 0 = wd ((2 * rq N d (k + 1) + bt N k) % 340282366920938463463374607431768211456 + (340282366920938463463374607431768211456 - d)) 0 ∧
            bits .or .u64 (wd (qq N d (k + 1)) q) (2 ^ r) = wd (qq N d k) q ∧ ∀ j, j ≠ q → wd (qq N d k) j = wd (qq N d (k + 1)) j))) := by
        rcases hst with ⟨g, e1, e2⟩ | ⟨g, e1, e2⟩
        · left
          refine ⟨g, by rw [wh, if_neg (by omega)]; rfl, decide_eq_true ?_, by rw [e1], by rw [e1], e2⟩
          rw [Nat.mod_eq_of_lt (by omega)]; exact g
        · right
          have s1 := sub_words (R := 2 * rq N d (k + 1) + bt N k) (d := d) hd2 g (by omega) (by omega) 1 (by decide)
          have s0 := sub_words (R := 2 * rq N d (k + 1) + bt N k) (d := d) hd2 g (by omega) (by omega) 0 (by decide)
          refine ⟨?_, by rw [e1, s1], by rw [e1, s0], by rw [e2]; exact hmore.1, fun j hj => by rw [e2]; exact hmore.2 j hj⟩
          rcases Nat.lt_or_ge (2 * rq N d (k + 1) + bt N k) 340282366920938463463374607431768211456 with c | c
          · right
            refine ⟨by rw [wh, if_neg (by omega)]; rfl, decide_eq_false ?_⟩
            rw [Nat.mod_eq_of_lt c]; omega
          · left; rw [wh, if_pos c]; rfl
      clear hst hmore wh hlt hd2 HBits HLesss HSubs hq hr hkq hrn hbl k1 HN HD HD2
      have P := HP.out
      clear P
      generalize hr1 : wd (rq N d (k + 1)) 1 = r1 at *
      generalize hr0 : wd (rq N d (k + 1)) 0 = r0 at *
      generalize hn1 : wd (2 * rq N d (k + 1) + bt N k) 1 = n1 at *
      generalize hn0 : wd (2 * rq N d (k + 1) + bt N k) 0 = n0 at *
      generalize wd ((2 * rq N d (k + 1) + bt N k) % 340282366920938463463374607431768211456 + (340282366920938463463374607431768211456 - d)) 1 = m1 at *
      generalize wd ((2 * rq N d (k + 1) + bt N k) % 340282366920938463463374607431768211456 + (340282366920938463463374607431768211456 - d)) 0 = m0 at *
      generalize qq N d (k + 1) = QQ at *
      generalize (bt N k) = bb at *
      clear hr1 hr0 hn1 hn0
      have P := HP.out
      have c4 := P.out.2 4 _ rfl; have c5 := P.out.2 5 _ rfl
      have ca3 := P.a.2 0 _ rfl; have ca2 := P.a.2 1 _ rfl; have ca1 := P.a.2 2 _ rfl; have ca0 := P.a.2 3 _ rfl
      have cb1 := P.b.2 0 _ rfl; have cb0 := P.b.2 1 _ rfl
      have zA := P.a.1; have zB := P.b.1; have zO := P.out.1; have zQ := P.size
      have fo : ∀ j, wr.frozen? ⟨w.heap.size + 1 + 1 + 1, j, none⟩ = false := P.zo
      have fq : ∀ j, wr.frozen? ⟨w.heap.size + 1 + 1 + 1 + 1, j, none⟩ = false := P.zq
      clear P
      rcases HS.out with ⟨_, h0, hl, he⟩ | ⟨h0 | ⟨h0, hl⟩, he⟩
      · have HE := Lib.hid he
        clear HS he
        rw [hl] at HLess HSub
        go_wp2_with fail
        refine wp_region_late_drew (fun w' => w'.cell? ⟨w.heap.size + 1 + 1 + 1, 4, none⟩ = some (.int .u64 r1) ∧ w'.cell? ⟨w.heap.size + 1 + 1 + 1, 5, none⟩ = some (.int .u64 r0) ∧ w'.cell? ⟨w.heap.size, 0, none⟩ = some (.int .u64 a3) ∧ w'.cell? ⟨w.heap.size, 1, none⟩ = some (.int .u64 a2) ∧ w'.cell? ⟨w.heap.size, 2, none⟩ = some (.int .u64 a1) ∧ w'.cell? ⟨w.heap.size, 3, none⟩ = some (.int .u64 a0)) 19 (by kernel_rfl) ?_ (fun hHeld => ?_)
        · (try dsimp only); (first | (simp [*, go_sem]; done) | (simp [*, go_sem, World.cell?_alloc_past]; done))
        refine wpAnyK_take (i := 0) (oi := _) (v := ?_) (by simp only [List.getElem?_toArray, List.getElem?_cons_zero]; rfl) (by kernel_rfl) (by kernel_rfl) (by kernel_rfl) (by kernel_rfl) (by kernel_rfl) (by exact fun _ _ _ h => h) (Or.inl ⟨by rfl, ?_⟩) hHeld ?_
        rotate_left 1
        · (intro w hSw; (try dsimp only at hSw); go_simp; try with_reducible rfl)
        try simp only [Act.put, List.setIfInBounds_toArray, List.set_cons_zero, List.set_cons_succ]
        refine wpAnyK_take (i := 1) (oi := _) (v := ?_) (by simp only [List.getElem?_toArray, List.getElem?_cons_succ, List.getElem?_cons_zero]; rfl) (by kernel_rfl) (by kernel_rfl) (by kernel_rfl) (by kernel_rfl) (by kernel_rfl) (by exact fun _ _ _ h => h) (Or.inl ⟨by rfl, ?_⟩) hHeld ?_
        rotate_left 1
        · (intro w hSw; (try dsimp only at hSw); go_simp; try with_reducible rfl)
        try simp only [Act.put, List.setIfInBounds_toArray, List.set_cons_zero, List.set_cons_succ]
        refine wpAnyK_take (i := 2) (oi := _) (v := ?_) (by simp only [List.getElem?_toArray, List.getElem?_cons_succ, List.getElem?_cons_zero]; rfl) (by kernel_rfl) (by kernel_rfl) (by kernel_rfl) (by kernel_rfl) (by kernel_rfl) (by exact fun _ _ _ h => h) (Or.inl ⟨by rfl, ?_⟩) hHeld ?_
        rotate_left 1
        · (intro w hSw; (try dsimp only at hSw); go_simp; try with_reducible rfl)
        try simp only [Act.put, List.setIfInBounds_toArray, List.set_cons_zero, List.set_cons_succ]
        refine wpAnyK_take (i := 3) (oi := _) (v := ?_) (by simp only [List.getElem?_toArray, List.getElem?_cons_succ, List.getElem?_cons_zero]; rfl) (by kernel_rfl) (by kernel_rfl) (by kernel_rfl) (by kernel_rfl) (by kernel_rfl) (by exact fun _ _ _ h => h) (Or.inl ⟨by rfl, ?_⟩) hHeld ?_
        rotate_left 1
        · (intro w hSw; (try dsimp only at hSw); go_simp; try with_reducible rfl)
        try simp only [Act.put, List.setIfInBounds_toArray, List.set_cons_zero, List.set_cons_succ]
        refine wpAnyK_take (i := 4) (oi := _) (v := ?_) (by simp only [List.getElem?_toArray, List.getElem?_cons_succ, List.getElem?_cons_zero]; rfl) (by kernel_rfl) (by kernel_rfl) (by kernel_rfl) (by kernel_rfl) (by kernel_rfl) (by exact fun _ _ _ h => h) (Or.inl ⟨by rfl, ?_⟩) hHeld ?_
        rotate_left 1
        · (intro w hSw; (try dsimp only at hSw); go_simp; try with_reducible rfl)
        try simp only [Act.put, List.setIfInBounds_toArray, List.set_cons_zero, List.set_cons_succ]
        refine wpAnyK_take (i := 5) (oi := _) (v := ?_) (by simp only [List.getElem?_toArray, List.getElem?_cons_succ, List.getElem?_cons_zero]; rfl) (by kernel_rfl) (by kernel_rfl) (by kernel_rfl) (by kernel_rfl) (by kernel_rfl) (by exact fun _ _ _ h => h) (Or.inl ⟨by rfl, ?_⟩) hHeld ?_
        rotate_left 1
        · (intro w hSw; (try dsimp only at hSw); go_simp; try with_reducible rfl)
        try simp only [Act.put, List.setIfInBounds_toArray, List.set_cons_zero, List.set_cons_succ]
        refine wpAnyK_take (i := 6) (oi := _) (v := ?_) (by simp only [List.getElem?_toArray, List.getElem?_cons_succ, List.getElem?_cons_zero]; rfl) (by kernel_rfl) (by kernel_rfl) (by kernel_rfl) (by kernel_rfl) (by kernel_rfl) (by exact fun _ _ _ h => h) (Or.inl ⟨by rfl, ?_⟩) hHeld ?_
        rotate_left 1
        · (intro w hSw; (try dsimp only at hSw); go_simp; try with_reducible rfl)
        try simp only [Act.put, List.setIfInBounds_toArray, List.set_cons_zero, List.set_cons_succ]
        refine wpAnyK_take (i := 7) (oi := _) (v := ?_) (by simp only [List.getElem?_toArray, List.getElem?_cons_succ, List.getElem?_cons_zero]; rfl) (by kernel_rfl) (by kernel_rfl) (by kernel_rfl) (by kernel_rfl) (by kernel_rfl) (by exact fun _ _ _ h => h) (Or.inl ⟨by rfl, ?_⟩) hHeld ?_
        rotate_left 1
        · (intro w hSw; (try dsimp only at hSw); go_simp; try with_reducible rfl)
        try simp only [Act.put, List.setIfInBounds_toArray, List.set_cons_zero, List.set_cons_succ]
        refine wpAnyK_take (i := 8) (oi := _) (v := ?_) (by simp only [List.getElem?_toArray, List.getElem?_cons_succ, List.getElem?_cons_zero]; rfl) (by kernel_rfl) (by kernel_rfl) (by kernel_rfl) (by kernel_rfl) (by kernel_rfl) (by exact fun _ _ _ h => h) (Or.inl ⟨by rfl, ?_⟩) hHeld ?_
        rotate_left 1
        · (intro w hSw; (try dsimp only at hSw); go_simp; try with_reducible rfl)
        try simp only [Act.put, List.setIfInBounds_toArray, List.set_cons_zero, List.set_cons_succ]
        refine wpAnyK_take (i := 9) (oi := _) (v := ?_) (by simp only [List.getElem?_toArray, List.getElem?_cons_succ, List.getElem?_cons_zero]; rfl) (by kernel_rfl) (by kernel_rfl) (by kernel_rfl) (by kernel_rfl) (by kernel_rfl) (by exact fun _ _ _ h => h) (Or.inl ⟨by rfl, ?_⟩) hHeld ?_
        rotate_left 1
        · (intro w hSw; (try dsimp only at hSw); go_simp; try with_reducible rfl)
        try simp only [Act.put, List.setIfInBounds_toArray, List.set_cons_zero, List.set_cons_succ]
        refine wpAnyK_take (i := 10) (oi := _) (v := ?_) (by simp only [List.getElem?_toArray, List.getElem?_cons_succ, List.getElem?_cons_zero]; rfl) (by kernel_rfl) (by kernel_rfl) (by kernel_rfl) (by kernel_rfl) (by kernel_rfl) (by exact fun _ _ _ h => h) (Or.inl ⟨by rfl, ?_⟩) hHeld ?_
        rotate_left 1
        · (intro w hSw; (try dsimp only at hSw); go_simp; try with_reducible rfl)
        try simp only [Act.put, List.setIfInBounds_toArray, List.set_cons_zero, List.set_cons_succ]
        refine wpAnyK_take (i := 11) (oi := _) (v := ?_) (by simp only [List.getElem?_toArray, List.getElem?_cons_succ, List.getElem?_cons_zero]; rfl) (by kernel_rfl) (by kernel_rfl) (by kernel_rfl) (by kernel_rfl) (by kernel_rfl) (by exact fun _ _ _ h => h) (Or.inl ⟨by rfl, ?_⟩) hHeld ?_
        rotate_left 1
        · (intro w hSw; (try dsimp only at hSw); go_simp; try with_reducible rfl)
        try simp only [Act.put, List.setIfInBounds_toArray, List.set_cons_zero, List.set_cons_succ]
        refine wpAnyK_take (i := 12) (oi := _) (v := ?_) (by simp only [List.getElem?_toArray, List.getElem?_cons_succ, List.getElem?_cons_zero]; rfl) (by kernel_rfl) (by kernel_rfl) (by kernel_rfl) (by kernel_rfl) (by kernel_rfl) (by exact fun _ _ _ h => h) (Or.inl ⟨by rfl, ?_⟩) hHeld ?_
        rotate_left 1
        · (intro w hSw; (try dsimp only at hSw); go_simp; try with_reducible rfl)
        try simp only [Act.put, List.setIfInBounds_toArray, List.set_cons_zero, List.set_cons_succ]
        refine wpAnyK_take (i := 13) (oi := _) (v := ?_) (by simp only [List.getElem?_toArray, List.getElem?_cons_succ, List.getElem?_cons_zero]; rfl) (by kernel_rfl) (by kernel_rfl) (by kernel_rfl) (by kernel_rfl) (by kernel_rfl) (by exact fun _ _ _ h => h) (Or.inl ⟨by rfl, ?_⟩) hHeld ?_
        rotate_left 1
        · (intro w hSw; (try dsimp only at hSw); go_simp; try with_reducible rfl)
        try simp only [Act.put, List.setIfInBounds_toArray, List.set_cons_zero, List.set_cons_succ]
        refine wpAnyK_take (i := 14) (oi := _) (v := ?_) (by simp only [List.getElem?_toArray, List.getElem?_cons_succ, List.getElem?_cons_zero]; rfl) (by kernel_rfl) (by kernel_rfl) (by kernel_rfl) (by kernel_rfl) (by kernel_rfl) (by exact fun _ _ _ h => h) (Or.inl ⟨by rfl, ?_⟩) hHeld ?_
        rotate_left 1
        · (intro w hSw; (try dsimp only at hSw); go_simp; try with_reducible rfl)
        try simp only [Act.put, List.setIfInBounds_toArray, List.set_cons_zero, List.set_cons_succ]
        refine wpAnyK_one (i := 15) (o := _) (by kernel_rfl) (by simp only [List.getElem?_toArray, List.getElem?_cons_succ, List.getElem?_cons_zero]; rfl) (fun K hK => ?_)
        go_simp
        (with_reducible refine (HBit.out _).mono ?_); rintro e w1 ⟨rfl, hb⟩; obtain ⟨hcl, hfr⟩ := bcell_drew hb; have HB1 : Hid (Below wr.heap.size wr w1) := bl_trans (Below.refl _ _).drew hb; have y0 : w.heap.size < w1.heap.size := (by have hz := hb.size; simp at hz; omega); have y3 : w.heap.size + 1 + 1 + 1 < w1.heap.size := (by have hz := hb.size; simp at hz; omega); clear hb
        try go_wp2_with fail
        refine hK.out _ _ (fun _ => ?_) (fun hHeldN => ?_)
        · (try dsimp only); (first | (simp [*, go_sem]; done) | (simp [*, go_sem, World.cell?_alloc_past]; done))
        replace hHeld := hHeldN (by kernel_rfl)
        clear hK K hHeldN
        try simp only [Act.put, List.setIfInBounds_toArray, List.set_cons_zero, List.set_cons_succ]
        refine wpAnyK_take (i := 16) (oi := _) (v := ?_) (by simp only [List.getElem?_toArray, List.getElem?_cons_succ, List.getElem?_cons_zero]; rfl) (by kernel_rfl) (by kernel_rfl) (by kernel_rfl) (by kernel_rfl) (by kernel_rfl) (by exact fun _ _ _ h => h) (Or.inl ⟨by rfl, ?_⟩) hHeld ?_
        rotate_left 1
        · (intro w hSw; (try dsimp only at hSw); go_simp; try with_reducible rfl)
        try simp only [Act.put, List.setIfInBounds_toArray, List.set_cons_zero, List.set_cons_succ]
        refine wpAnyK_take (i := 17) (oi := _) (v := ?_) (by simp only [List.getElem?_toArray, List.getElem?_cons_succ, List.getElem?_cons_zero]; rfl) (by kernel_rfl) (by kernel_rfl) (by kernel_rfl) (by kernel_rfl) (by kernel_rfl) (by exact fun _ _ _ h => h) (Or.inl ⟨by rfl, ?_⟩) hHeld ?_
        rotate_left 1
        · (intro w hSw; (try dsimp only at hSw); go_simp; try with_reducible rfl)
        try simp only [Act.put, List.setIfInBounds_toArray, List.set_cons_zero, List.set_cons_succ]
        refine wpAnyK_take (i := 18) (oi := _) (v := ?_) (by simp only [List.getElem?_toArray, List.getElem?_cons_succ, List.getElem?_cons_zero]; rfl) (by kernel_rfl) (by kernel_rfl) (by kernel_rfl) (by kernel_rfl) (by kernel_rfl) (by exact fun _ _ _ h => h) (Or.inl ⟨by rfl, ?_⟩) hHeld ?_
        rotate_left 1
        · (intro w hSw; (try dsimp only at hSw); go_simp; try with_reducible rfl)
        try simp only [Act.put, List.setIfInBounds_toArray, List.set_cons_zero, List.set_cons_succ]
        refine wpAnyK_one (i := 19) (o := _) (by kernel_rfl) (by simp only [List.getElem?_toArray, List.getElem?_cons_succ, List.getElem?_cons_zero]; rfl) (fun K hK => ?_)
        go_simp
        refine hK.out _ _ (fun h => absurd (Eq.trans (Eq.symm h) (by kernel_rfl)) Bool.false_ne_true) (fun _ => ?_)
        clear hK K
        try simp only [Act.put, List.setIfInBounds_toArray, List.set_cons_zero, List.set_cons_succ]
        refine wpAnyK_done (by kernel_rfl) ?_ _
        clear hHeld
        clear hcl hfr y0 y3 c4 c5 ca3 ca2 ca1 ca0 cb1 cb0 zA zB zO zQ fo fq
        have HP1 := Lib.hid ((HP.out.step HB1.out).rest n1 n0)
        clear HP HB1
        go_upto_region 10 with fail
        refine name_world (P := fun W => Code.wp _ _ _ _ W) _ (fun R hR => ?_)
        rw [← hR] at HP1
        clear hR
        have P := HP1.out
        have c4 := P.out.2 4 _ rfl; have c5 := P.out.2 5 _ rfl
        have ca3 := P.a.2 0 _ rfl; have ca2 := P.a.2 1 _ rfl; have ca1 := P.a.2 2 _ rfl; have ca0 := P.a.2 3 _ rfl
        have cb1 := P.b.2 0 _ rfl; have cb0 := P.b.2 1 _ rfl
        have zA := P.a.1; have zB := P.b.1; have zO := P.out.1; have zQ := P.size
        have fo : ∀ j, R.frozen? ⟨w.heap.size + 1 + 1 + 1, j, none⟩ = false := P.zo
        have fq : ∀ j, R.frozen? ⟨w.heap.size + 1 + 1 + 1 + 1, j, none⟩ = false := P.zq
        clear P
        go_wp2_with fail
        (with_reducible refine (HLess.out _).mono ?_); rintro e w2 ⟨rfl, hb⟩
        have HP2 := Lib.hid (HP1.out.step hb)
        clear hb HP1 c4 c5 ca3 ca2 ca1 ca0 cb1 cb0 zA zB zO zQ fo fq
        have P := HP2.out
        have c4 := P.out.2 4 _ rfl; have c5 := P.out.2 5 _ rfl
        have ca3 := P.a.2 0 _ rfl; have ca2 := P.a.2 1 _ rfl; have ca1 := P.a.2 2 _ rfl; have ca0 := P.a.2 3 _ rfl
        have cb1 := P.b.2 0 _ rfl; have cb0 := P.b.2 1 _ rfl
        have zA := P.a.1; have zB := P.b.1; have zO := P.out.1; have zQ := P.size
        have fo : ∀ j, w2.frozen? ⟨w.heap.size + 1 + 1 + 1, j, none⟩ = false := P.zo
        have fq : ∀ j, w2.frozen? ⟨w.heap.size + 1 + 1 + 1 + 1, j, none⟩ = false := P.zq
        clear P
        go_wp2_with fail
        go_roundg k
        case measure => omega
        case rel => exact ⟨by omega, rfl, by rw [HE.out.1, HE.out.2.1, HE.out.2.2]; exact HP2.out⟩
      · have HE := Lib.hid he
        clear HS he
        go_wp2_with fail
        refine wp_region_late_drew (fun w' => w'.cell? ⟨w.heap.size + 1 + 1 + 1, 4, none⟩ = some (.int .u64 r1) ∧ w'.cell? ⟨w.heap.size + 1 + 1 + 1, 5, none⟩ = some (.int .u64 r0) ∧ w'.cell? ⟨w.heap.size, 0, none⟩ = some (.int .u64 a3) ∧ w'.cell? ⟨w.heap.size, 1, none⟩ = some (.int .u64 a2) ∧ w'.cell? ⟨w.heap.size, 2, none⟩ = some (.int .u64 a1) ∧ w'.cell? ⟨w.heap.size, 3, none⟩ = some (.int .u64 a0)) 19 (by kernel_rfl) ?_ (fun hHeld => ?_)
        · (try dsimp only); (first | (simp [*, go_sem]; done) | (simp [*, go_sem, World.cell?_alloc_past]; done))
        refine wpAnyK_take (i := 0) (oi := _) (v := ?_) (by simp only [List.getElem?_toArray, List.getElem?_cons_zero]; rfl) (by kernel_rfl) (by kernel_rfl) (by kernel_rfl) (by kernel_rfl) (by kernel_rfl) (by exact fun _ _ _ h => h) (Or.inl ⟨by rfl, ?_⟩) hHeld ?_
        rotate_left 1
        · (intro w hSw; (try dsimp only at hSw); go_simp; try with_reducible rfl)
        try simp only [Act.put, List.setIfInBounds_toArray, List.set_cons_zero, List.set_cons_succ]
        refine wpAnyK_take (i := 1) (oi := _) (v := ?_) (by simp only [List.getElem?_toArray, List.getElem?_cons_succ, List.getElem?_cons_zero]; rfl) (by kernel_rfl) (by kernel_rfl) (by kernel_rfl) (by kernel_rfl) (by kernel_rfl) (by exact fun _ _ _ h => h) (Or.inl ⟨by rfl, ?_⟩) hHeld ?_
        rotate_left 1
        · (intro w hSw; (try dsimp only at hSw); go_simp; try with_reducible rfl)
        try simp only [Act.put, List.setIfInBounds_toArray, List.set_cons_zero, List.set_cons_succ]
        refine wpAnyK_take (i := 2) (oi := _) (v := ?_) (by simp only [List.getElem?_toArray, List.getElem?_cons_succ, List.getElem?_cons_zero]; rfl) (by kernel_rfl) (by kernel_rfl) (by kernel_rfl) (by kernel_rfl) (by kernel_rfl) (by exact fun _ _ _ h => h) (Or.inl ⟨by rfl, ?_⟩) hHeld ?_
        rotate_left 1
        · (intro w hSw; (try dsimp only at hSw); go_simp; try with_reducible rfl)
        try simp only [Act.put, List.setIfInBounds_toArray, List.set_cons_zero, List.set_cons_succ]
        refine wpAnyK_take (i := 3) (oi := _) (v := ?_) (by simp only [List.getElem?_toArray, List.getElem?_cons_succ, List.getElem?_cons_zero]; rfl) (by kernel_rfl) (by kernel_rfl) (by kernel_rfl) (by kernel_rfl) (by kernel_rfl) (by exact fun _ _ _ h => h) (Or.inl ⟨by rfl, ?_⟩) hHeld ?_
        rotate_left 1
        · (intro w hSw; (try dsimp only at hSw); go_simp; try with_reducible rfl)
        try simp only [Act.put, List.setIfInBounds_toArray, List.set_cons_zero, List.set_cons_succ]
        refine wpAnyK_take (i := 4) (oi := _) (v := ?_) (by simp only [List.getElem?_toArray, List.getElem?_cons_succ, List.getElem?_cons_zero]; rfl) (by kernel_rfl) (by kernel_rfl) (by kernel_rfl) (by kernel_rfl) (by kernel_rfl) (by exact fun _ _ _ h => h) (Or.inl ⟨by rfl, ?_⟩) hHeld ?_
        rotate_left 1
        · (intro w hSw; (try dsimp only at hSw); go_simp; try with_reducible rfl)
        try simp only [Act.put, List.setIfInBounds_toArray, List.set_cons_zero, List.set_cons_succ]
        refine wpAnyK_take (i := 5) (oi := _) (v := ?_) (by simp only [List.getElem?_toArray, List.getElem?_cons_succ, List.getElem?_cons_zero]; rfl) (by kernel_rfl) (by kernel_rfl) (by kernel_rfl) (by kernel_rfl) (by kernel_rfl) (by exact fun _ _ _ h => h) (Or.inl ⟨by rfl, ?_⟩) hHeld ?_
        rotate_left 1
        · (intro w hSw; (try dsimp only at hSw); go_simp; try with_reducible rfl)
        try simp only [Act.put, List.setIfInBounds_toArray, List.set_cons_zero, List.set_cons_succ]
        refine wpAnyK_take (i := 6) (oi := _) (v := ?_) (by simp only [List.getElem?_toArray, List.getElem?_cons_succ, List.getElem?_cons_zero]; rfl) (by kernel_rfl) (by kernel_rfl) (by kernel_rfl) (by kernel_rfl) (by kernel_rfl) (by exact fun _ _ _ h => h) (Or.inl ⟨by rfl, ?_⟩) hHeld ?_
        rotate_left 1
        · (intro w hSw; (try dsimp only at hSw); go_simp; try with_reducible rfl)
        try simp only [Act.put, List.setIfInBounds_toArray, List.set_cons_zero, List.set_cons_succ]
        refine wpAnyK_take (i := 7) (oi := _) (v := ?_) (by simp only [List.getElem?_toArray, List.getElem?_cons_succ, List.getElem?_cons_zero]; rfl) (by kernel_rfl) (by kernel_rfl) (by kernel_rfl) (by kernel_rfl) (by kernel_rfl) (by exact fun _ _ _ h => h) (Or.inl ⟨by rfl, ?_⟩) hHeld ?_
        rotate_left 1
        · (intro w hSw; (try dsimp only at hSw); go_simp; try with_reducible rfl)
        try simp only [Act.put, List.setIfInBounds_toArray, List.set_cons_zero, List.set_cons_succ]
        refine wpAnyK_take (i := 8) (oi := _) (v := ?_) (by simp only [List.getElem?_toArray, List.getElem?_cons_succ, List.getElem?_cons_zero]; rfl) (by kernel_rfl) (by kernel_rfl) (by kernel_rfl) (by kernel_rfl) (by kernel_rfl) (by exact fun _ _ _ h => h) (Or.inl ⟨by rfl, ?_⟩) hHeld ?_
        rotate_left 1
        · (intro w hSw; (try dsimp only at hSw); go_simp; try with_reducible rfl)
        try simp only [Act.put, List.setIfInBounds_toArray, List.set_cons_zero, List.set_cons_succ]
        refine wpAnyK_take (i := 9) (oi := _) (v := ?_) (by simp only [List.getElem?_toArray, List.getElem?_cons_succ, List.getElem?_cons_zero]; rfl) (by kernel_rfl) (by kernel_rfl) (by kernel_rfl) (by kernel_rfl) (by kernel_rfl) (by exact fun _ _ _ h => h) (Or.inl ⟨by rfl, ?_⟩) hHeld ?_
        rotate_left 1
        · (intro w hSw; (try dsimp only at hSw); go_simp; try with_reducible rfl)
        try simp only [Act.put, List.setIfInBounds_toArray, List.set_cons_zero, List.set_cons_succ]
        refine wpAnyK_take (i := 10) (oi := _) (v := ?_) (by simp only [List.getElem?_toArray, List.getElem?_cons_succ, List.getElem?_cons_zero]; rfl) (by kernel_rfl) (by kernel_rfl) (by kernel_rfl) (by kernel_rfl) (by kernel_rfl) (by exact fun _ _ _ h => h) (Or.inl ⟨by rfl, ?_⟩) hHeld ?_
        rotate_left 1
        · (intro w hSw; (try dsimp only at hSw); go_simp; try with_reducible rfl)
        try simp only [Act.put, List.setIfInBounds_toArray, List.set_cons_zero, List.set_cons_succ]
        refine wpAnyK_take (i := 11) (oi := _) (v := ?_) (by simp only [List.getElem?_toArray, List.getElem?_cons_succ, List.getElem?_cons_zero]; rfl) (by kernel_rfl) (by kernel_rfl) (by kernel_rfl) (by kernel_rfl) (by kernel_rfl) (by exact fun _ _ _ h => h) (Or.inl ⟨by rfl, ?_⟩) hHeld ?_
        rotate_left 1
        · (intro w hSw; (try dsimp only at hSw); go_simp; try with_reducible rfl)
        try simp only [Act.put, List.setIfInBounds_toArray, List.set_cons_zero, List.set_cons_succ]
        refine wpAnyK_take (i := 12) (oi := _) (v := ?_) (by simp only [List.getElem?_toArray, List.getElem?_cons_succ, List.getElem?_cons_zero]; rfl) (by kernel_rfl) (by kernel_rfl) (by kernel_rfl) (by kernel_rfl) (by kernel_rfl) (by exact fun _ _ _ h => h) (Or.inl ⟨by rfl, ?_⟩) hHeld ?_
        rotate_left 1
        · (intro w hSw; (try dsimp only at hSw); go_simp; try with_reducible rfl)
        try simp only [Act.put, List.setIfInBounds_toArray, List.set_cons_zero, List.set_cons_succ]
        refine wpAnyK_take (i := 13) (oi := _) (v := ?_) (by simp only [List.getElem?_toArray, List.getElem?_cons_succ, List.getElem?_cons_zero]; rfl) (by kernel_rfl) (by kernel_rfl) (by kernel_rfl) (by kernel_rfl) (by kernel_rfl) (by exact fun _ _ _ h => h) (Or.inl ⟨by rfl, ?_⟩) hHeld ?_
        rotate_left 1
        · (intro w hSw; (try dsimp only at hSw); go_simp; try with_reducible rfl)
        try simp only [Act.put, List.setIfInBounds_toArray, List.set_cons_zero, List.set_cons_succ]
        refine wpAnyK_take (i := 14) (oi := _) (v := ?_) (by simp only [List.getElem?_toArray, List.getElem?_cons_succ, List.getElem?_cons_zero]; rfl) (by kernel_rfl) (by kernel_rfl) (by kernel_rfl) (by kernel_rfl) (by kernel_rfl) (by exact fun _ _ _ h => h) (Or.inl ⟨by rfl, ?_⟩) hHeld ?_
        rotate_left 1
        · (intro w hSw; (try dsimp only at hSw); go_simp; try with_reducible rfl)
        try simp only [Act.put, List.setIfInBounds_toArray, List.set_cons_zero, List.set_cons_succ]
        refine wpAnyK_one (i := 15) (o := _) (by kernel_rfl) (by simp only [List.getElem?_toArray, List.getElem?_cons_succ, List.getElem?_cons_zero]; rfl) (fun K hK => ?_)
        go_simp
        (with_reducible refine (HBit.out _).mono ?_); rintro e w1 ⟨rfl, hb⟩; obtain ⟨hcl, hfr⟩ := bcell_drew hb; have HB1 : Hid (Below wr.heap.size wr w1) := bl_trans (Below.refl _ _).drew hb; have y0 : w.heap.size < w1.heap.size := (by have hz := hb.size; simp at hz; omega); have y3 : w.heap.size + 1 + 1 + 1 < w1.heap.size := (by have hz := hb.size; simp at hz; omega); clear hb
        try go_wp2_with fail
        refine hK.out _ _ (fun _ => ?_) (fun hHeldN => ?_)
        · (try dsimp only); (first | (simp [*, go_sem]; done) | (simp [*, go_sem, World.cell?_alloc_past]; done))
        replace hHeld := hHeldN (by kernel_rfl)
        clear hK K hHeldN
        try simp only [Act.put, List.setIfInBounds_toArray, List.set_cons_zero, List.set_cons_succ]
        refine wpAnyK_take (i := 16) (oi := _) (v := ?_) (by simp only [List.getElem?_toArray, List.getElem?_cons_succ, List.getElem?_cons_zero]; rfl) (by kernel_rfl) (by kernel_rfl) (by kernel_rfl) (by kernel_rfl) (by kernel_rfl) (by exact fun _ _ _ h => h) (Or.inl ⟨by rfl, ?_⟩) hHeld ?_
        rotate_left 1
        · (intro w hSw; (try dsimp only at hSw); go_simp; try with_reducible rfl)
        try simp only [Act.put, List.setIfInBounds_toArray, List.set_cons_zero, List.set_cons_succ]
        refine wpAnyK_take (i := 17) (oi := _) (v := ?_) (by simp only [List.getElem?_toArray, List.getElem?_cons_succ, List.getElem?_cons_zero]; rfl) (by kernel_rfl) (by kernel_rfl) (by kernel_rfl) (by kernel_rfl) (by kernel_rfl) (by exact fun _ _ _ h => h) (Or.inl ⟨by rfl, ?_⟩) hHeld ?_
        rotate_left 1
        · (intro w hSw; (try dsimp only at hSw); go_simp; try with_reducible rfl)
        try simp only [Act.put, List.setIfInBounds_toArray, List.set_cons_zero, List.set_cons_succ]
        refine wpAnyK_take (i := 18) (oi := _) (v := ?_) (by simp only [List.getElem?_toArray, List.getElem?_cons_succ, List.getElem?_cons_zero]; rfl) (by kernel_rfl) (by kernel_rfl) (by kernel_rfl) (by kernel_rfl) (by kernel_rfl) (by exact fun _ _ _ h => h) (Or.inl ⟨by rfl, ?_⟩) hHeld ?_
        rotate_left 1
        · (intro w hSw; (try dsimp only at hSw); go_simp; try with_reducible rfl)
        try simp only [Act.put, List.setIfInBounds_toArray, List.set_cons_zero, List.set_cons_succ]
        refine wpAnyK_one (i := 19) (o := _) (by kernel_rfl) (by simp only [List.getElem?_toArray, List.getElem?_cons_succ, List.getElem?_cons_zero]; rfl) (fun K hK => ?_)
        go_simp
        refine hK.out _ _ (fun h => absurd (Eq.trans (Eq.symm h) (by kernel_rfl)) Bool.false_ne_true) (fun _ => ?_)
        clear hK K
        try simp only [Act.put, List.setIfInBounds_toArray, List.set_cons_zero, List.set_cons_succ]
        refine wpAnyK_done (by kernel_rfl) ?_ _
        clear hHeld
        clear hcl hfr y0 y3 c4 c5 ca3 ca2 ca1 ca0 cb1 cb0 zA zB zO zQ fo fq
        have HP1 := Lib.hid ((HP.out.step HB1.out).rest n1 n0)
        clear HP HB1
        go_upto_region 10 with fail
        refine name_world (P := fun W => Code.wp _ _ _ _ W) _ (fun R hR => ?_)
        rw [← hR] at HP1
        clear hR
        have P := HP1.out
        have c4 := P.out.2 4 _ rfl; have c5 := P.out.2 5 _ rfl
        have ca3 := P.a.2 0 _ rfl; have ca2 := P.a.2 1 _ rfl; have ca1 := P.a.2 2 _ rfl; have ca0 := P.a.2 3 _ rfl
        have cb1 := P.b.2 0 _ rfl; have cb0 := P.b.2 1 _ rfl
        have zA := P.a.1; have zB := P.b.1; have zO := P.out.1; have zQ := P.size
        have fo : ∀ j, R.frozen? ⟨w.heap.size + 1 + 1 + 1, j, none⟩ = false := P.zo
        have fq : ∀ j, R.frozen? ⟨w.heap.size + 1 + 1 + 1 + 1, j, none⟩ = false := P.zq
        clear P
        have HP2 := HP1
        clear HP1
        go_wp2_with fail
        (with_reducible refine (HSub.out _).mono ?_); rintro e w3 ⟨rfl, hb⟩
        have HP3 := Lib.hid (HP2.out.step hb)
        clear hb HP2 c4 c5 ca3 ca2 ca1 ca0 cb1 cb0 zA zB zO zQ fo fq
        have P := HP3.out
        have c4 := P.out.2 4 _ rfl; have c5 := P.out.2 5 _ rfl
        have ca3 := P.a.2 0 _ rfl; have ca2 := P.a.2 1 _ rfl; have ca1 := P.a.2 2 _ rfl; have ca0 := P.a.2 3 _ rfl
        have cb1 := P.b.2 0 _ rfl; have cb0 := P.b.2 1 _ rfl
        have zA := P.a.1; have zB := P.b.1; have zO := P.out.1; have zQ := P.size
        have fo : ∀ j, w3.frozen? ⟨w.heap.size + 1 + 1 + 1, j, none⟩ = false := P.zo
        have fq : ∀ j, w3.frozen? ⟨w.heap.size + 1 + 1 + 1 + 1, j, none⟩ = false := P.zq
        clear P
        go_upto_region 12 with fail
        refine name_world (P := fun W => Code.wp _ _ _ _ W) _ (fun R2 hR2 => ?_)
        have HP4 : Hid (Dv w a3 a2 a1 a0 b1 b0 m1 m0 QQ R2) := by rw [hR2]; exact HP3.out.rest m1 m0
        clear hR2 HP3 c4 c5 ca3 ca2 ca1 ca0 cb1 cb0 zA zB zO zQ fo fq
        have P := HP4.out
        have c4 := P.out.2 4 _ rfl; have c5 := P.out.2 5 _ rfl
        have ca3 := P.a.2 0 _ rfl; have ca2 := P.a.2 1 _ rfl; have ca1 := P.a.2 2 _ rfl; have ca0 := P.a.2 3 _ rfl
        have cb1 := P.b.2 0 _ rfl; have cb0 := P.b.2 1 _ rfl
        have zA := P.a.1; have zB := P.b.1; have zO := P.out.1; have zQ := P.size
        have fo : ∀ j, R2.frozen? ⟨w.heap.size + 1 + 1 + 1, j, none⟩ = false := P.zo
        have fq : ∀ j, R2.frozen? ⟨w.heap.size + 1 + 1 + 1 + 1, j, none⟩ = false := P.zq
        have cq := P.q q hq4
        clear P
        go_region_with (fail)
        go_wp2_with fail
        go_roundg k
        case measure => omega
        case rel => exact ⟨by omega, rfl, by rw [HE.out.1, HE.out.2.1]; exact (HP4.out.quot HE.out.2.2.1 HE.out.2.2.2 hq4).step (Below.refl _ _).drew⟩
      · have HE := Lib.hid he
        clear HS he
        rw [hl] at HLess HSub
        go_wp2_with fail
        refine wp_region_late_drew (fun w' => w'.cell? ⟨w.heap.size + 1 + 1 + 1, 4, none⟩ = some (.int .u64 r1) ∧ w'.cell? ⟨w.heap.size + 1 + 1 + 1, 5, none⟩ = some (.int .u64 r0) ∧ w'.cell? ⟨w.heap.size, 0, none⟩ = some (.int .u64 a3) ∧ w'.cell? ⟨w.heap.size, 1, none⟩ = some (.int .u64 a2) ∧ w'.cell? ⟨w.heap.size, 2, none⟩ = some (.int .u64 a1) ∧ w'.cell? ⟨w.heap.size, 3, none⟩ = some (.int .u64 a0)) 19 (by kernel_rfl) ?_ (fun hHeld => ?_)
        · (try dsimp only); (first | (simp [*, go_sem]; done) | (simp [*, go_sem, World.cell?_alloc_past]; done))
        refine wpAnyK_take (i := 0) (oi := _) (v := ?_) (by simp only [List.getElem?_toArray, List.getElem?_cons_zero]; rfl) (by kernel_rfl) (by kernel_rfl) (by kernel_rfl) (by kernel_rfl) (by kernel_rfl) (by exact fun _ _ _ h => h) (Or.inl ⟨by rfl, ?_⟩) hHeld ?_
        rotate_left 1
        · (intro w hSw; (try dsimp only at hSw); go_simp; try with_reducible rfl)
        try simp only [Act.put, List.setIfInBounds_toArray, List.set_cons_zero, List.set_cons_succ]
        refine wpAnyK_take (i := 1) (oi := _) (v := ?_) (by simp only [List.getElem?_toArray, List.getElem?_cons_succ, List.getElem?_cons_zero]; rfl) (by kernel_rfl) (by kernel_rfl) (by kernel_rfl) (by kernel_rfl) (by kernel_rfl) (by exact fun _ _ _ h => h) (Or.inl ⟨by rfl, ?_⟩) hHeld ?_
        rotate_left 1
        · (intro w hSw; (try dsimp only at hSw); go_simp; try with_reducible rfl)
        try simp only [Act.put, List.setIfInBounds_toArray, List.set_cons_zero, List.set_cons_succ]
        refine wpAnyK_take (i := 2) (oi := _) (v := ?_) (by simp only [List.getElem?_toArray, List.getElem?_cons_succ, List.getElem?_cons_zero]; rfl) (by kernel_rfl) (by kernel_rfl) (by kernel_rfl) (by kernel_rfl) (by kernel_rfl) (by exact fun _ _ _ h => h) (Or.inl ⟨by rfl, ?_⟩) hHeld ?_
        rotate_left 1
        · (intro w hSw; (try dsimp only at hSw); go_simp; try with_reducible rfl)
        try simp only [Act.put, List.setIfInBounds_toArray, List.set_cons_zero, List.set_cons_succ]
        refine wpAnyK_take (i := 3) (oi := _) (v := ?_) (by simp only [List.getElem?_toArray, List.getElem?_cons_succ, List.getElem?_cons_zero]; rfl) (by kernel_rfl) (by kernel_rfl) (by kernel_rfl) (by kernel_rfl) (by kernel_rfl) (by exact fun _ _ _ h => h) (Or.inl ⟨by rfl, ?_⟩) hHeld ?_
        rotate_left 1
        · (intro w hSw; (try dsimp only at hSw); go_simp; try with_reducible rfl)
        try simp only [Act.put, List.setIfInBounds_toArray, List.set_cons_zero, List.set_cons_succ]
        refine wpAnyK_take (i := 4) (oi := _) (v := ?_) (by simp only [List.getElem?_toArray, List.getElem?_cons_succ, List.getElem?_cons_zero]; rfl) (by kernel_rfl) (by kernel_rfl) (by kernel_rfl) (by kernel_rfl) (by kernel_rfl) (by exact fun _ _ _ h => h) (Or.inl ⟨by rfl, ?_⟩) hHeld ?_
        rotate_left 1
        · (intro w hSw; (try dsimp only at hSw); go_simp; try with_reducible rfl)
        try simp only [Act.put, List.setIfInBounds_toArray, List.set_cons_zero, List.set_cons_succ]
        refine wpAnyK_take (i := 5) (oi := _) (v := ?_) (by simp only [List.getElem?_toArray, List.getElem?_cons_succ, List.getElem?_cons_zero]; rfl) (by kernel_rfl) (by kernel_rfl) (by kernel_rfl) (by kernel_rfl) (by kernel_rfl) (by exact fun _ _ _ h => h) (Or.inl ⟨by rfl, ?_⟩) hHeld ?_
        rotate_left 1
        · (intro w hSw; (try dsimp only at hSw); go_simp; try with_reducible rfl)
        try simp only [Act.put, List.setIfInBounds_toArray, List.set_cons_zero, List.set_cons_succ]
        refine wpAnyK_take (i := 6) (oi := _) (v := ?_) (by simp only [List.getElem?_toArray, List.getElem?_cons_succ, List.getElem?_cons_zero]; rfl) (by kernel_rfl) (by kernel_rfl) (by kernel_rfl) (by kernel_rfl) (by kernel_rfl) (by exact fun _ _ _ h => h) (Or.inl ⟨by rfl, ?_⟩) hHeld ?_
        rotate_left 1
        · (intro w hSw; (try dsimp only at hSw); go_simp; try with_reducible rfl)
        try simp only [Act.put, List.setIfInBounds_toArray, List.set_cons_zero, List.set_cons_succ]
        refine wpAnyK_take (i := 7) (oi := _) (v := ?_) (by simp only [List.getElem?_toArray, List.getElem?_cons_succ, List.getElem?_cons_zero]; rfl) (by kernel_rfl) (by kernel_rfl) (by kernel_rfl) (by kernel_rfl) (by kernel_rfl) (by exact fun _ _ _ h => h) (Or.inl ⟨by rfl, ?_⟩) hHeld ?_
        rotate_left 1
        · (intro w hSw; (try dsimp only at hSw); go_simp; try with_reducible rfl)
        try simp only [Act.put, List.setIfInBounds_toArray, List.set_cons_zero, List.set_cons_succ]
        refine wpAnyK_take (i := 8) (oi := _) (v := ?_) (by simp only [List.getElem?_toArray, List.getElem?_cons_succ, List.getElem?_cons_zero]; rfl) (by kernel_rfl) (by kernel_rfl) (by kernel_rfl) (by kernel_rfl) (by kernel_rfl) (by exact fun _ _ _ h => h) (Or.inl ⟨by rfl, ?_⟩) hHeld ?_
        rotate_left 1
        · (intro w hSw; (try dsimp only at hSw); go_simp; try with_reducible rfl)
        try simp only [Act.put, List.setIfInBounds_toArray, List.set_cons_zero, List.set_cons_succ]
        refine wpAnyK_take (i := 9) (oi := _) (v := ?_) (by simp only [List.getElem?_toArray, List.getElem?_cons_succ, List.getElem?_cons_zero]; rfl) (by kernel_rfl) (by kernel_rfl) (by kernel_rfl) (by kernel_rfl) (by kernel_rfl) (by exact fun _ _ _ h => h) (Or.inl ⟨by rfl, ?_⟩) hHeld ?_
        rotate_left 1
        · (intro w hSw; (try dsimp only at hSw); go_simp; try with_reducible rfl)
        try simp only [Act.put, List.setIfInBounds_toArray, List.set_cons_zero, List.set_cons_succ]
        refine wpAnyK_take (i := 10) (oi := _) (v := ?_) (by simp only [List.getElem?_toArray, List.getElem?_cons_succ, List.getElem?_cons_zero]; rfl) (by kernel_rfl) (by kernel_rfl) (by kernel_rfl) (by kernel_rfl) (by kernel_rfl) (by exact fun _ _ _ h => h) (Or.inl ⟨by rfl, ?_⟩) hHeld ?_
        rotate_left 1
        · (intro w hSw; (try dsimp only at hSw); go_simp; try with_reducible rfl)
        try simp only [Act.put, List.setIfInBounds_toArray, List.set_cons_zero, List.set_cons_succ]
        refine wpAnyK_take (i := 11) (oi := _) (v := ?_) (by simp only [List.getElem?_toArray, List.getElem?_cons_succ, List.getElem?_cons_zero]; rfl) (by kernel_rfl) (by kernel_rfl) (by kernel_rfl) (by kernel_rfl) (by kernel_rfl) (by exact fun _ _ _ h => h) (Or.inl ⟨by rfl, ?_⟩) hHeld ?_
        rotate_left 1
        · (intro w hSw; (try dsimp only at hSw); go_simp; try with_reducible rfl)
        try simp only [Act.put, List.setIfInBounds_toArray, List.set_cons_zero, List.set_cons_succ]
        refine wpAnyK_take (i := 12) (oi := _) (v := ?_) (by simp only [List.getElem?_toArray, List.getElem?_cons_succ, List.getElem?_cons_zero]; rfl) (by kernel_rfl) (by kernel_rfl) (by kernel_rfl) (by kernel_rfl) (by kernel_rfl) (by exact fun _ _ _ h => h) (Or.inl ⟨by rfl, ?_⟩) hHeld ?_
        rotate_left 1
        · (intro w hSw; (try dsimp only at hSw); go_simp; try with_reducible rfl)
        try simp only [Act.put, List.setIfInBounds_toArray, List.set_cons_zero, List.set_cons_succ]
        refine wpAnyK_take (i := 13) (oi := _) (v := ?_) (by simp only [List.getElem?_toArray, List.getElem?_cons_succ, List.getElem?_cons_zero]; rfl) (by kernel_rfl) (by kernel_rfl) (by kernel_rfl) (by kernel_rfl) (by kernel_rfl) (by exact fun _ _ _ h => h) (Or.inl ⟨by rfl, ?_⟩) hHeld ?_
        rotate_left 1
        · (intro w hSw; (try dsimp only at hSw); go_simp; try with_reducible rfl)
        try simp only [Act.put, List.setIfInBounds_toArray, List.set_cons_zero, List.set_cons_succ]
        refine wpAnyK_take (i := 14) (oi := _) (v := ?_) (by simp only [List.getElem?_toArray, List.getElem?_cons_succ, List.getElem?_cons_zero]; rfl) (by kernel_rfl) (by kernel_rfl) (by kernel_rfl) (by kernel_rfl) (by kernel_rfl) (by exact fun _ _ _ h => h) (Or.inl ⟨by rfl, ?_⟩) hHeld ?_
        rotate_left 1
        · (intro w hSw; (try dsimp only at hSw); go_simp; try with_reducible rfl)
        try simp only [Act.put, List.setIfInBounds_toArray, List.set_cons_zero, List.set_cons_succ]
        refine wpAnyK_one (i := 15) (o := _) (by kernel_rfl) (by simp only [List.getElem?_toArray, List.getElem?_cons_succ, List.getElem?_cons_zero]; rfl) (fun K hK => ?_)
        go_simp
        (with_reducible refine (HBit.out _).mono ?_); rintro e w1 ⟨rfl, hb⟩; obtain ⟨hcl, hfr⟩ := bcell_drew hb; have HB1 : Hid (Below wr.heap.size wr w1) := bl_trans (Below.refl _ _).drew hb; have y0 : w.heap.size < w1.heap.size := (by have hz := hb.size; simp at hz; omega); have y3 : w.heap.size + 1 + 1 + 1 < w1.heap.size := (by have hz := hb.size; simp at hz; omega); clear hb
        try go_wp2_with fail
        refine hK.out _ _ (fun _ => ?_) (fun hHeldN => ?_)
        · (try dsimp only); (first | (simp [*, go_sem]; done) | (simp [*, go_sem, World.cell?_alloc_past]; done))
        replace hHeld := hHeldN (by kernel_rfl)
        clear hK K hHeldN
        try simp only [Act.put, List.setIfInBounds_toArray, List.set_cons_zero, List.set_cons_succ]
        refine wpAnyK_take (i := 16) (oi := _) (v := ?_) (by simp only [List.getElem?_toArray, List.getElem?_cons_succ, List.getElem?_cons_zero]; rfl) (by kernel_rfl) (by kernel_rfl) (by kernel_rfl) (by kernel_rfl) (by kernel_rfl) (by exact fun _ _ _ h => h) (Or.inl ⟨by rfl, ?_⟩) hHeld ?_
        rotate_left 1
        · (intro w hSw; (try dsimp only at hSw); go_simp; try with_reducible rfl)
        try simp only [Act.put, List.setIfInBounds_toArray, List.set_cons_zero, List.set_cons_succ]
        refine wpAnyK_take (i := 17) (oi := _) (v := ?_) (by simp only [List.getElem?_toArray, List.getElem?_cons_succ, List.getElem?_cons_zero]; rfl) (by kernel_rfl) (by kernel_rfl) (by kernel_rfl) (by kernel_rfl) (by kernel_rfl) (by exact fun _ _ _ h => h) (Or.inl ⟨by rfl, ?_⟩) hHeld ?_
        rotate_left 1
        · (intro w hSw; (try dsimp only at hSw); go_simp; try with_reducible rfl)
        try simp only [Act.put, List.setIfInBounds_toArray, List.set_cons_zero, List.set_cons_succ]
        refine wpAnyK_take (i := 18) (oi := _) (v := ?_) (by simp only [List.getElem?_toArray, List.getElem?_cons_succ, List.getElem?_cons_zero]; rfl) (by kernel_rfl) (by kernel_rfl) (by kernel_rfl) (by kernel_rfl) (by kernel_rfl) (by exact fun _ _ _ h => h) (Or.inl ⟨by rfl, ?_⟩) hHeld ?_
        rotate_left 1
        · (intro w hSw; (try dsimp only at hSw); go_simp; try with_reducible rfl)
        try simp only [Act.put, List.setIfInBounds_toArray, List.set_cons_zero, List.set_cons_succ]
        refine wpAnyK_one (i := 19) (o := _) (by kernel_rfl) (by simp only [List.getElem?_toArray, List.getElem?_cons_succ, List.getElem?_cons_zero]; rfl) (fun K hK => ?_)
        go_simp
        refine hK.out _ _ (fun h => absurd (Eq.trans (Eq.symm h) (by kernel_rfl)) Bool.false_ne_true) (fun _ => ?_)
        clear hK K
        try simp only [Act.put, List.setIfInBounds_toArray, List.set_cons_zero, List.set_cons_succ]
        refine wpAnyK_done (by kernel_rfl) ?_ _
        clear hHeld
        clear hcl hfr y0 y3 c4 c5 ca3 ca2 ca1 ca0 cb1 cb0 zA zB zO zQ fo fq
        have HP1 := Lib.hid ((HP.out.step HB1.out).rest n1 n0)
        clear HP HB1
        go_upto_region 10 with fail
        refine name_world (P := fun W => Code.wp _ _ _ _ W) _ (fun R hR => ?_)
        rw [← hR] at HP1
        clear hR
        have P := HP1.out
        have c4 := P.out.2 4 _ rfl; have c5 := P.out.2 5 _ rfl
        have ca3 := P.a.2 0 _ rfl; have ca2 := P.a.2 1 _ rfl; have ca1 := P.a.2 2 _ rfl; have ca0 := P.a.2 3 _ rfl
        have cb1 := P.b.2 0 _ rfl; have cb0 := P.b.2 1 _ rfl
        have zA := P.a.1; have zB := P.b.1; have zO := P.out.1; have zQ := P.size
        have fo : ∀ j, R.frozen? ⟨w.heap.size + 1 + 1 + 1, j, none⟩ = false := P.zo
        have fq : ∀ j, R.frozen? ⟨w.heap.size + 1 + 1 + 1 + 1, j, none⟩ = false := P.zq
        clear P
        go_wp2_with fail
        (with_reducible refine (HLess.out _).mono ?_); rintro e w2 ⟨rfl, hb⟩
        have HP2 := Lib.hid (HP1.out.step hb)
        clear hb HP1 c4 c5 ca3 ca2 ca1 ca0 cb1 cb0 zA zB zO zQ fo fq
        have P := HP2.out
        have c4 := P.out.2 4 _ rfl; have c5 := P.out.2 5 _ rfl
        have ca3 := P.a.2 0 _ rfl; have ca2 := P.a.2 1 _ rfl; have ca1 := P.a.2 2 _ rfl; have ca0 := P.a.2 3 _ rfl
        have cb1 := P.b.2 0 _ rfl; have cb0 := P.b.2 1 _ rfl
        have zA := P.a.1; have zB := P.b.1; have zO := P.out.1; have zQ := P.size
        have fo : ∀ j, w2.frozen? ⟨w.heap.size + 1 + 1 + 1, j, none⟩ = false := P.zo
        have fq : ∀ j, w2.frozen? ⟨w.heap.size + 1 + 1 + 1 + 1, j, none⟩ = false := P.zq
        clear P
        go_wp2_with fail
        (with_reducible refine (HSub.out _).mono ?_); rintro e w3 ⟨rfl, hb⟩
        have HP3 := Lib.hid (HP2.out.step hb)
        clear hb HP2 c4 c5 ca3 ca2 ca1 ca0 cb1 cb0 zA zB zO zQ fo fq
        have P := HP3.out
        have c4 := P.out.2 4 _ rfl; have c5 := P.out.2 5 _ rfl
        have ca3 := P.a.2 0 _ rfl; have ca2 := P.a.2 1 _ rfl; have ca1 := P.a.2 2 _ rfl; have ca0 := P.a.2 3 _ rfl
        have cb1 := P.b.2 0 _ rfl; have cb0 := P.b.2 1 _ rfl
        have zA := P.a.1; have zB := P.b.1; have zO := P.out.1; have zQ := P.size
        have fo : ∀ j, w3.frozen? ⟨w.heap.size + 1 + 1 + 1, j, none⟩ = false := P.zo
        have fq : ∀ j, w3.frozen? ⟨w.heap.size + 1 + 1 + 1 + 1, j, none⟩ = false := P.zq
        clear P
        go_upto_region 12 with fail
        refine name_world (P := fun W => Code.wp _ _ _ _ W) _ (fun R2 hR2 => ?_)
        have HP4 : Hid (Dv w a3 a2 a1 a0 b1 b0 m1 m0 QQ R2) := by rw [hR2]; exact HP3.out.rest m1 m0
        clear hR2 HP3 c4 c5 ca3 ca2 ca1 ca0 cb1 cb0 zA zB zO zQ fo fq
        have P := HP4.out
        have c4 := P.out.2 4 _ rfl; have c5 := P.out.2 5 _ rfl
        have ca3 := P.a.2 0 _ rfl; have ca2 := P.a.2 1 _ rfl; have ca1 := P.a.2 2 _ rfl; have ca0 := P.a.2 3 _ rfl
        have cb1 := P.b.2 0 _ rfl; have cb0 := P.b.2 1 _ rfl
        have zA := P.a.1; have zB := P.b.1; have zO := P.out.1; have zQ := P.size
        have fo : ∀ j, R2.frozen? ⟨w.heap.size + 1 + 1 + 1, j, none⟩ = false := P.zo
        have fq : ∀ j, R2.frozen? ⟨w.heap.size + 1 + 1 + 1 + 1, j, none⟩ = false := P.zq
        have cq := P.q q hq4
        clear P
        go_region_with (fail)
        go_wp2_with fail
        go_roundg k
        case measure => omega
        case rel => exact ⟨by omega, rfl, by rw [HE.out.1, HE.out.2.1]; exact (HP4.out.quot HE.out.2.2.1 HE.out.2.2.2 hq4).step (Below.refl _ _).drew⟩
theorem rdiv_any (a3 a2 a1 a0 b1 b0 : Int) (h3 : Wd a3) (h2 : Wd a2) (h1 : Wd a1) (h0 : Wd a0) (k1 : Wd b1) (k0 : Wd b0) (hb : v2 b1 b0 ≠ 0) (w : World) :
    Calls Try.prog 15 #[.agg #[.int .u64 a3, .int .u64 a2, .int .u64 a1, .int .u64 a0], .agg #[.int .u64 b1, .int .u64 b0]] w fun e w' =>
      e = .returned (.agg #[.int .u64 (wd (v4 a3 a2 a1 a0 / v2 b1 b0) 3), .int .u64 (wd (v4 a3 a2 a1 a0 / v2 b1 b0) 2), .int .u64 (wd (v4 a3 a2 a1 a0 / v2 b1 b0) 1), .int .u64 (wd (v4 a3 a2 a1 a0 / v2 b1 b0) 0), .int .u64 (wd (v4 a3 a2 a1 a0 % v2 b1 b0) 1), .int .u64 (wd (v4 a3 a2 a1 a0 % v2 b1 b0) 0), .bool true]) ∧ Below w.heap.size w w' := by
  have hA := v4_lt h3 h2 h1 h0
  rw [show (115792089237316195423570985008687907853269984665640564039457584007913129639936 : Nat) = 2 ^ 256 by decide] at hA
  refine rdiv_core a3 a2 a1 a0 b1 b0 (v4 a3 a2 a1 a0) (v2 b1 b0) (fun W => ?_) hb (v2_lt k1 k0) hA (fun i hi W => rbit_any a3 a2 a1 a0 h3 h2 h1 h0 i hi W) (fun n W => ?_) (fun n W => ?_) w
  · rw [eq_two, decide_eq_false]
    rintro ⟨rfl, rfl⟩
    exact hb rfl
  · have := less_any _ _ b1 b0 (wd_wd n 1) (wd_wd n 0) k1 k0 W
    rw [v2_wd] at this
    exact this
  · have := subTwo_any _ _ b1 b0 (wd_wd n 1) (wd_wd n 0) k1 k0 W
    rw [v2_wd] at this
    exact this
end Go.Proofs.Ytgcblfaommhpbaa
namespace Go.Proofs.Ytgcblfaommhpbaa
open Go.RowKit

theorem sg_same (x y : Int) (h : decide (x < 0) = decide (y < 0)) : sg (decide (x < 0)) ((x.natAbs + y.natAbs : Nat) : Int) = x + y := by
  by_cases a : x < 0
  · rw [decide_eq_true a] at h ⊢; have b := of_decide_eq_true h.symm; simp [sg]; omega
  · rw [decide_eq_false a] at h ⊢; have b := of_decide_eq_false h.symm; simp [sg]; omega
theorem sg_less (x y : Int) (h : ¬ decide (x < 0) = decide (y < 0)) (l : x.natAbs < y.natAbs) : sg (decide (y < 0)) ((y.natAbs - x.natAbs : Nat) : Int) = x + y := by
  by_cases a : x < 0 <;> by_cases b : y < 0
  · exact absurd (by rw [decide_eq_true a, decide_eq_true b]) h
  · rw [decide_eq_false b]; simp [sg]; omega
  · rw [decide_eq_true b]; simp [sg]; omega
  · exact absurd (by rw [decide_eq_false a, decide_eq_false b]) h
theorem sg_more (x y : Int) (h : ¬ decide (x < 0) = decide (y < 0)) (l : ¬ x.natAbs < y.natAbs) : sg (decide (x < 0)) ((x.natAbs - y.natAbs : Nat) : Int) = x + y := by
  by_cases a : x < 0 <;> by_cases b : y < 0
  · exact absurd (by rw [decide_eq_true a, decide_eq_true b]) h
  · rw [decide_eq_true a]; simp [sg]; omega
  · rw [decide_eq_false a]; simp [sg]; omega
  · exact absurd (by rw [decide_eq_false a, decide_eq_false b]) h
theorem wd_small {n : Nat} (h : n < 340282366920938463463374607431768211456) : wd n 3 = 0 ∧ wd n 2 = 0 := by
  constructor
  · rw [wd3]; omega
  · rw [wd2]; omega
theorem radd_any (x y : Int) (hx : My x) (hy : My y) (w : World) :
    Calls Try.prog 40 #[.agg #[.int .i64 (fh x), .int .u64 (fl x)], .agg #[.int .i64 (fh y), .int .u64 (fl y)]] w fun e w' => e = .returned (.agg #[.int .i64 (fh (ov (x + y))), .int .u64 (fl (ov (x + y))), .int .i64 (oe (x + y))]) ∧ Below w.heap.size w w' := by
  have ax := abs_lt hx; have ay := abs_lt hy
  have C1 := rmag_any x hx; have C2 := rmag_any y hy
  by_cases h : decide (x < 0) = decide (y < 0)
  · have C3 := addTwo_any _ _ _ _ (wd_wd x.natAbs 1) (wd_wd x.natAbs 0) (wd_wd y.natAbs 1) (wd_wd y.natAbs 0)
    rw [v2_wd, v2_wd, Nat.mod_eq_of_lt (show x.natAbs < 340282366920938463463374607431768211456 by omega), Nat.mod_eq_of_lt (show y.natAbs < 340282366920938463463374607431768211456 by omega)] at C3
    have C4 := rsigned_any (decide (x < 0)) (x.natAbs + y.natAbs) (by omega)
    rw [sg_same x y h, (wd_small (n := x.natAbs + y.natAbs) (by omega)).1, (wd_small (n := x.natAbs + y.natAbs) (by omega)).2] at C4
    exact radd_same _ _ _ _ _ _ _ _ _ _ _ _ _ _ _ (neg_word x) (by rw [neg_word, h]) w C1 C2 C3 C4
  · have hne : (decide (x < 0) == decide (y < 0)) = false := beq_eq_false_iff_ne.2 h
    have C3 := less_any _ _ _ _ (wd_wd x.natAbs 1) (wd_wd x.natAbs 0) (wd_wd y.natAbs 1) (wd_wd y.natAbs 0)
    rw [v2_wd, v2_wd, Nat.mod_eq_of_lt (show x.natAbs < 340282366920938463463374607431768211456 by omega), Nat.mod_eq_of_lt (show y.natAbs < 340282366920938463463374607431768211456 by omega)] at C3
    by_cases l : x.natAbs < y.natAbs
    · rw [decide_eq_true l] at C3
      have C4 := subTwo_any _ _ _ _ (wd_wd y.natAbs 1) (wd_wd y.natAbs 0) (wd_wd x.natAbs 1) (wd_wd x.natAbs 0)
      rw [v2_wd, v2_wd, Nat.mod_eq_of_lt (show x.natAbs < 340282366920938463463374607431768211456 by omega), sub_words (by omega) (by omega) (by omega) (by omega) 1 (by decide), sub_words (by omega) (by omega) (by omega) (by omega) 0 (by decide)] at C4
      have C5 := rsigned_any (decide (y < 0)) (y.natAbs - x.natAbs) (by omega)
      rw [sg_less x y h l, (wd_small (n := y.natAbs - x.natAbs) (by omega)).1, (wd_small (n := y.natAbs - x.natAbs) (by omega)).2] at C5
      exact radd_less _ _ _ _ _ _ _ _ _ _ _ _ _ _ _ _ (neg_word x) (neg_word y) hne w C1 C2 C3 C4 C5
    · rw [decide_eq_false l] at C3
      have C4 := subTwo_any _ _ _ _ (wd_wd x.natAbs 1) (wd_wd x.natAbs 0) (wd_wd y.natAbs 1) (wd_wd y.natAbs 0)
      rw [v2_wd, v2_wd, Nat.mod_eq_of_lt (show y.natAbs < 340282366920938463463374607431768211456 by omega), sub_words (by omega) (by omega) (by omega) (by omega) 1 (by decide), sub_words (by omega) (by omega) (by omega) (by omega) 0 (by decide)] at C4
      have C5 := rsigned_any (decide (x < 0)) (x.natAbs - y.natAbs) (by omega)
      rw [sg_more x y h l, (wd_small (n := x.natAbs - y.natAbs) (by omega)).1, (wd_small (n := x.natAbs - y.natAbs) (by omega)).2] at C5
      exact radd_more _ _ _ _ _ _ _ _ _ _ _ _ _ _ _ _ (neg_word x) (neg_word y) hne w C1 C2 C3 C4 C5
theorem rsub_any (x y : Int) (hx : My x) (hy : My y) (w : World) :
    Calls Try.prog 41 #[.agg #[.int .i64 (fh x), .int .u64 (fl x)], .agg #[.int .i64 (fh y), .int .u64 (fl y)]] w fun e w' => e = .returned (.agg #[.int .i64 (fh (ov (x - y))), .int .u64 (fl (ov (x - y))), .int .i64 (oe (x - y))]) ∧ Below w.heap.size w w' := by
  have hm : My (-y) := by obtain ⟨_, _⟩ := hy; exact ⟨by omega, by omega⟩
  have C2 := radd_any x (-y) hx hm
  rw [← Int.sub_eq_add_neg] at C2
  exact rsub_core _ _ _ _ _ _ _ _ _ w (rneg_any y hy) C2
theorem add_low (P u : Nat) (_hu : u < 340282366920938463463374607431768211456) (i : Nat) (hi : i < 2) : wd (P % 340282366920938463463374607431768211456 + u) i = wd (P + u) i := by
  rcases (show i = 0 ∨ i = 1 by omega) with rfl | rfl
  · rw [wd0, wd0]; omega
  · rw [wd1, wd1]; omega
theorem add_high (P u : Nat) (h : 340282366920938463463374607431768211456 ≤ P % 340282366920938463463374607431768211456 + u) (hu : u < 340282366920938463463374607431768211456) : wd (P / 340282366920938463463374607431768211456 % 340282366920938463463374607431768211456 + 1) 1 = wd (P + u) 3 ∧ wd (P / 340282366920938463463374607431768211456 % 340282366920938463463374607431768211456 + 1) 0 = wd (P + u) 2 := by
  constructor
  · rw [wd1, wd3]; omega
  · rw [wd0, wd2]; omega
theorem add_same (P u : Nat) (h : ¬ 340282366920938463463374607431768211456 ≤ P % 340282366920938463463374607431768211456 + u) : wd P 3 = wd (P + u) 3 ∧ wd P 2 = wd (P + u) 2 := by
  constructor
  · rw [wd3, wd3]; omega
  · rw [wd2, wd2]; omega
theorem rmul_any (x y : Int) (hx : My x) (hy : My y) (w : World) :
    Calls Try.prog 42 #[.agg #[.int .i64 (fh x), .int .u64 (fl x)], .agg #[.int .i64 (fh y), .int .u64 (fl y)]] w fun e w' => e = .returned (.agg #[.int .i64 (fh (ov (mulr x y))), .int .u64 (fl (ov (mulr x y))), .int .i64 (oe (mulr x y))]) ∧ Below w.heap.size w w' := by
  have ax := abs_lt hx; have ay := abs_lt hy
  have hp : x.natAbs * y.natAbs < 170141183460469231731687303715884105728 * 170141183460469231731687303715884105728 := Nat.mul_lt_mul'' ax ay
  have C1 := rmag_any x hx; have C2 := rmag_any y hy
  have C3 := mulTwo_any _ _ _ _ (wd_wd x.natAbs 1) (wd_wd x.natAbs 0) (wd_wd y.natAbs 1) (wd_wd y.natAbs 0)
  rw [v2_wd, v2_wd, Nat.mod_eq_of_lt (show x.natAbs < 340282366920938463463374607431768211456 by omega), Nat.mod_eq_of_lt (show y.natAbs < 340282366920938463463374607431768211456 by omega)] at C3
  have e : mulr x y = sg (!(decide (x < 0) == decide (y < 0))) (((x.natAbs * y.natAbs + 9223372036854775808) / 18446744073709551616 : Nat) : Int) := rfl
  have z : Wd 0 := ⟨by omega, by omega⟩
  rw [e]
  have C4 := addTwo_any _ _ 0 9223372036854775808 (wd_wd (x.natAbs * y.natAbs) 1) (wd_wd (x.natAbs * y.natAbs) 0) z ⟨by omega, by omega⟩
  generalize x.natAbs * y.natAbs = P at *
  rw [v2_wd, v2_63, add_low P _ (by omega) 1 (by decide), add_low P _ (by omega) 0 (by decide)] at C4
  have hb : P + 9223372036854775808 < 115792089237316195423570985008687907853269984665640564039457584007913129639936 := by omega
  have C6 := rshr_any _ _ _ _ 64 (wd_wd (P + 9223372036854775808) 3) (wd_wd (P + 9223372036854775808) 2) (wd_wd (P + 9223372036854775808) 1) (wd_wd (P + 9223372036854775808) 0) (by decide)
  rw [v4_of hb, pow_64] at C6
  have C7 := rsigned_any (!(decide (x < 0) == decide (y < 0))) ((P + 9223372036854775808) / 18446744073709551616) (by omega)
  by_cases c : 340282366920938463463374607431768211456 ≤ P % 340282366920938463463374607431768211456 + 9223372036854775808
  · rw [decide_eq_true c] at C4
    have hi := add_high P _ c (by omega)
    have C5 := addTwo_any _ _ 0 1 (wd_wd P 3) (wd_wd P 2) z ⟨by omega, by omega⟩
    rw [v2_wd23, show v2 0 1 = 1 from rfl, hi.1, hi.2] at C5
    exact rmul_true _ _ _ _ _ _ _ _ _ _ _ _ _ _ _ _ _ _ _ _ _ _ _ _ _ _ (neg_word x) (neg_word y) w C1 C2 C3 C4 C5 C6 C7
  · rw [decide_eq_false c] at C4
    have hs := add_same P _ c
    rw [hs.1, hs.2] at C3
    exact rmul_false _ _ _ _ _ _ _ _ _ _ _ _ _ _ _ _ _ _ _ _ _ _ _ (neg_word x) (neg_word y) w C1 C2 C3 C4 C6 C7
theorem pow_65 : (2 : Nat) ^ (65 : Int).toNat = 36893488147419103232 := by decide
set_option maxRecDepth 20000 in
theorem rdivf_any (x y : Int) (hx : My x) (hy : My y) (hne : y ≠ 0) (w : World) :
    Calls Try.prog 43 #[.agg #[.int .i64 (fh x), .int .u64 (fl x)], .agg #[.int .i64 (fh y), .int .u64 (fl y)]] w fun e w' => e = .returned (.agg #[.int .i64 (fh (ov (divr x y))), .int .u64 (fl (ov (divr x y))), .int .i64 (oe (divr x y))]) ∧ Below w.heap.size w w' := by
  have ax := abs_lt hx; have ay := abs_lt hy
  have z : Wd 0 := ⟨by omega, by omega⟩
  have C1 := rmag_any x hx; have C3 := rmag_any y hy
  have C2 := rshl_any 0 0 _ _ 65 z z (wd_wd x.natAbs 1) (wd_wd x.natAbs 0) (by decide)
  rw [v4_lower, v2_wd, Nat.mod_eq_of_lt (show x.natAbs < 340282366920938463463374607431768211456 by omega), pow_65] at C2
  have e : divr x y = sg (!(decide (x < 0) == decide (y < 0))) (((x.natAbs * 36893488147419103232 + y.natAbs) / (2 * y.natAbs) : Nat) : Int) := rfl
  have q : ∀ W, (Go.binOp .eql 44 (.agg #[.int .i64 (fh y), .int .u64 (fl y)]) (.agg #[.int .i64 0, .int .u64 0])).run Try.prog W = .ok (.bool false) W := fun W => by
    rw [eq_fix, decide_eq_false]
    intro h
    exact hne (fx_ext h.1 h.2)
  have hy0 : y.natAbs ≠ 0 := by omega
  rw [e]
  have hE : x.natAbs * 36893488147419103232 < 6277101735386680763835789423207666416102355444464034512896 := by omega
  have hx' := neg_word x; have hy' := neg_word y
  generalize decide (x < 0) = p at *
  generalize decide (y < 0) = r at *
  generalize x.natAbs * 36893488147419103232 = E at *
  generalize y.natAbs = D at *
  have C4 := addTwo_any _ _ _ _ (wd_wd E 1) (wd_wd E 0) (wd_wd D 1) (wd_wd D 0)
  rw [v2_wd, v2_wd, Nat.mod_eq_of_lt (show D < 340282366920938463463374607431768211456 by omega), add_low E _ (by omega) 1 (by decide), add_low E _ (by omega) 0 (by decide)] at C4
  have C6 := addTwo_any _ _ _ _ (wd_wd D 1) (wd_wd D 0) (wd_wd D 1) (wd_wd D 0)
  rw [v2_wd, Nat.mod_eq_of_lt (show D < 340282366920938463463374607431768211456 by omega)] at C6
  have hb : E + D < 115792089237316195423570985008687907853269984665640564039457584007913129639936 := by omega
  have hv : v2 (wd (D + D) 1) (wd (D + D) 0) = 2 * D := by rw [v2_wd, Nat.mod_eq_of_lt (by omega)]; omega
  have C7 := rdiv_any _ _ _ _ _ _ (wd_wd (E + D) 3) (wd_wd (E + D) 2) (wd_wd (E + D) 1) (wd_wd (E + D) 0) (wd_wd (D + D) 1) (wd_wd (D + D) 0) (by rw [hv]; omega)
  rw [hv, v4_of hb] at C7
  have hq : (E + D) / (2 * D) < 115792089237316195423570985008687907853269984665640564039457584007913129639936 := Nat.lt_of_le_of_lt (Nat.div_le_self _ _) hb
  have C8 := rsigned_any (!(p == r)) ((E + D) / (2 * D)) hq
  by_cases c : 340282366920938463463374607431768211456 ≤ E % 340282366920938463463374607431768211456 + D
  · rw [decide_eq_true c] at C4
    have hi := add_high E _ c (by omega)
    have C5 := addTwo_any _ _ 0 1 (wd_wd E 3) (wd_wd E 2) z ⟨by omega, by omega⟩
    rw [v2_wd23, show v2 0 1 = 1 from rfl, hi.1, hi.2] at C5
    exact rdivf_true _ _ _ _ _ _ _ _ _ _ _ _ _ _ _ _ _ _ _ _ _ _ _ _ _ _ _ _ _ _ _ _ hx' hy' q w C1 C2 C3 C4 C5 C6 C7 C8
  · rw [decide_eq_false c] at C4
    have hs := add_same E _ c
    rw [hs.1, hs.2] at C2
    exact rdivf_false _ _ _ _ _ _ _ _ _ _ _ _ _ _ _ _ _ _ _ _ _ _ _ _ _ _ _ _ _ hx' hy' q w C1 C2 C3 C4 C6 C7 C8
theorem rfcmp_any (x y : Int) (w : World) :
    Calls Try.prog 33 #[.agg #[.int .i64 (fh x), .int .u64 (fl x)], .agg #[.int .i64 (fh y), .int .u64 (fl y)]] w fun e w' => e = .returned (.int .i64 (icmp x y)) ∧ Below w.heap.size w w' := by
  have lx := fl_wd x; have ly := fl_wd y
  by_cases c : x < y
  · rw [show icmp x y = -1 by unfold icmp; rw [if_pos c]]
    by_cases h : fh x < fh y
    · exact rfcmp_lt _ _ _ _ h w
    · have e : fh x = fh y := by unfold fh at *; omega
      exact rfcmp_eqlt _ _ _ _ h (by rw [beq_iff_eq]; exact e) (by unfold fh fl at *; omega) w
  · have h : ¬ fh x < fh y := by unfold fh at *; omega
    by_cases d : x = y
    · subst d
      rw [show icmp x x = 0 by unfold icmp; simp]
      exact rfcmp_same _ _ _ _ h (by omega) (by simp) (eq_fix_true _ _) w
    · rw [show icmp x y = 1 by unfold icmp; rw [if_neg c, if_pos (by omega)]]
      have q : ∀ W, (Go.binOp .eql 44 (.agg #[.int .i64 (fh x), .int .u64 (fl x)]) (.agg #[.int .i64 (fh y), .int .u64 (fl y)])).run Try.prog W = .ok (.bool false) W := fun W => by
        rw [eq_fix, decide_eq_false]
        intro g
        exact d (fx_ext g.1 g.2)
      by_cases g : fh x = fh y
      · exact rfcmp_eqgt _ _ _ _ h (by rw [beq_iff_eq]; exact g) (by unfold fh fl at *; omega) q w
      · exact rfcmp_gt _ _ _ _ h (by rw [beq_eq_false_iff_ne]; exact g) q w
end Go.Proofs.Ytgcblfaommhpbaa
namespace Go.Proofs.Ytgcblfaommhpbaa
open Go.ChangeShapes Go.WideShapes Go.ChangeAt Go.RowKit Go.Joins

set_option maxRecDepth 20000 in
set_option maxHeartbeats 60000000 in
theorem fixAll_out0 (a1 a0 b1 b0 c : Int)  (w : World)
    (C1 : ∀ W, Calls Try.prog 30 #[.agg #[.int .i64 a1, .int .u64 a0]] W fun e w' => e = .returned (.bool false) ∧ Below W.heap.size W w')
    (C2 : ∀ W, Calls Try.prog 31 #[.agg #[.int .i64 a1, .int .u64 a0]] W fun e w' => e = .returned (.bool false) ∧ Below W.heap.size W w')
    (C3 : ∀ W, Calls Try.prog 32 #[.agg #[.int .i64 a1, .int .u64 a0], .agg #[.int .i64 b1, .int .u64 b0]] W fun e w' => e = .returned (.int .i64 c) ∧ Below W.heap.size W w')
    (C4 : ∀ W, Calls Try.prog 33 #[.agg #[.int .i64 a1, .int .u64 a0], .agg #[.int .i64 b1, .int .u64 b0]] W fun e w' => e = .returned (.int .i64 c) ∧ Below W.heap.size W w')
    (C5 : ∀ W, Calls Try.prog 34 #[] W fun e w' => e = .returned (.bool true) ∧ Below W.heap.size W w') :
    Calls Try.prog 6 #[.agg #[.int .i64 a1, .int .u64 a0], .agg #[.int .i64 b1, .int .u64 b0]] w fun e w' => e = .returned (.bool true) ∧ Below w.heap.size w w' := by
  have K1 := Lib.hid C1; have K2 := Lib.hid C2; have K3 := Lib.hid C3; have K4 := Lib.hid C4; have K5 := Lib.hid C5
  clear C1 C2 C3 C4 C5
  have K20 := K2
  go_enter Try.func6, Try.ntmps6
  go_upto_region 1 with fail
  refine name_world (P := fun W => Code.wp _ _ _ _ W) _ (fun R1 hR1 => ?_)
  have zR1_a : w.heap.size < R1.heap.size := by rw [hR1]; first | omega | (simp <;> omega)
  have yR1_a : w.heap.size < R1.heap.size + 1 := by omega
  have yyR1_a : w.heap.size < R1.heap.size + 1 + 1 := by omega
  have cR1_a_0 : R1.cell? ⟨w.heap.size, 0, none⟩ = some (.int .i64 a1) := by rw [hR1]; first | assumption | (simp [go_sem, *]; done)
  have cR1_a_1 : R1.cell? ⟨w.heap.size, 1, none⟩ = some (.int .u64 a0) := by rw [hR1]; first | assumption | (simp [go_sem, *]; done)
  have zR1_b : w.heap.size + 1 < R1.heap.size := by rw [hR1]; first | omega | (simp <;> omega)
  have yR1_b : w.heap.size + 1 < R1.heap.size + 1 := by omega
  have yyR1_b : w.heap.size + 1 < R1.heap.size + 1 + 1 := by omega
  have cR1_b_0 : R1.cell? ⟨w.heap.size + 1, 0, none⟩ = some (.int .i64 b1) := by rw [hR1]; first | assumption | (simp [go_sem, *]; done)
  have cR1_b_1 : R1.cell? ⟨w.heap.size + 1, 1, none⟩ = some (.int .u64 b0) := by rw [hR1]; first | assumption | (simp [go_sem, *]; done)
  have HBR1 : Hid (Below w.heap.size w R1) := by rw [hR1]; show Below _ _ _; exact (by repeat (first | with_reducible exact Below.refl _ _ | with_reducible exact Hid.out (by assumption) | with_reducible refine Below.setCell ?_ (by first | (simp; done) | omega | (simp <;> omega)) _ | with_reducible refine bl_al ?_ _ | with_reducible apply Below.drew))
  clear hR1
  go_region_held3 (fun w' => w'.cell? ⟨w.heap.size, 0, none⟩ = some (.int .i64 a1) ∧ w'.cell? ⟨w.heap.size, 1, none⟩ = some (.int .u64 a0) ∧ w'.cell? ⟨w.heap.size + 1, 0, none⟩ = some (.int .i64 b1) ∧ w'.cell? ⟨w.heap.size + 1, 1, none⟩ = some (.int .u64 b0)) (first | (simp [*, go_sem]; done) | (simp [*, go_sem, World.cell?_alloc_past]; done))
    (first
      | (go_at_call 30; (with_reducible refine (K1.out _).mono ?_); rintro e w1 ⟨rfl, hb⟩; (first | (with_reducible (obtain ⟨hclw1, hfrw1⟩ := bcell_drew hb)) | (obtain ⟨hclw1, hfrw1⟩ := bcell hb)); have zw1_a : w.heap.size < w1.heap.size := (by first | omega | (have hz := hb.size; (try simp at hz); omega)); have yw1_a : w.heap.size < w1.heap.size + 1 := (by omega); have yyw1_a : w.heap.size < w1.heap.size + 1 + 1 := (by omega); have zw1_b : w.heap.size + 1 < w1.heap.size := (by first | omega | (have hz := hb.size; (try simp at hz); omega)); have yw1_b : w.heap.size + 1 < w1.heap.size + 1 := (by omega); have yyw1_b : w.heap.size + 1 < w1.heap.size + 1 + 1 := (by omega); have sxw1_0 : R1.heap.size ≤ w1.heap.size := (by first | omega | (have hz := hb.size; (try simp at hz); omega)); have HBw1 : Hid (Below w.heap.size w w1) := (bl_trans (by repeat (first | with_reducible exact Below.refl _ _ | with_reducible exact Hid.out (by assumption) | with_reducible refine Below.setCell ?_ (by first | (simp; done) | omega | (simp <;> omega)) _ | with_reducible refine bl_al ?_ _ | with_reducible apply Below.drew)) hb); clear hb; clear K1)
      | (go_at_call 31; (with_reducible refine (K2.out _).mono ?_); rintro e w2 ⟨rfl, hb⟩; obtain ⟨hclw2, hfrw2⟩ := bcell hb; have zw2_a : w.heap.size < w2.heap.size := (by first | omega | (have hz := hb.size; (try simp at hz); omega)); have yw2_a : w.heap.size < w2.heap.size + 1 := (by omega); have yyw2_a : w.heap.size < w2.heap.size + 1 + 1 := (by omega); have zw2_b : w.heap.size + 1 < w2.heap.size := (by first | omega | (have hz := hb.size; (try simp at hz); omega)); have yw2_b : w.heap.size + 1 < w2.heap.size + 1 := (by omega); have yyw2_b : w.heap.size + 1 < w2.heap.size + 1 + 1 := (by omega); have sxw2_0 : R1.heap.size ≤ w2.heap.size := (by first | omega | (have hz := hb.size; (try simp at hz); omega)); have sxw2_w1 : w1.heap.size ≤ w2.heap.size := (by first | omega | (have hz := hb.size; (try simp at hz); omega)); have HBw2 : Hid (Below w.heap.size w w2) := (bl_trans (by repeat (first | with_reducible exact Below.refl _ _ | with_reducible exact Hid.out (by assumption) | with_reducible refine Below.setCell ?_ (by first | (simp; done) | omega | (simp <;> omega)) _ | with_reducible refine bl_al ?_ _ | with_reducible apply Below.drew)) hb); clear hb; clear K2)
      | (go_at_call 32; (with_reducible refine (K3.out _).mono ?_); rintro e w3 ⟨rfl, hb⟩; obtain ⟨hclw3, hfrw3⟩ := bcell hb; have zw3_a : w.heap.size < w3.heap.size := (by first | omega | (have hz := hb.size; (try simp at hz); omega)); have yw3_a : w.heap.size < w3.heap.size + 1 := (by omega); have yyw3_a : w.heap.size < w3.heap.size + 1 + 1 := (by omega); have zw3_b : w.heap.size + 1 < w3.heap.size := (by first | omega | (have hz := hb.size; (try simp at hz); omega)); have yw3_b : w.heap.size + 1 < w3.heap.size + 1 := (by omega); have yyw3_b : w.heap.size + 1 < w3.heap.size + 1 + 1 := (by omega); have sxw3_0 : R1.heap.size ≤ w3.heap.size := (by first | omega | (have hz := hb.size; (try simp at hz); omega)); have sxw3_w1 : w1.heap.size ≤ w3.heap.size := (by first | omega | (have hz := hb.size; (try simp at hz); omega)); have sxw3_w2 : w2.heap.size ≤ w3.heap.size := (by first | omega | (have hz := hb.size; (try simp at hz); omega)); have HBw3 : Hid (Below w.heap.size w w3) := (bl_trans (by repeat (first | with_reducible exact Below.refl _ _ | with_reducible exact Hid.out (by assumption) | with_reducible refine Below.setCell ?_ (by first | (simp; done) | omega | (simp <;> omega)) _ | with_reducible refine bl_al ?_ _ | with_reducible apply Below.drew)) hb); clear hb; clear K3)
      | (go_at_call 33; (with_reducible refine (K4.out _).mono ?_); rintro e w4 ⟨rfl, hb⟩; obtain ⟨hclw4, hfrw4⟩ := bcell hb; have zw4_a : w.heap.size < w4.heap.size := (by first | omega | (have hz := hb.size; (try simp at hz); omega)); have yw4_a : w.heap.size < w4.heap.size + 1 := (by omega); have yyw4_a : w.heap.size < w4.heap.size + 1 + 1 := (by omega); have zw4_b : w.heap.size + 1 < w4.heap.size := (by first | omega | (have hz := hb.size; (try simp at hz); omega)); have yw4_b : w.heap.size + 1 < w4.heap.size + 1 := (by omega); have yyw4_b : w.heap.size + 1 < w4.heap.size + 1 + 1 := (by omega); have sxw4_0 : R1.heap.size ≤ w4.heap.size := (by first | omega | (have hz := hb.size; (try simp at hz); omega)); have sxw4_w1 : w1.heap.size ≤ w4.heap.size := (by first | omega | (have hz := hb.size; (try simp at hz); omega)); have sxw4_w2 : w2.heap.size ≤ w4.heap.size := (by first | omega | (have hz := hb.size; (try simp at hz); omega)); have sxw4_w3 : w3.heap.size ≤ w4.heap.size := (by first | omega | (have hz := hb.size; (try simp at hz); omega)); have HBw4 : Hid (Below w.heap.size w w4) := (bl_trans (by repeat (first | with_reducible exact Below.refl _ _ | with_reducible exact Hid.out (by assumption) | with_reducible refine Below.setCell ?_ (by first | (simp; done) | omega | (simp <;> omega)) _ | with_reducible refine bl_al ?_ _ | with_reducible apply Below.drew)) hb); clear hb; clear K4))
  rename_i hHeld
  clear hHeld
  go_wp2_with fail
  (with_reducible refine (K20.out _).mono ?_); rintro e w5 ⟨rfl, hb⟩; obtain ⟨hclw5, hfrw5⟩ := bcell hb; have zw5_a : w.heap.size < w5.heap.size := (by first | omega | (have hz := hb.size; (try simp at hz); omega)); have yw5_a : w.heap.size < w5.heap.size + 1 := (by omega); have yyw5_a : w.heap.size < w5.heap.size + 1 + 1 := (by omega); have zw5_b : w.heap.size + 1 < w5.heap.size := (by first | omega | (have hz := hb.size; (try simp at hz); omega)); have yw5_b : w.heap.size + 1 < w5.heap.size + 1 := (by omega); have yyw5_b : w.heap.size + 1 < w5.heap.size + 1 + 1 := (by omega); have sxw5_0 : w4.heap.size ≤ w5.heap.size := (by first | omega | (have hz := hb.size; (try simp at hz); omega)); have HBw5 : Hid (Below w.heap.size w w5) := (bl_trans (by repeat (first | with_reducible exact Below.refl _ _ | with_reducible exact Hid.out (by assumption) | with_reducible refine Below.setCell ?_ (by first | (simp; done) | omega | (simp <;> omega)) _ | with_reducible refine bl_al ?_ _ | with_reducible apply Below.drew)) hb); clear hb
  go_wp2_with fail
  (with_reducible refine (K5.out _).mono ?_); rintro e w6 ⟨rfl, hb⟩; obtain ⟨hclw6, hfrw6⟩ := bcell hb; have zw6_a : w.heap.size < w6.heap.size := (by first | omega | (have hz := hb.size; (try simp at hz); omega)); have yw6_a : w.heap.size < w6.heap.size + 1 := (by omega); have yyw6_a : w.heap.size < w6.heap.size + 1 + 1 := (by omega); have zw6_b : w.heap.size + 1 < w6.heap.size := (by first | omega | (have hz := hb.size; (try simp at hz); omega)); have yw6_b : w.heap.size + 1 < w6.heap.size + 1 := (by omega); have yyw6_b : w.heap.size + 1 < w6.heap.size + 1 + 1 := (by omega); have sxw6_0 : w5.heap.size ≤ w6.heap.size := (by first | omega | (have hz := hb.size; (try simp at hz); omega)); have HBw6 : Hid (Below w.heap.size w w6) := (bl_trans (by repeat (first | with_reducible exact Below.refl _ _ | with_reducible exact Hid.out (by assumption) | with_reducible refine Below.setCell ?_ (by first | (simp; done) | omega | (simp <;> omega)) _ | with_reducible refine bl_al ?_ _ | with_reducible apply Below.drew)) hb); clear hb
  go_wp2_with fail
  go_returns
  exact ⟨rfl, by repeat (first | with_reducible exact Below.refl _ _ | with_reducible exact Hid.out (by assumption) | with_reducible refine Below.setCell ?_ (by first | (simp; done) | omega | (simp <;> omega)) _ | with_reducible refine bl_al ?_ _ | with_reducible apply Below.drew)⟩
set_option maxRecDepth 20000 in
set_option maxHeartbeats 60000000 in
theorem fixAll_out1 (a1 a0 b1 b0 c : Int)  (w : World)
    (C1 : ∀ W, Calls Try.prog 30 #[.agg #[.int .i64 a1, .int .u64 a0]] W fun e w' => e = .returned (.bool true) ∧ Below W.heap.size W w')
    (C2 : ∀ W, Calls Try.prog 31 #[.agg #[.int .i64 a1, .int .u64 a0]] W fun e w' => e = .returned (.bool true) ∧ Below W.heap.size W w')
    (C3 : ∀ W, Calls Try.prog 32 #[.agg #[.int .i64 a1, .int .u64 a0], .agg #[.int .i64 b1, .int .u64 b0]] W fun e w' => e = .returned (.int .i64 c) ∧ Below W.heap.size W w')
    (C4 : ∀ W, Calls Try.prog 33 #[.agg #[.int .i64 a1, .int .u64 a0], .agg #[.int .i64 b1, .int .u64 b0]] W fun e w' => e = .returned (.int .i64 c) ∧ Below W.heap.size W w')
    (C5 : ∀ W, Calls Try.prog 31 #[.agg #[.int .i64 b1, .int .u64 b0]] W fun e w' => e = .returned (.bool false) ∧ Below W.heap.size W w')
    (C6 : ∀ W, Calls Try.prog 34 #[] W fun e w' => e = .returned (.bool true) ∧ Below W.heap.size W w') :
    Calls Try.prog 6 #[.agg #[.int .i64 a1, .int .u64 a0], .agg #[.int .i64 b1, .int .u64 b0]] w fun e w' => e = .returned (.bool true) ∧ Below w.heap.size w w' := by
  have K1 := Lib.hid C1; have K2 := Lib.hid C2; have K3 := Lib.hid C3; have K4 := Lib.hid C4; have K5 := Lib.hid C5; have K6 := Lib.hid C6
  clear C1 C2 C3 C4 C5 C6
  have K20 := K2
  go_enter Try.func6, Try.ntmps6
  go_upto_region 1 with fail
  refine name_world (P := fun W => Code.wp _ _ _ _ W) _ (fun R1 hR1 => ?_)
  have zR1_a : w.heap.size < R1.heap.size := by rw [hR1]; first | omega | (simp <;> omega)
  have yR1_a : w.heap.size < R1.heap.size + 1 := by omega
  have yyR1_a : w.heap.size < R1.heap.size + 1 + 1 := by omega
  have cR1_a_0 : R1.cell? ⟨w.heap.size, 0, none⟩ = some (.int .i64 a1) := by rw [hR1]; first | assumption | (simp [go_sem, *]; done)
  have cR1_a_1 : R1.cell? ⟨w.heap.size, 1, none⟩ = some (.int .u64 a0) := by rw [hR1]; first | assumption | (simp [go_sem, *]; done)
  have zR1_b : w.heap.size + 1 < R1.heap.size := by rw [hR1]; first | omega | (simp <;> omega)
  have yR1_b : w.heap.size + 1 < R1.heap.size + 1 := by omega
  have yyR1_b : w.heap.size + 1 < R1.heap.size + 1 + 1 := by omega
  have cR1_b_0 : R1.cell? ⟨w.heap.size + 1, 0, none⟩ = some (.int .i64 b1) := by rw [hR1]; first | assumption | (simp [go_sem, *]; done)
  have cR1_b_1 : R1.cell? ⟨w.heap.size + 1, 1, none⟩ = some (.int .u64 b0) := by rw [hR1]; first | assumption | (simp [go_sem, *]; done)
  have HBR1 : Hid (Below w.heap.size w R1) := by rw [hR1]; show Below _ _ _; exact (by repeat (first | with_reducible exact Below.refl _ _ | with_reducible exact Hid.out (by assumption) | with_reducible refine Below.setCell ?_ (by first | (simp; done) | omega | (simp <;> omega)) _ | with_reducible refine bl_al ?_ _ | with_reducible apply Below.drew))
  clear hR1
  go_region_held3 (fun w' => w'.cell? ⟨w.heap.size, 0, none⟩ = some (.int .i64 a1) ∧ w'.cell? ⟨w.heap.size, 1, none⟩ = some (.int .u64 a0) ∧ w'.cell? ⟨w.heap.size + 1, 0, none⟩ = some (.int .i64 b1) ∧ w'.cell? ⟨w.heap.size + 1, 1, none⟩ = some (.int .u64 b0)) (first | (simp [*, go_sem]; done) | (simp [*, go_sem, World.cell?_alloc_past]; done))
    (first
      | (go_at_call 30; (with_reducible refine (K1.out _).mono ?_); rintro e w1 ⟨rfl, hb⟩; (first | (with_reducible (obtain ⟨hclw1, hfrw1⟩ := bcell_drew hb)) | (obtain ⟨hclw1, hfrw1⟩ := bcell hb)); have zw1_a : w.heap.size < w1.heap.size := (by first | omega | (have hz := hb.size; (try simp at hz); omega)); have yw1_a : w.heap.size < w1.heap.size + 1 := (by omega); have yyw1_a : w.heap.size < w1.heap.size + 1 + 1 := (by omega); have zw1_b : w.heap.size + 1 < w1.heap.size := (by first | omega | (have hz := hb.size; (try simp at hz); omega)); have yw1_b : w.heap.size + 1 < w1.heap.size + 1 := (by omega); have yyw1_b : w.heap.size + 1 < w1.heap.size + 1 + 1 := (by omega); have sxw1_0 : R1.heap.size ≤ w1.heap.size := (by first | omega | (have hz := hb.size; (try simp at hz); omega)); have HBw1 : Hid (Below w.heap.size w w1) := (bl_trans (by repeat (first | with_reducible exact Below.refl _ _ | with_reducible exact Hid.out (by assumption) | with_reducible refine Below.setCell ?_ (by first | (simp; done) | omega | (simp <;> omega)) _ | with_reducible refine bl_al ?_ _ | with_reducible apply Below.drew)) hb); clear hb; clear K1)
      | (go_at_call 31; (with_reducible refine (K2.out _).mono ?_); rintro e w2 ⟨rfl, hb⟩; obtain ⟨hclw2, hfrw2⟩ := bcell hb; have zw2_a : w.heap.size < w2.heap.size := (by first | omega | (have hz := hb.size; (try simp at hz); omega)); have yw2_a : w.heap.size < w2.heap.size + 1 := (by omega); have yyw2_a : w.heap.size < w2.heap.size + 1 + 1 := (by omega); have zw2_b : w.heap.size + 1 < w2.heap.size := (by first | omega | (have hz := hb.size; (try simp at hz); omega)); have yw2_b : w.heap.size + 1 < w2.heap.size + 1 := (by omega); have yyw2_b : w.heap.size + 1 < w2.heap.size + 1 + 1 := (by omega); have sxw2_0 : R1.heap.size ≤ w2.heap.size := (by first | omega | (have hz := hb.size; (try simp at hz); omega)); have sxw2_w1 : w1.heap.size ≤ w2.heap.size := (by first | omega | (have hz := hb.size; (try simp at hz); omega)); have HBw2 : Hid (Below w.heap.size w w2) := (bl_trans (by repeat (first | with_reducible exact Below.refl _ _ | with_reducible exact Hid.out (by assumption) | with_reducible refine Below.setCell ?_ (by first | (simp; done) | omega | (simp <;> omega)) _ | with_reducible refine bl_al ?_ _ | with_reducible apply Below.drew)) hb); clear hb; clear K2)
      | (go_at_call 32; (with_reducible refine (K3.out _).mono ?_); rintro e w3 ⟨rfl, hb⟩; obtain ⟨hclw3, hfrw3⟩ := bcell hb; have zw3_a : w.heap.size < w3.heap.size := (by first | omega | (have hz := hb.size; (try simp at hz); omega)); have yw3_a : w.heap.size < w3.heap.size + 1 := (by omega); have yyw3_a : w.heap.size < w3.heap.size + 1 + 1 := (by omega); have zw3_b : w.heap.size + 1 < w3.heap.size := (by first | omega | (have hz := hb.size; (try simp at hz); omega)); have yw3_b : w.heap.size + 1 < w3.heap.size + 1 := (by omega); have yyw3_b : w.heap.size + 1 < w3.heap.size + 1 + 1 := (by omega); have sxw3_0 : R1.heap.size ≤ w3.heap.size := (by first | omega | (have hz := hb.size; (try simp at hz); omega)); have sxw3_w1 : w1.heap.size ≤ w3.heap.size := (by first | omega | (have hz := hb.size; (try simp at hz); omega)); have sxw3_w2 : w2.heap.size ≤ w3.heap.size := (by first | omega | (have hz := hb.size; (try simp at hz); omega)); have HBw3 : Hid (Below w.heap.size w w3) := (bl_trans (by repeat (first | with_reducible exact Below.refl _ _ | with_reducible exact Hid.out (by assumption) | with_reducible refine Below.setCell ?_ (by first | (simp; done) | omega | (simp <;> omega)) _ | with_reducible refine bl_al ?_ _ | with_reducible apply Below.drew)) hb); clear hb; clear K3)
      | (go_at_call 33; (with_reducible refine (K4.out _).mono ?_); rintro e w4 ⟨rfl, hb⟩; obtain ⟨hclw4, hfrw4⟩ := bcell hb; have zw4_a : w.heap.size < w4.heap.size := (by first | omega | (have hz := hb.size; (try simp at hz); omega)); have yw4_a : w.heap.size < w4.heap.size + 1 := (by omega); have yyw4_a : w.heap.size < w4.heap.size + 1 + 1 := (by omega); have zw4_b : w.heap.size + 1 < w4.heap.size := (by first | omega | (have hz := hb.size; (try simp at hz); omega)); have yw4_b : w.heap.size + 1 < w4.heap.size + 1 := (by omega); have yyw4_b : w.heap.size + 1 < w4.heap.size + 1 + 1 := (by omega); have sxw4_0 : R1.heap.size ≤ w4.heap.size := (by first | omega | (have hz := hb.size; (try simp at hz); omega)); have sxw4_w1 : w1.heap.size ≤ w4.heap.size := (by first | omega | (have hz := hb.size; (try simp at hz); omega)); have sxw4_w2 : w2.heap.size ≤ w4.heap.size := (by first | omega | (have hz := hb.size; (try simp at hz); omega)); have sxw4_w3 : w3.heap.size ≤ w4.heap.size := (by first | omega | (have hz := hb.size; (try simp at hz); omega)); have HBw4 : Hid (Below w.heap.size w w4) := (bl_trans (by repeat (first | with_reducible exact Below.refl _ _ | with_reducible exact Hid.out (by assumption) | with_reducible refine Below.setCell ?_ (by first | (simp; done) | omega | (simp <;> omega)) _ | with_reducible refine bl_al ?_ _ | with_reducible apply Below.drew)) hb); clear hb; clear K4))
  rename_i hHeld
  clear hHeld
  go_wp2_with fail
  (with_reducible refine (K20.out _).mono ?_); rintro e w5 ⟨rfl, hb⟩; obtain ⟨hclw5, hfrw5⟩ := bcell hb; have zw5_a : w.heap.size < w5.heap.size := (by first | omega | (have hz := hb.size; (try simp at hz); omega)); have yw5_a : w.heap.size < w5.heap.size + 1 := (by omega); have yyw5_a : w.heap.size < w5.heap.size + 1 + 1 := (by omega); have zw5_b : w.heap.size + 1 < w5.heap.size := (by first | omega | (have hz := hb.size; (try simp at hz); omega)); have yw5_b : w.heap.size + 1 < w5.heap.size + 1 := (by omega); have yyw5_b : w.heap.size + 1 < w5.heap.size + 1 + 1 := (by omega); have sxw5_0 : w4.heap.size ≤ w5.heap.size := (by first | omega | (have hz := hb.size; (try simp at hz); omega)); have HBw5 : Hid (Below w.heap.size w w5) := (bl_trans (by repeat (first | with_reducible exact Below.refl _ _ | with_reducible exact Hid.out (by assumption) | with_reducible refine Below.setCell ?_ (by first | (simp; done) | omega | (simp <;> omega)) _ | with_reducible refine bl_al ?_ _ | with_reducible apply Below.drew)) hb); clear hb
  go_wp2_with fail
  (with_reducible refine (K5.out _).mono ?_); rintro e w6 ⟨rfl, hb⟩; obtain ⟨hclw6, hfrw6⟩ := bcell hb; have zw6_a : w.heap.size < w6.heap.size := (by first | omega | (have hz := hb.size; (try simp at hz); omega)); have yw6_a : w.heap.size < w6.heap.size + 1 := (by omega); have yyw6_a : w.heap.size < w6.heap.size + 1 + 1 := (by omega); have zw6_b : w.heap.size + 1 < w6.heap.size := (by first | omega | (have hz := hb.size; (try simp at hz); omega)); have yw6_b : w.heap.size + 1 < w6.heap.size + 1 := (by omega); have yyw6_b : w.heap.size + 1 < w6.heap.size + 1 + 1 := (by omega); have sxw6_0 : w5.heap.size ≤ w6.heap.size := (by first | omega | (have hz := hb.size; (try simp at hz); omega)); have HBw6 : Hid (Below w.heap.size w w6) := (bl_trans (by repeat (first | with_reducible exact Below.refl _ _ | with_reducible exact Hid.out (by assumption) | with_reducible refine Below.setCell ?_ (by first | (simp; done) | omega | (simp <;> omega)) _ | with_reducible refine bl_al ?_ _ | with_reducible apply Below.drew)) hb); clear hb
  go_wp2_with fail
  (with_reducible refine (K6.out _).mono ?_); rintro e w7 ⟨rfl, hb⟩; obtain ⟨hclw7, hfrw7⟩ := bcell hb; have zw7_a : w.heap.size < w7.heap.size := (by first | omega | (have hz := hb.size; (try simp at hz); omega)); have yw7_a : w.heap.size < w7.heap.size + 1 := (by omega); have yyw7_a : w.heap.size < w7.heap.size + 1 + 1 := (by omega); have zw7_b : w.heap.size + 1 < w7.heap.size := (by first | omega | (have hz := hb.size; (try simp at hz); omega)); have yw7_b : w.heap.size + 1 < w7.heap.size + 1 := (by omega); have yyw7_b : w.heap.size + 1 < w7.heap.size + 1 + 1 := (by omega); have sxw7_0 : w6.heap.size ≤ w7.heap.size := (by first | omega | (have hz := hb.size; (try simp at hz); omega)); have HBw7 : Hid (Below w.heap.size w w7) := (bl_trans (by repeat (first | with_reducible exact Below.refl _ _ | with_reducible exact Hid.out (by assumption) | with_reducible refine Below.setCell ?_ (by first | (simp; done) | omega | (simp <;> omega)) _ | with_reducible refine bl_al ?_ _ | with_reducible apply Below.drew)) hb); clear hb
  go_wp2_with fail
  go_returns
  exact ⟨rfl, by repeat (first | with_reducible exact Below.refl _ _ | with_reducible exact Hid.out (by assumption) | with_reducible refine Below.setCell ?_ (by first | (simp; done) | omega | (simp <;> omega)) _ | with_reducible refine bl_al ?_ _ | with_reducible apply Below.drew)⟩
set_option maxRecDepth 20000 in
set_option maxHeartbeats 60000000 in
theorem fixAll_in (a1 a0 b1 b0 c s1 s0 sk d1 d0 dk m1 m0 mk q1 q0 qk : Int)  (w : World)
    (C1 : ∀ W, Calls Try.prog 30 #[.agg #[.int .i64 a1, .int .u64 a0]] W fun e w' => e = .returned (.bool true) ∧ Below W.heap.size W w')
    (C2 : ∀ W, Calls Try.prog 31 #[.agg #[.int .i64 a1, .int .u64 a0]] W fun e w' => e = .returned (.bool true) ∧ Below W.heap.size W w')
    (C3 : ∀ W, Calls Try.prog 32 #[.agg #[.int .i64 a1, .int .u64 a0], .agg #[.int .i64 b1, .int .u64 b0]] W fun e w' => e = .returned (.int .i64 c) ∧ Below W.heap.size W w')
    (C4 : ∀ W, Calls Try.prog 33 #[.agg #[.int .i64 a1, .int .u64 a0], .agg #[.int .i64 b1, .int .u64 b0]] W fun e w' => e = .returned (.int .i64 c) ∧ Below W.heap.size W w')
    (C5 : ∀ W, Calls Try.prog 31 #[.agg #[.int .i64 b1, .int .u64 b0]] W fun e w' => e = .returned (.bool true) ∧ Below W.heap.size W w')
    (C6 : ∀ W, Calls Try.prog 35 #[.agg #[.int .i64 a1, .int .u64 a0], .agg #[.int .i64 b1, .int .u64 b0]] W fun e w' => e = .returned (.tuple #[.agg #[.int .i64 s1, .int .u64 s0], .int .i64 sk]) ∧ Below W.heap.size W w')
    (C7 : ∀ W, Calls Try.prog 36 #[.agg #[.int .i64 a1, .int .u64 a0], .agg #[.int .i64 b1, .int .u64 b0]] W fun e w' => e = .returned (.tuple #[.agg #[.int .i64 d1, .int .u64 d0], .int .i64 dk]) ∧ Below W.heap.size W w')
    (C8 : ∀ W, Calls Try.prog 37 #[.agg #[.int .i64 a1, .int .u64 a0], .agg #[.int .i64 b1, .int .u64 b0]] W fun e w' => e = .returned (.tuple #[.agg #[.int .i64 m1, .int .u64 m0], .int .i64 mk]) ∧ Below W.heap.size W w')
    (C9 : ∀ W, Calls Try.prog 38 #[.agg #[.int .i64 a1, .int .u64 a0], .agg #[.int .i64 b1, .int .u64 b0]] W fun e w' => e = .returned (.tuple #[.agg #[.int .i64 q1, .int .u64 q0], .int .i64 qk]) ∧ Below W.heap.size W w')
    (C10 : ∀ W, Calls Try.prog 40 #[.agg #[.int .i64 a1, .int .u64 a0], .agg #[.int .i64 b1, .int .u64 b0]] W fun e w' => e = .returned (.agg #[.int .i64 s1, .int .u64 s0, .int .i64 sk]) ∧ Below W.heap.size W w')
    (C11 : ∀ W, Calls Try.prog 39 #[.agg #[.int .i64 s1, .int .u64 s0], .int .i64 sk, .agg #[.int .i64 s1, .int .u64 s0, .int .i64 sk]] W fun e w' => e = .returned (.bool true) ∧ Below W.heap.size W w')
    (C12 : ∀ W, Calls Try.prog 41 #[.agg #[.int .i64 a1, .int .u64 a0], .agg #[.int .i64 b1, .int .u64 b0]] W fun e w' => e = .returned (.agg #[.int .i64 d1, .int .u64 d0, .int .i64 dk]) ∧ Below W.heap.size W w')
    (C13 : ∀ W, Calls Try.prog 39 #[.agg #[.int .i64 d1, .int .u64 d0], .int .i64 dk, .agg #[.int .i64 d1, .int .u64 d0, .int .i64 dk]] W fun e w' => e = .returned (.bool true) ∧ Below W.heap.size W w')
    (C14 : ∀ W, Calls Try.prog 42 #[.agg #[.int .i64 a1, .int .u64 a0], .agg #[.int .i64 b1, .int .u64 b0]] W fun e w' => e = .returned (.agg #[.int .i64 m1, .int .u64 m0, .int .i64 mk]) ∧ Below W.heap.size W w')
    (C15 : ∀ W, Calls Try.prog 39 #[.agg #[.int .i64 m1, .int .u64 m0], .int .i64 mk, .agg #[.int .i64 m1, .int .u64 m0, .int .i64 mk]] W fun e w' => e = .returned (.bool true) ∧ Below W.heap.size W w')
    (C16 : ∀ W, Calls Try.prog 43 #[.agg #[.int .i64 a1, .int .u64 a0], .agg #[.int .i64 b1, .int .u64 b0]] W fun e w' => e = .returned (.agg #[.int .i64 q1, .int .u64 q0, .int .i64 qk]) ∧ Below W.heap.size W w')
    (C17 : ∀ W, Calls Try.prog 39 #[.agg #[.int .i64 q1, .int .u64 q0], .int .i64 qk, .agg #[.int .i64 q1, .int .u64 q0, .int .i64 qk]] W fun e w' => e = .returned (.bool true) ∧ Below W.heap.size W w')
    (C18 : ∀ W, Calls Try.prog 34 #[] W fun e w' => e = .returned (.bool true) ∧ Below W.heap.size W w') :
    Calls Try.prog 6 #[.agg #[.int .i64 a1, .int .u64 a0], .agg #[.int .i64 b1, .int .u64 b0]] w fun e w' => e = .returned (.bool true) ∧ Below w.heap.size w w' := by
  have K1 := Lib.hid C1; have K2 := Lib.hid C2; have K3 := Lib.hid C3; have K4 := Lib.hid C4; have K5 := Lib.hid C5; have K6 := Lib.hid C6; have K7 := Lib.hid C7; have K8 := Lib.hid C8; have K9 := Lib.hid C9; have K10 := Lib.hid C10; have K11 := Lib.hid C11; have K12 := Lib.hid C12; have K13 := Lib.hid C13; have K14 := Lib.hid C14; have K15 := Lib.hid C15; have K16 := Lib.hid C16; have K17 := Lib.hid C17; have K18 := Lib.hid C18
  clear C1 C2 C3 C4 C5 C6 C7 C8 C9 C10 C11 C12 C13 C14 C15 C16 C17 C18
  have K20 := K2
  go_enter Try.func6, Try.ntmps6
  go_upto_region 1 with fail
  refine name_world (P := fun W => Code.wp _ _ _ _ W) _ (fun R1 hR1 => ?_)
  have zR1_a : w.heap.size < R1.heap.size := by rw [hR1]; first | omega | (simp <;> omega)
  have yR1_a : w.heap.size < R1.heap.size + 1 := by omega
  have yyR1_a : w.heap.size < R1.heap.size + 1 + 1 := by omega
  have cR1_a_0 : R1.cell? ⟨w.heap.size, 0, none⟩ = some (.int .i64 a1) := by rw [hR1]; first | assumption | (simp [go_sem, *]; done)
  have cR1_a_1 : R1.cell? ⟨w.heap.size, 1, none⟩ = some (.int .u64 a0) := by rw [hR1]; first | assumption | (simp [go_sem, *]; done)
  have zR1_b : w.heap.size + 1 < R1.heap.size := by rw [hR1]; first | omega | (simp <;> omega)
  have yR1_b : w.heap.size + 1 < R1.heap.size + 1 := by omega
  have yyR1_b : w.heap.size + 1 < R1.heap.size + 1 + 1 := by omega
  have cR1_b_0 : R1.cell? ⟨w.heap.size + 1, 0, none⟩ = some (.int .i64 b1) := by rw [hR1]; first | assumption | (simp [go_sem, *]; done)
  have cR1_b_1 : R1.cell? ⟨w.heap.size + 1, 1, none⟩ = some (.int .u64 b0) := by rw [hR1]; first | assumption | (simp [go_sem, *]; done)
  have HBR1 : Hid (Below w.heap.size w R1) := by rw [hR1]; show Below _ _ _; exact (by repeat (first | with_reducible exact Below.refl _ _ | with_reducible exact Hid.out (by assumption) | with_reducible refine Below.setCell ?_ (by first | (simp; done) | omega | (simp <;> omega)) _ | with_reducible refine bl_al ?_ _ | with_reducible apply Below.drew))
  clear hR1
  go_region_held3 (fun w' => w'.cell? ⟨w.heap.size, 0, none⟩ = some (.int .i64 a1) ∧ w'.cell? ⟨w.heap.size, 1, none⟩ = some (.int .u64 a0) ∧ w'.cell? ⟨w.heap.size + 1, 0, none⟩ = some (.int .i64 b1) ∧ w'.cell? ⟨w.heap.size + 1, 1, none⟩ = some (.int .u64 b0)) (first | (simp [*, go_sem]; done) | (simp [*, go_sem, World.cell?_alloc_past]; done))
    (first
      | (go_at_call 30; (with_reducible refine (K1.out _).mono ?_); rintro e w1 ⟨rfl, hb⟩; (first | (with_reducible (obtain ⟨hclw1, hfrw1⟩ := bcell_drew hb)) | (obtain ⟨hclw1, hfrw1⟩ := bcell hb)); have zw1_a : w.heap.size < w1.heap.size := (by first | omega | (have hz := hb.size; (try simp at hz); omega)); have yw1_a : w.heap.size < w1.heap.size + 1 := (by omega); have yyw1_a : w.heap.size < w1.heap.size + 1 + 1 := (by omega); have zw1_b : w.heap.size + 1 < w1.heap.size := (by first | omega | (have hz := hb.size; (try simp at hz); omega)); have yw1_b : w.heap.size + 1 < w1.heap.size + 1 := (by omega); have yyw1_b : w.heap.size + 1 < w1.heap.size + 1 + 1 := (by omega); have sxw1_0 : R1.heap.size ≤ w1.heap.size := (by first | omega | (have hz := hb.size; (try simp at hz); omega)); have HBw1 : Hid (Below w.heap.size w w1) := (bl_trans (by repeat (first | with_reducible exact Below.refl _ _ | with_reducible exact Hid.out (by assumption) | with_reducible refine Below.setCell ?_ (by first | (simp; done) | omega | (simp <;> omega)) _ | with_reducible refine bl_al ?_ _ | with_reducible apply Below.drew)) hb); clear hb; clear K1)
      | (go_at_call 31; (with_reducible refine (K2.out _).mono ?_); rintro e w2 ⟨rfl, hb⟩; obtain ⟨hclw2, hfrw2⟩ := bcell hb; have zw2_a : w.heap.size < w2.heap.size := (by first | omega | (have hz := hb.size; (try simp at hz); omega)); have yw2_a : w.heap.size < w2.heap.size + 1 := (by omega); have yyw2_a : w.heap.size < w2.heap.size + 1 + 1 := (by omega); have zw2_b : w.heap.size + 1 < w2.heap.size := (by first | omega | (have hz := hb.size; (try simp at hz); omega)); have yw2_b : w.heap.size + 1 < w2.heap.size + 1 := (by omega); have yyw2_b : w.heap.size + 1 < w2.heap.size + 1 + 1 := (by omega); have sxw2_0 : R1.heap.size ≤ w2.heap.size := (by first | omega | (have hz := hb.size; (try simp at hz); omega)); have sxw2_w1 : w1.heap.size ≤ w2.heap.size := (by first | omega | (have hz := hb.size; (try simp at hz); omega)); have HBw2 : Hid (Below w.heap.size w w2) := (bl_trans (by repeat (first | with_reducible exact Below.refl _ _ | with_reducible exact Hid.out (by assumption) | with_reducible refine Below.setCell ?_ (by first | (simp; done) | omega | (simp <;> omega)) _ | with_reducible refine bl_al ?_ _ | with_reducible apply Below.drew)) hb); clear hb; clear K2)
      | (go_at_call 32; (with_reducible refine (K3.out _).mono ?_); rintro e w3 ⟨rfl, hb⟩; obtain ⟨hclw3, hfrw3⟩ := bcell hb; have zw3_a : w.heap.size < w3.heap.size := (by first | omega | (have hz := hb.size; (try simp at hz); omega)); have yw3_a : w.heap.size < w3.heap.size + 1 := (by omega); have yyw3_a : w.heap.size < w3.heap.size + 1 + 1 := (by omega); have zw3_b : w.heap.size + 1 < w3.heap.size := (by first | omega | (have hz := hb.size; (try simp at hz); omega)); have yw3_b : w.heap.size + 1 < w3.heap.size + 1 := (by omega); have yyw3_b : w.heap.size + 1 < w3.heap.size + 1 + 1 := (by omega); have sxw3_0 : R1.heap.size ≤ w3.heap.size := (by first | omega | (have hz := hb.size; (try simp at hz); omega)); have sxw3_w1 : w1.heap.size ≤ w3.heap.size := (by first | omega | (have hz := hb.size; (try simp at hz); omega)); have sxw3_w2 : w2.heap.size ≤ w3.heap.size := (by first | omega | (have hz := hb.size; (try simp at hz); omega)); have HBw3 : Hid (Below w.heap.size w w3) := (bl_trans (by repeat (first | with_reducible exact Below.refl _ _ | with_reducible exact Hid.out (by assumption) | with_reducible refine Below.setCell ?_ (by first | (simp; done) | omega | (simp <;> omega)) _ | with_reducible refine bl_al ?_ _ | with_reducible apply Below.drew)) hb); clear hb; clear K3)
      | (go_at_call 33; (with_reducible refine (K4.out _).mono ?_); rintro e w4 ⟨rfl, hb⟩; obtain ⟨hclw4, hfrw4⟩ := bcell hb; have zw4_a : w.heap.size < w4.heap.size := (by first | omega | (have hz := hb.size; (try simp at hz); omega)); have yw4_a : w.heap.size < w4.heap.size + 1 := (by omega); have yyw4_a : w.heap.size < w4.heap.size + 1 + 1 := (by omega); have zw4_b : w.heap.size + 1 < w4.heap.size := (by first | omega | (have hz := hb.size; (try simp at hz); omega)); have yw4_b : w.heap.size + 1 < w4.heap.size + 1 := (by omega); have yyw4_b : w.heap.size + 1 < w4.heap.size + 1 + 1 := (by omega); have sxw4_0 : R1.heap.size ≤ w4.heap.size := (by first | omega | (have hz := hb.size; (try simp at hz); omega)); have sxw4_w1 : w1.heap.size ≤ w4.heap.size := (by first | omega | (have hz := hb.size; (try simp at hz); omega)); have sxw4_w2 : w2.heap.size ≤ w4.heap.size := (by first | omega | (have hz := hb.size; (try simp at hz); omega)); have sxw4_w3 : w3.heap.size ≤ w4.heap.size := (by first | omega | (have hz := hb.size; (try simp at hz); omega)); have HBw4 : Hid (Below w.heap.size w w4) := (bl_trans (by repeat (first | with_reducible exact Below.refl _ _ | with_reducible exact Hid.out (by assumption) | with_reducible refine Below.setCell ?_ (by first | (simp; done) | omega | (simp <;> omega)) _ | with_reducible refine bl_al ?_ _ | with_reducible apply Below.drew)) hb); clear hb; clear K4))
  rename_i hHeld
  clear hHeld
  go_wp2_with fail
  (with_reducible refine (K20.out _).mono ?_); rintro e w5 ⟨rfl, hb⟩; obtain ⟨hclw5, hfrw5⟩ := bcell hb; have zw5_a : w.heap.size < w5.heap.size := (by first | omega | (have hz := hb.size; (try simp at hz); omega)); have yw5_a : w.heap.size < w5.heap.size + 1 := (by omega); have yyw5_a : w.heap.size < w5.heap.size + 1 + 1 := (by omega); have zw5_b : w.heap.size + 1 < w5.heap.size := (by first | omega | (have hz := hb.size; (try simp at hz); omega)); have yw5_b : w.heap.size + 1 < w5.heap.size + 1 := (by omega); have yyw5_b : w.heap.size + 1 < w5.heap.size + 1 + 1 := (by omega); have sxw5_0 : w4.heap.size ≤ w5.heap.size := (by first | omega | (have hz := hb.size; (try simp at hz); omega)); have HBw5 : Hid (Below w.heap.size w w5) := (bl_trans (by repeat (first | with_reducible exact Below.refl _ _ | with_reducible exact Hid.out (by assumption) | with_reducible refine Below.setCell ?_ (by first | (simp; done) | omega | (simp <;> omega)) _ | with_reducible refine bl_al ?_ _ | with_reducible apply Below.drew)) hb); clear hb
  go_wp2_with fail
  (with_reducible refine (K5.out _).mono ?_); rintro e w6 ⟨rfl, hb⟩; obtain ⟨hclw6, hfrw6⟩ := bcell hb; have zw6_a : w.heap.size < w6.heap.size := (by first | omega | (have hz := hb.size; (try simp at hz); omega)); have yw6_a : w.heap.size < w6.heap.size + 1 := (by omega); have yyw6_a : w.heap.size < w6.heap.size + 1 + 1 := (by omega); have zw6_b : w.heap.size + 1 < w6.heap.size := (by first | omega | (have hz := hb.size; (try simp at hz); omega)); have yw6_b : w.heap.size + 1 < w6.heap.size + 1 := (by omega); have yyw6_b : w.heap.size + 1 < w6.heap.size + 1 + 1 := (by omega); have sxw6_0 : w5.heap.size ≤ w6.heap.size := (by first | omega | (have hz := hb.size; (try simp at hz); omega)); have HBw6 : Hid (Below w.heap.size w w6) := (bl_trans (by repeat (first | with_reducible exact Below.refl _ _ | with_reducible exact Hid.out (by assumption) | with_reducible refine Below.setCell ?_ (by first | (simp; done) | omega | (simp <;> omega)) _ | with_reducible refine bl_al ?_ _ | with_reducible apply Below.drew)) hb); clear hb
  go_wp2_with fail
  (with_reducible refine (K6.out _).mono ?_); rintro e w7 ⟨rfl, hb⟩; obtain ⟨hclw7, hfrw7⟩ := bcell hb; have zw7_a : w.heap.size < w7.heap.size := (by first | omega | (have hz := hb.size; (try simp at hz); omega)); have yw7_a : w.heap.size < w7.heap.size + 1 := (by omega); have yyw7_a : w.heap.size < w7.heap.size + 1 + 1 := (by omega); have zw7_b : w.heap.size + 1 < w7.heap.size := (by first | omega | (have hz := hb.size; (try simp at hz); omega)); have yw7_b : w.heap.size + 1 < w7.heap.size + 1 := (by omega); have yyw7_b : w.heap.size + 1 < w7.heap.size + 1 + 1 := (by omega); have sxw7_0 : w6.heap.size ≤ w7.heap.size := (by first | omega | (have hz := hb.size; (try simp at hz); omega)); have HBw7 : Hid (Below w.heap.size w w7) := (bl_trans (by repeat (first | with_reducible exact Below.refl _ _ | with_reducible exact Hid.out (by assumption) | with_reducible refine Below.setCell ?_ (by first | (simp; done) | omega | (simp <;> omega)) _ | with_reducible refine bl_al ?_ _ | with_reducible apply Below.drew)) hb); clear hb
  go_wp2_with fail
  (with_reducible refine (K7.out _).mono ?_); rintro e w8 ⟨rfl, hb⟩; obtain ⟨hclw8, hfrw8⟩ := bcell hb; have zw8_a : w.heap.size < w8.heap.size := (by first | omega | (have hz := hb.size; (try simp at hz); omega)); have yw8_a : w.heap.size < w8.heap.size + 1 := (by omega); have yyw8_a : w.heap.size < w8.heap.size + 1 + 1 := (by omega); have zw8_b : w.heap.size + 1 < w8.heap.size := (by first | omega | (have hz := hb.size; (try simp at hz); omega)); have yw8_b : w.heap.size + 1 < w8.heap.size + 1 := (by omega); have yyw8_b : w.heap.size + 1 < w8.heap.size + 1 + 1 := (by omega); have zw8_s : w7.heap.size < w8.heap.size := (by first | omega | (have hz := hb.size; (try simp at hz); omega)); have yw8_s : w7.heap.size < w8.heap.size + 1 := (by omega); have yyw8_s : w7.heap.size < w8.heap.size + 1 + 1 := (by omega); have sxw8_0 : w7.heap.size + 1 ≤ w8.heap.size := (by first | omega | (have hz := hb.size; (try simp at hz); omega)); have HBw8 : Hid (Below w.heap.size w w8) := (bl_trans (by repeat (first | with_reducible exact Below.refl _ _ | with_reducible exact Hid.out (by assumption) | with_reducible refine Below.setCell ?_ (by first | (simp; done) | omega | (simp <;> omega)) _ | with_reducible refine bl_al ?_ _ | with_reducible apply Below.drew)) hb); clear hb
  go_wp2_with fail
  (with_reducible refine (K8.out _).mono ?_); rintro e w9 ⟨rfl, hb⟩; obtain ⟨hclw9, hfrw9⟩ := bcell hb; have zw9_a : w.heap.size < w9.heap.size := (by first | omega | (have hz := hb.size; (try simp at hz); omega)); have yw9_a : w.heap.size < w9.heap.size + 1 := (by omega); have yyw9_a : w.heap.size < w9.heap.size + 1 + 1 := (by omega); have zw9_b : w.heap.size + 1 < w9.heap.size := (by first | omega | (have hz := hb.size; (try simp at hz); omega)); have yw9_b : w.heap.size + 1 < w9.heap.size + 1 := (by omega); have yyw9_b : w.heap.size + 1 < w9.heap.size + 1 + 1 := (by omega); have zw9_s : w7.heap.size < w9.heap.size := (by first | omega | (have hz := hb.size; (try simp at hz); omega)); have yw9_s : w7.heap.size < w9.heap.size + 1 := (by omega); have yyw9_s : w7.heap.size < w9.heap.size + 1 + 1 := (by omega); have zw9_d : w8.heap.size < w9.heap.size := (by first | omega | (have hz := hb.size; (try simp at hz); omega)); have yw9_d : w8.heap.size < w9.heap.size + 1 := (by omega); have yyw9_d : w8.heap.size < w9.heap.size + 1 + 1 := (by omega); have sxw9_0 : w8.heap.size + 1 ≤ w9.heap.size := (by first | omega | (have hz := hb.size; (try simp at hz); omega)); have HBw9 : Hid (Below w.heap.size w w9) := (bl_trans (by repeat (first | with_reducible exact Below.refl _ _ | with_reducible exact Hid.out (by assumption) | with_reducible refine Below.setCell ?_ (by first | (simp; done) | omega | (simp <;> omega)) _ | with_reducible refine bl_al ?_ _ | with_reducible apply Below.drew)) hb); clear hb
  go_wp2_with fail
  (with_reducible refine (K9.out _).mono ?_); rintro e w10 ⟨rfl, hb⟩; obtain ⟨hclw10, hfrw10⟩ := bcell hb; have zw10_a : w.heap.size < w10.heap.size := (by first | omega | (have hz := hb.size; (try simp at hz); omega)); have yw10_a : w.heap.size < w10.heap.size + 1 := (by omega); have yyw10_a : w.heap.size < w10.heap.size + 1 + 1 := (by omega); have zw10_b : w.heap.size + 1 < w10.heap.size := (by first | omega | (have hz := hb.size; (try simp at hz); omega)); have yw10_b : w.heap.size + 1 < w10.heap.size + 1 := (by omega); have yyw10_b : w.heap.size + 1 < w10.heap.size + 1 + 1 := (by omega); have zw10_s : w7.heap.size < w10.heap.size := (by first | omega | (have hz := hb.size; (try simp at hz); omega)); have yw10_s : w7.heap.size < w10.heap.size + 1 := (by omega); have yyw10_s : w7.heap.size < w10.heap.size + 1 + 1 := (by omega); have zw10_d : w8.heap.size < w10.heap.size := (by first | omega | (have hz := hb.size; (try simp at hz); omega)); have yw10_d : w8.heap.size < w10.heap.size + 1 := (by omega); have yyw10_d : w8.heap.size < w10.heap.size + 1 + 1 := (by omega); have zw10_m : w9.heap.size < w10.heap.size := (by first | omega | (have hz := hb.size; (try simp at hz); omega)); have yw10_m : w9.heap.size < w10.heap.size + 1 := (by omega); have yyw10_m : w9.heap.size < w10.heap.size + 1 + 1 := (by omega); have sxw10_0 : w9.heap.size + 1 ≤ w10.heap.size := (by first | omega | (have hz := hb.size; (try simp at hz); omega)); have HBw10 : Hid (Below w.heap.size w w10) := (bl_trans (by repeat (first | with_reducible exact Below.refl _ _ | with_reducible exact Hid.out (by assumption) | with_reducible refine Below.setCell ?_ (by first | (simp; done) | omega | (simp <;> omega)) _ | with_reducible refine bl_al ?_ _ | with_reducible apply Below.drew)) hb); clear hb
  go_upto_region 9 with fail
  refine name_world (P := fun W => Code.wp _ _ _ _ W) _ (fun R2 hR2 => ?_)
  have zR2_a : w.heap.size < R2.heap.size := by rw [hR2]; first | omega | (simp <;> omega)
  have yR2_a : w.heap.size < R2.heap.size + 1 := by omega
  have yyR2_a : w.heap.size < R2.heap.size + 1 + 1 := by omega
  have cR2_a_0 : R2.cell? ⟨w.heap.size, 0, none⟩ = some (.int .i64 a1) := by rw [hR2]; first | assumption | (simp [go_sem, *]; done)
  have cR2_a_1 : R2.cell? ⟨w.heap.size, 1, none⟩ = some (.int .u64 a0) := by rw [hR2]; first | assumption | (simp [go_sem, *]; done)
  have zR2_b : w.heap.size + 1 < R2.heap.size := by rw [hR2]; first | omega | (simp <;> omega)
  have yR2_b : w.heap.size + 1 < R2.heap.size + 1 := by omega
  have yyR2_b : w.heap.size + 1 < R2.heap.size + 1 + 1 := by omega
  have cR2_b_0 : R2.cell? ⟨w.heap.size + 1, 0, none⟩ = some (.int .i64 b1) := by rw [hR2]; first | assumption | (simp [go_sem, *]; done)
  have cR2_b_1 : R2.cell? ⟨w.heap.size + 1, 1, none⟩ = some (.int .u64 b0) := by rw [hR2]; first | assumption | (simp [go_sem, *]; done)
  have zR2_s : w7.heap.size < R2.heap.size := by rw [hR2]; first | omega | (simp <;> omega)
  have yR2_s : w7.heap.size < R2.heap.size + 1 := by omega
  have yyR2_s : w7.heap.size < R2.heap.size + 1 + 1 := by omega
  have cR2_s_0 : R2.cell? ⟨w7.heap.size, 0, none⟩ = some (.int .i64 s1) := by rw [hR2]; first | assumption | (simp [go_sem, *]; done)
  have cR2_s_1 : R2.cell? ⟨w7.heap.size, 1, none⟩ = some (.int .u64 s0) := by rw [hR2]; first | assumption | (simp [go_sem, *]; done)
  have zR2_d : w8.heap.size < R2.heap.size := by rw [hR2]; first | omega | (simp <;> omega)
  have yR2_d : w8.heap.size < R2.heap.size + 1 := by omega
  have yyR2_d : w8.heap.size < R2.heap.size + 1 + 1 := by omega
  have cR2_d_0 : R2.cell? ⟨w8.heap.size, 0, none⟩ = some (.int .i64 d1) := by rw [hR2]; first | assumption | (simp [go_sem, *]; done)
  have cR2_d_1 : R2.cell? ⟨w8.heap.size, 1, none⟩ = some (.int .u64 d0) := by rw [hR2]; first | assumption | (simp [go_sem, *]; done)
  have zR2_m : w9.heap.size < R2.heap.size := by rw [hR2]; first | omega | (simp <;> omega)
  have yR2_m : w9.heap.size < R2.heap.size + 1 := by omega
  have yyR2_m : w9.heap.size < R2.heap.size + 1 + 1 := by omega
  have cR2_m_0 : R2.cell? ⟨w9.heap.size, 0, none⟩ = some (.int .i64 m1) := by rw [hR2]; first | assumption | (simp [go_sem, *]; done)
  have cR2_m_1 : R2.cell? ⟨w9.heap.size, 1, none⟩ = some (.int .u64 m0) := by rw [hR2]; first | assumption | (simp [go_sem, *]; done)
  have zR2_q : w10.heap.size < R2.heap.size := by rw [hR2]; first | omega | (simp <;> omega)
  have yR2_q : w10.heap.size < R2.heap.size + 1 := by omega
  have yyR2_q : w10.heap.size < R2.heap.size + 1 + 1 := by omega
  have cR2_q_0 : R2.cell? ⟨w10.heap.size, 0, none⟩ = some (.int .i64 q1) := by rw [hR2]; first | assumption | (simp [go_sem, *]; done)
  have cR2_q_1 : R2.cell? ⟨w10.heap.size, 1, none⟩ = some (.int .u64 q0) := by rw [hR2]; first | assumption | (simp [go_sem, *]; done)
  have HBR2 : Hid (Below w.heap.size w R2) := by rw [hR2]; show Below _ _ _; exact (by repeat (first | with_reducible exact Below.refl _ _ | with_reducible exact Hid.out (by assumption) | with_reducible refine Below.setCell ?_ (by first | (simp; done) | omega | (simp <;> omega)) _ | with_reducible refine bl_al ?_ _ | with_reducible apply Below.drew))
  clear hR2
  clear zR1_a yR1_a yyR1_a cR1_a_0 cR1_a_1 zR1_b yR1_b yyR1_b cR1_b_0 cR1_b_1 HBR1 zw1_a yw1_a yyw1_a zw1_b yw1_b yyw1_b sxw1_0 hclw1 hfrw1 HBw1 zw2_a yw2_a yyw2_a zw2_b yw2_b yyw2_b sxw2_0 sxw2_w1 hclw2 hfrw2 HBw2 zw3_a yw3_a yyw3_a zw3_b yw3_b yyw3_b sxw3_0 sxw3_w1 sxw3_w2 hclw3 hfrw3 HBw3 zw4_a yw4_a yyw4_a zw4_b yw4_b yyw4_b sxw4_0 sxw4_w1 sxw4_w2 sxw4_w3 hclw4 hfrw4 HBw4 zw5_a yw5_a yyw5_a zw5_b yw5_b yyw5_b sxw5_0 hclw5 hfrw5 HBw5 zw6_a yw6_a yyw6_a zw6_b yw6_b yyw6_b sxw6_0 hclw6 hfrw6 HBw6 zw7_a yw7_a yyw7_a zw7_b yw7_b yyw7_b sxw7_0 hclw7 hfrw7 HBw7 zw8_a yw8_a yyw8_a zw8_b yw8_b yyw8_b zw8_s yw8_s yyw8_s sxw8_0 hclw8 hfrw8 HBw8 zw9_a yw9_a yyw9_a zw9_b yw9_b yyw9_b zw9_s yw9_s yyw9_s zw9_d yw9_d yyw9_d sxw9_0 hclw9 hfrw9 HBw9 zw10_a yw10_a yyw10_a zw10_b yw10_b yyw10_b zw10_s yw10_s yyw10_s zw10_d yw10_d yyw10_d zw10_m yw10_m yyw10_m sxw10_0 hclw10 hfrw10 HBw10
  go_region_held3 (fun w' => w'.cell? ⟨w.heap.size, 0, none⟩ = some (.int .i64 a1) ∧ w'.cell? ⟨w.heap.size, 1, none⟩ = some (.int .u64 a0) ∧ w'.cell? ⟨w.heap.size + 1, 0, none⟩ = some (.int .i64 b1) ∧ w'.cell? ⟨w.heap.size + 1, 1, none⟩ = some (.int .u64 b0) ∧ w'.cell? ⟨w7.heap.size, 0, none⟩ = some (.int .i64 s1) ∧ w'.cell? ⟨w7.heap.size, 1, none⟩ = some (.int .u64 s0) ∧ w'.cell? ⟨w8.heap.size, 0, none⟩ = some (.int .i64 d1) ∧ w'.cell? ⟨w8.heap.size, 1, none⟩ = some (.int .u64 d0) ∧ w'.cell? ⟨w9.heap.size, 0, none⟩ = some (.int .i64 m1) ∧ w'.cell? ⟨w9.heap.size, 1, none⟩ = some (.int .u64 m0) ∧ w'.cell? ⟨w10.heap.size, 0, none⟩ = some (.int .i64 q1) ∧ w'.cell? ⟨w10.heap.size, 1, none⟩ = some (.int .u64 q0)) (first | (simp [*, go_sem]; done) | (simp [*, go_sem, World.cell?_alloc_past]; done))
    (first
      | (go_at_call 40; (with_reducible refine (K10.out _).mono ?_); rintro e w11 ⟨rfl, hb⟩; (first | (with_reducible (obtain ⟨hclw11, hfrw11⟩ := bcell_drew hb)) | (obtain ⟨hclw11, hfrw11⟩ := bcell hb)); have zw11_a : w.heap.size < w11.heap.size := (by first | omega | (have hz := hb.size; (try simp at hz); omega)); have yw11_a : w.heap.size < w11.heap.size + 1 := (by omega); have yyw11_a : w.heap.size < w11.heap.size + 1 + 1 := (by omega); have zw11_b : w.heap.size + 1 < w11.heap.size := (by first | omega | (have hz := hb.size; (try simp at hz); omega)); have yw11_b : w.heap.size + 1 < w11.heap.size + 1 := (by omega); have yyw11_b : w.heap.size + 1 < w11.heap.size + 1 + 1 := (by omega); have zw11_s : w7.heap.size < w11.heap.size := (by first | omega | (have hz := hb.size; (try simp at hz); omega)); have yw11_s : w7.heap.size < w11.heap.size + 1 := (by omega); have yyw11_s : w7.heap.size < w11.heap.size + 1 + 1 := (by omega); have zw11_d : w8.heap.size < w11.heap.size := (by first | omega | (have hz := hb.size; (try simp at hz); omega)); have yw11_d : w8.heap.size < w11.heap.size + 1 := (by omega); have yyw11_d : w8.heap.size < w11.heap.size + 1 + 1 := (by omega); have zw11_m : w9.heap.size < w11.heap.size := (by first | omega | (have hz := hb.size; (try simp at hz); omega)); have yw11_m : w9.heap.size < w11.heap.size + 1 := (by omega); have yyw11_m : w9.heap.size < w11.heap.size + 1 + 1 := (by omega); have zw11_q : w10.heap.size < w11.heap.size := (by first | omega | (have hz := hb.size; (try simp at hz); omega)); have yw11_q : w10.heap.size < w11.heap.size + 1 := (by omega); have yyw11_q : w10.heap.size < w11.heap.size + 1 + 1 := (by omega); have sxw11_0 : R2.heap.size ≤ w11.heap.size := (by first | omega | (have hz := hb.size; (try simp at hz); omega)); have HBw11 : Hid (Below w.heap.size w w11) := (bl_trans (by repeat (first | with_reducible exact Below.refl _ _ | with_reducible exact Hid.out (by assumption) | with_reducible refine Below.setCell ?_ (by first | (simp; done) | omega | (simp <;> omega)) _ | with_reducible refine bl_al ?_ _ | with_reducible apply Below.drew)) hb); clear hb; clear K10)
      | (go_at_call 39; (with_reducible refine (K11.out _).mono ?_); rintro e w12 ⟨rfl, hb⟩; obtain ⟨hclw12, hfrw12⟩ := bcell hb; have zw12_a : w.heap.size < w12.heap.size := (by first | omega | (have hz := hb.size; (try simp at hz); omega)); have yw12_a : w.heap.size < w12.heap.size + 1 := (by omega); have yyw12_a : w.heap.size < w12.heap.size + 1 + 1 := (by omega); have zw12_b : w.heap.size + 1 < w12.heap.size := (by first | omega | (have hz := hb.size; (try simp at hz); omega)); have yw12_b : w.heap.size + 1 < w12.heap.size + 1 := (by omega); have yyw12_b : w.heap.size + 1 < w12.heap.size + 1 + 1 := (by omega); have zw12_s : w7.heap.size < w12.heap.size := (by first | omega | (have hz := hb.size; (try simp at hz); omega)); have yw12_s : w7.heap.size < w12.heap.size + 1 := (by omega); have yyw12_s : w7.heap.size < w12.heap.size + 1 + 1 := (by omega); have zw12_d : w8.heap.size < w12.heap.size := (by first | omega | (have hz := hb.size; (try simp at hz); omega)); have yw12_d : w8.heap.size < w12.heap.size + 1 := (by omega); have yyw12_d : w8.heap.size < w12.heap.size + 1 + 1 := (by omega); have zw12_m : w9.heap.size < w12.heap.size := (by first | omega | (have hz := hb.size; (try simp at hz); omega)); have yw12_m : w9.heap.size < w12.heap.size + 1 := (by omega); have yyw12_m : w9.heap.size < w12.heap.size + 1 + 1 := (by omega); have zw12_q : w10.heap.size < w12.heap.size := (by first | omega | (have hz := hb.size; (try simp at hz); omega)); have yw12_q : w10.heap.size < w12.heap.size + 1 := (by omega); have yyw12_q : w10.heap.size < w12.heap.size + 1 + 1 := (by omega); have sxw12_0 : R2.heap.size ≤ w12.heap.size := (by first | omega | (have hz := hb.size; (try simp at hz); omega)); have sxw12_w11 : w11.heap.size ≤ w12.heap.size := (by first | omega | (have hz := hb.size; (try simp at hz); omega)); have HBw12 : Hid (Below w.heap.size w w12) := (bl_trans (by repeat (first | with_reducible exact Below.refl _ _ | with_reducible exact Hid.out (by assumption) | with_reducible refine Below.setCell ?_ (by first | (simp; done) | omega | (simp <;> omega)) _ | with_reducible refine bl_al ?_ _ | with_reducible apply Below.drew)) hb); clear hb; clear K11)
      | (go_at_call 41; (with_reducible refine (K12.out _).mono ?_); rintro e w13 ⟨rfl, hb⟩; obtain ⟨hclw13, hfrw13⟩ := bcell hb; have zw13_a : w.heap.size < w13.heap.size := (by first | omega | (have hz := hb.size; (try simp at hz); omega)); have yw13_a : w.heap.size < w13.heap.size + 1 := (by omega); have yyw13_a : w.heap.size < w13.heap.size + 1 + 1 := (by omega); have zw13_b : w.heap.size + 1 < w13.heap.size := (by first | omega | (have hz := hb.size; (try simp at hz); omega)); have yw13_b : w.heap.size + 1 < w13.heap.size + 1 := (by omega); have yyw13_b : w.heap.size + 1 < w13.heap.size + 1 + 1 := (by omega); have zw13_s : w7.heap.size < w13.heap.size := (by first | omega | (have hz := hb.size; (try simp at hz); omega)); have yw13_s : w7.heap.size < w13.heap.size + 1 := (by omega); have yyw13_s : w7.heap.size < w13.heap.size + 1 + 1 := (by omega); have zw13_d : w8.heap.size < w13.heap.size := (by first | omega | (have hz := hb.size; (try simp at hz); omega)); have yw13_d : w8.heap.size < w13.heap.size + 1 := (by omega); have yyw13_d : w8.heap.size < w13.heap.size + 1 + 1 := (by omega); have zw13_m : w9.heap.size < w13.heap.size := (by first | omega | (have hz := hb.size; (try simp at hz); omega)); have yw13_m : w9.heap.size < w13.heap.size + 1 := (by omega); have yyw13_m : w9.heap.size < w13.heap.size + 1 + 1 := (by omega); have zw13_q : w10.heap.size < w13.heap.size := (by first | omega | (have hz := hb.size; (try simp at hz); omega)); have yw13_q : w10.heap.size < w13.heap.size + 1 := (by omega); have yyw13_q : w10.heap.size < w13.heap.size + 1 + 1 := (by omega); have sxw13_0 : R2.heap.size ≤ w13.heap.size := (by first | omega | (have hz := hb.size; (try simp at hz); omega)); have sxw13_w11 : w11.heap.size ≤ w13.heap.size := (by first | omega | (have hz := hb.size; (try simp at hz); omega)); have sxw13_w12 : w12.heap.size ≤ w13.heap.size := (by first | omega | (have hz := hb.size; (try simp at hz); omega)); have HBw13 : Hid (Below w.heap.size w w13) := (bl_trans (by repeat (first | with_reducible exact Below.refl _ _ | with_reducible exact Hid.out (by assumption) | with_reducible refine Below.setCell ?_ (by first | (simp; done) | omega | (simp <;> omega)) _ | with_reducible refine bl_al ?_ _ | with_reducible apply Below.drew)) hb); clear hb; clear K12)
      | (go_at_call 39; (with_reducible refine (K13.out _).mono ?_); rintro e w14 ⟨rfl, hb⟩; obtain ⟨hclw14, hfrw14⟩ := bcell hb; have zw14_a : w.heap.size < w14.heap.size := (by first | omega | (have hz := hb.size; (try simp at hz); omega)); have yw14_a : w.heap.size < w14.heap.size + 1 := (by omega); have yyw14_a : w.heap.size < w14.heap.size + 1 + 1 := (by omega); have zw14_b : w.heap.size + 1 < w14.heap.size := (by first | omega | (have hz := hb.size; (try simp at hz); omega)); have yw14_b : w.heap.size + 1 < w14.heap.size + 1 := (by omega); have yyw14_b : w.heap.size + 1 < w14.heap.size + 1 + 1 := (by omega); have zw14_s : w7.heap.size < w14.heap.size := (by first | omega | (have hz := hb.size; (try simp at hz); omega)); have yw14_s : w7.heap.size < w14.heap.size + 1 := (by omega); have yyw14_s : w7.heap.size < w14.heap.size + 1 + 1 := (by omega); have zw14_d : w8.heap.size < w14.heap.size := (by first | omega | (have hz := hb.size; (try simp at hz); omega)); have yw14_d : w8.heap.size < w14.heap.size + 1 := (by omega); have yyw14_d : w8.heap.size < w14.heap.size + 1 + 1 := (by omega); have zw14_m : w9.heap.size < w14.heap.size := (by first | omega | (have hz := hb.size; (try simp at hz); omega)); have yw14_m : w9.heap.size < w14.heap.size + 1 := (by omega); have yyw14_m : w9.heap.size < w14.heap.size + 1 + 1 := (by omega); have zw14_q : w10.heap.size < w14.heap.size := (by first | omega | (have hz := hb.size; (try simp at hz); omega)); have yw14_q : w10.heap.size < w14.heap.size + 1 := (by omega); have yyw14_q : w10.heap.size < w14.heap.size + 1 + 1 := (by omega); have sxw14_0 : R2.heap.size ≤ w14.heap.size := (by first | omega | (have hz := hb.size; (try simp at hz); omega)); have sxw14_w11 : w11.heap.size ≤ w14.heap.size := (by first | omega | (have hz := hb.size; (try simp at hz); omega)); have sxw14_w12 : w12.heap.size ≤ w14.heap.size := (by first | omega | (have hz := hb.size; (try simp at hz); omega)); have sxw14_w13 : w13.heap.size ≤ w14.heap.size := (by first | omega | (have hz := hb.size; (try simp at hz); omega)); have HBw14 : Hid (Below w.heap.size w w14) := (bl_trans (by repeat (first | with_reducible exact Below.refl _ _ | with_reducible exact Hid.out (by assumption) | with_reducible refine Below.setCell ?_ (by first | (simp; done) | omega | (simp <;> omega)) _ | with_reducible refine bl_al ?_ _ | with_reducible apply Below.drew)) hb); clear hb; clear K13)
      | (go_at_call 42; (with_reducible refine (K14.out _).mono ?_); rintro e w15 ⟨rfl, hb⟩; obtain ⟨hclw15, hfrw15⟩ := bcell hb; have zw15_a : w.heap.size < w15.heap.size := (by first | omega | (have hz := hb.size; (try simp at hz); omega)); have yw15_a : w.heap.size < w15.heap.size + 1 := (by omega); have yyw15_a : w.heap.size < w15.heap.size + 1 + 1 := (by omega); have zw15_b : w.heap.size + 1 < w15.heap.size := (by first | omega | (have hz := hb.size; (try simp at hz); omega)); have yw15_b : w.heap.size + 1 < w15.heap.size + 1 := (by omega); have yyw15_b : w.heap.size + 1 < w15.heap.size + 1 + 1 := (by omega); have zw15_s : w7.heap.size < w15.heap.size := (by first | omega | (have hz := hb.size; (try simp at hz); omega)); have yw15_s : w7.heap.size < w15.heap.size + 1 := (by omega); have yyw15_s : w7.heap.size < w15.heap.size + 1 + 1 := (by omega); have zw15_d : w8.heap.size < w15.heap.size := (by first | omega | (have hz := hb.size; (try simp at hz); omega)); have yw15_d : w8.heap.size < w15.heap.size + 1 := (by omega); have yyw15_d : w8.heap.size < w15.heap.size + 1 + 1 := (by omega); have zw15_m : w9.heap.size < w15.heap.size := (by first | omega | (have hz := hb.size; (try simp at hz); omega)); have yw15_m : w9.heap.size < w15.heap.size + 1 := (by omega); have yyw15_m : w9.heap.size < w15.heap.size + 1 + 1 := (by omega); have zw15_q : w10.heap.size < w15.heap.size := (by first | omega | (have hz := hb.size; (try simp at hz); omega)); have yw15_q : w10.heap.size < w15.heap.size + 1 := (by omega); have yyw15_q : w10.heap.size < w15.heap.size + 1 + 1 := (by omega); have sxw15_0 : R2.heap.size ≤ w15.heap.size := (by first | omega | (have hz := hb.size; (try simp at hz); omega)); have sxw15_w11 : w11.heap.size ≤ w15.heap.size := (by first | omega | (have hz := hb.size; (try simp at hz); omega)); have sxw15_w12 : w12.heap.size ≤ w15.heap.size := (by first | omega | (have hz := hb.size; (try simp at hz); omega)); have sxw15_w13 : w13.heap.size ≤ w15.heap.size := (by first | omega | (have hz := hb.size; (try simp at hz); omega)); have sxw15_w14 : w14.heap.size ≤ w15.heap.size := (by first | omega | (have hz := hb.size; (try simp at hz); omega)); have HBw15 : Hid (Below w.heap.size w w15) := (bl_trans (by repeat (first | with_reducible exact Below.refl _ _ | with_reducible exact Hid.out (by assumption) | with_reducible refine Below.setCell ?_ (by first | (simp; done) | omega | (simp <;> omega)) _ | with_reducible refine bl_al ?_ _ | with_reducible apply Below.drew)) hb); clear hb; clear K14)
      | (go_at_call 39; (with_reducible refine (K15.out _).mono ?_); rintro e w16 ⟨rfl, hb⟩; obtain ⟨hclw16, hfrw16⟩ := bcell hb; have zw16_a : w.heap.size < w16.heap.size := (by first | omega | (have hz := hb.size; (try simp at hz); omega)); have yw16_a : w.heap.size < w16.heap.size + 1 := (by omega); have yyw16_a : w.heap.size < w16.heap.size + 1 + 1 := (by omega); have zw16_b : w.heap.size + 1 < w16.heap.size := (by first | omega | (have hz := hb.size; (try simp at hz); omega)); have yw16_b : w.heap.size + 1 < w16.heap.size + 1 := (by omega); have yyw16_b : w.heap.size + 1 < w16.heap.size + 1 + 1 := (by omega); have zw16_s : w7.heap.size < w16.heap.size := (by first | omega | (have hz := hb.size; (try simp at hz); omega)); have yw16_s : w7.heap.size < w16.heap.size + 1 := (by omega); have yyw16_s : w7.heap.size < w16.heap.size + 1 + 1 := (by omega); have zw16_d : w8.heap.size < w16.heap.size := (by first | omega | (have hz := hb.size; (try simp at hz); omega)); have yw16_d : w8.heap.size < w16.heap.size + 1 := (by omega); have yyw16_d : w8.heap.size < w16.heap.size + 1 + 1 := (by omega); have zw16_m : w9.heap.size < w16.heap.size := (by first | omega | (have hz := hb.size; (try simp at hz); omega)); have yw16_m : w9.heap.size < w16.heap.size + 1 := (by omega); have yyw16_m : w9.heap.size < w16.heap.size + 1 + 1 := (by omega); have zw16_q : w10.heap.size < w16.heap.size := (by first | omega | (have hz := hb.size; (try simp at hz); omega)); have yw16_q : w10.heap.size < w16.heap.size + 1 := (by omega); have yyw16_q : w10.heap.size < w16.heap.size + 1 + 1 := (by omega); have sxw16_0 : R2.heap.size ≤ w16.heap.size := (by first | omega | (have hz := hb.size; (try simp at hz); omega)); have sxw16_w11 : w11.heap.size ≤ w16.heap.size := (by first | omega | (have hz := hb.size; (try simp at hz); omega)); have sxw16_w12 : w12.heap.size ≤ w16.heap.size := (by first | omega | (have hz := hb.size; (try simp at hz); omega)); have sxw16_w13 : w13.heap.size ≤ w16.heap.size := (by first | omega | (have hz := hb.size; (try simp at hz); omega)); have sxw16_w14 : w14.heap.size ≤ w16.heap.size := (by first | omega | (have hz := hb.size; (try simp at hz); omega)); have sxw16_w15 : w15.heap.size ≤ w16.heap.size := (by first | omega | (have hz := hb.size; (try simp at hz); omega)); have HBw16 : Hid (Below w.heap.size w w16) := (bl_trans (by repeat (first | with_reducible exact Below.refl _ _ | with_reducible exact Hid.out (by assumption) | with_reducible refine Below.setCell ?_ (by first | (simp; done) | omega | (simp <;> omega)) _ | with_reducible refine bl_al ?_ _ | with_reducible apply Below.drew)) hb); clear hb; clear K15)
      | (go_at_call 43; (with_reducible refine (K16.out _).mono ?_); rintro e w17 ⟨rfl, hb⟩; obtain ⟨hclw17, hfrw17⟩ := bcell hb; have zw17_a : w.heap.size < w17.heap.size := (by first | omega | (have hz := hb.size; (try simp at hz); omega)); have yw17_a : w.heap.size < w17.heap.size + 1 := (by omega); have yyw17_a : w.heap.size < w17.heap.size + 1 + 1 := (by omega); have zw17_b : w.heap.size + 1 < w17.heap.size := (by first | omega | (have hz := hb.size; (try simp at hz); omega)); have yw17_b : w.heap.size + 1 < w17.heap.size + 1 := (by omega); have yyw17_b : w.heap.size + 1 < w17.heap.size + 1 + 1 := (by omega); have zw17_s : w7.heap.size < w17.heap.size := (by first | omega | (have hz := hb.size; (try simp at hz); omega)); have yw17_s : w7.heap.size < w17.heap.size + 1 := (by omega); have yyw17_s : w7.heap.size < w17.heap.size + 1 + 1 := (by omega); have zw17_d : w8.heap.size < w17.heap.size := (by first | omega | (have hz := hb.size; (try simp at hz); omega)); have yw17_d : w8.heap.size < w17.heap.size + 1 := (by omega); have yyw17_d : w8.heap.size < w17.heap.size + 1 + 1 := (by omega); have zw17_m : w9.heap.size < w17.heap.size := (by first | omega | (have hz := hb.size; (try simp at hz); omega)); have yw17_m : w9.heap.size < w17.heap.size + 1 := (by omega); have yyw17_m : w9.heap.size < w17.heap.size + 1 + 1 := (by omega); have zw17_q : w10.heap.size < w17.heap.size := (by first | omega | (have hz := hb.size; (try simp at hz); omega)); have yw17_q : w10.heap.size < w17.heap.size + 1 := (by omega); have yyw17_q : w10.heap.size < w17.heap.size + 1 + 1 := (by omega); have sxw17_0 : R2.heap.size ≤ w17.heap.size := (by first | omega | (have hz := hb.size; (try simp at hz); omega)); have sxw17_w11 : w11.heap.size ≤ w17.heap.size := (by first | omega | (have hz := hb.size; (try simp at hz); omega)); have sxw17_w12 : w12.heap.size ≤ w17.heap.size := (by first | omega | (have hz := hb.size; (try simp at hz); omega)); have sxw17_w13 : w13.heap.size ≤ w17.heap.size := (by first | omega | (have hz := hb.size; (try simp at hz); omega)); have sxw17_w14 : w14.heap.size ≤ w17.heap.size := (by first | omega | (have hz := hb.size; (try simp at hz); omega)); have sxw17_w15 : w15.heap.size ≤ w17.heap.size := (by first | omega | (have hz := hb.size; (try simp at hz); omega)); have sxw17_w16 : w16.heap.size ≤ w17.heap.size := (by first | omega | (have hz := hb.size; (try simp at hz); omega)); have HBw17 : Hid (Below w.heap.size w w17) := (bl_trans (by repeat (first | with_reducible exact Below.refl _ _ | with_reducible exact Hid.out (by assumption) | with_reducible refine Below.setCell ?_ (by first | (simp; done) | omega | (simp <;> omega)) _ | with_reducible refine bl_al ?_ _ | with_reducible apply Below.drew)) hb); clear hb; clear K16)
      | (go_at_call 39; (with_reducible refine (K17.out _).mono ?_); rintro e w18 ⟨rfl, hb⟩; obtain ⟨hclw18, hfrw18⟩ := bcell hb; have zw18_a : w.heap.size < w18.heap.size := (by first | omega | (have hz := hb.size; (try simp at hz); omega)); have yw18_a : w.heap.size < w18.heap.size + 1 := (by omega); have yyw18_a : w.heap.size < w18.heap.size + 1 + 1 := (by omega); have zw18_b : w.heap.size + 1 < w18.heap.size := (by first | omega | (have hz := hb.size; (try simp at hz); omega)); have yw18_b : w.heap.size + 1 < w18.heap.size + 1 := (by omega); have yyw18_b : w.heap.size + 1 < w18.heap.size + 1 + 1 := (by omega); have zw18_s : w7.heap.size < w18.heap.size := (by first | omega | (have hz := hb.size; (try simp at hz); omega)); have yw18_s : w7.heap.size < w18.heap.size + 1 := (by omega); have yyw18_s : w7.heap.size < w18.heap.size + 1 + 1 := (by omega); have zw18_d : w8.heap.size < w18.heap.size := (by first | omega | (have hz := hb.size; (try simp at hz); omega)); have yw18_d : w8.heap.size < w18.heap.size + 1 := (by omega); have yyw18_d : w8.heap.size < w18.heap.size + 1 + 1 := (by omega); have zw18_m : w9.heap.size < w18.heap.size := (by first | omega | (have hz := hb.size; (try simp at hz); omega)); have yw18_m : w9.heap.size < w18.heap.size + 1 := (by omega); have yyw18_m : w9.heap.size < w18.heap.size + 1 + 1 := (by omega); have zw18_q : w10.heap.size < w18.heap.size := (by first | omega | (have hz := hb.size; (try simp at hz); omega)); have yw18_q : w10.heap.size < w18.heap.size + 1 := (by omega); have yyw18_q : w10.heap.size < w18.heap.size + 1 + 1 := (by omega); have sxw18_0 : R2.heap.size ≤ w18.heap.size := (by first | omega | (have hz := hb.size; (try simp at hz); omega)); have sxw18_w11 : w11.heap.size ≤ w18.heap.size := (by first | omega | (have hz := hb.size; (try simp at hz); omega)); have sxw18_w12 : w12.heap.size ≤ w18.heap.size := (by first | omega | (have hz := hb.size; (try simp at hz); omega)); have sxw18_w13 : w13.heap.size ≤ w18.heap.size := (by first | omega | (have hz := hb.size; (try simp at hz); omega)); have sxw18_w14 : w14.heap.size ≤ w18.heap.size := (by first | omega | (have hz := hb.size; (try simp at hz); omega)); have sxw18_w15 : w15.heap.size ≤ w18.heap.size := (by first | omega | (have hz := hb.size; (try simp at hz); omega)); have sxw18_w16 : w16.heap.size ≤ w18.heap.size := (by first | omega | (have hz := hb.size; (try simp at hz); omega)); have sxw18_w17 : w17.heap.size ≤ w18.heap.size := (by first | omega | (have hz := hb.size; (try simp at hz); omega)); have HBw18 : Hid (Below w.heap.size w w18) := (bl_trans (by repeat (first | with_reducible exact Below.refl _ _ | with_reducible exact Hid.out (by assumption) | with_reducible refine Below.setCell ?_ (by first | (simp; done) | omega | (simp <;> omega)) _ | with_reducible refine bl_al ?_ _ | with_reducible apply Below.drew)) hb); clear hb; clear K17)
      | (go_at_call 34; (with_reducible refine (K18.out _).mono ?_); rintro e w19 ⟨rfl, hb⟩; obtain ⟨hclw19, hfrw19⟩ := bcell hb; have zw19_a : w.heap.size < w19.heap.size := (by first | omega | (have hz := hb.size; (try simp at hz); omega)); have yw19_a : w.heap.size < w19.heap.size + 1 := (by omega); have yyw19_a : w.heap.size < w19.heap.size + 1 + 1 := (by omega); have zw19_b : w.heap.size + 1 < w19.heap.size := (by first | omega | (have hz := hb.size; (try simp at hz); omega)); have yw19_b : w.heap.size + 1 < w19.heap.size + 1 := (by omega); have yyw19_b : w.heap.size + 1 < w19.heap.size + 1 + 1 := (by omega); have zw19_s : w7.heap.size < w19.heap.size := (by first | omega | (have hz := hb.size; (try simp at hz); omega)); have yw19_s : w7.heap.size < w19.heap.size + 1 := (by omega); have yyw19_s : w7.heap.size < w19.heap.size + 1 + 1 := (by omega); have zw19_d : w8.heap.size < w19.heap.size := (by first | omega | (have hz := hb.size; (try simp at hz); omega)); have yw19_d : w8.heap.size < w19.heap.size + 1 := (by omega); have yyw19_d : w8.heap.size < w19.heap.size + 1 + 1 := (by omega); have zw19_m : w9.heap.size < w19.heap.size := (by first | omega | (have hz := hb.size; (try simp at hz); omega)); have yw19_m : w9.heap.size < w19.heap.size + 1 := (by omega); have yyw19_m : w9.heap.size < w19.heap.size + 1 + 1 := (by omega); have zw19_q : w10.heap.size < w19.heap.size := (by first | omega | (have hz := hb.size; (try simp at hz); omega)); have yw19_q : w10.heap.size < w19.heap.size + 1 := (by omega); have yyw19_q : w10.heap.size < w19.heap.size + 1 + 1 := (by omega); have sxw19_0 : R2.heap.size ≤ w19.heap.size := (by first | omega | (have hz := hb.size; (try simp at hz); omega)); have sxw19_w11 : w11.heap.size ≤ w19.heap.size := (by first | omega | (have hz := hb.size; (try simp at hz); omega)); have sxw19_w12 : w12.heap.size ≤ w19.heap.size := (by first | omega | (have hz := hb.size; (try simp at hz); omega)); have sxw19_w13 : w13.heap.size ≤ w19.heap.size := (by first | omega | (have hz := hb.size; (try simp at hz); omega)); have sxw19_w14 : w14.heap.size ≤ w19.heap.size := (by first | omega | (have hz := hb.size; (try simp at hz); omega)); have sxw19_w15 : w15.heap.size ≤ w19.heap.size := (by first | omega | (have hz := hb.size; (try simp at hz); omega)); have sxw19_w16 : w16.heap.size ≤ w19.heap.size := (by first | omega | (have hz := hb.size; (try simp at hz); omega)); have sxw19_w17 : w17.heap.size ≤ w19.heap.size := (by first | omega | (have hz := hb.size; (try simp at hz); omega)); have sxw19_w18 : w18.heap.size ≤ w19.heap.size := (by first | omega | (have hz := hb.size; (try simp at hz); omega)); have HBw19 : Hid (Below w.heap.size w w19) := (bl_trans (by repeat (first | with_reducible exact Below.refl _ _ | with_reducible exact Hid.out (by assumption) | with_reducible refine Below.setCell ?_ (by first | (simp; done) | omega | (simp <;> omega)) _ | with_reducible refine bl_al ?_ _ | with_reducible apply Below.drew)) hb); clear hb; clear K18))
  rename_i hHeld
  clear hHeld
  go_wp2_with fail
  go_returns
  exact ⟨rfl, by repeat (first | with_reducible exact Below.refl _ _ | with_reducible exact Hid.out (by assumption) | with_reducible refine Below.setCell ?_ (by first | (simp; done) | omega | (simp <;> omega)) _ | with_reducible refine bl_al ?_ _ | with_reducible apply Below.drew)⟩
theorem fixAll_walk (x y : Int) (hx : Fx x) (hy : Fx y) (w : World) :
    Calls Try.prog 6 #[.agg #[.int .i64 (fh x), .int .u64 (fl x)], .agg #[.int .i64 (fh y), .int .u64 (fl y)]] w fun e w' => e = .returned (.bool true) ∧ Below w.heap.size w w' := by
  have M1 := may_any x; have M2 := rmay_any x
  by_cases mx : My x
  · have e : decide (x ≠ -170141183460469231731687303715884105728) = true := decide_eq_true (by obtain ⟨_, _⟩ := mx; omega)
    rw [e] at M1 M2
    by_cases my : My y
    · by_cases hz : y = 0
      · subst hz
        have D1 := fdiv_none x mx
        have D2 := rdivf_none (fh x) (fl x) (eq_fix_true 0 0)
        exact fixAll_in _ _ _ _ _ _ _ _ _ _ _ _ _ _ _ _ _ w M1 M2 (fcmp_any x 0) (rfcmp_any x 0) (rmay_true my) (fadd_any x 0 mx my) (fsub_any x 0 mx my) (fmul_any x 0 mx my) D1
          (radd_any x 0 mx my) (is_any _ _ _) (rsub_any x 0 mx my) (is_any _ _ _) (rmul_any x 0 mx my) (is_any _ _ _) D2 (is_any _ _ _) fawake_true
      · exact fixAll_in _ _ _ _ _ _ _ _ _ _ _ _ _ _ _ _ _ w M1 M2 (fcmp_any x y) (rfcmp_any x y) (rmay_true my) (fadd_any x y mx my) (fsub_any x y mx my) (fmul_any x y mx my) (fdiv_any x y mx my hz)
          (radd_any x y mx my) (is_any _ _ _) (rsub_any x y mx my) (is_any _ _ _) (rmul_any x y mx my) (is_any _ _ _) (rdivf_any x y mx my hz) (is_any _ _ _) fawake_true
    · exact fixAll_out1 _ _ _ _ _ w M1 M2 (fcmp_any x y) (rfcmp_any x y) (rmay_false hy my) fawake_true
  · have e : decide (x ≠ -170141183460469231731687303715884105728) = false := decide_eq_false (by obtain ⟨_, _⟩ := hx; unfold My at mx; omega)
    rw [e] at M1 M2
    exact fixAll_out0 _ _ _ _ _ w M1 M2 (fcmp_any x y) (rfcmp_any x y) fawake_true

set_option maxRecDepth 100000 in
theorem fixAll_lifted (os : Os) (started : os.Started) (H : Type) (enc : TypeId × Value → H) :
    ReturnsInHanded {} Try.checked os 6 .any (Rows.fixAllSpec.pre6 enc Try.prog Try.f6 Rows.fixAllRow.domain false) (Rows.fixAllSpec.post enc Try.prog Try.f6 false true false false) := by
  refine returnsInHanded_of_change (C := Try.checked) Try.own started (by kernel_rfl) Try.func6
    (ChangeSpec.witness6 (enc := enc) (C := Try.checked) false ⟨#[], #[.agg #[.int .i64 0, .int .u64 0], .agg #[.int .i64 0, .int .u64 0]], []⟩ 8 (by kernel_rfl) (by kernel_rfl) (by kernel_rfl) (by kernel_rfl)) ?_
  intro W base args ds gs before hval0 hW hcnd _
  have hval : ∀ (j : Nat) t v, Try.f6.params[j]? = some t → args[j]? = some v → Value.okWide Try.prog W .any base t v := hval0
  have hW' := hW
  obtain ⟨p, q, hA0, hV, rfl, hfz, hnd⟩ := hW
  have hA : DataW.TrodAll enc Try.prog W 0 (fun _ => true) true Try.f6.params.toList args.toList ds p := hA0
  rw [Try.params6] at hA hval
  obtain ⟨v0, v1, d0, d1, p0, p1, rfl, rfl, rfl, h0, h1⟩ := trodAll_two hA
  obtain ⟨rfl, rfl⟩ := trodVars_none hV
  obtain ⟨x, rfl, rfl, rfl, k00⟩ := open_fix (hval 0 44 v0 rfl rfl) h0
  obtain ⟨y, rfl, rfl, rfl, k10⟩ := open_fix (hval 1 44 v1 rfl rfl) h1
  clear hA0 hval0
  simp only [List.append_nil] at hW'
  refine (fixAll_walk x y k00 k10 W).mono fun e W' ⟨he, hb⟩ => ?_
  subst he
  exact ⟨_, rfl, _, _, _, [], [], [], hW', trodAll_mk1 (shut_bool Try.underlying4 _), trodAll_mk2 (shut_fix k00) (shut_fix k10), rfl, hb.frame _, fun h => by cases h⟩

theorem fixAll_holds : Rows.FixAllSaid :=
  OpenClaim.holds_of_wide 6 Try.f6 rfl rfl rfl rfl rfl rfl rfl ⟨rfl, rfl, rfl, rfl, rfl⟩ rfl rfl rfl rfl rfl (by kernel_rfl) Try.func6 (by kernel_rfl)
    (of_decide_eq_true (by kernel_rfl)) (by unfold Func.isWrapper; first | (rw [if_pos (by decide +kernel)]; kernel_rfl) | (rw [if_neg (by decide +kernel)]; exact ⟨rfl, rfl⟩))
    (fun os started H enc _ => fixAll_lifted os started H enc)
end Go.Proofs.Ytgcblfaommhpbaa
