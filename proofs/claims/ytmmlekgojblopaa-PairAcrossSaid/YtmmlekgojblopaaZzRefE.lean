/- The document's sums, products, quotients of numbers with a point: as whole numbers. -/
import Derived.Test.YtmmlekgojblopaaZzRefA
import Derived.Test.YtmmlekgojblopaaZzFixB
import Derived.Test.YtmmlekgojblopaaZzRefB
import Derived.Test.YtmmlekgojblopaaZzRefC
namespace Go.Proofs.Ytmmlekgojblopaa
open Go.RowKit

theorem neg_word (x : Int) : decide (fh x < 0) = decide (x < 0) := by
  unfold fh
  by_cases c : x < 0
  · rw [decide_eq_true c, decide_eq_true (by omega)]
  · rw [decide_eq_false c, decide_eq_false (by omega)]
theorem v2_63 : v2 0 9223372036854775808 = 9223372036854775808 := by simp [v2]
theorem rnd_words (N : Nat) (h : N < 170141183460469231731687303715884105728) : wd (N + 9223372036854775808) 1 = (((N + 9223372036854775808) / 18446744073709551616 : Nat) : Int) ∧ (N + 9223372036854775808) / 18446744073709551616 ≤ 9223372036854775808 := by
  constructor
  · rw [wd1]; omega
  · omega
theorem rsqrt_any (x : Int) (hx : My x) (h0 : 0 ≤ x) (w : World) :
    Calls Try.prog 28 #[.agg #[.int .i64 (fh x), .int .u64 (fl x)]] w fun e w' => e = .returned (.agg #[.int .i64 (fh (sqr x)), .int .u64 (fl (sqr x)), .int .i64 0]) ∧ Below w.heap.size w w' := by
  have hn := abs_lt hx
  have z : Wd 0 := ⟨by omega, by omega⟩
  have C2 := rshl_any 0 0 _ _ 64 z z (wd_wd x.natAbs 1) (wd_wd x.natAbs 0) (by decide)
  rw [v4_lower, v2_wd, Nat.mod_eq_of_lt (show x.natAbs < _ by omega), pow_64, show x.natAbs = x.toNat by omega] at C2
  have C1 := rmag_any x hx
  rw [show x.natAbs = x.toNat by omega] at C1
  have hb : x.toNat * 18446744073709551616 < 115792089237316195423570985008687907853269984665640564039457584007913129639936 := by obtain ⟨_, _⟩ := hx; omega
  have C3 := rroot_any _ _ _ _ (wd_wd (x.toNat * 18446744073709551616) 3) (wd_wd (x.toNat * 18446744073709551616) 2) (wd_wd (x.toNat * 18446744073709551616) 1) (wd_wd (x.toNat * 18446744073709551616) 0)
  rw [v4_of hb] at C3
  have hs := sqr_My hx
  have hr : isq (x.toNat * 18446744073709551616) < 170141183460469231731687303715884105728 := by obtain ⟨_, _⟩ := hs; unfold sqr at *; omega
  have C4 := rsigned_any false (isq (x.toNat * 18446744073709551616)) (by omega)
  have e3 : wd (isq (x.toNat * 18446744073709551616)) 3 = 0 := by rw [wd3]; omega
  have e2 : wd (isq (x.toNat * 18446744073709551616)) 2 = 0 := by rw [wd2]; omega
  rw [e3, e2, show sg false ((isq (x.toNat * 18446744073709551616) : Nat) : Int) = sqr x from rfl, ov_in hs, oe_in hs] at C4
  exact rsqrt_core _ _ _ _ _ _ _ _ _ _ _ _ _ (by unfold fh; omega) w C1 C2 C3 C4
theorem rsqrt_below (x : Int) (h0 : x < 0) (w : World) :
    Calls Try.prog 28 #[.agg #[.int .i64 (fh x), .int .u64 (fl x)]] w fun e w' => e = .returned (.agg #[.int .i64 0, .int .u64 0, .int .i64 1]) ∧ Below w.heap.size w w' :=
  rsqrt_none _ _ (by unfold fh; omega) w
end Go.Proofs.Ytmmlekgojblopaa
namespace Go.Proofs.Ytmmlekgojblopaa
open Go.RowKit

theorem sg_same (x y : Int) (h : decide (x < 0) = decide (y < 0)) : sg (decide (x < 0)) ((x.natAbs + y.natAbs : Nat) : Int) = x + y := by
  by_cases a : x < 0
  · rw [decide_eq_true a] at h ⊢; have b := of_decide_eq_true h.symm; simp [sg]; omega
  · rw [decide_eq_false a] at h ⊢; have b := of_decide_eq_false h.symm; simp [sg]; omega
theorem sg_less (x y : Int) (h : ¬ decide (x < 0) = decide (y < 0)) (l : x.natAbs < y.natAbs) : sg (decide (y < 0)) ((y.natAbs - x.natAbs : Nat) : Int) = x + y := by
  by_cases a : x < 0 <;> by_cases b : y < 0
  · exact absurd (by rw [decide_eq_true a, decide_eq_true b]) h
  · rw [decide_eq_false b]; simp [sg]; omega
  · rw [decide_eq_true b]; simp [sg]; omega
  · exact absurd (by rw [decide_eq_false a, decide_eq_false b]) h
theorem sg_more (x y : Int) (h : ¬ decide (x < 0) = decide (y < 0)) (l : ¬ x.natAbs < y.natAbs) : sg (decide (x < 0)) ((x.natAbs - y.natAbs : Nat) : Int) = x + y := by
  by_cases a : x < 0 <;> by_cases b : y < 0
  · exact absurd (by rw [decide_eq_true a, decide_eq_true b]) h
  · rw [decide_eq_true a]; simp [sg]; omega
  · rw [decide_eq_false a]; simp [sg]; omega
  · exact absurd (by rw [decide_eq_false a, decide_eq_false b]) h
theorem wd_small {n : Nat} (h : n < 340282366920938463463374607431768211456) : wd n 3 = 0 ∧ wd n 2 = 0 := by
  constructor
  · rw [wd3]; omega
  · rw [wd2]; omega
theorem radd_any (x y : Int) (hx : My x) (hy : My y) (w : World) :
    Calls Try.prog 27 #[.agg #[.int .i64 (fh x), .int .u64 (fl x)], .agg #[.int .i64 (fh y), .int .u64 (fl y)]] w fun e w' => e = .returned (.agg #[.int .i64 (fh (ov (x + y))), .int .u64 (fl (ov (x + y))), .int .i64 (oe (x + y))]) ∧ Below w.heap.size w w' := by
  have ax := abs_lt hx; have ay := abs_lt hy
  have C1 := rmag_any x hx; have C2 := rmag_any y hy
  by_cases h : decide (x < 0) = decide (y < 0)
  · have C3 := addTwo_any _ _ _ _ (wd_wd x.natAbs 1) (wd_wd x.natAbs 0) (wd_wd y.natAbs 1) (wd_wd y.natAbs 0)
    rw [v2_wd, v2_wd, Nat.mod_eq_of_lt (show x.natAbs < 340282366920938463463374607431768211456 by omega), Nat.mod_eq_of_lt (show y.natAbs < 340282366920938463463374607431768211456 by omega)] at C3
    have C4 := rsigned_any (decide (x < 0)) (x.natAbs + y.natAbs) (by omega)
    rw [sg_same x y h, (wd_small (n := x.natAbs + y.natAbs) (by omega)).1, (wd_small (n := x.natAbs + y.natAbs) (by omega)).2] at C4
    exact radd_same _ _ _ _ _ _ _ _ _ _ _ _ _ _ _ (neg_word x) (by rw [neg_word, h]) w C1 C2 C3 C4
  · have hne : (decide (x < 0) == decide (y < 0)) = false := beq_eq_false_iff_ne.2 h
    have C3 := less_any _ _ _ _ (wd_wd x.natAbs 1) (wd_wd x.natAbs 0) (wd_wd y.natAbs 1) (wd_wd y.natAbs 0)
    rw [v2_wd, v2_wd, Nat.mod_eq_of_lt (show x.natAbs < 340282366920938463463374607431768211456 by omega), Nat.mod_eq_of_lt (show y.natAbs < 340282366920938463463374607431768211456 by omega)] at C3
    by_cases l : x.natAbs < y.natAbs
    · rw [decide_eq_true l] at C3
      have C4 := subTwo_any _ _ _ _ (wd_wd y.natAbs 1) (wd_wd y.natAbs 0) (wd_wd x.natAbs 1) (wd_wd x.natAbs 0)
      rw [v2_wd, v2_wd, Nat.mod_eq_of_lt (show x.natAbs < 340282366920938463463374607431768211456 by omega), sub_words (by omega) (by omega) (by omega) (by omega) 1 (by decide), sub_words (by omega) (by omega) (by omega) (by omega) 0 (by decide)] at C4
      have C5 := rsigned_any (decide (y < 0)) (y.natAbs - x.natAbs) (by omega)
      rw [sg_less x y h l, (wd_small (n := y.natAbs - x.natAbs) (by omega)).1, (wd_small (n := y.natAbs - x.natAbs) (by omega)).2] at C5
      exact radd_less _ _ _ _ _ _ _ _ _ _ _ _ _ _ _ _ (neg_word x) (neg_word y) hne w C1 C2 C3 C4 C5
    · rw [decide_eq_false l] at C3
      have C4 := subTwo_any _ _ _ _ (wd_wd x.natAbs 1) (wd_wd x.natAbs 0) (wd_wd y.natAbs 1) (wd_wd y.natAbs 0)
      rw [v2_wd, v2_wd, Nat.mod_eq_of_lt (show y.natAbs < 340282366920938463463374607431768211456 by omega), sub_words (by omega) (by omega) (by omega) (by omega) 1 (by decide), sub_words (by omega) (by omega) (by omega) (by omega) 0 (by decide)] at C4
      have C5 := rsigned_any (decide (x < 0)) (x.natAbs - y.natAbs) (by omega)
      rw [sg_more x y h l, (wd_small (n := x.natAbs - y.natAbs) (by omega)).1, (wd_small (n := x.natAbs - y.natAbs) (by omega)).2] at C5
      exact radd_more _ _ _ _ _ _ _ _ _ _ _ _ _ _ _ _ (neg_word x) (neg_word y) hne w C1 C2 C3 C4 C5
theorem add_low (P u : Nat) (_hu : u < 340282366920938463463374607431768211456) (i : Nat) (hi : i < 2) : wd (P % 340282366920938463463374607431768211456 + u) i = wd (P + u) i := by
  rcases (show i = 0 ∨ i = 1 by omega) with rfl | rfl
  · rw [wd0, wd0]; omega
  · rw [wd1, wd1]; omega
theorem add_high (P u : Nat) (h : 340282366920938463463374607431768211456 ≤ P % 340282366920938463463374607431768211456 + u) (hu : u < 340282366920938463463374607431768211456) : wd (P / 340282366920938463463374607431768211456 % 340282366920938463463374607431768211456 + 1) 1 = wd (P + u) 3 ∧ wd (P / 340282366920938463463374607431768211456 % 340282366920938463463374607431768211456 + 1) 0 = wd (P + u) 2 := by
  constructor
  · rw [wd1, wd3]; omega
  · rw [wd0, wd2]; omega
theorem add_same (P u : Nat) (h : ¬ 340282366920938463463374607431768211456 ≤ P % 340282366920938463463374607431768211456 + u) : wd P 3 = wd (P + u) 3 ∧ wd P 2 = wd (P + u) 2 := by
  constructor
  · rw [wd3, wd3]; omega
  · rw [wd2, wd2]; omega
theorem rmul_any (x y : Int) (hx : My x) (hy : My y) (w : World) :
    Calls Try.prog 26 #[.agg #[.int .i64 (fh x), .int .u64 (fl x)], .agg #[.int .i64 (fh y), .int .u64 (fl y)]] w fun e w' => e = .returned (.agg #[.int .i64 (fh (ov (mulr x y))), .int .u64 (fl (ov (mulr x y))), .int .i64 (oe (mulr x y))]) ∧ Below w.heap.size w w' := by
  have ax := abs_lt hx; have ay := abs_lt hy
  have hp : x.natAbs * y.natAbs < 170141183460469231731687303715884105728 * 170141183460469231731687303715884105728 := Nat.mul_lt_mul'' ax ay
  have C1 := rmag_any x hx; have C2 := rmag_any y hy
  have C3 := mulTwo_any _ _ _ _ (wd_wd x.natAbs 1) (wd_wd x.natAbs 0) (wd_wd y.natAbs 1) (wd_wd y.natAbs 0)
  rw [v2_wd, v2_wd, Nat.mod_eq_of_lt (show x.natAbs < 340282366920938463463374607431768211456 by omega), Nat.mod_eq_of_lt (show y.natAbs < 340282366920938463463374607431768211456 by omega)] at C3
  have e : mulr x y = sg (!(decide (x < 0) == decide (y < 0))) (((x.natAbs * y.natAbs + 9223372036854775808) / 18446744073709551616 : Nat) : Int) := rfl
  have z : Wd 0 := ⟨by omega, by omega⟩
  rw [e]
  have C4 := addTwo_any _ _ 0 9223372036854775808 (wd_wd (x.natAbs * y.natAbs) 1) (wd_wd (x.natAbs * y.natAbs) 0) z ⟨by omega, by omega⟩
  generalize x.natAbs * y.natAbs = P at *
  rw [v2_wd, v2_63, add_low P _ (by omega) 1 (by decide), add_low P _ (by omega) 0 (by decide)] at C4
  have hb : P + 9223372036854775808 < 115792089237316195423570985008687907853269984665640564039457584007913129639936 := by omega
  have C6 := rshr_any _ _ _ _ 64 (wd_wd (P + 9223372036854775808) 3) (wd_wd (P + 9223372036854775808) 2) (wd_wd (P + 9223372036854775808) 1) (wd_wd (P + 9223372036854775808) 0) (by decide)
  rw [v4_of hb, pow_64] at C6
  have C7 := rsigned_any (!(decide (x < 0) == decide (y < 0))) ((P + 9223372036854775808) / 18446744073709551616) (by omega)
  by_cases c : 340282366920938463463374607431768211456 ≤ P % 340282366920938463463374607431768211456 + 9223372036854775808
  · rw [decide_eq_true c] at C4
    have hi := add_high P _ c (by omega)
    have C5 := addTwo_any _ _ 0 1 (wd_wd P 3) (wd_wd P 2) z ⟨by omega, by omega⟩
    rw [v2_wd23, show v2 0 1 = 1 from rfl, hi.1, hi.2] at C5
    exact rmul_true _ _ _ _ _ _ _ _ _ _ _ _ _ _ _ _ _ _ _ _ _ _ _ _ _ _ (neg_word x) (neg_word y) w C1 C2 C3 C4 C5 C6 C7
  · rw [decide_eq_false c] at C4
    have hs := add_same P _ c
    rw [hs.1, hs.2] at C3
    exact rmul_false _ _ _ _ _ _ _ _ _ _ _ _ _ _ _ _ _ _ _ _ _ _ _ (neg_word x) (neg_word y) w C1 C2 C3 C4 C6 C7
theorem pow_65 : (2 : Nat) ^ (65 : Int).toNat = 36893488147419103232 := by decide
end Go.Proofs.Ytmmlekgojblopaa
