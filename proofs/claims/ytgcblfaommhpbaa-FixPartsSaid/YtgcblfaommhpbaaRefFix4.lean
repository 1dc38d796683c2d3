/- The document's halves, roundings, roots: as whole numbers. -/
import Derived.Test.YtgcblfaommhpbaaRefFix3
import Derived.Test.YtgcblfaommhpbaaFixAny2
import Derived.Test.YtgcblfaommhpbaaRefRoot
import Derived.Test.YtgcblfaommhpbaaRefShl
import Derived.Test.YtgcblfaommhpbaaRefShr
namespace Go.Proofs.Ytgcblfaommhpbaa
open Go.RowKit

theorem neg_word (x : Int) : decide (fh x < 0) = decide (x < 0) := by
  unfold fh
  by_cases c : x < 0
  · rw [decide_eq_true c, decide_eq_true (by omega)]
  · rw [decide_eq_false c, decide_eq_false (by omega)]
theorem rhalf_any (x : Int) (hx : My x) (w : World) :
    Calls Try.prog 50 #[.agg #[.int .i64 (fh x), .int .u64 (fl x)]] w fun e w' => e = .returned (.agg #[.int .i64 (fh (halfr x)), .int .u64 (fl (halfr x))]) ∧ Below w.heap.size w w' := by
  have hn := abs_lt hx
  have z : Wd 0 := ⟨by omega, by omega⟩
  have C2 := addTwo_any _ _ 0 1 (wd_wd x.natAbs 1) (wd_wd x.natAbs 0) z ⟨by omega, by omega⟩
  rw [v2_wd, Nat.mod_eq_of_lt (show x.natAbs < _ by omega), show v2 0 1 = 1 from rfl] at C2
  have C3 := rshr_any 0 0 _ _ 1 z z (wd_wd (x.natAbs + 1) 1) (wd_wd (x.natAbs + 1) 0) (by decide)
  rw [v4_lower, v2_wd, Nat.mod_eq_of_lt (show x.natAbs + 1 < _ by omega), pow_1] at C3
  have C4 := rsigned_any (decide (x < 0)) ((x.natAbs + 1) / 2) (by omega)
  have e : sg (decide (x < 0)) (((x.natAbs + 1) / 2 : Nat) : Int) = halfr x := rfl
  rw [e, ov_in (half_My hx)] at C4
  exact rhalf_core _ _ _ _ _ _ _ _ _ _ _ _ _ _ _ (neg_word x) w (rmag_any x hx) C2 C3 C4
theorem v2_63 : v2 0 9223372036854775808 = 9223372036854775808 := by simp [v2]
theorem rnd_hi_true (h l d1 d0 m1 m0 : Int) (c : Bool) (hlt : h < 0) (hm : ¬ m1 ≤ 9223372036854775807) (hq : IntKind.i64.wrap (-9223372036854775807) = -9223372036854775807) (w : World)
    (C1 : ∀ W, Calls Try.prog 57 #[.agg #[.int .i64 h, .int .u64 l]] W fun e w' => e = .returned (.agg #[.int .u64 d1, .int .u64 d0]) ∧ Below W.heap.size W w')
    (C2 : ∀ W, Calls Try.prog 58 #[.agg #[.int .u64 d1, .int .u64 d0], .agg #[.int .u64 0, .int .u64 9223372036854775808]] W fun e w' => e = .returned (.agg #[.int .u64 m1, .int .u64 m0, .bool c]) ∧ Below W.heap.size W w') :
    Calls Try.prog 53 #[.agg #[.int .i64 h, .int .u64 l]] w fun e w' => e = .returned (.int .i64 (-9223372036854775807)) ∧ Below w.heap.size w w' :=
  rround_true_hi h l d1 d0 m1 m0 9223372036854775807 (-9223372036854775807) c hlt hm rfl hq w C1 C2
theorem rnd_hi_false (h l d1 d0 m1 m0 : Int) (c : Bool) (hlt : ¬ h < 0) (hm : ¬ m1 ≤ 9223372036854775807) (hq : IntKind.i64.wrap (-9223372036854775807) = -9223372036854775807) (w : World)
    (C1 : ∀ W, Calls Try.prog 57 #[.agg #[.int .i64 h, .int .u64 l]] W fun e w' => e = .returned (.agg #[.int .u64 d1, .int .u64 d0]) ∧ Below W.heap.size W w')
    (C2 : ∀ W, Calls Try.prog 58 #[.agg #[.int .u64 d1, .int .u64 d0], .agg #[.int .u64 0, .int .u64 9223372036854775808]] W fun e w' => e = .returned (.agg #[.int .u64 m1, .int .u64 m0, .bool c]) ∧ Below W.heap.size W w') :
    Calls Try.prog 53 #[.agg #[.int .i64 h, .int .u64 l]] w fun e w' => e = .returned (.int .i64 9223372036854775807) ∧ Below w.heap.size w w' :=
  rround_false_hi h l d1 d0 m1 m0 9223372036854775807 (-9223372036854775807) c hlt hm rfl hq w C1 C2
theorem rnd_low (h l d1 d0 m1 m0 p : Int) (c b : Bool) (hb : decide (h < 0) = b) (e : m1 = p) (h0 : 0 ≤ p) (hm : p ≤ 9223372036854775807) (w : World)
    (C1 : ∀ W, Calls Try.prog 57 #[.agg #[.int .i64 h, .int .u64 l]] W fun e w' => e = .returned (.agg #[.int .u64 d1, .int .u64 d0]) ∧ Below W.heap.size W w')
    (C2 : ∀ W, Calls Try.prog 58 #[.agg #[.int .u64 d1, .int .u64 d0], .agg #[.int .u64 0, .int .u64 9223372036854775808]] W fun e w' => e = .returned (.agg #[.int .u64 m1, .int .u64 m0, .bool c]) ∧ Below W.heap.size W w') :
    Calls Try.prog 53 #[.agg #[.int .i64 h, .int .u64 l]] w fun e w' => e = .returned (.int .i64 (sg b p)) ∧ Below w.heap.size w w' := by
  have hp : IntKind.i64.wrap m1 = p := by rw [e]; exact IntWalk.i64_in _ (by omega)
  have hq : IntKind.i64.wrap (-p) = -p := IntWalk.i64_in _ (by omega)
  subst hb
  by_cases d : h < 0
  · rw [decide_eq_true d]
    exact rround_true_lo h l d1 d0 m1 m0 p (-p) c d (by omega) hp hq w C1 C2
  · rw [decide_eq_false d]
    exact rround_false_lo h l d1 d0 m1 m0 p (-p) c d (by omega) hp hq w C1 C2
theorem rnd_words (N : Nat) (h : N < 170141183460469231731687303715884105728) : wd (N + 9223372036854775808) 1 = (((N + 9223372036854775808) / 18446744073709551616 : Nat) : Int) ∧ (N + 9223372036854775808) / 18446744073709551616 ≤ 9223372036854775808 := by
  constructor
  · rw [wd1]; omega
  · omega
theorem rround_any (x : Int) (hx : My x) (w : World) :
    Calls Try.prog 53 #[.agg #[.int .i64 (fh x), .int .u64 (fl x)]] w fun e w' => e = .returned (.int .i64 (rndr x)) ∧ Below w.heap.size w w' := by
  have hn := abs_lt hx
  have z : Wd 0 := ⟨by omega, by omega⟩
  have C1 := rmag_any x hx
  have C2 := addTwo_any _ _ 0 9223372036854775808 (wd_wd x.natAbs 1) (wd_wd x.natAbs 0) z ⟨by omega, by omega⟩
  rw [v2_wd, Nat.mod_eq_of_lt (show x.natAbs < _ by omega), v2_63] at C2
  obtain ⟨e1, hk⟩ := rnd_words x.natAbs hn
  have hb := neg_word x
  unfold rndr
  generalize (x.natAbs + 9223372036854775808) / 18446744073709551616 = k at *
  generalize decide (x < 0) = b at *
  by_cases c : k ≤ 9223372036854775807
  · rw [Nat.min_eq_left c]
    exact rnd_low _ _ _ _ _ _ _ _ _ hb e1 (Int.natCast_nonneg _) (by omega) w C1 C2
  · rw [Nat.min_eq_right (by omega)]
    have hc : ¬ wd (x.natAbs + 9223372036854775808) 1 ≤ 9223372036854775807 := by rw [e1]; omega
    have hq : IntKind.i64.wrap (-9223372036854775807) = -9223372036854775807 := IntWalk.i64_in _ (by omega)
    have et : sg true ((9223372036854775807 : Nat) : Int) = -9223372036854775807 := by simp [sg]
    have ef : sg false ((9223372036854775807 : Nat) : Int) = 9223372036854775807 := by simp [sg]
    cases b
    · rw [ef]; exact rnd_hi_false _ _ _ _ _ _ _ (of_decide_eq_false hb) hc hq w C1 C2
    · rw [et]; exact rnd_hi_true _ _ _ _ _ _ _ (of_decide_eq_true hb) hc hq w C1 C2
theorem rsqrt_any (x : Int) (hx : My x) (h0 : 0 ≤ x) (w : World) :
    Calls Try.prog 51 #[.agg #[.int .i64 (fh x), .int .u64 (fl x)]] w fun e w' => e = .returned (.agg #[.int .i64 (fh (sqr x)), .int .u64 (fl (sqr x)), .int .i64 0]) ∧ Below w.heap.size w w' := by
  have hn := abs_lt hx
  have z : Wd 0 := ⟨by omega, by omega⟩
  have C2 := rshl_any 0 0 _ _ 64 z z (wd_wd x.natAbs 1) (wd_wd x.natAbs 0) (by decide)
  rw [v4_lower, v2_wd, Nat.mod_eq_of_lt (show x.natAbs < _ by omega), pow_64, show x.natAbs = x.toNat by omega] at C2
  have C1 := rmag_any x hx
  rw [show x.natAbs = x.toNat by omega] at C1
  have hb : x.toNat * 18446744073709551616 < 115792089237316195423570985008687907853269984665640564039457584007913129639936 := by obtain ⟨_, _⟩ := hx; omega
  have C3 := rroot_any _ _ _ _ (wd_wd (x.toNat * 18446744073709551616) 3) (wd_wd (x.toNat * 18446744073709551616) 2) (wd_wd (x.toNat * 18446744073709551616) 1) (wd_wd (x.toNat * 18446744073709551616) 0)
  rw [v4_of hb] at C3
  have hs := sqr_My hx
  have hr : isq (x.toNat * 18446744073709551616) < 170141183460469231731687303715884105728 := by obtain ⟨_, _⟩ := hs; unfold sqr at *; omega
  have C4 := rsigned_any false (isq (x.toNat * 18446744073709551616)) (by omega)
  have e3 : wd (isq (x.toNat * 18446744073709551616)) 3 = 0 := by rw [wd3]; omega
  have e2 : wd (isq (x.toNat * 18446744073709551616)) 2 = 0 := by rw [wd2]; omega
  rw [e3, e2, show sg false ((isq (x.toNat * 18446744073709551616) : Nat) : Int) = sqr x from rfl, ov_in hs, oe_in hs] at C4
  exact rsqrt_core _ _ _ _ _ _ _ _ _ _ _ _ _ (by unfold fh; omega) w C1 C2 C3 C4
theorem rsqrt_below (x : Int) (h0 : x < 0) (w : World) :
    Calls Try.prog 51 #[.agg #[.int .i64 (fh x), .int .u64 (fl x)]] w fun e w' => e = .returned (.agg #[.int .i64 0, .int .u64 0, .int .i64 1]) ∧ Below w.heap.size w w' :=
  rsqrt_none _ _ (by unfold fh; omega) w
end Go.Proofs.Ytgcblfaommhpbaa
